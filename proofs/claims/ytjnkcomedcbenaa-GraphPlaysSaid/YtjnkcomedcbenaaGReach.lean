/- The document's graph: the nodes that can be come to, rising; walked. -/
import Derived.Test.YtjnkcomedcbenaaGReached
namespace Go.Proofs.Ytjnkcomedcbenaa
open Go.RowKit
set_option linter.unusedVariables false

/-- Numbers in a new slice. -/
def SomeInts (w : World) (zs : List Int) (e : Ending) (w' : World) : Prop := ∃ v, e = .returned v ∧ RowV (w.heap.size ≤ ·) w' v zs ∧ Below w.heap.size w w'

set_option maxHeartbeats 8000000 in
theorem rreach_any {P : Nat → Prop} (A : Option Addr) (rn c : Nat) (B : Option Addr) (nn d : Nat) (mo : Int) (g : Gr) (w : World) (h : GM P w A rn c B nn d mo g) (hk : Ok g) (hmo : g.most ≤ 1000) (hnn : nn ≤ 1000) :
    Calls Try.prog 22 #[gV A rn c B nn d mo] w (SomeInts w (reachL g)) := by
  have hnl := h.rb.1
  have HG := Lib.hid (h.below (below_alloc0 (Below.refl _ _) (.cells #[.slice A rn c, .slice B nn d, .int .i64 mo] 28)))
  have HOK := Lib.hid hk; have HMO := Lib.hid hmo; have HNL := Lib.hid hnl
  clear h hk hmo hnl
  go_enter Try.func22, Try.ntmps22
  go_wp2_with (first
    | (go_at_call 41; (with_reducible refine (reached_any _ _ _ _ _ _ _ g _ HG.out HOK.out HMO.out hnn).mono ?_); rintro r w1 ⟨D, is, rfl, hrow, hil, his, hb⟩; have HR := Lib.hid hrow; have HIL := Lib.hid hil; have HIS := Lib.hid his; have HB := Lib.hid hb; clear hrow hil his hb)
    | fail)
  have HB1 : Hid (Below w.heap.size w w1) := Lib.hid (below_then (below_alloc0 (Below.refl _ _) _) HB.out)
  clear HB HG
  go_loopw [3, 5] (fun ov iv wr => ∃ k : Nat, k ≤ nn ∧ iv = .int .i64 (k : Int) ∧ OwnV 3 w1.heap.size w1 wr ov ((reachTo g k).map (Value.int .i64))) (fun _ iv _ => nn - (intOf iv).toNat)
  case atStart => exact ⟨0, Nat.zero_le _, rfl, OwnV.nil (Below.refl _ _)⟩
  case round =>
    obtain ⟨k, hk, rfl, ho⟩ := hrel
    by_cases hlt : k < nn
    · obtain ⟨hc, hf⟩ := (HR.out.kept ho.2).cell k (by rw [HIL.out]; exact hlt)
      rw [HIS.out k] at hc
      obtain ⟨x, hx⟩ : ∃ x, x = rchB g ((k : Int) + 1) := ⟨_, rfl⟩
      rw [← hx] at hc
      have hs := reach_succ g k
      rw [← hx] at hs
      have hk0 : (0 : Int) ≤ (k : Int) := by omega
      have hk1 : (k : Int) < (nn : Int) := by omega
      have hlen := reach_len g k
      have HO := Lib.hid ho
      clear ho hlt hf
      cases x
      · rw [if_neg (by simp)] at hs
        have HS := Lib.hid hs
        clear hs hx hlen
        go_wp2_with (fail)
        go_roundw
        case rel => exact ⟨k + 1, by omega, by go_num, by rw [HS.out]; exact HO.out⟩
        case measure => simp [intOf]; omega
      · rw [if_pos rfl] at hs
        have HS := Lib.hid hs; have HLE := Lib.hid hlen
        clear hs hx hlen
        go_wp2_with (first
          | (at_builtin; refine append_more rfl _ _ 43 3 rfl Try.underlying43 info3 rfl (by decide) _ _ _ ((reachTo g k).map (Value.int .i64)) (HO.out.step (Nat.le_refl _) (below_alloc0 (Below.refl _ _) _)) (Nat.le_refl _) (some ⟨wr.heap.size, 0, none⟩) 1 1 [.int .i64 ((k : Int) + 1)] rfl rfl rfl (by rw [List.length_map]; have := HLE.out; omega) (Nat.le_refl _) (fun e => by cases e) (cells_lit _ _ _) (map_one [(k : Int) + 1]) ?_
             rintro v2 w2 ho2 -
             have HO2 := Lib.hid ho2
             clear ho2)
          | fail)
        go_roundw
        case rel => exact ⟨k + 1, by omega, by go_num, by rw [HS.out, List.map_append]; exact HO2.out⟩
        case measure => simp [intOf]; omega
    · obtain rfl : k = nn := by omega
      have HO := Lib.hid ho
      clear ho hlt
      go_wp2_with (fail)
      go_ret
      have hrl : reachTo g k = reachL g := by unfold reachL; rw [← HNL.out]
      have ho := HO.out
      rw [hrl] at ho
      exact ⟨_, rfl, ho.rowV.to fun b _ hb => Nat.le_trans HB1.out.size hb, below_then HB1.out ho.2⟩
end Go.Proofs.Ytjnkcomedcbenaa
