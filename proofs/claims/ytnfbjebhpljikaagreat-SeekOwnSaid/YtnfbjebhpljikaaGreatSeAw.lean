/- The document's example of a marker that looks for a task, walked. -/
import Derived.Test.YtnfbjebhpljikaaGreatJ23
import Derived.Test.YtnfbjebhpljikaaGreatJ20
namespace Go.Proofs.YtnfbjebhpljikaaGreat
open Go.RowKit
set_option linter.unusedVariables false
set_option linter.unusedSimpArgs false
set_option maxRecDepth 100000
open Lay (plcc plc shOf packN nodesN OkC Cfg Norm firstV Rep lenL things)

/-- A map's words at first, as one list. -/
theorem rep_list {c : Cfg} {L : List Int} (h : Rep (shOf c) L (firstV c)) (hn : ∀ t ∈ things (shOf c), Norm t) : L = (things (shOf c)).map (firstV c) := by
  obtain ⟨hl, hr⟩ := h
  apply List.ext_getElem
  · rw [List.length_map, Lay.things_len]; exact hl
  · intro i h1 h2
    have hi : i < (things (shOf c)).length := by rw [Lay.things_len, ← hl]; exact h1
    have e3 := Lay.seg_all (shOf c) i hi
    have e4 : Lay.gt (things (shOf c)) i = (things (shOf c))[i] := by simp [Lay.gt, List.getD, List.getElem?_eq_getElem hi]
    rw [e4] at e3
    have := hr _ (hn _ (List.getElem_mem hi)) (by rw [e3]; omega)
    rw [e3] at this
    simp only [List.getElem_map]
    rw [← this]
    simp [List.getD, List.getElem?_eq_getElem h1]
/-- The example. -/
def cx : Cfg := ⟨2, 0, 0, 0, 0, 1, 1, 2, 1, 1, 1, 1⟩
theorem okx : OkC cx := by constructor <;> decide
def Lx : List Int := (things (shOf cx)).map (firstV cx)
def mx : Km := kNew (eOf cx 0) 0 ⟨0, 0, 0⟩ 0
def rx (j : Nat) : List Int × Km := krs cx j Lx mx
theorem rx_succ (j : Nat) : rx (j + 1) = kst cx (rx j).1 (rx j).2 := (kruns_succ j Lx mx).symm
theorem normx : ∀ t ∈ things (shOf cx), Norm t := by
  have : ∀ t ∈ things (shOf cx), 0 ≤ t.k ∧ t.k ≤ 18 ∧ (t.k ≤ 5 → t.a = 0) ∧ (t.k ≠ 10 → t.k ≠ 13 → t.k ≠ 18 → t.b = 0) := by decide +kernel
  exact this
theorem pcx : ∀ j, j < 4 → (rx (j + 1)).2.pc ≠ 0 := by decide +kernel
theorem endx : (rx 5).2.pc = 0 ∧ (rx 5).2.found = false := by decide +kernel
theorem vic1 : kvic 3 1 4 = 2 := by decide
theorem vic2 : kvic 1 0 5 = -1 := by decide
theorem newx (w : World) : Calls Tryz.prog 9 #[.agg #[.int .i64 2, .int .i64 0, .int .i64 0, .int .i64 0, .int .i64 0, .int .i64 1, .int .i64 1, .int .i64 2, .int .i64 1, .int .i64 1, .int .i64 1, .int .i64 1]] w fun r w' => ∃ N, r = .returned (.tuple #[Lay.mapP N, .int .i64 0]) ∧ Lay.IsMap w' N cx ∧ Below w.heap.size w w' := Lay.new_yes okx w
set_option maxHeartbeats 8000000 in
theorem awake_true (w : World) : Calls Tryz.prog 5 #[] w fun e w' => e = .returned (.bool true) ∧ Below w.heap.size w w' := by
  have HOK := Lib.hid okx
  have HRX : Hid (∀ L, Rep (shOf cx) L (firstV cx) → L = Lx) := Lib.hid (fun L h => by rw [rep_list h normx]; rfl)
  go_enter Tryz.func5, Tryz.ntmps5
  go_wp2_with (first
    | (go_at_call 9; (with_reducible refine (newx _).mono ?_); rintro e w3 ⟨N, rfl, hm, hb⟩; have HM := Lib.hid hm; have HB := Lib.hid hb; clear hb hm)
    | (go_at_call 11; (with_reducible refine (first_any HOK.out N _ HM.out).mono ?_); rintro e w4 ⟨G, n, L, rfl, hn, hr, hrep, hb⟩; obtain rfl := HRX.out L hrep; have HB := Lib.hid (below_step HB.out HB.out.size hb); have HM := Lib.hid (HM.out.below hb); have HN := Lib.hid hn; have HR := Lib.hid hr; have HRE := Lib.hid hrep; have HLE := Lib.hid (first_len HOK.out hrep); clear hb hn hr hrep)
    | (go_at_call 10; (with_reducible refine (new_any _ _ _ _ _ HN.out HR.out (by have := HN.out; have := HLE.out; omega)).mono ?_); rintro e w5 hs; obtain ⟨S, D, rfl, hpo, hb⟩ := PO.start (B := w.heap.size) (w0 := w) HB.out (Nat.le_refl _) HM.out HOK.out (first_ww HOK.out HRE.out) hs; have HP0 := Lib.hid hpo; clear hs hpo hb)
    | (go_at_call 14; (with_reducible refine (new_so3 HP0.out 0 0 0 0 0 (by decide) (by decide) (by decide)).mono ?_); rintro e w13 ⟨X, rfl, hx, hp, hb⟩; have HX := Lib.hid hx; have HP8 := Lib.hid hp; have HLO := Lib.hid (show S < w5.heap.size ∧ D < w5.heap.size ∧ N < w5.heap.size ∧ w.heap.size ≤ w5.heap.size ∧ w5.heap.size ≤ w13.heap.size from ⟨HP0.out.lt.1, HP0.out.lt.2.1, HP0.out.lt.2.2, HP0.out.bel.size, hb.size⟩); clear hx hp hb)
    | fail)
  have HPX : Hid (∀ j, j < 4 → decide ((kst cx (rx j).1 (rx j).2).2.pc = 0) = false) := Lib.hid (fun j hj => by rw [← rx_succ]; simpa using pcx j hj)
  have HZX : Hid (decide ((kst cx (rx 4).1 (rx 4).2).2.pc = 0) = true) := Lib.hid (by rw [← rx_succ]; simpa using endx.1)
  go_loopw [5] (fun v wr => ∃ (j : Nat), j ≤ 4 ∧ v = .int .i64 (1 + (j : Int)) ∧ PO w.heap.size S D N cx w wr (rx j).1 (j : Int) ∧ SKX w5.heap.size wr X S D cx N (rx j).2 ∧ KW cx (j : Int) (rx j).2 ∧ w5.heap.size ≤ wr.heap.size) (fun v _ => 20 - (intOf v).toNat)
  case atStart => exact ⟨0, by omega, rfl, HP8.out, HX.out, KW.new (eok_of HOK.out 0) (by decide) (by decide), HLO.out.2.2.2.2⟩
  case round =>
    obtain ⟨j, hj, rfl, hpo, hx, hw, hsz⟩ := hrel
    clear HP8 HX
    have HPO := Lib.hid hpo; have HX := Lib.hid hx; have HW := Lib.hid hw; have HSZ := Lib.hid hsz
    have HL2 := Lib.hid (show S < w5.heap.size ∧ D < w5.heap.size ∧ N < w5.heap.size ∧ w.heap.size ≤ w5.heap.size ∧ w5.heap.size ≤ wr.heap.size from ⟨HLO.out.1, HLO.out.2.1, HLO.out.2.2.1, HLO.out.2.2.2.1, hsz⟩)
    clear hpo hx hw hsz
    have h40 : 1 + (j : Int) < 20 := by omega
    by_cases hlt : j < 4
    · have HJ := Lib.hid hlt
      have e1 : IntKind.i64.wrap (1 + (j : Int) + 1) = 1 + (j : Int) + 1 := IntWalk.i64_in _ (by omega)
      clear hlt hj
      go_wp2_with (first
        | (go_at_call 15; (with_reducible refine (step_so HPO.out HX.out HL2.out HW.out (by have := HJ.out; omega) (by have := HJ.out; omega)).mono ?_); rintro r w14 ⟨rfl, hp, hx, u⟩; rw [HPX.out j HJ.out]; rw [← rx_succ] at hp hx; have HP9 := Lib.hid hp; have HX9 := Lib.hid hx; have HU := Lib.hid u; clear hp hx u)
        | fail)
      go_roundw
      case rel =>
        have hj := HJ.out
        have hww := (HW.out.step HOK.out HPO.out.ww).1
        have hww : KW cx ((j : Int) + 1) (kst cx (rx j).1 (rx j).2).2 := hww
        rw [← rx_succ] at hww
        exact ⟨j + 1, by omega, by go_num, HP9.out.more (by omega), HX9.out, by simpa using hww, Nat.le_trans HSZ.out HU.out.size⟩
      case measure => simp [intOf]; have := HJ.out; omega
    · obtain rfl : j = 4 := by omega
      clear hlt hj h40
      have HE := Lib.hid endx
      go_wp2_with (first
        | (go_at_call 15; (with_reducible refine (step_so HPO.out HX.out HL2.out HW.out (by decide) (by decide)).mono ?_); rintro r w14 ⟨rfl, hp, hx, u⟩; rw [HZX.out]; rw [← rx_succ] at hp hx; have HP9 := Lib.hid hp; have HX9 := Lib.hid hx; clear hp hx u)
        | (go_at_call 16; (with_reducible refine (task_so HX9.out).mono ?_); rintro r w15 ⟨rfl, hb⟩; rw [HE.out.2]; have HP10 := Lib.hid (HP9.out.step hb); clear hb)
        | (go_at_call 6; (with_reducible refine (victim_any 3 1 4 _ (by decide) (by decide)).mono ?_); rintro r w16 ⟨rfl, rfl⟩; rw [vic1])
        | (go_at_call 6; (with_reducible refine (victim_any 1 0 5 _ (by decide) (by decide)).mono ?_); rintro r w17 ⟨rfl, rfl⟩; rw [vic2])
        | fail)
      go_ret
      exact ⟨rfl, HP10.out.bel⟩
end Go.Proofs.YtnfbjebhpljikaaGreat
