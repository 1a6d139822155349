/- The document's picks that leave nobody out, walked. -/
import Derived.Test.YtadfdpkmegaloaaFair
namespace Go.Proofs.Ytadfdpkmegaloaa
open Go.RowKit
set_option linter.unusedVariables false

theorem fairN_lt (all : Int) (j : Nat) : j < fairN all ↔ (j : Int) < all ∧ (j : Int) < 16 := by
  unfold fairN; split <;> (try split) <;> omega

set_option maxHeartbeats 4000000 in
set_option maxRecDepth 100000 in
theorem reffair_any (A : Option Addr) (cap n : Nat) (l : List Pk) (all : Int) (w : World) (hn : n = l.length) (h : ReadsP w A l) (hb : n ≤ 300) :
    Calls Try.prog 20 #[.slice A n cap, .int .i64 all] w (SomeP 47 (fairL l (fairN all)) w) := by
  have HN := Lib.hid hn
  have HR := Lib.hid h
  have hF := fairN_le all
  have hFe := fairN_lt all
  obtain ⟨F, hFF⟩ : ∃ F, F = fairN all := ⟨_, rfl⟩
  rw [← hFF] at hF hFe ⊢
  have HFE := Lib.hid hFe
  clear h hn hFF hFe
  go_enter Try.func20, Try.ntmps20
  go_wp2
  go_loopw [5, 6] (fun v i wr => ∃ (k : Nat), k ≤ n ∧ i = .int .i64 (k : Int) ∧ OwnP 47 w.heap.size w wr v (fairTo l F k)) (fun _ i _ => n - (intOf i).toNat)
  case atStart => exact ⟨0, Nat.zero_le _, rfl, OwnP.nil (Below.refl _ _)⟩
  case round =>
    obtain ⟨k, hk, rfl, hO⟩ := hrel
    by_cases hlt : k < n
    · obtain ⟨b, off, rfl, hbl, hcell⟩ := HR.out (by have := HN.out; omega)
      have hHC := And.intro hbl (hcell k (by have := HN.out; omega))
      have hst := fairTo_succ l F k (by have := HN.out; omega)
      have hlen := fairTo_len l F k (by have := HN.out; omega)
      have hlen2 : k * (F + 1) ≤ 300 * 17 := Nat.mul_le_mul (by omega) (by omega)
      obtain ⟨p, hp⟩ : ∃ p, p = at_ l k := ⟨_, rfl⟩
      rw [← hp] at hHC hst
      obtain ⟨x, d⟩ := p
      obtain ⟨c1, c2⟩ := mcells hHC hO.2
      have HC := Lib.hid hHC
      have HS := Lib.hid hst
      have HL : Hid ((fairTo l F k).length ≤ 5100) := Lib.hid (by omega)
      have HO := Lib.hid hO
      clear hst hlen hlen2 hp hcell hbl hO hHC
      go_wp2_with (at_builtin; refine append_one rfl _ _ 27 47 rfl Try.underlying27 info47 _ _ _ _ rfl HO.out rfl ?_ ?_ ?_; (have := HL.out; omega); (exact Nat.le_refl _); intro v' w5 HO5)
      clear c1 c2
      go_loopw [5, 7] (fun v i wr => ∃ (j : Nat), j ≤ F ∧ i = .int .i64 (j : Int) ∧ OwnP 47 w.heap.size w wr v ((fairTo l F k ++ [(x, d)]) ++ othersTo (x, d) j)) (fun _ i _ => F - (intOf i).toNat)
      case atStart => exact ⟨0, Nat.zero_le _, rfl, by rw [othersTo_zero, List.append_nil]; exact HO5⟩
      case round =>
        clear HO5
        obtain ⟨j, hj, rfl, hO⟩ := hrel
        have hol := othersTo_len (x, d) j
        have hos := othersTo_succ (x, d) j
        simp only at hos
        have hfe := HFE.out j
        have HO2 := Lib.hid hO
        by_cases hjF : j < F
        · obtain ⟨c1, c2⟩ := mcells HC.out hO.2
          obtain ⟨g1, g2⟩ := hfe.1 hjF
          have HL2 : Hid (((fairTo l F k ++ [(x, d)]) ++ othersTo (x, d) j).length ≤ 6000) := Lib.hid (by simp only [List.length_append, List.length_singleton]; have := HL.out; omega)
          by_cases hjx : (j : Int) = x
          · rw [if_pos hjx, List.append_nil] at hos
            have HOS := Lib.hid hos
            have hjt : ((j : Int) != x) = false := by simp [hjx]
            clear hos hol hO hjx hfe
            go_wp2
            go_roundw
            case rel => exact ⟨j + 1, by omega, by go_num, by rw [HOS.out]; exact HO2.out⟩
            case measure => simp [intOf]; omega
          · rw [if_neg hjx] at hos
            have HOS := Lib.hid hos
            have hjt : ((j : Int) != x) = true := by simp [hjx]
            clear hos hol hO hjx hfe
            go_wp2_with (at_builtin; refine append_one rfl _ _ 27 47 rfl Try.underlying27 info47 _ _ _ _ rfl HO2.out rfl ?_ ?_ ?_; (have := HL2.out; omega); (exact Nat.le_refl _); intro v' w6 HO6)
            go_roundw
            case rel => exact ⟨j + 1, by omega, by go_num, by rw [HOS.out, ← List.append_assoc]; exact HO6⟩
            case measure => simp [intOf]; omega
        · obtain rfl : j = F := by omega
          clear hos hol hO
          by_cases hja : (j : Int) < all
          · have hj16 : ¬ (j : Int) < 16 := fun h => hjF (hfe.2 ⟨hja, h⟩)
            clear hfe
            go_wp2
            go_roundw
            case rel => exact ⟨k + 1, by omega, by go_num, by rw [HS.out]; exact HO2.out⟩
            case measure => simp [intOf]; omega
          · clear hfe
            go_wp2
            go_roundw
            case rel => exact ⟨k + 1, by omega, by go_num, by rw [HS.out]; exact HO2.out⟩
            case measure => simp [intOf]; omega
    · have hd : fairTo l F k = fairL l F := by rw [← fairTo_done, ← HN.out, show k = n by omega]
      have HD := Lib.hid hd
      have HO := Lib.hid hO
      clear hd hO
      go_wp2
      go_ret
      exact ⟨_, rfl, by rw [← HD.out]; exact HO.out⟩
end Go.Proofs.Ytadfdpkmegaloaa
