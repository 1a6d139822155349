/- A part's first and last node, and a thing's place by its kind, walked. A thing's place by its kind and numbers, walked. -/
import Derived.Test.YtbpkcoemehmpbaaLayAcc
namespace Go.Proofs.Ytbpkcoemehmpbaa.Lay
open Go.RowKit
set_option linter.unusedVariables false

theorem IsMap.sw {w : World} {N : Nat} {c : Cfg} (h : IsMap w N c) : w.cell? ⟨N, 11, none⟩ = some (.int .i64 c.sw) ∧ IsMap w N c := ⟨h.2 11 (by omega), h⟩
theorem IsMap.more {X : Prop} {N : Nat} {c : Cfg} {w' w2 : World} (h : X ∧ IsMap w' N c) (hb : Below w'.heap.size w' w2) : IsMap w2 N c := h.2.below hb

theorem parts_bd' {c : Cfg} (h : OkC c) : 0 ≤ partsC c ∧ partsC c ≤ 60 ∧ (∀ j, 0 ≤ j → j < partsC c → j * c.sw + 1 ≤ nodesN c) := by
  have n0 := (bds h).n0; have n1 := (bds h).n1; have s0 := h.w0; have s1 := h.w1
  have hp : partsC c = (nodesN c + c.sw - 1) / c.sw := by unfold partsC piecesOf; rw [if_neg (by omega)]
  refine ⟨by rw [hp]; exact Int.ediv_nonneg (by omega) (by omega), ?_, fun j h0 hj => ?_⟩
  · have : partsC c < 61 := by
      rw [hp]
      refine Int.ediv_lt_of_lt_mul (by omega) ?_
      have : 61 * 1 ≤ 61 * c.sw := Int.mul_le_mul_of_nonneg_left s0 (by decide)
      have h2 : (61 : Int) * c.sw = 60 * c.sw + c.sw := by omega
      have : 60 * 1 ≤ 60 * c.sw := Int.mul_le_mul_of_nonneg_left s0 (by decide)
      omega
    omega
  · have h1 : j + 1 ≤ (nodesN c + c.sw - 1) / c.sw := by omega
    have h2 := (Int.le_ediv_iff_mul_le (by omega : 0 < c.sw)).1 h1
    rw [Int.add_mul] at h2; omega

set_option maxHeartbeats 2000000 in
set_option maxRecDepth 100000 in
theorem part_yes {c : Cfg} (hc : OkC c) (N : Nat) (j : Int) (h0 : 0 ≤ j) (hj : j < partsC c) (w : World) (hm : IsMap w N c) :
    Calls Try.prog 72 #[mapP N, .int .i64 j] w fun e w' => e = .returned (.tuple #[.int .i64 (j * c.sw + 1), .int .i64 (imin (j * c.sw + 1 + c.sw - 1) (nodesN c))]) ∧ Below w.heap.size w w' := by
  have H := Lib.hid hc; have HM := Lib.hid hm
  obtain ⟨p0, p1, p2⟩ := parts_bd' hc
  have p3 := p2 j h0 hj
  have s0 := hc.w0; have s1 := hc.w1; have n0 := (bds hc).n0; have n1 := (bds hc).n1
  have p4 : 0 ≤ j * c.sw := Int.mul_nonneg h0 (by omega)
  have hw1 : IntKind.i64.wrap (j * c.sw + 1 + c.sw) = j * c.sw + 1 + c.sw := IntWalk.i64_in _ (by omega)
  have hw2 : IntKind.i64.wrap (j * c.sw + 1 + c.sw - 1) = j * c.sw + 1 + c.sw - 1 := IntWalk.i64_in _ (by omega)
  clear hm hc p2
  go_enter Try.func72, Try.ntmps72
  go_wp2_with (first
    | (go_at_call 14; (with_reducible refine (parts_m H.out _ _ HM.out).mono ?_); rintro r w1 ⟨rfl, hb1⟩; have hm1 := HM.out.below hb1; have c11 := (cells7 hm1).2.2.2.2.2.2)
    | (go_at_call 60; (with_reducible refine (within_yes _ _ _ (by omega) _).mono ?_); rintro r w2 ⟨rfl, rfl⟩))
  have HM1 := Lib.hid hm1
  go_region_held3 (fun w' => w'.cell? ⟨N, 11, none⟩ = some (.int .i64 c.sw) ∧ IsMap w' N c)
    (first | exact IsMap.sw (IsMap.drew HM1.out) | exact IsMap.sw (by assumption) | fail)
    (first
      | (go_at_call 15; (with_reducible refine (nodes_m H.out _ _ (IsMap.drew HM1.out)).mono ?_); rintro r w4 ⟨rfl, hb4⟩; have hm4 := (IsMap.drew HM1.out).below hb4)
      | fail)
  all_goals go_wp2_with (fail)
  all_goals go_ret2
  all_goals exact ⟨rfl, below_then hb1 ((Below.refl _ _).drew.trans hb4)⟩
theorem part_no {c : Cfg} (hc : OkC c) (N : Nat) (j : Int) (hj : ¬ (0 ≤ j ∧ j ≤ partsC c - 1)) (w : World) (hm : IsMap w N c) :
    Calls Try.prog 72 #[mapP N, .int .i64 j] w fun e w' => e = .returned (.tuple #[.int .i64 0, .int .i64 (-1)]) ∧ Below w.heap.size w w' := by
  have H := Lib.hid hc; have HM := Lib.hid hm
  obtain ⟨p0, p1, p2⟩ := parts_bd' hc
  have HJ := Lib.hid hj
  clear hm hc p2 hj
  go_enter Try.func72, Try.ntmps72
  go_wp2_with (first
    | (go_at_call 14; (with_reducible refine (parts_m H.out _ _ HM.out).mono ?_); rintro r w1 ⟨rfl, hb1⟩)
    | (go_at_call 60; (with_reducible refine (within_no _ _ _ HJ.out _).mono ?_); rintro r w2 ⟨rfl, rfl⟩))
  go_ret2
  exact ⟨rfl, hb1⟩
end Go.Proofs.Ytbpkcoemehmpbaa.Lay

namespace Go.Proofs.Ytbpkcoemehmpbaa.Lay
open Go.RowKit
set_option linter.unusedVariables false

theorem plc_b0 (c : Sh) (k a b : Int) (h0 : 6 ≤ k) (h : k ≤ 9 ∨ k = 11 ∨ k = 12 ∨ (14 ≤ k ∧ k ≤ 17)) : plc c ⟨k, a, b⟩ = plc c ⟨k, a, 0⟩ := by
  have : k = 6 ∨ k = 7 ∨ k = 8 ∨ k = 9 ∨ k = 11 ∨ k = 12 ∨ k = 14 ∨ k = 15 ∨ k = 16 ∨ k = 17 := by omega
  rcases this with rfl | rfl | rfl | rfl | rfl | rfl | rfl | rfl | rfl | rfl <;> rfl
theorem plc_ab0 (c : Sh) (k a b : Int) (h0 : 0 ≤ k) (h : k ≤ 5) : plc c ⟨k, a, b⟩ = plc c ⟨k, 0, 0⟩ := by
  have : k = 0 ∨ k = 1 ∨ k = 2 ∨ k = 3 ∨ k = 4 ∨ k = 5 := by omega
  rcases this with rfl | rfl | rfl | rfl | rfl | rfl <;> rfl

end Go.Proofs.Ytbpkcoemehmpbaa.Lay
