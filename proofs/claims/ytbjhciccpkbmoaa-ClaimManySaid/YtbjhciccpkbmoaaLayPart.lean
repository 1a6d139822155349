/- A part's first and last node, and a thing's place by its kind, walked. -/
import Derived.Test.YtbjhciccpkbmoaaLayAcc
namespace Go.Proofs.Ytbjhciccpkbmoaa.Lay
open Go.RowKit
set_option linter.unusedVariables false

theorem IsMap.sw {w : World} {N : Nat} {c : Cfg} (h : IsMap w N c) : w.cell? ⟨N, 11, none⟩ = some (.int .i64 c.sw) ∧ IsMap w N c := ⟨h.2 11 (by omega), h⟩
theorem IsMap.more {X : Prop} {N : Nat} {c : Cfg} {w' w2 : World} (h : X ∧ IsMap w' N c) (hb : Below w'.heap.size w' w2) : IsMap w2 N c := h.2.below hb

theorem parts_bd' {c : Cfg} (h : OkC c) : 0 ≤ partsC c ∧ partsC c ≤ 60 ∧ (∀ j, 0 ≤ j → j < partsC c → j * c.sw + 1 ≤ nodesN c) := by
  have n0 := (bds h).n0; have n1 := (bds h).n1; have s0 := h.w0; have s1 := h.w1
  have hp : partsC c = (nodesN c + c.sw - 1) / c.sw := by unfold partsC piecesOf; rw [if_neg (by omega)]
  refine ⟨by rw [hp]; exact Int.ediv_nonneg (by omega) (by omega), ?_, fun j h0 hj => ?_⟩
  · have : partsC c < 61 := by
      rw [hp]
      refine Int.ediv_lt_of_lt_mul (by omega) ?_
      have : 61 * 1 ≤ 61 * c.sw := Int.mul_le_mul_of_nonneg_left s0 (by decide)
      have h2 : (61 : Int) * c.sw = 60 * c.sw + c.sw := by omega
      have : 60 * 1 ≤ 60 * c.sw := Int.mul_le_mul_of_nonneg_left s0 (by decide)
      omega
    omega
  · have h1 : j + 1 ≤ (nodesN c + c.sw - 1) / c.sw := by omega
    have h2 := (Int.le_ediv_iff_mul_le (by omega : 0 < c.sw)).1 h1
    rw [Int.add_mul] at h2; omega

end Go.Proofs.Ytbjhciccpkbmoaa.Lay
