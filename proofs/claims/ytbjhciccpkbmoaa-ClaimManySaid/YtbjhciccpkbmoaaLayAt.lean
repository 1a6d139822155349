/- A thing's place by its kind and numbers, walked. -/
import Derived.Test.YtbjhciccpkbmoaaLayPart
namespace Go.Proofs.Ytbjhciccpkbmoaa.Lay
open Go.RowKit
set_option linter.unusedVariables false

theorem plc_b0 (c : Sh) (k a b : Int) (h0 : 6 ≤ k) (h : k ≤ 9 ∨ k = 11 ∨ k = 12 ∨ (14 ≤ k ∧ k ≤ 17)) : plc c ⟨k, a, b⟩ = plc c ⟨k, a, 0⟩ := by
  have : k = 6 ∨ k = 7 ∨ k = 8 ∨ k = 9 ∨ k = 11 ∨ k = 12 ∨ k = 14 ∨ k = 15 ∨ k = 16 ∨ k = 17 := by omega
  rcases this with rfl | rfl | rfl | rfl | rfl | rfl | rfl | rfl | rfl | rfl <;> rfl
theorem plc_ab0 (c : Sh) (k a b : Int) (h0 : 0 ≤ k) (h : k ≤ 5) : plc c ⟨k, a, b⟩ = plc c ⟨k, 0, 0⟩ := by
  have : k = 0 ∨ k = 1 ∨ k = 2 ∨ k = 3 ∨ k = 4 ∨ k = 5 := by omega
  rcases this with rfl | rfl | rfl | rfl | rfl | rfl <;> rfl

end Go.Proofs.Ytbjhciccpkbmoaa.Lay
