/- A slice of bools that came in, opened. -/
import Derived.Test.YtponbnbgiiepdaaGreatJ22
import Derived.Deep.Grids
namespace Go.Proofs.YtponbnbgiiepdaaGreat
open Go.ChangeShapes Go.WideShapes Go.RowKit
set_option linter.unusedVariables false

/-- A slice of bools that reads as these, nil let in. -/
def ReadsB (w : World) (A : Option Addr) (l : List Bool) : Prop :=
  0 < l.length → ∃ b off, A = some ⟨b, off, none⟩ ∧ b < w.heap.size ∧ ∀ j, j < l.length → w.cell? ⟨b, off + j, none⟩ = some (.bool (l.getD j false))
def IsBools (w : World) (a : Option Addr) (len cap : Nat) (l : List Bool) : Prop := ReadsB w a l ∧ l.length = len ∧ len ≤ cap ∧ cap ≤ maxLen
section
variable {H : Type} {enc : TypeId × Value → H} {w : World} {held : Bool}
theorem open_bls {a : Option Addr} {len cap : Nat} {d : DataW H} {p : List MemPlace} (h : DataW.Trod enc Tryz.prog w 0 (fun _ => true) held 82 (.slice a len cap) d p) : ∃ l, IsBools w a len cap l := by
  obtain ⟨fuel, hf⟩ := h
  rcases Go.Deep.open_bools Tryz.underlying82 Tryz.underlying4 (by kernel_rfl) hf with ⟨hcs, _⟩ | ⟨x, l, c, bs, hcs, _, hl, hm, _, hc⟩
  · simp [Value.cells] at hcs
    obtain ⟨rfl, rfl, rfl⟩ := hcs
    exact ⟨[], fun h => by simp at h, rfl, Nat.le_refl _, Nat.zero_le _⟩
  · simp [Value.cells] at hcs
    obtain ⟨rfl, rfl, rfl⟩ := hcs
    refine ⟨(List.range len).map bs, fun h0 => ?_, by simp, hl, hm⟩
    have hl0 : 0 < len := by simp at h0; omega
    have c0 := hc 0 (by omega)
    obtain ⟨b, off, sp⟩ := x
    have hs : sp = none := by
      cases sp with
      | none => rfl
      | some s =>
        exfalso
        simp only [Addr.add, if_true] at c0
        unfold World.cell? at c0
        simp only [Option.isSome_some, if_true] at c0
        split at c0 <;> simp at c0
    subst hs
    rw [add_off] at c0
    refine ⟨b, off, rfl, World.block_lt_of_cell? w _ c0, fun j hj => ?_⟩
    have hj2 : j < len := by simp at hj; omega
    have c := hc j (by omega)
    rw [add_off] at c
    rw [c]
    simp [List.getD, hj2]
end
end Go.Proofs.YtponbnbgiiepdaaGreat
