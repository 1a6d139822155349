
import Derived.Test.YthoiaffeenhfgaaGreatMkF
import Derived.Test.YthoiaffeenhfgaaGreatJ4
import Derived.Test.YthoiaffeenhfgaaGreatJ14
namespace Go.Proofs.YthoiaffeenhfgaaGreat
open Go.RowKit
set_option linter.unusedVariables false
set_option linter.unusedSimpArgs false
set_option maxRecDepth 100000
open Lay (plcc plc shOf packN nodesN OkC Cfg Norm firstV Rep lenL things)
section
variable {B S D N : Nat} {c : Cfg} {w0 w w' : World} {G : Nat → Prop} {L : List Int} {k t : Int} {Y : Nat} {m : Mk}
theorem MA.startG (h : PO B S D N c w0 w L k) (X : Nat → Nat) (M : Nat → Mk) (hg : ∀ b, G b → b < w.heap.size ∧ B ≤ b ∧ b ≠ S ∧ b ≠ D ∧ b ≠ N) : MA B S D N c w0 w G 0 X M L k :=
  ⟨h, ⟨fun _ _ => False, fun _ _ => False, fun i hi => absurd hi (by omega), fun i j hi => absurd hi (by omega), fun i hi => absurd hi (by omega)⟩, hg⟩
end
theorem put0 {L : List Int} {x : Int} (h : 0 < L.length) : ldq (ptq L 0 x) 0 = x := by
  have e : (0 : Int) ≤ 0 ∧ (0 : Int) < ((ptq L 0 x).length : Int) := by rw [pt_len]; omega
  unfold ldq
  rw [if_pos e]
  exact pt_same (p := 0) ⟨by omega, by omega⟩
theorem len_pos {c : Cfg} (hc : OkC c) : 0 < lenL (shOf c) := by
  have p : plcc c 0 0 0 = 0 := phase0 c
  have := Lay.plc_lt (s := shOf c) (nrm 0 0 0 (by omega) (by omega) (fun _ => rfl) (fun _ _ _ => rfl)) (show 0 ≤ plcc c 0 0 0 by omega)
  have : plcc c 0 0 0 < (lenL (shOf c) : Int) := this
  omega
theorem u64_rngs {l : List Int} (h : ∀ x ∈ l, (Lit.int .u64 x).wf = true) : ∀ z ∈ l, 0 ≤ z ∧ z ≤ 18446744073709551615 := fun z hz => by
  have := h z hz
  simp [Lit.wf, IntKind.min, IntKind.max, IntKind.bits, IntKind.signed] at this; omega
theorem u8_rngs {l : List Int} (h : ∀ x ∈ l, (Lit.int .u8 x).wf = true) : ∀ z ∈ l, 0 ≤ z ∧ z ≤ 255 := fun z hz => by
  have := h z hz
  simp [Lit.wf, IntKind.min, IntKind.max, IntKind.bits, IntKind.signed] at this; omega
theorem reads_same {k : IntKind} {b : Nat} {w w' : World} {L : List Int} (h : Reads k w (some ⟨b, 0, none⟩) L) (hs : w.heap.size ≤ w'.heap.size) (e : w'.heap[b]? = w.heap[b]?) : Reads k w' (some ⟨b, 0, none⟩) L := fun h0 => by
  obtain ⟨b', off, e1, hlt, hc⟩ := h h0
  injection e1 with e1
  injection e1 with e2 e3
  subst e2
  subst e3
  exact ⟨b, 0, rfl, Nat.lt_of_lt_of_le hlt hs, fun j hj => (World.cell?_of_block (w := w) (a := ⟨b, 0 + j, none⟩) e).trans (hc j hj)⟩
section
variable {B S D N : Nat} {c : Cfg} {w0 w w' : World} {G : Nat → Prop} {L : List Int} {k i : Int} {Y : Nat}
end
end Go.Proofs.YthoiaffeenhfgaaGreat
