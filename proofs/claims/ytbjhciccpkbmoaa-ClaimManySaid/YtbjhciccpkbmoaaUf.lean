/- Which blocks may have changed. -/
import Derived.Test.YtbjhciccpkbmoaaTwo
import Derived.Test.YtbjhciccpkbmoaaLayMap
namespace Go.Proofs.Ytbjhciccpkbmoaa
open Go.RowKit
set_option linter.unusedVariables false
set_option linter.unusedSimpArgs false

/-- Blocks of F alone may have changed. -/
structure UF (F : Nat → Prop) (w w' : World) : Prop where
  os : w'.os = w.os
  tape : w'.tape = w.tape
  output : w'.output = w.output
  size : w.heap.size ≤ w'.heap.size
  block : ∀ k, k < w.heap.size → ¬ F k → w'.heap[k]? = w.heap[k]?
theorem UF.refl (F : Nat → Prop) (w : World) : UF F w w := ⟨rfl, rfl, rfl, Nat.le_refl _, fun _ _ _ => rfl⟩
theorem UF.trans {F G H : Nat → Prop} {a b c : World} (h : UF F a b) (k : UF G b c) (hF : ∀ x, F x → H x) (hG : ∀ x, x < a.heap.size → G x → H x) : UF H a c :=
  ⟨k.os.trans h.os, k.tape.trans h.tape, k.output.trans h.output, Nat.le_trans h.size k.size, fun i hi hn => (k.block i (Nat.lt_of_lt_of_le hi h.size) (fun g => hn (hG i hi g))).trans (h.block i hi (fun f => hn (hF i f)))⟩
theorem UF.mono {F H : Nat → Prop} {a b : World} (h : UF F a b) (hF : ∀ x, x < a.heap.size → F x → H x) : UF H a b :=
  ⟨h.os, h.tape, h.output, h.size, fun i hi hn => h.block i hi (fun f => hn (hF i hi f))⟩
theorem UF.of_below {F : Nat → Prop} {w w' : World} (h : Below w.heap.size w w') : UF F w w' := ⟨h.os, h.tape, h.output, h.size, fun k hk _ => h.block k hk⟩
theorem UF.of_upd {S D : Nat} {w w' : World} (h : Upd S D w w') : UF (fun k => k = S ∨ k = D) w w' := ⟨h.os, h.tape, h.output, h.size, fun k hk hn => h.block k hk (fun e => hn (.inl e)) (fun e => hn (.inr e))⟩
theorem UF.set (w : World) (B i : Nat) (v : Value) : UF (fun k => k = B) w (w.setCell ⟨B, i, none⟩ v) := ⟨rfl, rfl, rfl, by simp, fun k _ hn => heap_setCell_other w ⟨B, i, none⟩ k v hn⟩
theorem below_uf {B : Nat} {F : Nat → Prop} {w0 w w' : World} (h : Below B w0 w) (hB : B ≤ w0.heap.size) (u : UF F w w') (hF : ∀ k, F k → B ≤ k) : Below B w0 w' :=
  h.trans ⟨u.os, u.tape, u.output, u.size, fun k hk => u.block k (Nat.lt_of_lt_of_le hk (Nat.le_trans hB h.size)) (fun f => by have := hF k f; omega)⟩
theorem IsMap_same {w w' : World} {N : Nat} {c : Lay.Cfg} (h : Lay.IsMap w N c) (hs : w.heap.size ≤ w'.heap.size) (hb : w'.heap[N]? = w.heap[N]?) : Lay.IsMap w' N c :=
  ⟨Nat.lt_of_lt_of_le h.1 hs, fun i hi => (World.cell?_of_block (w := w) (a := ⟨N, i, none⟩) hb).trans (h.2 i hi)⟩
theorem St_same {w w' : World} {S D : Nat} {L : List Int} {c : Int} (h : St w S D L c) (h1 : w'.heap[S]? = w.heap[S]?) (h2 : w'.heap[D]? = w.heap[D]?) : St w' S D L c :=
  ⟨h.ne, h1.trans h.top, h2.trans h.row⟩

end Go.Proofs.Ytbjhciccpkbmoaa
