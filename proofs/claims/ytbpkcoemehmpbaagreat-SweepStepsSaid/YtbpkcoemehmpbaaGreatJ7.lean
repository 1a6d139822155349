/- A box whose row is a letter: cells and stretches of it are read and written, and what the row has then is told. The document's own part that is swept: its machine's box, as a row. -/
import Derived.Test.YtbpkcoemehmpbaaGreatRef
import Derived.Test.YtbpkcoemehmpbaaGreatJ16
import Derived.Deep.MidRow
import Derived.Lib.Hide
import Derived.IntWalk
namespace Go.Proofs.YtbpkcoemehmpbaaGreat
open Go.RowKit
set_option linter.unusedVariables false
set_option linter.unusedSimpArgs false
set_option linter.unnecessarySimpa false

/-- A row with other cells from a place on. -/
def splice (V : Array Value) (k : Nat) (U : Array Value) : Array Value := (Array.range V.size).map fun j => if k ≤ j ∧ j < k + U.size then U.getD (j - k) undef else V.getD j undef
theorem splice_size (V : Array Value) (k : Nat) (U : Array Value) : (splice V k U).size = V.size := by simp [splice]
theorem splice_in {V : Array Value} {k : Nat} {U : Array Value} {j : Nat} (h : k + U.size ≤ V.size) (hj : j < U.size) : (splice V k U)[k + j]? = U[j]? := by
  have h1 : k + j < V.size := by omega
  simp [splice, h1, hj]
theorem splice_out {V : Array Value} {k : Nat} {U : Array Value} {j : Nat} (h : j < k ∨ k + U.size ≤ j) : (splice V k U)[j]? = V[j]? := by
  by_cases hj : j < V.size
  · have hn : ¬ (k ≤ j ∧ j < k + U.size) := by omega
    simp only [splice, Array.getElem?_map, Array.getElem?_range, hj, if_true, Option.map_some, if_neg hn]
    simp [hj]
  · rw [Array.getElem?_eq_none (by rw [splice_size]; omega), Array.getElem?_eq_none (by omega)]
theorem row_get {w : World} {B : Nat} {V : Array Value} {T : TypeId} (h : w.heap[B]? = some (.cells V T (0, 0))) (k : Nat) : w.cell? ⟨B, k, none⟩ = V[k]? := cell_of_row w B k V T _ h
theorem row_fro {w : World} {B : Nat} {V : Array Value} {T : TypeId} (h : w.heap[B]? = some (.cells V T (0, 0))) (k : Nat) : w.frozen? ⟨B, k, none⟩ = false := frozen_of_row w B _ _ _ h
theorem row_put {w : World} {B : Nat} {V : Array Value} {T : TypeId} (h : w.heap[B]? = some (.cells V T (0, 0))) (k : Nat) (v : Value) : (w.setCell ⟨B, k, none⟩ v).heap[B]? = some (.cells (V.setIfInBounds k v) T (0, 0)) ∧ Upd B B w (w.setCell ⟨B, k, none⟩ v) :=
  ⟨heap_setCell_same w B k _ T v h, rfl, rfl, rfl, by simp, fun j hj h1 _ => heap_setCell_other w ⟨B, k, none⟩ j v h1⟩
theorem row_stretch {w : World} {B : Nat} {V U : Array Value} {T : TypeId} (k : Nat) (h : w.heap[B]? = some (.cells V T (0, 0))) (hs : k + U.size ≤ V.size) : (w.setCells B k U.toList).heap[B]? = some (.cells (splice V k U) T (0, 0)) ∧ Upd B B w (w.setCells B k U.toList) := by
  have key : ∀ (l : List Value) (o : Nat) (w : World) (V : Array Value), w.heap[B]? = some (.cells V T (0, 0)) → o + l.length ≤ V.size →
      ∃ V', (w.setCells B o l).heap[B]? = some (.cells V' T (0, 0)) ∧ V'.size = V.size ∧ (∀ j, j < o ∨ o + l.length ≤ j → V'[j]? = V[j]?) ∧ (∀ j, j < l.length → V'[o + j]? = l[j]?) ∧ Upd B B w (w.setCells B o l) := by
    intro l
    induction l with
    | nil =>
      intro o w V h hl
      exact ⟨V, h, rfl, fun _ _ => rfl, fun j hj => by simp at hj, ⟨rfl, rfl, rfl, Nat.le_refl _, fun _ _ _ _ => rfl⟩⟩
    | cons v l ih =>
      intro o w V h hl
      simp only [List.length_cons] at hl
      have h1 := heap_setCell_same w B o _ T v h
      obtain ⟨V', g1, g2, g3, g4, g5⟩ := ih (o + 1) (w.setCell ⟨B, o, none⟩ v) (V.setIfInBounds o v) h1 (by simp; omega)
      refine ⟨V', g1, by rw [g2]; simp, fun j hj => ?_, fun j hj => ?_, ?_⟩
      · simp only [List.length_cons] at hj
        rw [g3 j (by omega), Array.getElem?_setIfInBounds_ne (by omega)]
      · cases j with
        | zero =>
          have ho : o < V.size := by omega
          rw [Nat.add_zero, g3 o (by omega)]; simp [ho]
        | succ j =>
          have := g4 j (by simp at hj; omega)
          rw [show o + (j + 1) = o + 1 + j by omega, this]; simp
      · have u1 := (row_put h o v).2
        exact ⟨g5.os.trans u1.os, g5.tape.trans u1.tape, g5.output.trans u1.output, Nat.le_trans u1.size g5.size, fun k hk a b => (g5.block k (Nat.lt_of_lt_of_le hk u1.size) a b).trans (u1.block k hk a b)⟩
  obtain ⟨V', g1, g2, g3, g4, g5⟩ := key U.toList k w V h (by simpa using hs)
  refine ⟨?_, g5⟩
  have e : V' = splice V k U := by
    apply Array.ext_getElem?
    intro j
    by_cases hj : j < k ∨ k + U.size ≤ j
    · rw [g3 j (by simpa using hj), splice_out hj]
    · obtain ⟨i, rfl⟩ : ∃ i, j = k + i := ⟨j - k, by omega⟩
      have := g4 i (by simp; omega)
      rw [this, splice_in hs (by omega)]; simp
  rw [g1, e]
theorem rng_sub {w : World} {B : Nat} {V D : Array Value} {T : TypeId} (k : Nat) (h : w.heap[B]? = some (.cells V T (0, 0))) (hd : ∀ j, j < D.size → V[k + j]? = D[j]?) : w.rangeAt B k D.toList := fun j v hv => by
  have hj : j < D.size := by have := (List.getElem?_eq_some_iff.1 hv).1; simpa using this
  rw [row_get h, hd j hj]; simpa using hv
theorem there_sub {w : World} {B : Nat} {V : Array Value} {T : TypeId} (k n : Nat) (h : w.heap[B]? = some (.cells V T (0, 0))) (hn : k + n ≤ V.size) : w.there B k n := fun j hj => by
  refine ⟨?_, row_fro h _⟩
  rw [row_get h, Array.getElem?_eq_getElem (by omega)]; rfl
theorem rng_all {w : World} {B : Nat} {V : Array Value} {T : TypeId} (h : w.heap[B]? = some (.cells V T (0, 0))) : w.rangeAt B 0 V.toList := rng_sub 0 h (fun j _ => by rw [Nat.zero_add])
theorem row_all {w : World} {B : Nat} {V U : Array Value} {T : TypeId} (h : w.heap[B]? = some (.cells V T (0, 0))) (hs : V.size = U.size) : (w.setCells B 0 U.toList).heap[B]? = some (.cells U T (0, 0)) ∧ Upd B B w (w.setCells B 0 U.toList) := by
  obtain ⟨g, u⟩ := row_stretch 0 h (U := U) (by omega)
  refine ⟨?_, u⟩
  have e : splice V 0 U = U := by
    apply Array.ext_getElem?
    intro j
    by_cases hj : j < U.size
    · have := splice_in (V := V) (k := 0) (U := U) (j := j) (by omega) hj
      rwa [Nat.zero_add] at this
    · rw [Array.getElem?_eq_none (by rw [splice_size]; omega), Array.getElem?_eq_none (by omega)]
  rw [g, e]
theorem one_put {V : Array Value} (h : V.all (·.oneCell') = true) (k : Nat) {v : Value} (hv : v.oneCell' = true) : (V.setIfInBounds k v).all (·.oneCell') = true := by
  rw [Array.all_eq_true_iff_forall_mem] at h ⊢
  intro x hx
  obtain ⟨j, hj⟩ := Array.mem_iff_getElem?.1 hx
  by_cases e : k = j
  · subst e
    by_cases hk : k < V.size
    · rw [Array.getElem?_setIfInBounds_self, if_pos hk] at hj
      cases hj; exact hv
    · rw [Array.getElem?_eq_none (by simpa using hk)] at hj; cases hj
  · rw [Array.getElem?_setIfInBounds_ne e] at hj
    exact h x (Array.mem_iff_getElem?.2 ⟨j, hj⟩)
theorem one_splice {V U : Array Value} (h : V.all (·.oneCell') = true) {k : Nat} (hs : k + U.size ≤ V.size) (hu : U.all (·.oneCell') = true) : (splice V k U).all (·.oneCell') = true := by
  rw [Array.all_eq_true_iff_forall_mem] at h hu ⊢
  intro x hx
  obtain ⟨j, hj⟩ := Array.mem_iff_getElem?.1 hx
  by_cases e : j < k ∨ k + U.size ≤ j
  · rw [splice_out e] at hj; exact h x (Array.mem_iff_getElem?.2 ⟨j, hj⟩)
  · obtain ⟨i, rfl⟩ : ∃ i, j = k + i := ⟨j - k, by omega⟩
    rw [splice_in hs (by omega)] at hj
    exact hu x (Array.mem_iff_getElem?.2 ⟨i, hj⟩)
end Go.Proofs.YtbpkcoemehmpbaaGreat

namespace Go.Proofs.YtbpkcoemehmpbaaGreat
open Go.RowKit
set_option linter.unusedVariables false
set_option linter.unusedSimpArgs false
set_option linter.unnecessarySimpa false
set_option maxRecDepth 100000

theorem row64 : ∃ d, (Tryz.prog).underlying 55 = some d ∧ d.isRow = true := ⟨_, rfl, rfl⟩
/-! The row as a whole, at the list of a plain region's operations. -/
theorem loadZ {w : World} {B : Nat} {V : Array Value} (hb : w.heap[B]? = some (.cells V 55 (0, 0))) (hs : V.size = 19) : (loadVar 55 ⟨B, 0, none⟩).run Tryz.prog w = .ok (.agg V) w := by
  have e := run_loadVar_mid (P := Tryz.prog) w B 0 55 V.toList _ (rng_all hb) row64.choose_spec.1 row64.choose_spec.2 (by rw [show V.toList.length = 19 from by simpa using hs]; kernel_rfl)
  simpa using e
theorem wpList_loadZ {ops : Array Oper} {rest : List Oper} {op : Oper} {a : Act} {w : World} {Q : Exit → Act → World → Prop} (hgd : op.guard = none) (x : Operand) (ho : op.op = .load 55 x) (B : Nat) (V : Array Value)
    (hx : a.eval x = .pointer (some ⟨B, 0, none⟩)) (hb : w.heap[B]? = some (.cells V 55 (0, 0))) (hv : V.size = 19)
    (h : wpList Tryz.prog ops Q rest (a.put op.dst (.agg V)) w) : wpList Tryz.prog ops Q (op :: rest) a w := by
  refine wpList_load_mid hgd 55 x ho B 0 hx V.toList _ (rng_all hb) row64.choose_spec.1 row64.choose_spec.2 (by rw [show V.toList.length = 19 from by simpa using hv]; kernel_rfl) ?_
  simpa using h
theorem wpList_storeZ {ops : Array Oper} {rest : List Oper} {op : Oper} {a : Act} {w : World} {Q : Exit → Act → World → Prop} (hgd : op.guard = none) (x y : Operand) (ho : op.op = .store 55 x y) (B : Nat) (U V : Array Value)
    (hx : a.eval x = .pointer (some ⟨B, 0, none⟩)) (hy : a.eval y = .agg V) (hb : w.heap[B]? = some (.cells U 55 (0, 0))) (hu : U.size = 19) (hv : V.size = 19) (h1 : V.all (·.oneCell') = true)
    (h : wpList Tryz.prog ops Q rest (a.put op.dst undef) (w.setCells B 0 V.toList)) : wpList Tryz.prog ops Q (op :: rest) a w :=
  wpList_store_mid hgd 55 x y ho B 0 V hx hy (there_sub 0 _ hb (by omega)) (by rw [hv]; kernel_rfl) h1 h
abbrev zero19 : Array Value := #[.int .i64 0, .int .u64 0, .int .u64 0, .int .i64 0, .int .i64 0, .int .i64 0, .int .i64 0, .int .i64 0, .int .i64 0, .slice none 0 0, .int .u32 0, .int .u64 0, .int .u32 0, .int .i64 0, .int .i64 0, .int .i64 0, .int .i64 0, .int .i64 0, .int .i64 0]
/-- The machine's box and the result's. -/
structure ZB (w w' : World) (B R : Nat) (V : Array Value) : Prop where
  bel : Below w.heap.size w w'
  b : w.heap.size ≤ B ∧ w.heap.size ≤ R ∧ B ≠ R
  bm : w'.heap[B]? = some (.cells V 55 (0, 0))
  br : w'.heap[R]? = some (.cells zero19 55 (0, 0))
section
variable {w w' w2 : World} {B R : Nat} {V U : Array Value}
theorem ZB.step (h : ZB w w' B R V) (hb : Below w'.heap.size w' w2) : ZB w w2 B R V :=
  ⟨below_step h.bel h.bel.size hb, h.b, (hb.block _ (Array.getElem?_eq_some_iff.1 h.bm).1).trans h.bm, (hb.block _ (Array.getElem?_eq_some_iff.1 h.br).1).trans h.br⟩
theorem ZB.set (h : ZB w w' B R V) (hu : U.size = V.size) : ZB w (w'.setCells B 0 U.toList) B R U := by
  obtain ⟨g, u⟩ := row_all (U := U) h.bm hu.symm
  exact ⟨below_uf h.bel (Nat.le_refl _) (UF.of_upd u) (fun k e => by have := h.b; rcases e with rfl | rfl <;> omega), h.b, g, (u.block R (Array.getElem?_eq_some_iff.1 h.br).1 (fun e => h.b.2.2 e.symm) (fun e => h.b.2.2 e.symm)).trans h.br⟩
theorem ZB.put (h : ZB w w' B R V) (k : Nat) (v : Value) : ZB w (w'.setCell ⟨B, k, none⟩ v) B R (V.setIfInBounds k v) := by
  obtain ⟨g, u⟩ := row_put h.bm k v
  exact ⟨below_uf h.bel (Nat.le_refl _) (UF.of_upd u) (fun k e => by have := h.b; rcases e with rfl | rfl <;> omega), h.b, g, (u.block R (Array.getElem?_eq_some_iff.1 h.br).1 (fun e => h.b.2.2 e.symm) (fun e => h.b.2.2 e.symm)).trans h.br⟩
theorem ZB.stretch (h : ZB w w' B R V) (k : Nat) (hk : k + U.size ≤ V.size) : ZB w (w'.setCells B k U.toList) B R (splice V k U) := by
  obtain ⟨g, u⟩ := row_stretch (U := U) k h.bm hk
  exact ⟨below_uf h.bel (Nat.le_refl _) (UF.of_upd u) (fun k e => by have := h.b; rcases e with rfl | rfl <;> omega), h.b, g, (u.block R (Array.getElem?_eq_some_iff.1 h.br).1 (fun e => h.b.2.2 e.symm) (fun e => h.b.2.2 e.symm)).trans h.br⟩
/-- The result is laid into its place. -/
theorem ZB.fin (h : ZB w w' B R V) (hv : V.size = 19) : Below w.heap.size w (w'.setCells R 0 V.toList) ∧ (loadVar 55 ⟨R, 0, none⟩).run Tryz.prog (w'.setCells R 0 V.toList) = .ok (.agg V) (w'.setCells R 0 V.toList) := by
  obtain ⟨g, u⟩ := row_all (U := V) h.br (by rw [hv]; rfl)
  exact ⟨below_uf h.bel (Nat.le_refl _) (UF.of_upd u) (fun k e => by have := h.b; rcases e with rfl | rfl <;> omega), loadZ g hv⟩
end
/-- Two boxes, just made. -/
theorem ZB.two (w : World) (V : Array Value) : ZB w ((w.alloc (.cells V 55)).alloc (.cells #[.int .i64 0, .int .u64 0, .int .u64 0, .int .i64 0, .int .i64 0, .int .i64 0, .int .i64 0, .int .i64 0, .int .i64 0, .slice none 0 0, .int .u32 0, .int .u64 0, .int .u32 0, .int .i64 0, .int .i64 0, .int .i64 0, .int .i64 0, .int .i64 0, .int .i64 0] 55)) w.heap.size (w.heap.size + 1) V := by
  have h1 := below_alloc0 (Below.refl w.heap.size w) (.cells V 55)
  have h2 := below_alloc0 h1 (.cells zero19 55)
  have e : (w.alloc (.cells V 55)).heap.size = w.heap.size + 1 := by simp
  have h3 := below_alloc0 (Below.refl (w.alloc (.cells V 55)).heap.size (w.alloc (.cells V 55))) (.cells zero19 55)
  have g := Go.heap_alloc_new w (.cells V 55)
  refine ⟨h2, ⟨Nat.le_refl _, by omega, by omega⟩, (h3.block _ (by omega)).trans g, ?_⟩
  have := Go.heap_alloc_new (w.alloc (.cells V 55)) (.cells zero19 55)
  rwa [e] at this

end Go.Proofs.YtbpkcoemehmpbaaGreat
