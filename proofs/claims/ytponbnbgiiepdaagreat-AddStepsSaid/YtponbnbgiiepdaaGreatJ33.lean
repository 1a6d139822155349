/- A push of the document's own deque, by value; walked. The document's own task that is put somewhere, begun and stepped; walked. A step of the document's own task that is put somewhere; walked. -/
import Derived.Test.YtponbnbgiiepdaaGreatJ2
import Derived.Test.YtponbnbgiiepdaaGreatJ19
import Derived.Test.YtponbnbgiiepdaaGreatJ32
import Derived.Test.YtponbnbgiiepdaaGreatAdPure
namespace Go.Proofs.YtponbnbgiiepdaaGreat.Dg
open Go.RowKit
set_option linter.unusedVariables false
set_option linter.unusedSimpArgs false
set_option maxRecDepth 100000

abbrev put11 (w : World) (B : Nat) (u0 u1 u2 u3 u4 u5 u6 u7 u8 u9 u10 : Value) : World := (((((((((((w.setCell ⟨B, 0, none⟩ u0).setCell ⟨B, 1, none⟩ u1).setCell ⟨B, 2, none⟩ u2).setCell ⟨B, 3, none⟩ u3).setCell ⟨B, 4, none⟩ u4).setCell ⟨B, 5, none⟩ u5).setCell ⟨B, 6, none⟩ u6).setCell ⟨B, 7, none⟩ u7).setCell ⟨B, 8, none⟩ u8).setCell ⟨B, 9, none⟩ u9).setCell ⟨B, 10, none⟩ u10)
theorem put11_same (w : World) (B : Nat) (t : TypeId) (x0 x1 x2 x3 x4 x5 x6 x7 x8 x9 x10 : Value) (h : w.heap[B]? = some (.cells #[x0, x1, x2, x3, x4, x5, x6, x7, x8, x9, x10] t (0, 0))) (u0 u1 u2 u3 u4 u5 u6 u7 u8 u9 u10 : Value) : (put11 w B u0 u1 u2 u3 u4 u5 u6 u7 u8 u9 u10).heap[B]? = some (.cells #[u0, u1, u2, u3, u4, u5, u6, u7, u8, u9, u10] t (0, 0)) := by
  have h0 : (w.setCell ⟨B, 0, none⟩ u0).heap[B]? = some (.cells #[u0, x1, x2, x3, x4, x5, x6, x7, x8, x9, x10] t (0, 0)) := (heap_setCell_same _ B 0 _ t u0 h).trans (congrArg (fun c => some (Obj.cells c t (0, 0))) (show (#[x0, x1, x2, x3, x4, x5, x6, x7, x8, x9, x10] : Array Value).setIfInBounds 0 u0 = #[u0, x1, x2, x3, x4, x5, x6, x7, x8, x9, x10] from rfl))
  have h1 : ((w.setCell ⟨B, 0, none⟩ u0).setCell ⟨B, 1, none⟩ u1).heap[B]? = some (.cells #[u0, u1, x2, x3, x4, x5, x6, x7, x8, x9, x10] t (0, 0)) := (heap_setCell_same _ B 1 _ t u1 h0).trans (congrArg (fun c => some (Obj.cells c t (0, 0))) (show (#[u0, x1, x2, x3, x4, x5, x6, x7, x8, x9, x10] : Array Value).setIfInBounds 1 u1 = #[u0, u1, x2, x3, x4, x5, x6, x7, x8, x9, x10] from rfl))
  have h2 : (((w.setCell ⟨B, 0, none⟩ u0).setCell ⟨B, 1, none⟩ u1).setCell ⟨B, 2, none⟩ u2).heap[B]? = some (.cells #[u0, u1, u2, x3, x4, x5, x6, x7, x8, x9, x10] t (0, 0)) := (heap_setCell_same _ B 2 _ t u2 h1).trans (congrArg (fun c => some (Obj.cells c t (0, 0))) (show (#[u0, u1, x2, x3, x4, x5, x6, x7, x8, x9, x10] : Array Value).setIfInBounds 2 u2 = #[u0, u1, u2, x3, x4, x5, x6, x7, x8, x9, x10] from rfl))
  have h3 : ((((w.setCell ⟨B, 0, none⟩ u0).setCell ⟨B, 1, none⟩ u1).setCell ⟨B, 2, none⟩ u2).setCell ⟨B, 3, none⟩ u3).heap[B]? = some (.cells #[u0, u1, u2, u3, x4, x5, x6, x7, x8, x9, x10] t (0, 0)) := (heap_setCell_same _ B 3 _ t u3 h2).trans (congrArg (fun c => some (Obj.cells c t (0, 0))) (show (#[u0, u1, u2, x3, x4, x5, x6, x7, x8, x9, x10] : Array Value).setIfInBounds 3 u3 = #[u0, u1, u2, u3, x4, x5, x6, x7, x8, x9, x10] from rfl))
  have h4 : (((((w.setCell ⟨B, 0, none⟩ u0).setCell ⟨B, 1, none⟩ u1).setCell ⟨B, 2, none⟩ u2).setCell ⟨B, 3, none⟩ u3).setCell ⟨B, 4, none⟩ u4).heap[B]? = some (.cells #[u0, u1, u2, u3, u4, x5, x6, x7, x8, x9, x10] t (0, 0)) := (heap_setCell_same _ B 4 _ t u4 h3).trans (congrArg (fun c => some (Obj.cells c t (0, 0))) (show (#[u0, u1, u2, u3, x4, x5, x6, x7, x8, x9, x10] : Array Value).setIfInBounds 4 u4 = #[u0, u1, u2, u3, u4, x5, x6, x7, x8, x9, x10] from rfl))
  have h5 : ((((((w.setCell ⟨B, 0, none⟩ u0).setCell ⟨B, 1, none⟩ u1).setCell ⟨B, 2, none⟩ u2).setCell ⟨B, 3, none⟩ u3).setCell ⟨B, 4, none⟩ u4).setCell ⟨B, 5, none⟩ u5).heap[B]? = some (.cells #[u0, u1, u2, u3, u4, u5, x6, x7, x8, x9, x10] t (0, 0)) := (heap_setCell_same _ B 5 _ t u5 h4).trans (congrArg (fun c => some (Obj.cells c t (0, 0))) (show (#[u0, u1, u2, u3, u4, x5, x6, x7, x8, x9, x10] : Array Value).setIfInBounds 5 u5 = #[u0, u1, u2, u3, u4, u5, x6, x7, x8, x9, x10] from rfl))
  have h6 : (((((((w.setCell ⟨B, 0, none⟩ u0).setCell ⟨B, 1, none⟩ u1).setCell ⟨B, 2, none⟩ u2).setCell ⟨B, 3, none⟩ u3).setCell ⟨B, 4, none⟩ u4).setCell ⟨B, 5, none⟩ u5).setCell ⟨B, 6, none⟩ u6).heap[B]? = some (.cells #[u0, u1, u2, u3, u4, u5, u6, x7, x8, x9, x10] t (0, 0)) := (heap_setCell_same _ B 6 _ t u6 h5).trans (congrArg (fun c => some (Obj.cells c t (0, 0))) (show (#[u0, u1, u2, u3, u4, u5, x6, x7, x8, x9, x10] : Array Value).setIfInBounds 6 u6 = #[u0, u1, u2, u3, u4, u5, u6, x7, x8, x9, x10] from rfl))
  have h7 : ((((((((w.setCell ⟨B, 0, none⟩ u0).setCell ⟨B, 1, none⟩ u1).setCell ⟨B, 2, none⟩ u2).setCell ⟨B, 3, none⟩ u3).setCell ⟨B, 4, none⟩ u4).setCell ⟨B, 5, none⟩ u5).setCell ⟨B, 6, none⟩ u6).setCell ⟨B, 7, none⟩ u7).heap[B]? = some (.cells #[u0, u1, u2, u3, u4, u5, u6, u7, x8, x9, x10] t (0, 0)) := (heap_setCell_same _ B 7 _ t u7 h6).trans (congrArg (fun c => some (Obj.cells c t (0, 0))) (show (#[u0, u1, u2, u3, u4, u5, u6, x7, x8, x9, x10] : Array Value).setIfInBounds 7 u7 = #[u0, u1, u2, u3, u4, u5, u6, u7, x8, x9, x10] from rfl))
  have h8 : (((((((((w.setCell ⟨B, 0, none⟩ u0).setCell ⟨B, 1, none⟩ u1).setCell ⟨B, 2, none⟩ u2).setCell ⟨B, 3, none⟩ u3).setCell ⟨B, 4, none⟩ u4).setCell ⟨B, 5, none⟩ u5).setCell ⟨B, 6, none⟩ u6).setCell ⟨B, 7, none⟩ u7).setCell ⟨B, 8, none⟩ u8).heap[B]? = some (.cells #[u0, u1, u2, u3, u4, u5, u6, u7, u8, x9, x10] t (0, 0)) := (heap_setCell_same _ B 8 _ t u8 h7).trans (congrArg (fun c => some (Obj.cells c t (0, 0))) (show (#[u0, u1, u2, u3, u4, u5, u6, u7, x8, x9, x10] : Array Value).setIfInBounds 8 u8 = #[u0, u1, u2, u3, u4, u5, u6, u7, u8, x9, x10] from rfl))
  have h9 : ((((((((((w.setCell ⟨B, 0, none⟩ u0).setCell ⟨B, 1, none⟩ u1).setCell ⟨B, 2, none⟩ u2).setCell ⟨B, 3, none⟩ u3).setCell ⟨B, 4, none⟩ u4).setCell ⟨B, 5, none⟩ u5).setCell ⟨B, 6, none⟩ u6).setCell ⟨B, 7, none⟩ u7).setCell ⟨B, 8, none⟩ u8).setCell ⟨B, 9, none⟩ u9).heap[B]? = some (.cells #[u0, u1, u2, u3, u4, u5, u6, u7, u8, u9, x10] t (0, 0)) := (heap_setCell_same _ B 9 _ t u9 h8).trans (congrArg (fun c => some (Obj.cells c t (0, 0))) (show (#[u0, u1, u2, u3, u4, u5, u6, u7, u8, x9, x10] : Array Value).setIfInBounds 9 u9 = #[u0, u1, u2, u3, u4, u5, u6, u7, u8, u9, x10] from rfl))
  have h10 : (((((((((((w.setCell ⟨B, 0, none⟩ u0).setCell ⟨B, 1, none⟩ u1).setCell ⟨B, 2, none⟩ u2).setCell ⟨B, 3, none⟩ u3).setCell ⟨B, 4, none⟩ u4).setCell ⟨B, 5, none⟩ u5).setCell ⟨B, 6, none⟩ u6).setCell ⟨B, 7, none⟩ u7).setCell ⟨B, 8, none⟩ u8).setCell ⟨B, 9, none⟩ u9).setCell ⟨B, 10, none⟩ u10).heap[B]? = some (.cells #[u0, u1, u2, u3, u4, u5, u6, u7, u8, u9, u10] t (0, 0)) := (heap_setCell_same _ B 10 _ t u10 h9).trans (congrArg (fun c => some (Obj.cells c t (0, 0))) (show (#[u0, u1, u2, u3, u4, u5, u6, u7, u8, u9, x10] : Array Value).setIfInBounds 10 u10 = #[u0, u1, u2, u3, u4, u5, u6, u7, u8, u9, u10] from rfl))
  exact h10
theorem put11_upd (w : World) (B : Nat) (u0 u1 u2 u3 u4 u5 u6 u7 u8 u9 u10 : Value) : Upd B B w (put11 w B u0 u1 u2 u3 u4 u5 u6 u7 u8 u9 u10) := by
  have u := fun (w : World) (i : Nat) (v : Value) => (show Upd B B w (w.setCell ⟨B, i, none⟩ v) from ⟨rfl, rfl, rfl, by simp, fun k hk h1 _ => heap_setCell_other w ⟨B, i, none⟩ k v h1⟩)
  exact (((((((((((u _ _ _).trans (u _ _ _)).trans (u _ _ _)).trans (u _ _ _)).trans (u _ _ _)).trans (u _ _ _)).trans (u _ _ _)).trans (u _ _ _)).trans (u _ _ _)).trans (u _ _ _)).trans (u _ _ _))
theorem row11_cells {w : World} {B : Nat} {t : TypeId} {x0 x1 x2 x3 x4 x5 x6 x7 x8 x9 x10 : Value} (h : w.heap[B]? = some (.cells #[x0, x1, x2, x3, x4, x5, x6, x7, x8, x9, x10] t (0, 0))) : w.cell? ⟨B, 0, none⟩ = some x0 ∧ w.cell? ⟨B, 1, none⟩ = some x1 ∧ w.cell? ⟨B, 2, none⟩ = some x2 ∧ w.cell? ⟨B, 3, none⟩ = some x3 ∧ w.cell? ⟨B, 4, none⟩ = some x4 ∧ w.cell? ⟨B, 5, none⟩ = some x5 ∧ w.cell? ⟨B, 6, none⟩ = some x6 ∧ w.cell? ⟨B, 7, none⟩ = some x7 ∧ w.cell? ⟨B, 8, none⟩ = some x8 ∧ w.cell? ⟨B, 9, none⟩ = some x9 ∧ w.cell? ⟨B, 10, none⟩ = some x10 := by
  refine ⟨?_, ?_, ?_, ?_, ?_, ?_, ?_, ?_, ?_, ?_, ?_⟩ <;> simp [World.cell?, h]
/-- A machine's box, and the result's place. -/
structure QD (w w' : World) (x0 x1 x2 x3 x4 x5 x6 x7 x8 x9 x10 : Value) : Prop where
  bel : Below w.heap.size w w'
  bm : w'.heap[w.heap.size]? = some (.cells #[x0, x1, x2, x3, x4, x5, x6, x7, x8, x9, x10] 49 (0, 0))
  br : w'.heap[w.heap.size + 1]? = some (.cells #[.int .i64 0, .int .i64 0, .int .i64 0, .int .i64 0, .int .i64 0, .int .i64 0, .int .u64 0, .int .u64 0, .int .u64 0, .bool false, .int .i64 0] 49 (0, 0))
section
variable {w w' w2 : World} {x0 x1 x2 x3 x4 x5 x6 x7 x8 x9 x10 u0 u1 u2 u3 u4 u5 u6 u7 u8 u9 u10 : Value}
theorem QD.step (k : QD w w' x0 x1 x2 x3 x4 x5 x6 x7 x8 x9 x10) (hb : Below w'.heap.size w' w2) : QD w w2 x0 x1 x2 x3 x4 x5 x6 x7 x8 x9 x10 :=
  ⟨below_step k.bel k.bel.size hb, (hb.block _ (Array.getElem?_eq_some_iff.1 k.bm).1).trans k.bm, (hb.block _ (Array.getElem?_eq_some_iff.1 k.br).1).trans k.br⟩
theorem QD.drew (k : QD w w' x0 x1 x2 x3 x4 x5 x6 x7 x8 x9 x10) : QD w w'.drew x0 x1 x2 x3 x4 x5 x6 x7 x8 x9 x10 := k.step (Below.refl _ _).drew
theorem QD.lt (k : QD w w' x0 x1 x2 x3 x4 x5 x6 x7 x8 x9 x10) : w.heap.size + 1 < w'.heap.size := (Array.getElem?_eq_some_iff.1 k.br).1
theorem QD.frr (k : QD w w' x0 x1 x2 x3 x4 x5 x6 x7 x8 x9 x10) (j : Nat) : w'.frozen? ⟨w.heap.size + 1, j, none⟩ = false := frozen_of_row w' _ j _ _ k.br
theorem QD.frm (k : QD w w' x0 x1 x2 x3 x4 x5 x6 x7 x8 x9 x10) (j : Nat) : w'.frozen? ⟨w.heap.size, j, none⟩ = false := frozen_of_row w' _ j _ _ k.bm
theorem QD.mc (k : QD w w' x0 x1 x2 x3 x4 x5 x6 x7 x8 x9 x10) : w'.cell? ⟨w.heap.size, 0, none⟩ = some x0 ∧ w'.cell? ⟨w.heap.size, 1, none⟩ = some x1 ∧ w'.cell? ⟨w.heap.size, 2, none⟩ = some x2 ∧ w'.cell? ⟨w.heap.size, 3, none⟩ = some x3 ∧ w'.cell? ⟨w.heap.size, 4, none⟩ = some x4 ∧ w'.cell? ⟨w.heap.size, 5, none⟩ = some x5 ∧ w'.cell? ⟨w.heap.size, 6, none⟩ = some x6 ∧ w'.cell? ⟨w.heap.size, 7, none⟩ = some x7 ∧ w'.cell? ⟨w.heap.size, 8, none⟩ = some x8 ∧ w'.cell? ⟨w.heap.size, 9, none⟩ = some x9 ∧ w'.cell? ⟨w.heap.size, 10, none⟩ = some x10 := row11_cells k.bm
theorem QD.res (k : QD w w' x0 x1 x2 x3 x4 x5 x6 x7 x8 x9 x10) : w'.cell? ⟨w.heap.size + 1, 0, none⟩ = some (.int .i64 0) ∧ w'.cell? ⟨w.heap.size + 1, 1, none⟩ = some (.int .i64 0) ∧ w'.cell? ⟨w.heap.size + 1, 2, none⟩ = some (.int .i64 0) ∧ w'.cell? ⟨w.heap.size + 1, 3, none⟩ = some (.int .i64 0) ∧ w'.cell? ⟨w.heap.size + 1, 4, none⟩ = some (.int .i64 0) ∧ w'.cell? ⟨w.heap.size + 1, 5, none⟩ = some (.int .i64 0) ∧ w'.cell? ⟨w.heap.size + 1, 6, none⟩ = some (.int .u64 0) ∧ w'.cell? ⟨w.heap.size + 1, 7, none⟩ = some (.int .u64 0) ∧ w'.cell? ⟨w.heap.size + 1, 8, none⟩ = some (.int .u64 0) ∧ w'.cell? ⟨w.heap.size + 1, 9, none⟩ = some (.bool false) ∧ w'.cell? ⟨w.heap.size + 1, 10, none⟩ = some (.int .i64 0) := row11_cells k.br
theorem QD.upd (k : QD w w' x0 x1 x2 x3 x4 x5 x6 x7 x8 x9 x10) (u : Upd w.heap.size w.heap.size w' w2) (h : w2.heap[w.heap.size]? = some (.cells #[u0, u1, u2, u3, u4, u5, u6, u7, u8, u9, u10] 49 (0, 0))) : QD w w2 u0 u1 u2 u3 u4 u5 u6 u7 u8 u9 u10 :=
  ⟨below_upd k.bel (Nat.le_refl _) u (by omega) (by omega), h, (u.block _ (Array.getElem?_eq_some_iff.1 k.br).1 (by omega) (by omega)).trans k.br⟩
theorem QD.set1 (k : QD w w' x0 x1 x2 x3 x4 x5 x6 x7 x8 x9 x10) (v : Value) : QD w (w'.setCell ⟨w.heap.size, 1, none⟩ v) x0 v x2 x3 x4 x5 x6 x7 x8 x9 x10 :=
  k.upd ⟨rfl, rfl, rfl, by simp, fun k hk h1 _ => heap_setCell_other w' ⟨w.heap.size, 1, none⟩ k v h1⟩ ((heap_setCell_same _ w.heap.size 1 _ 49 v k.bm).trans (congrArg (fun c => some (Obj.cells c 49 (0, 0))) (show (#[x0, x1, x2, x3, x4, x5, x6, x7, x8, x9, x10] : Array Value).setIfInBounds 1 v = #[x0, v, x2, x3, x4, x5, x6, x7, x8, x9, x10] from rfl)))
theorem QD.set6 (k : QD w w' x0 x1 x2 x3 x4 x5 x6 x7 x8 x9 x10) (v : Value) : QD w (w'.setCell ⟨w.heap.size, 6, none⟩ v) x0 x1 x2 x3 x4 x5 v x7 x8 x9 x10 :=
  k.upd ⟨rfl, rfl, rfl, by simp, fun k hk h1 _ => heap_setCell_other w' ⟨w.heap.size, 6, none⟩ k v h1⟩ ((heap_setCell_same _ w.heap.size 6 _ 49 v k.bm).trans (congrArg (fun c => some (Obj.cells c 49 (0, 0))) (show (#[x0, x1, x2, x3, x4, x5, x6, x7, x8, x9, x10] : Array Value).setIfInBounds 6 v = #[x0, x1, x2, x3, x4, x5, v, x7, x8, x9, x10] from rfl)))
theorem QD.set7 (k : QD w w' x0 x1 x2 x3 x4 x5 x6 x7 x8 x9 x10) (v : Value) : QD w (w'.setCell ⟨w.heap.size, 7, none⟩ v) x0 x1 x2 x3 x4 x5 x6 v x8 x9 x10 :=
  k.upd ⟨rfl, rfl, rfl, by simp, fun k hk h1 _ => heap_setCell_other w' ⟨w.heap.size, 7, none⟩ k v h1⟩ ((heap_setCell_same _ w.heap.size 7 _ 49 v k.bm).trans (congrArg (fun c => some (Obj.cells c 49 (0, 0))) (show (#[x0, x1, x2, x3, x4, x5, x6, x7, x8, x9, x10] : Array Value).setIfInBounds 7 v = #[x0, x1, x2, x3, x4, x5, x6, v, x8, x9, x10] from rfl)))
theorem QD.set8 (k : QD w w' x0 x1 x2 x3 x4 x5 x6 x7 x8 x9 x10) (v : Value) : QD w (w'.setCell ⟨w.heap.size, 8, none⟩ v) x0 x1 x2 x3 x4 x5 x6 x7 v x9 x10 :=
  k.upd ⟨rfl, rfl, rfl, by simp, fun k hk h1 _ => heap_setCell_other w' ⟨w.heap.size, 8, none⟩ k v h1⟩ ((heap_setCell_same _ w.heap.size 8 _ 49 v k.bm).trans (congrArg (fun c => some (Obj.cells c 49 (0, 0))) (show (#[x0, x1, x2, x3, x4, x5, x6, x7, x8, x9, x10] : Array Value).setIfInBounds 8 v = #[x0, x1, x2, x3, x4, x5, x6, x7, v, x9, x10] from rfl)))
theorem QD.putr (k : QD w w' x0 x1 x2 x3 x4 x5 x6 x7 x8 x9 x10) : (put11 w' (w.heap.size + 1) u0 u1 u2 u3 u4 u5 u6 u7 u8 u9 u10).cell? ⟨w.heap.size + 1, 0, none⟩ = some u0 ∧ (put11 w' (w.heap.size + 1) u0 u1 u2 u3 u4 u5 u6 u7 u8 u9 u10).cell? ⟨w.heap.size + 1, 1, none⟩ = some u1 ∧ (put11 w' (w.heap.size + 1) u0 u1 u2 u3 u4 u5 u6 u7 u8 u9 u10).cell? ⟨w.heap.size + 1, 2, none⟩ = some u2 ∧ (put11 w' (w.heap.size + 1) u0 u1 u2 u3 u4 u5 u6 u7 u8 u9 u10).cell? ⟨w.heap.size + 1, 3, none⟩ = some u3 ∧ (put11 w' (w.heap.size + 1) u0 u1 u2 u3 u4 u5 u6 u7 u8 u9 u10).cell? ⟨w.heap.size + 1, 4, none⟩ = some u4 ∧ (put11 w' (w.heap.size + 1) u0 u1 u2 u3 u4 u5 u6 u7 u8 u9 u10).cell? ⟨w.heap.size + 1, 5, none⟩ = some u5 ∧ (put11 w' (w.heap.size + 1) u0 u1 u2 u3 u4 u5 u6 u7 u8 u9 u10).cell? ⟨w.heap.size + 1, 6, none⟩ = some u6 ∧ (put11 w' (w.heap.size + 1) u0 u1 u2 u3 u4 u5 u6 u7 u8 u9 u10).cell? ⟨w.heap.size + 1, 7, none⟩ = some u7 ∧ (put11 w' (w.heap.size + 1) u0 u1 u2 u3 u4 u5 u6 u7 u8 u9 u10).cell? ⟨w.heap.size + 1, 8, none⟩ = some u8 ∧ (put11 w' (w.heap.size + 1) u0 u1 u2 u3 u4 u5 u6 u7 u8 u9 u10).cell? ⟨w.heap.size + 1, 9, none⟩ = some u9 ∧ (put11 w' (w.heap.size + 1) u0 u1 u2 u3 u4 u5 u6 u7 u8 u9 u10).cell? ⟨w.heap.size + 1, 10, none⟩ = some u10 :=
  row11_cells (put11_same w' (w.heap.size + 1) 49 _ _ _ _ _ _ _ _ _ _ _ k.br u0 u1 u2 u3 u4 u5 u6 u7 u8 u9 u10)
theorem QD.putb (k : QD w w' x0 x1 x2 x3 x4 x5 x6 x7 x8 x9 x10) : Below w.heap.size w (put11 w' (w.heap.size + 1) u0 u1 u2 u3 u4 u5 u6 u7 u8 u9 u10) := below_upd k.bel (Nat.le_refl _) (put11_upd w' (w.heap.size + 1) u0 u1 u2 u3 u4 u5 u6 u7 u8 u9 u10) (by omega) (by omega)
theorem QD.putm (k : QD w w' x0 x1 x2 x3 x4 x5 x6 x7 x8 x9 x10) : (put11 w' (w.heap.size + 1) u0 u1 u2 u3 u4 u5 u6 u7 u8 u9 u10).cell? ⟨w.heap.size, 0, none⟩ = some x0 ∧ (put11 w' (w.heap.size + 1) u0 u1 u2 u3 u4 u5 u6 u7 u8 u9 u10).cell? ⟨w.heap.size, 1, none⟩ = some x1 ∧ (put11 w' (w.heap.size + 1) u0 u1 u2 u3 u4 u5 u6 u7 u8 u9 u10).cell? ⟨w.heap.size, 2, none⟩ = some x2 ∧ (put11 w' (w.heap.size + 1) u0 u1 u2 u3 u4 u5 u6 u7 u8 u9 u10).cell? ⟨w.heap.size, 3, none⟩ = some x3 ∧ (put11 w' (w.heap.size + 1) u0 u1 u2 u3 u4 u5 u6 u7 u8 u9 u10).cell? ⟨w.heap.size, 4, none⟩ = some x4 ∧ (put11 w' (w.heap.size + 1) u0 u1 u2 u3 u4 u5 u6 u7 u8 u9 u10).cell? ⟨w.heap.size, 5, none⟩ = some x5 ∧ (put11 w' (w.heap.size + 1) u0 u1 u2 u3 u4 u5 u6 u7 u8 u9 u10).cell? ⟨w.heap.size, 6, none⟩ = some x6 ∧ (put11 w' (w.heap.size + 1) u0 u1 u2 u3 u4 u5 u6 u7 u8 u9 u10).cell? ⟨w.heap.size, 7, none⟩ = some x7 ∧ (put11 w' (w.heap.size + 1) u0 u1 u2 u3 u4 u5 u6 u7 u8 u9 u10).cell? ⟨w.heap.size, 8, none⟩ = some x8 ∧ (put11 w' (w.heap.size + 1) u0 u1 u2 u3 u4 u5 u6 u7 u8 u9 u10).cell? ⟨w.heap.size, 9, none⟩ = some x9 ∧ (put11 w' (w.heap.size + 1) u0 u1 u2 u3 u4 u5 u6 u7 u8 u9 u10).cell? ⟨w.heap.size, 10, none⟩ = some x10 :=
  row11_cells ((put11_upd w' (w.heap.size + 1) u0 u1 u2 u3 u4 u5 u6 u7 u8 u9 u10).block _ (Array.getElem?_eq_some_iff.1 k.bm).1 (by omega) (by omega) |>.trans k.bm)
theorem QD.new (w : World) (x0 x1 x2 x3 x4 x5 x6 x7 x8 x9 x10 : Value) : QD w ((w.alloc (.cells #[x0, x1, x2, x3, x4, x5, x6, x7, x8, x9, x10] 49)).alloc (.cells #[.int .i64 0, .int .i64 0, .int .i64 0, .int .i64 0, .int .i64 0, .int .i64 0, .int .u64 0, .int .u64 0, .int .u64 0, .bool false, .int .i64 0] 49)) x0 x1 x2 x3 x4 x5 x6 x7 x8 x9 x10 := by
  obtain ⟨W, hW⟩ : ∃ W, W = w.alloc (.cells #[x0, x1, x2, x3, x4, x5, x6, x7, x8, x9, x10] 49) := ⟨_, rfl⟩
  have e1 : W.heap.size = w.heap.size + 1 := by rw [hW]; simp
  have h0 : W.heap[w.heap.size]? = some (.cells #[x0, x1, x2, x3, x4, x5, x6, x7, x8, x9, x10] 49 (0, 0)) := by
    rw [hW]; exact Go.heap_alloc_new _ _
  have hb0 : Below w.heap.size w W := by rw [hW]; exact below_alloc0 (Below.refl _ _) _
  rw [← hW]
  have h2 : (W.alloc (.cells #[.int .i64 0, .int .i64 0, .int .i64 0, .int .i64 0, .int .i64 0, .int .i64 0, .int .u64 0, .int .u64 0, .int .u64 0, .bool false, .int .i64 0] 49)).heap[w.heap.size + 1]? = some (.cells #[.int .i64 0, .int .i64 0, .int .i64 0, .int .i64 0, .int .i64 0, .int .i64 0, .int .u64 0, .int .u64 0, .int .u64 0, .bool false, .int .i64 0] 49 (0, 0)) := by
    rw [← e1]; exact Go.heap_alloc_new _ _
  have hb2 : Below W.heap.size W (W.alloc (.cells #[.int .i64 0, .int .i64 0, .int .i64 0, .int .i64 0, .int .i64 0, .int .i64 0, .int .u64 0, .int .u64 0, .int .u64 0, .bool false, .int .i64 0] 49)) := below_alloc0 (Below.refl _ _) _
  exact ⟨below_step hb0 hb0.size hb2, (hb2.block _ (by rw [e1]; omega)).trans h0, h2⟩
end
/-- A row that is neither of the two. -/
theorem two {Q : Nat → Prop} {w w' : World} {R : Option Addr} {L : List Int} {b : Nat} (h : ReadsW (fun k => Q k ∧ k ≠ b ∧ k ≠ b + 1) w R L) {j : Nat} (hj : j = b ∨ j = b + 1) (u : Upd j j w w') : ReadsW (fun k => Q k ∧ k ≠ b ∧ k ≠ b + 1) w' R L :=
  h.upd u fun k hk _ => ⟨by have h1 := hk.2.1; have h2 := hk.2.2; omega, by have h1 := hk.2.1; have h2 := hk.2.2; omega, hk⟩
theorem upd_set1 (w : World) (B i : Nat) (v : Value) : Upd B B w (w.setCell ⟨B, i, none⟩ v) := ⟨rfl, rfl, rfl, by simp, fun k hk h1 _ => heap_setCell_other w ⟨B, i, none⟩ k v h1⟩
/-- A step's answer. -/
def SomeV (Q : Nat → Prop) (w : World) (n' : Nat) (L : List Int) (v : Value) (e : Ending) (w' : World) : Prop :=
  ∃ R cap, e = .returned (.tuple #[.slice R n' cap, v]) ∧ ReadsW Q w' R L ∧ Below w.heap.size w w'
abbrev enV0 (e : En) : Value := .agg #[.int .i64 e.top, .int .i64 e.bot, .int .i64 e.ent, .int .i64 e.room]
abbrev rdV (kd pc tp bt en rm b t w : Int) (won : Bool) (out : Int) : Value := .agg #[.int .i64 kd, .int .i64 pc, .int .i64 tp, .int .i64 bt, .int .i64 en, .int .i64 rm, .int .u64 b, .int .u64 t, .int .u64 w, .bool won, .int .i64 out]

set_option maxHeartbeats 1000000 in
theorem rdpush_any (e : En) (x : Int) (w : World) : Calls Tryz.prog 58 #[enV0 e, .int .u64 x] w fun a w' => a = .returned (rdV 1 1 e.top e.bot e.ent e.room 0 0 x false 0) ∧ Below w.heap.size w w' := by
  go_enter Tryz.func58, Tryz.ntmps58
  go_wp2_with (fail)
  exact bodyPost_ret (v := rdV 1 1 e.top e.bot e.ent e.room 0 0 x false 0) (by simp [results, Tryz.results58, go_sem]) rfl ⟨rfl, below_alloc0 (below_alloc0 (Below.refl _ _) _) _⟩
set_option maxHeartbeats 1000000 in
theorem rdend_any (kd pc tp bt en rm b t x : Int) (won : Bool) (out : Int) (o y : Int) (w : World) : Calls Tryz.prog 113 #[rdV kd pc tp bt en rm b t x won out, .int .i64 o, .int .u64 y] w fun a w' => a = .returned (rdV kd 0 0 0 0 0 0 0 y false o) ∧ Below w.heap.size w w' := by
  go_enter Tryz.func113, Tryz.ntmps113
  go_wp2_with (fail)
  exact bodyPost_ret (v := rdV kd 0 0 0 0 0 0 0 y false o) (by simp [results, Tryz.results113, go_sem]) rfl ⟨rfl, below_alloc0 (below_alloc0 (Below.refl _ _) _) _⟩
set_option maxHeartbeats 1000000 in
theorem rdroom_any (e : En) (h : e.room ≤ 1000000000) (w : World) : Calls Tryz.prog 112 #[enV0 e] w fun a w' => a = .returned (.int .u64 (roomOf e)) ∧ Below w.heap.size w w' := by
  by_cases h1 : e.room < 1
  · have d : decide (e.room < 1) = true := by simpa using h1
    have er : roomOf e = 1 := by unfold roomOf; rw [if_pos h1]
    rw [er]
    go_enter Tryz.func112, Tryz.ntmps112
    go_wp2_with (fail)
    go_ret
    exact ⟨rfl, below_alloc0 (Below.refl _ _) _⟩
  · have d : decide (e.room < 1) = false := by simpa using h1
    have er : roomOf e = e.room := by unfold roomOf; rw [if_neg h1]
    rw [er]
    have ew : IntKind.u64.wrap e.room = e.room := by rw [IntKind.wrap_u64]; omega
    go_enter Tryz.func112, Tryz.ntmps112
    go_wp2_with (fail)
    go_ret
    exact ⟨rfl, below_alloc0 (Below.refl _ _) _⟩
set_option maxHeartbeats 1000000 in
theorem rahead_any (a b : Int) (w : World) : Calls Tryz.prog 111 #[.int .u64 a, .int .u64 b] w fun e w' => e = .returned (.int .i64 (ahead a b)) ∧ w = w' := by
  obtain ⟨z, hz⟩ : ∃ z, IntKind.u64.wrap (a - b) = z := ⟨_, rfl⟩
  have hz2 : u64w (a - b) = z := by rw [← hz, IntKind.wrap_u64]; rfl
  have hb : 0 ≤ z ∧ z < 18446744073709551616 := by rw [← hz2]; unfold u64w; omega
  by_cases h : z < 9223372036854775808
  · have e : ahead a b = z := by unfold ahead; rw [hz2, if_pos h]
    have d : decide (z < 9223372036854775808) = true := by simpa using h
    have ew : IntKind.i64.wrap z = z := IntWalk.i64_in _ (by omega)
    rw [e]
    clear hz2 e
    go_enter Tryz.func111, Tryz.ntmps111
    go_wp2_with (fail)
    go_ret
    exact ⟨rfl, rfl⟩
  · have e : ahead a b = z - 18446744073709551616 := by unfold ahead; rw [hz2, if_neg h]
    have d : decide (z < 9223372036854775808) = false := by simpa using h
    have e1 : IntKind.u64.wrap (18446744073709551615 - z) = 18446744073709551615 - z := by rw [IntKind.wrap_u64]; omega
    have e2 : IntKind.i64.wrap (18446744073709551615 - z) = 18446744073709551615 - z := IntWalk.i64_in _ (by omega)
    have e3 : IntKind.i64.wrap (-(18446744073709551615 - z)) = -(18446744073709551615 - z) := IntWalk.i64_in _ (by omega)
    have e4 : IntKind.i64.wrap (-(18446744073709551615 - z) - 1) = -(18446744073709551615 - z) - 1 := IntWalk.i64_in _ (by omega)
    rw [e]
    clear hz2 e
    go_enter Tryz.func111, Tryz.ntmps111
    go_wp2_with (fail)
    go_ret
    exact ⟨ret_int (by omega), rfl⟩
set_option maxHeartbeats 1000000 in
theorem rentry_any (e : En) (x : Int) (ok : EnOk e) (hx : 0 ≤ x) (w : World) : Calls Tryz.prog 114 #[enV0 e, .int .u64 x] w fun a w' => a = .returned (.int .i64 (entOf e x)) ∧ Below w.heap.size w w' := by
  obtain ⟨r0, r1⟩ := ok.rm
  have h0 := ok.lo
  have h1 := ok.hi
  obtain ⟨Rm, hR⟩ : ∃ Rm, Rm = roomOf e := ⟨_, rfl⟩
  obtain ⟨z, hz⟩ : ∃ z, z = entOf e x := ⟨_, rfl⟩
  have hz2 := hz
  unfold entOf at hz2
  rw [← hz]
  rw [← hR] at hz2 r0 r1
  have m0 : 0 ≤ x % Rm := Int.emod_nonneg _ (by omega)
  have m1 : x % Rm < Rm := Int.emod_lt_of_pos _ (by omega)
  have e2 : x.tmod Rm = x % Rm := Int.tmod_eq_emod_of_nonneg hx
  obtain ⟨y, hy⟩ : ∃ y, y = x % Rm := ⟨_, rfl⟩
  rw [← hy] at e2 hz2 m0 m1
  have e3 : IntKind.i64.wrap y = y := by rw [IntKind.wrap_i64]; omega
  have e5 : IntKind.u64.wrap y = y := by rw [IntKind.wrap_u64]; omega
  have e4 : IntKind.i64.wrap (e.ent + y) = z := by rw [IntKind.wrap_i64]; omega
  have hne : (Rm == 0) = false := by rw [beq_eq_false_iff_ne]; omega
  have hne2 : ¬ Rm = 0 := by omega
  have HR := Lib.hid hR; have HRM := Lib.hid ok.room
  have HB0 := Lib.hid (below_alloc0 (Below.refl w.heap.size w) (.cells #[.int .i64 e.top, .int .i64 e.bot, .int .i64 e.ent, .int .i64 e.room] 47))
  have hcl : ∀ w', Below (w.heap.size + 1) (w.alloc (.cells #[.int .i64 e.top, .int .i64 e.bot, .int .i64 e.ent, .int .i64 e.room] 47)) w' → w'.cell? ⟨w.heap.size, 0, none⟩ = some (.int .i64 e.top) ∧ w'.cell? ⟨w.heap.size, 1, none⟩ = some (.int .i64 e.bot) ∧ w'.cell? ⟨w.heap.size, 2, none⟩ = some (.int .i64 e.ent) ∧ w'.cell? ⟨w.heap.size, 3, none⟩ = some (.int .i64 e.room) := fun w' hb => by
    have h : (w.alloc (.cells #[.int .i64 e.top, .int .i64 e.bot, .int .i64 e.ent, .int .i64 e.room] 47)).heap[w.heap.size]? = some (.cells #[.int .i64 e.top, .int .i64 e.bot, .int .i64 e.ent, .int .i64 e.room] 47 (0, 0)) := Array.getElem?_push_size
    have h2 := (hb.block _ (by omega)).trans h
    refine ⟨?_, ?_, ?_, ?_⟩ <;> simp [World.cell?, h2]
  obtain ⟨W, hW⟩ : ∃ W, W = w.alloc (.cells #[.int .i64 e.top, .int .i64 e.bot, .int .i64 e.ent, .int .i64 e.room] 47) := ⟨_, rfl⟩
  have hs : W.heap.size = w.heap.size + 1 := by rw [hW]; simp
  have HCL := Lib.hid hcl
  clear hy hz hR hcl
  rw [← hW] at HB0 HCL
  have HW := Lib.hid hW
  have HBD : Hid (Below (w.heap.size + 1) W W.drew) := Lib.hid (Below.refl _ _).drew
  obtain ⟨c0, c1, c2, c3⟩ := HCL.out _ (Below.refl _ _)
  clear hW
  go_enter Tryz.func114, Tryz.ntmps114
  go_wp2_with (fail)
  rw [← HW.out]
  go_region_held3 (fun w' => w'.cell? ⟨w.heap.size, 0, none⟩ = some (.int .i64 e.top) ∧ w'.cell? ⟨w.heap.size, 1, none⟩ = some (.int .i64 e.bot) ∧ w'.cell? ⟨w.heap.size, 2, none⟩ = some (.int .i64 e.ent) ∧ w'.cell? ⟨w.heap.size, 3, none⟩ = some (.int .i64 e.room))
    (first | exact HCL.out _ HB2.out | exact HCL.out _ HBD.out | go_keep)
    (first
      | (go_at_call 112; (with_reducible refine (rdroom_any e HRM.out _).mono ?_); rintro r w3 ⟨rfl, hb⟩; rw [← HR.out]; have HB2 : Hid (Below (w.heap.size + 1) W w3) := Lib.hid (HBD.out.trans (hb.mono (by show w.heap.size + 1 ≤ W.heap.size; omega))); clear hb)
      | fail)
  all_goals
    go_wp2_with (fail)
    go_ret
    exact ⟨ret_int hz2.symm, HB0.out.trans (HB2.out.mono (by omega))⟩

set_option maxHeartbeats 8000000 in
theorem rdp1 (Q : Nat → Prop) (e : En) (ok : EnOk e) (R : Option Addr) (n' capR : Nat) (L : List Int) (b t x : Int) (won : Bool) (out : Int) (w : World)
    (hn : n' = L.length) (hn2 : n' ≤ 1000000) (hR : ReadsW Q w R L) (hQ : ∀ b, w.heap.size ≤ b → Q b) :
    Calls Tryz.prog 87 #[.slice R n' capR, rdV 1 1 e.top e.bot e.ent e.room b t x won out] w (SomeV Q w n' L (rdV 1 2 e.top e.bot e.ent e.room (ldv L e.bot) t x won out)) := by
  have hqd := QD.new w (.int .i64 1) (.int .i64 1) (.int .i64 e.top) (.int .i64 e.bot) (.int .i64 e.ent) (.int .i64 e.room) (.int .u64 b) (.int .u64 t) (.int .u64 x) (.bool won) (.int .i64 out)
  have HQD := Lib.hid hqd
  obtain ⟨z0, z1, z2, z3, z4, z5, z6, z7, z8, z9, z10⟩ := hqd.mc
  have hfm := hqd.frm
  have hlt0 := hqd.lt
  have HN := Lib.hid hn; have HOK := Lib.hid ok
  have HQ := Lib.hid hQ
  have HR0 : Hid (ReadsW (fun k => Q k ∧ k ≠ w.heap.size ∧ k ≠ w.heap.size + 1) w R L) := Lib.hid (fun h0 => by
    obtain ⟨b, off, e, hb, hp, hc⟩ := hR h0
    exact ⟨b, off, e, hb, ⟨hp, by omega, by omega⟩, hc⟩)
  have HR1 := Lib.hid (HR0.out.below hqd.bel)
  obtain ⟨z, hz⟩ : ∃ z, z = ldv L e.bot := ⟨_, rfl⟩
  rw [← hz]
  have HZ := Lib.hid hz
  clear hz
  obtain ⟨W1, hW1⟩ : ∃ W1, W1 = ((w.alloc (.cells #[.int .i64 1, .int .i64 1, .int .i64 e.top, .int .i64 e.bot, .int .i64 e.ent, .int .i64 e.room, .int .u64 b, .int .u64 t, .int .u64 x, .bool won, .int .i64 out] 49)).alloc (.cells #[.int .i64 0, .int .i64 0, .int .i64 0, .int .i64 0, .int .i64 0, .int .i64 0, .int .u64 0, .int .u64 0, .int .u64 0, .bool false, .int .i64 0] 49)) := ⟨_, rfl⟩
  rw [← hW1] at HQD HR1 z0 z1 z2 z3 z4 z5 z6 z7 z8 z9 z10 hfm
  have HW1 := Lib.hid hW1
  clear hqd hn hR hQ ok
  go_enter Tryz.func87, Tryz.ntmps87
  go_wp2_with (fail)
  rw [← HW1.out]
  clear HW1 hW1
  go_wp2_with (first
    | (go_at_call 110; (with_reducible refine (rload_any R n' capR L e.bot _ HN.out HR1.out.reads).mono ?_); rintro r w4 ⟨rfl, rfl⟩; rw [← HZ.out])
    | fail)
  have hk : QD w ((W1.setCell ⟨w.heap.size, 6, none⟩ (.int .u64 z)).setCell ⟨w.heap.size, 1, none⟩ (.int .i64 2)) (.int .i64 1) (.int .i64 2) (.int .i64 e.top) (.int .i64 e.bot) (.int .i64 e.ent) (.int .i64 e.room) (.int .u64 z) (.int .u64 t) (.int .u64 x) (.bool won) (.int .i64 out) := ((HQD.out.set6 (.int .u64 z)).set1 (.int .i64 2))
  have hr4 : ReadsW (fun k => Q k ∧ k ≠ w.heap.size ∧ k ≠ w.heap.size + 1) ((W1.setCell ⟨w.heap.size, 6, none⟩ (.int .u64 z)).setCell ⟨w.heap.size, 1, none⟩ (.int .i64 2)) R L := (two (two HR1.out (.inl rfl) (upd_set1 _ w.heap.size 6 (.int .u64 z))) (.inl rfl) (upd_set1 _ w.heap.size 1 (.int .i64 2)))
  obtain ⟨W2, hW2⟩ : ∃ W2, W2 = ((W1.setCell ⟨w.heap.size, 6, none⟩ (.int .u64 z)).setCell ⟨w.heap.size, 1, none⟩ (.int .i64 2)) := ⟨_, rfl⟩
  rw [← hW2] at hk hr4 ⊢
  clear hW2 z0 z1 z2 z3 z4 z5 z6 z7 z8 z9 z10 hfm
  obtain ⟨z0, z1, z2, z3, z4, z5, z6, z7, z8, z9, z10⟩ := hk.mc
  obtain ⟨r0, r1, r2, r3, r4, r5, r6, r7, r8, r9, r10⟩ := hk.res
  have hfr := hk.frr
  have HK4 := Lib.hid hk; have HR6 := Lib.hid hr4
  clear hk hr4
  go_region
  go_wp2
  obtain ⟨e0, e1, e2, e3, e4, e5, e6, e7, e8, e9, e10⟩ := HK4.out.putr (u0 := .int .i64 1) (u1 := .int .i64 2) (u2 := .int .i64 e.top) (u3 := .int .i64 e.bot) (u4 := .int .i64 e.ent) (u5 := .int .i64 e.room) (u6 := .int .u64 z) (u7 := .int .u64 t) (u8 := .int .u64 x) (u9 := .bool won) (u10 := .int .i64 out)
  exact bodyPost_ret (v := .tuple #[.slice R n' capR, .agg #[.int .i64 1, .int .i64 2, .int .i64 e.top, .int .i64 e.bot, .int .i64 e.ent, .int .i64 e.room, .int .u64 z, .int .u64 t, .int .u64 x, .bool won, .int .i64 out]]) (by simp [results, Tryz.results87, go_sem, e0, e1, e2, e3, e4, e5, e6, e7, e8, e9, e10]) rfl ⟨_, _, rfl, (HR6.out.upd (put11_upd ..) fun b hb _ => ⟨hb.2.2, hb.2.2, hb.1⟩).below (Below.refl _ _).drew, HK4.out.putb.drew⟩

set_option maxHeartbeats 8000000 in
theorem rdp2m (Q : Nat → Prop) (e : En) (ok : EnOk e) (R : Option Addr) (n' capR : Nat) (L : List Int) (b t x : Int) (won : Bool) (out : Int) (w : World)
    (hn : n' = L.length) (hn2 : n' ≤ 1000000) (hR : ReadsW Q w R L) (hQ : ∀ b, w.heap.size ≤ b → Q b) (hc : ¬ roomOf e ≤ ahead b (ldv L e.top)) (hneg : ahead b (ldv L e.top) < 0) :
    Calls Tryz.prog 87 #[.slice R n' capR, rdV 1 2 e.top e.bot e.ent e.room b t x won out] w (SomeV Q w n' L (rdV 1 3 e.top e.bot e.ent e.room b (ldv L e.top) x won out)) := by
  have hqd := QD.new w (.int .i64 1) (.int .i64 2) (.int .i64 e.top) (.int .i64 e.bot) (.int .i64 e.ent) (.int .i64 e.room) (.int .u64 b) (.int .u64 t) (.int .u64 x) (.bool won) (.int .i64 out)
  have HQD := Lib.hid hqd
  obtain ⟨z0, z1, z2, z3, z4, z5, z6, z7, z8, z9, z10⟩ := hqd.mc
  have hfm := hqd.frm
  have hlt0 := hqd.lt
  have HN := Lib.hid hn; have HOK := Lib.hid ok
  have HQ := Lib.hid hQ
  have HR0 : Hid (ReadsW (fun k => Q k ∧ k ≠ w.heap.size ∧ k ≠ w.heap.size + 1) w R L) := Lib.hid (fun h0 => by
    obtain ⟨b, off, e, hb, hp, hc⟩ := hR h0
    exact ⟨b, off, e, hb, ⟨hp, by omega, by omega⟩, hc⟩)
  have HR1 := Lib.hid (HR0.out.below hqd.bel)
  obtain ⟨z, hz⟩ : ∃ z, z = ldv L e.top := ⟨_, rfl⟩
  rw [← hz] at hc ⊢
  have HZ := Lib.hid hz
  obtain ⟨d, hd⟩ : ∃ d, d = ahead b z := ⟨_, rfl⟩
  rw [← hz] at hneg
  rw [← hd] at hc hneg
  have HD := Lib.hid hd
  obtain ⟨Rm, hRm⟩ : ∃ Rm, Rm = roomOf e := ⟨_, rfl⟩
  rw [← hRm] at hc
  have hr1 := ok.rm
  rw [← hRm] at hr1
  have HRm := Lib.hid hRm
  have hdb : d ≤ 9223372036854775807 := by rw [hd]; unfold ahead u64w; split <;> omega
  have HROK := Lib.hid ok.room
  have d1 : decide (d ≥ 0) = false := by simp; omega
  clear hd hRm hz
  obtain ⟨W1, hW1⟩ : ∃ W1, W1 = ((w.alloc (.cells #[.int .i64 1, .int .i64 2, .int .i64 e.top, .int .i64 e.bot, .int .i64 e.ent, .int .i64 e.room, .int .u64 b, .int .u64 t, .int .u64 x, .bool won, .int .i64 out] 49)).alloc (.cells #[.int .i64 0, .int .i64 0, .int .i64 0, .int .i64 0, .int .i64 0, .int .i64 0, .int .u64 0, .int .u64 0, .int .u64 0, .bool false, .int .i64 0] 49)) := ⟨_, rfl⟩
  rw [← hW1] at HQD HR1 z0 z1 z2 z3 z4 z5 z6 z7 z8 z9 z10 hfm
  have HW1 := Lib.hid hW1
  clear hqd hn hR hQ ok
  go_enter Tryz.func87, Tryz.ntmps87
  go_wp2_with (fail)
  rw [← HW1.out]
  clear HW1 hW1
  go_wp2_with (first
    | (go_at_call 110; (with_reducible refine (rload_any R n' capR L e.top _ HN.out HR1.out.reads).mono ?_); rintro r w4 ⟨rfl, rfl⟩; rw [← HZ.out])
    | (go_at_call 111; (with_reducible refine (rahead_any _ _ _).mono ?_); rintro r w4 ⟨rfl, hw⟩; cases hw; rw [← HD.out])
    | (go_at_call 112; (with_reducible refine (rdroom_any e HROK.out _).mono ?_); rintro r w5 ⟨rfl, hb⟩; rw [← HRm.out]; have HQ2 := Lib.hid ((HQD.out.set7 (.int .u64 z)).step hb); have HR2 := Lib.hid ((two HR1.out (.inl rfl) (upd_set1 _ w.heap.size 7 (.int .u64 z))).below hb); clear hb z0 z1 z2 z3 z4 z5 z6 z7 z8 z9 z10 hfm; obtain ⟨z0, z1, z2, z3, z4, z5, z6, z7, z8, z9, z10⟩ := HQ2.out.mc; have hfm := HQ2.out.frm)
    | fail)
  have hk : QD w ((W1.setCell ⟨w.heap.size, 7, none⟩ (.int .u64 z)).setCell ⟨w.heap.size, 1, none⟩ (.int .i64 3)) (.int .i64 1) (.int .i64 3) (.int .i64 e.top) (.int .i64 e.bot) (.int .i64 e.ent) (.int .i64 e.room) (.int .u64 b) (.int .u64 z) (.int .u64 x) (.bool won) (.int .i64 out) := ((HQD.out.set7 (.int .u64 z)).set1 (.int .i64 3))
  have hr4 : ReadsW (fun k => Q k ∧ k ≠ w.heap.size ∧ k ≠ w.heap.size + 1) ((W1.setCell ⟨w.heap.size, 7, none⟩ (.int .u64 z)).setCell ⟨w.heap.size, 1, none⟩ (.int .i64 3)) R L := (two (two HR1.out (.inl rfl) (upd_set1 _ w.heap.size 7 (.int .u64 z))) (.inl rfl) (upd_set1 _ w.heap.size 1 (.int .i64 3)))
  obtain ⟨W2, hW2⟩ : ∃ W2, W2 = ((W1.setCell ⟨w.heap.size, 7, none⟩ (.int .u64 z)).setCell ⟨w.heap.size, 1, none⟩ (.int .i64 3)) := ⟨_, rfl⟩
  rw [← hW2] at hk hr4 ⊢
  clear hW2 z0 z1 z2 z3 z4 z5 z6 z7 z8 z9 z10 hfm
  obtain ⟨z0, z1, z2, z3, z4, z5, z6, z7, z8, z9, z10⟩ := hk.mc
  obtain ⟨r0, r1, r2, r3, r4, r5, r6, r7, r8, r9, r10⟩ := hk.res
  have hfr := hk.frr
  have HK4 := Lib.hid hk; have HR6 := Lib.hid hr4
  clear hk hr4
  go_region
  go_wp2
  obtain ⟨e0, e1, e2, e3, e4, e5, e6, e7, e8, e9, e10⟩ := HK4.out.putr (u0 := .int .i64 1) (u1 := .int .i64 3) (u2 := .int .i64 e.top) (u3 := .int .i64 e.bot) (u4 := .int .i64 e.ent) (u5 := .int .i64 e.room) (u6 := .int .u64 b) (u7 := .int .u64 z) (u8 := .int .u64 x) (u9 := .bool won) (u10 := .int .i64 out)
  exact bodyPost_ret (v := .tuple #[.slice R n' capR, .agg #[.int .i64 1, .int .i64 3, .int .i64 e.top, .int .i64 e.bot, .int .i64 e.ent, .int .i64 e.room, .int .u64 b, .int .u64 z, .int .u64 x, .bool won, .int .i64 out]]) (by simp [results, Tryz.results87, go_sem, e0, e1, e2, e3, e4, e5, e6, e7, e8, e9, e10]) rfl ⟨_, _, rfl, (HR6.out.upd (put11_upd ..) fun b hb _ => ⟨hb.2.2, hb.2.2, hb.1⟩).below (Below.refl _ _).drew, HK4.out.putb.drew⟩

set_option maxHeartbeats 8000000 in
theorem rdp2n (Q : Nat → Prop) (e : En) (ok : EnOk e) (R : Option Addr) (n' capR : Nat) (L : List Int) (b t x : Int) (won : Bool) (out : Int) (w : World)
    (hn : n' = L.length) (hn2 : n' ≤ 1000000) (hR : ReadsW Q w R L) (hQ : ∀ b, w.heap.size ≤ b → Q b) (hc : ¬ roomOf e ≤ ahead b (ldv L e.top)) (hneg : 0 ≤ ahead b (ldv L e.top)) :
    Calls Tryz.prog 87 #[.slice R n' capR, rdV 1 2 e.top e.bot e.ent e.room b t x won out] w (SomeV Q w n' L (rdV 1 3 e.top e.bot e.ent e.room b (ldv L e.top) x won out)) := by
  have hqd := QD.new w (.int .i64 1) (.int .i64 2) (.int .i64 e.top) (.int .i64 e.bot) (.int .i64 e.ent) (.int .i64 e.room) (.int .u64 b) (.int .u64 t) (.int .u64 x) (.bool won) (.int .i64 out)
  have HQD := Lib.hid hqd
  obtain ⟨z0, z1, z2, z3, z4, z5, z6, z7, z8, z9, z10⟩ := hqd.mc
  have hfm := hqd.frm
  have hlt0 := hqd.lt
  have HN := Lib.hid hn; have HOK := Lib.hid ok
  have HQ := Lib.hid hQ
  have HR0 : Hid (ReadsW (fun k => Q k ∧ k ≠ w.heap.size ∧ k ≠ w.heap.size + 1) w R L) := Lib.hid (fun h0 => by
    obtain ⟨b, off, e, hb, hp, hc⟩ := hR h0
    exact ⟨b, off, e, hb, ⟨hp, by omega, by omega⟩, hc⟩)
  have HR1 := Lib.hid (HR0.out.below hqd.bel)
  obtain ⟨z, hz⟩ : ∃ z, z = ldv L e.top := ⟨_, rfl⟩
  rw [← hz] at hc ⊢
  have HZ := Lib.hid hz
  obtain ⟨d, hd⟩ : ∃ d, d = ahead b z := ⟨_, rfl⟩
  rw [← hz] at hneg
  rw [← hd] at hc hneg
  have HD := Lib.hid hd
  obtain ⟨Rm, hRm⟩ : ∃ Rm, Rm = roomOf e := ⟨_, rfl⟩
  rw [← hRm] at hc
  have hr1 := ok.rm
  rw [← hRm] at hr1
  have HRm := Lib.hid hRm
  have hdb : d ≤ 9223372036854775807 := by rw [hd]; unfold ahead u64w; split <;> omega
  have HROK := Lib.hid ok.room
  have d1 : decide (d ≥ 0) = true := by simp; omega
  have ew : IntKind.u64.wrap d = d := by rw [IntKind.wrap_u64]; omega
  have d2 : decide (d ≥ Rm) = false := by simp; omega
  clear hd hRm hz
  obtain ⟨W1, hW1⟩ : ∃ W1, W1 = ((w.alloc (.cells #[.int .i64 1, .int .i64 2, .int .i64 e.top, .int .i64 e.bot, .int .i64 e.ent, .int .i64 e.room, .int .u64 b, .int .u64 t, .int .u64 x, .bool won, .int .i64 out] 49)).alloc (.cells #[.int .i64 0, .int .i64 0, .int .i64 0, .int .i64 0, .int .i64 0, .int .i64 0, .int .u64 0, .int .u64 0, .int .u64 0, .bool false, .int .i64 0] 49)) := ⟨_, rfl⟩
  rw [← hW1] at HQD HR1 z0 z1 z2 z3 z4 z5 z6 z7 z8 z9 z10 hfm
  have HW1 := Lib.hid hW1
  clear hqd hn hR hQ ok
  go_enter Tryz.func87, Tryz.ntmps87
  go_wp2_with (fail)
  rw [← HW1.out]
  clear HW1 hW1
  go_wp2_with (first
    | (go_at_call 110; (with_reducible refine (rload_any R n' capR L e.top _ HN.out HR1.out.reads).mono ?_); rintro r w4 ⟨rfl, rfl⟩; rw [← HZ.out])
    | (go_at_call 111; (with_reducible refine (rahead_any _ _ _).mono ?_); rintro r w4 ⟨rfl, hw⟩; cases hw; rw [← HD.out])
    | (go_at_call 112; (with_reducible refine (rdroom_any e HROK.out _).mono ?_); rintro r w5 ⟨rfl, hb⟩; rw [← HRm.out]; have HQ2 := Lib.hid ((HQD.out.set7 (.int .u64 z)).step hb); have HR2 := Lib.hid ((two HR1.out (.inl rfl) (upd_set1 _ w.heap.size 7 (.int .u64 z))).below hb); clear hb z0 z1 z2 z3 z4 z5 z6 z7 z8 z9 z10 hfm; obtain ⟨z0, z1, z2, z3, z4, z5, z6, z7, z8, z9, z10⟩ := HQ2.out.mc; have hfm := HQ2.out.frm)
    | fail)
  have hk : QD w (w5.setCell ⟨w.heap.size, 1, none⟩ (.int .i64 3)) (.int .i64 1) (.int .i64 3) (.int .i64 e.top) (.int .i64 e.bot) (.int .i64 e.ent) (.int .i64 e.room) (.int .u64 b) (.int .u64 z) (.int .u64 x) (.bool won) (.int .i64 out) := (HQ2.out.set1 (.int .i64 3))
  have hr4 : ReadsW (fun k => Q k ∧ k ≠ w.heap.size ∧ k ≠ w.heap.size + 1) (w5.setCell ⟨w.heap.size, 1, none⟩ (.int .i64 3)) R L := (two HR2.out (.inl rfl) (upd_set1 _ w.heap.size 1 (.int .i64 3)))
  obtain ⟨W2, hW2⟩ : ∃ W2, W2 = (w5.setCell ⟨w.heap.size, 1, none⟩ (.int .i64 3)) := ⟨_, rfl⟩
  rw [← hW2] at hk hr4 ⊢
  clear hW2 z0 z1 z2 z3 z4 z5 z6 z7 z8 z9 z10 hfm
  obtain ⟨z0, z1, z2, z3, z4, z5, z6, z7, z8, z9, z10⟩ := hk.mc
  obtain ⟨r0, r1, r2, r3, r4, r5, r6, r7, r8, r9, r10⟩ := hk.res
  have hfr := hk.frr
  have HK4 := Lib.hid hk; have HR6 := Lib.hid hr4
  clear hk hr4
  go_region
  go_wp2
  obtain ⟨e0, e1, e2, e3, e4, e5, e6, e7, e8, e9, e10⟩ := HK4.out.putr (u0 := .int .i64 1) (u1 := .int .i64 3) (u2 := .int .i64 e.top) (u3 := .int .i64 e.bot) (u4 := .int .i64 e.ent) (u5 := .int .i64 e.room) (u6 := .int .u64 b) (u7 := .int .u64 z) (u8 := .int .u64 x) (u9 := .bool won) (u10 := .int .i64 out)
  exact bodyPost_ret (v := .tuple #[.slice R n' capR, .agg #[.int .i64 1, .int .i64 3, .int .i64 e.top, .int .i64 e.bot, .int .i64 e.ent, .int .i64 e.room, .int .u64 b, .int .u64 z, .int .u64 x, .bool won, .int .i64 out]]) (by simp [results, Tryz.results87, go_sem, e0, e1, e2, e3, e4, e5, e6, e7, e8, e9, e10]) rfl ⟨_, _, rfl, (HR6.out.upd (put11_upd ..) fun b hb _ => ⟨hb.2.2, hb.2.2, hb.1⟩).below (Below.refl _ _).drew, HK4.out.putb.drew⟩

set_option maxHeartbeats 8000000 in
theorem rdp2y (Q : Nat → Prop) (e : En) (ok : EnOk e) (R : Option Addr) (n' capR : Nat) (L : List Int) (b t x : Int) (won : Bool) (out : Int) (w : World)
    (hn : n' = L.length) (hn2 : n' ≤ 1000000) (hR : ReadsW Q w R L) (hQ : ∀ b, w.heap.size ≤ b → Q b) (hc : roomOf e ≤ ahead b (ldv L e.top)) :
    Calls Tryz.prog 87 #[.slice R n' capR, rdV 1 2 e.top e.bot e.ent e.room b t x won out] w (SomeV Q w n' L (rdV 1 0 0 0 0 0 0 0 0 false 2)) := by
  have hqd := QD.new w (.int .i64 1) (.int .i64 2) (.int .i64 e.top) (.int .i64 e.bot) (.int .i64 e.ent) (.int .i64 e.room) (.int .u64 b) (.int .u64 t) (.int .u64 x) (.bool won) (.int .i64 out)
  have HQD := Lib.hid hqd
  obtain ⟨z0, z1, z2, z3, z4, z5, z6, z7, z8, z9, z10⟩ := hqd.mc
  have hfm := hqd.frm
  have hlt0 := hqd.lt
  have HN := Lib.hid hn; have HOK := Lib.hid ok
  have HQ := Lib.hid hQ
  have HR0 : Hid (ReadsW (fun k => Q k ∧ k ≠ w.heap.size ∧ k ≠ w.heap.size + 1) w R L) := Lib.hid (fun h0 => by
    obtain ⟨b, off, e, hb, hp, hc⟩ := hR h0
    exact ⟨b, off, e, hb, ⟨hp, by omega, by omega⟩, hc⟩)
  have HR1 := Lib.hid (HR0.out.below hqd.bel)
  obtain ⟨z, hz⟩ : ∃ z, z = ldv L e.top := ⟨_, rfl⟩
  rw [← hz] at hc
  have HZ := Lib.hid hz
  obtain ⟨d, hd⟩ : ∃ d, d = ahead b z := ⟨_, rfl⟩
  rw [← hd] at hc
  have HD := Lib.hid hd
  obtain ⟨Rm, hRm⟩ : ∃ Rm, Rm = roomOf e := ⟨_, rfl⟩
  rw [← hRm] at hc
  have hr1 := ok.rm
  rw [← hRm] at hr1
  have HRm := Lib.hid hRm
  have hdb : d ≤ 9223372036854775807 := by rw [hd]; unfold ahead u64w; split <;> omega
  have HROK := Lib.hid ok.room
  have d1 : decide (d ≥ 0) = true := by simp; omega
  have ew : IntKind.u64.wrap d = d := by rw [IntKind.wrap_u64]; omega
  have d2 : decide (d ≥ Rm) = true := by simp; omega
  clear hd hRm hz
  obtain ⟨W1, hW1⟩ : ∃ W1, W1 = ((w.alloc (.cells #[.int .i64 1, .int .i64 2, .int .i64 e.top, .int .i64 e.bot, .int .i64 e.ent, .int .i64 e.room, .int .u64 b, .int .u64 t, .int .u64 x, .bool won, .int .i64 out] 49)).alloc (.cells #[.int .i64 0, .int .i64 0, .int .i64 0, .int .i64 0, .int .i64 0, .int .i64 0, .int .u64 0, .int .u64 0, .int .u64 0, .bool false, .int .i64 0] 49)) := ⟨_, rfl⟩
  rw [← hW1] at HQD HR1 z0 z1 z2 z3 z4 z5 z6 z7 z8 z9 z10 hfm
  have HW1 := Lib.hid hW1
  clear hqd hn hR hQ ok
  go_enter Tryz.func87, Tryz.ntmps87
  go_wp2_with (fail)
  rw [← HW1.out]
  clear HW1 hW1
  go_wp2_with (first
    | (go_at_call 110; (with_reducible refine (rload_any R n' capR L e.top _ HN.out HR1.out.reads).mono ?_); rintro r w4 ⟨rfl, rfl⟩; rw [← HZ.out])
    | (go_at_call 111; (with_reducible refine (rahead_any _ _ _).mono ?_); rintro r w4 ⟨rfl, hw⟩; cases hw; rw [← HD.out])
    | (go_at_call 112; (with_reducible refine (rdroom_any e HROK.out _).mono ?_); rintro r w5 ⟨rfl, hb⟩; rw [← HRm.out]; have HQ2 := Lib.hid ((HQD.out.set7 (.int .u64 z)).step hb); have HR2 := Lib.hid ((two HR1.out (.inl rfl) (upd_set1 _ w.heap.size 7 (.int .u64 z))).below hb); clear hb z0 z1 z2 z3 z4 z5 z6 z7 z8 z9 z10 hfm; obtain ⟨z0, z1, z2, z3, z4, z5, z6, z7, z8, z9, z10⟩ := HQ2.out.mc; have hfm := HQ2.out.frm)
    | (go_at_call 113; (with_reducible refine (rdend_any _ _ _ _ _ _ _ _ _ _ _ _ _ _).mono ?_); rintro r w6 ⟨rfl, hb⟩; have HQ3 := Lib.hid (HQ2.out.step hb); have HR3 := Lib.hid (HR2.out.below hb); clear hb z0 z1 z2 z3 z4 z5 z6 z7 z8 z9 z10 hfm; obtain ⟨r0, r1, r2, r3, r4, r5, r6, r7, r8, r9, r10⟩ := HQ3.out.res; have hfr := HQ3.out.frr)
    | fail)
  obtain ⟨e0, e1, e2, e3, e4, e5, e6, e7, e8, e9, e10⟩ := HQ3.out.putr (u0 := .int .i64 1) (u1 := .int .i64 0) (u2 := .int .i64 0) (u3 := .int .i64 0) (u4 := .int .i64 0) (u5 := .int .i64 0) (u6 := .int .u64 0) (u7 := .int .u64 0) (u8 := .int .u64 0) (u9 := .bool false) (u10 := .int .i64 2)
  exact bodyPost_ret (v := .tuple #[.slice R n' capR, .agg #[.int .i64 1, .int .i64 0, .int .i64 0, .int .i64 0, .int .i64 0, .int .i64 0, .int .u64 0, .int .u64 0, .int .u64 0, .bool false, .int .i64 2]]) (by simp [results, Tryz.results87, go_sem, e0, e1, e2, e3, e4, e5, e6, e7, e8, e9, e10]) rfl ⟨_, _, rfl, HR3.out.upd (put11_upd ..) fun b hb _ => ⟨hb.2.2, hb.2.2, hb.1⟩, HQ3.out.putb⟩

set_option maxHeartbeats 8000000 in
theorem rdp3 (Q : Nat → Prop) (e : En) (ok : EnOk e) (R : Option Addr) (n' capR : Nat) (L : List Int) (b t x : Int) (won : Bool) (out : Int) (w : World)
    (hn : n' = L.length) (hn2 : n' ≤ 1000000) (hR : ReadsW Q w R L) (hQ : ∀ b, w.heap.size ≤ b → Q b) (hb0 : 0 ≤ b) :
    Calls Tryz.prog 87 #[.slice R n' capR, rdV 1 3 e.top e.bot e.ent e.room b t x won out] w (SomeV Q w n' (ptv L (entOf e b) x) (rdV 1 4 e.top e.bot e.ent e.room b t x won out)) := by
  have hqd := QD.new w (.int .i64 1) (.int .i64 3) (.int .i64 e.top) (.int .i64 e.bot) (.int .i64 e.ent) (.int .i64 e.room) (.int .u64 b) (.int .u64 t) (.int .u64 x) (.bool won) (.int .i64 out)
  have HQD := Lib.hid hqd
  obtain ⟨z0, z1, z2, z3, z4, z5, z6, z7, z8, z9, z10⟩ := hqd.mc
  have hfm := hqd.frm
  have hlt0 := hqd.lt
  have HN := Lib.hid hn; have HOK := Lib.hid ok
  have HQ := Lib.hid hQ
  have HR0 : Hid (ReadsW (fun k => Q k ∧ k ≠ w.heap.size ∧ k ≠ w.heap.size + 1) w R L) := Lib.hid (fun h0 => by
    obtain ⟨b, off, e, hb, hp, hc⟩ := hR h0
    exact ⟨b, off, e, hb, ⟨hp, by omega, by omega⟩, hc⟩)
  have HR1 := Lib.hid (HR0.out.below hqd.bel)
  obtain ⟨W1, hW1⟩ : ∃ W1, W1 = ((w.alloc (.cells #[.int .i64 1, .int .i64 3, .int .i64 e.top, .int .i64 e.bot, .int .i64 e.ent, .int .i64 e.room, .int .u64 b, .int .u64 t, .int .u64 x, .bool won, .int .i64 out] 49)).alloc (.cells #[.int .i64 0, .int .i64 0, .int .i64 0, .int .i64 0, .int .i64 0, .int .i64 0, .int .u64 0, .int .u64 0, .int .u64 0, .bool false, .int .i64 0] 49)) := ⟨_, rfl⟩
  rw [← hW1] at HQD HR1 z0 z1 z2 z3 z4 z5 z6 z7 z8 z9 z10 hfm
  have HW1 := Lib.hid hW1
  have HQDD := Lib.hid HQD.out.drew
  have HRD := Lib.hid (HR1.out.below (Below.refl _ _).drew)
  clear hqd hn hR hQ ok
  go_enter Tryz.func87, Tryz.ntmps87
  go_wp2_with (fail)
  rw [← HW1.out]
  clear HW1 hW1
  go_wp2_with (fail)
  go_region_held3 (fun w' => w'.cell? ⟨w.heap.size, 0, none⟩ = some (.int .i64 1) ∧ w'.cell? ⟨w.heap.size, 1, none⟩ = some (.int .i64 3) ∧ w'.cell? ⟨w.heap.size, 2, none⟩ = some (.int .i64 e.top) ∧ w'.cell? ⟨w.heap.size, 3, none⟩ = some (.int .i64 e.bot) ∧ w'.cell? ⟨w.heap.size, 4, none⟩ = some (.int .i64 e.ent) ∧ w'.cell? ⟨w.heap.size, 5, none⟩ = some (.int .i64 e.room) ∧ w'.cell? ⟨w.heap.size, 6, none⟩ = some (.int .u64 b) ∧ w'.cell? ⟨w.heap.size, 7, none⟩ = some (.int .u64 t) ∧ w'.cell? ⟨w.heap.size, 8, none⟩ = some (.int .u64 x) ∧ w'.cell? ⟨w.heap.size, 9, none⟩ = some (.bool won) ∧ w'.cell? ⟨w.heap.size, 10, none⟩ = some (.int .i64 out))
    (first | (with_reducible exact HQ3.out.mc) | (with_reducible exact HQ2.out.mc) | (with_reducible exact HQDD.out.mc) | go_keep)
    (first
      | (go_at_call 114; (with_reducible refine (rentry_any e b HOK.out hb0 _).mono ?_); rintro r w4 ⟨rfl, hb⟩; have HQ2 := Lib.hid (HQDD.out.step hb); have HR2 := Lib.hid (HRD.out.below hb); clear hb)
      | (go_at_call 26; (with_reducible refine (rput_any (fun k => Q k ∧ k ≠ w.heap.size ∧ k ≠ w.heap.size + 1) R n' capR L (entOf e b) x _ HN.out hn2 HR2.out (fun b hb => by have := HQ2.out.lt; exact ⟨HQ.out b (by omega), by omega, by omega⟩)).mono ?_); rintro r w5 ⟨R2, cap2, rfl, hx, hb⟩; have HQ3 := Lib.hid (HQ2.out.step hb); have HR3 := Lib.hid hx; clear hb hx z0 z1 z2 z3 z4 z5 z6 z7 z8 z9 z10 hfm; obtain ⟨z0, z1, z2, z3, z4, z5, z6, z7, z8, z9, z10⟩ := HQ3.out.mc; have hfm := HQ3.out.frm)
      | fail)
  all_goals
    go_wp2_with (fail)
    have hk : QD w (w5.setCell ⟨w.heap.size, 1, none⟩ (.int .i64 4)) (.int .i64 1) (.int .i64 4) (.int .i64 e.top) (.int .i64 e.bot) (.int .i64 e.ent) (.int .i64 e.room) (.int .u64 b) (.int .u64 t) (.int .u64 x) (.bool won) (.int .i64 out) := (HQ3.out.set1 (.int .i64 4))
    have hr4 : ReadsW (fun k => Q k ∧ k ≠ w.heap.size ∧ k ≠ w.heap.size + 1) (w5.setCell ⟨w.heap.size, 1, none⟩ (.int .i64 4)) R2 (ptv L (entOf e b) x) := (two HR3.out (.inl rfl) (upd_set1 _ w.heap.size 1 (.int .i64 4)))
    obtain ⟨W2, hW2⟩ : ∃ W2, W2 = (w5.setCell ⟨w.heap.size, 1, none⟩ (.int .i64 4)) := ⟨_, rfl⟩
    rw [← hW2] at hk hr4 ⊢
    clear hW2 z0 z1 z2 z3 z4 z5 z6 z7 z8 z9 z10 hfm
    obtain ⟨z0, z1, z2, z3, z4, z5, z6, z7, z8, z9, z10⟩ := hk.mc
    obtain ⟨r0, r1, r2, r3, r4, r5, r6, r7, r8, r9, r10⟩ := hk.res
    have hfr := hk.frr
    have HK4 := Lib.hid hk; have HR6 := Lib.hid hr4
    clear hk hr4
    go_region
    go_wp2
    obtain ⟨e0, e1, e2, e3, e4, e5, e6, e7, e8, e9, e10⟩ := HK4.out.putr (u0 := .int .i64 1) (u1 := .int .i64 4) (u2 := .int .i64 e.top) (u3 := .int .i64 e.bot) (u4 := .int .i64 e.ent) (u5 := .int .i64 e.room) (u6 := .int .u64 b) (u7 := .int .u64 t) (u8 := .int .u64 x) (u9 := .bool won) (u10 := .int .i64 out)
    exact bodyPost_ret (v := .tuple #[.slice R2 n' cap2, .agg #[.int .i64 1, .int .i64 4, .int .i64 e.top, .int .i64 e.bot, .int .i64 e.ent, .int .i64 e.room, .int .u64 b, .int .u64 t, .int .u64 x, .bool won, .int .i64 out]]) (by simp [results, Tryz.results87, go_sem, e0, e1, e2, e3, e4, e5, e6, e7, e8, e9, e10]) rfl ⟨_, _, rfl, (HR6.out.upd (put11_upd ..) fun b hb _ => ⟨hb.2.2, hb.2.2, hb.1⟩).below (Below.refl _ _).drew, HK4.out.putb.drew⟩

set_option maxHeartbeats 8000000 in
theorem rdp4 (Q : Nat → Prop) (e : En) (ok : EnOk e) (R : Option Addr) (n' capR : Nat) (L : List Int) (b t x : Int) (won : Bool) (out : Int) (w : World)
    (hn : n' = L.length) (hn2 : n' ≤ 1000000) (hR : ReadsW Q w R L) (hQ : ∀ b, w.heap.size ≤ b → Q b) :
    Calls Tryz.prog 87 #[.slice R n' capR, rdV 1 4 e.top e.bot e.ent e.room b t x won out] w (SomeV Q w n' (ptv L e.bot (u64w (b + 1))) (rdV 1 0 0 0 0 0 0 0 0 false 1)) := by
  have hqd := QD.new w (.int .i64 1) (.int .i64 4) (.int .i64 e.top) (.int .i64 e.bot) (.int .i64 e.ent) (.int .i64 e.room) (.int .u64 b) (.int .u64 t) (.int .u64 x) (.bool won) (.int .i64 out)
  have HQD := Lib.hid hqd
  obtain ⟨z0, z1, z2, z3, z4, z5, z6, z7, z8, z9, z10⟩ := hqd.mc
  have hfm := hqd.frm
  have hlt0 := hqd.lt
  have HN := Lib.hid hn; have HOK := Lib.hid ok
  have HQ := Lib.hid hQ
  have HR0 : Hid (ReadsW (fun k => Q k ∧ k ≠ w.heap.size ∧ k ≠ w.heap.size + 1) w R L) := Lib.hid (fun h0 => by
    obtain ⟨b, off, e, hb, hp, hc⟩ := hR h0
    exact ⟨b, off, e, hb, ⟨hp, by omega, by omega⟩, hc⟩)
  have HR1 := Lib.hid (HR0.out.below hqd.bel)
  obtain ⟨y, hy⟩ : ∃ y, IntKind.u64.wrap (b + 1) = y := ⟨_, rfl⟩
  have hy2 : u64w (b + 1) = y := by rw [← hy, IntKind.wrap_u64]; rfl
  rw [hy2]
  clear hy2
  obtain ⟨W1, hW1⟩ : ∃ W1, W1 = ((w.alloc (.cells #[.int .i64 1, .int .i64 4, .int .i64 e.top, .int .i64 e.bot, .int .i64 e.ent, .int .i64 e.room, .int .u64 b, .int .u64 t, .int .u64 x, .bool won, .int .i64 out] 49)).alloc (.cells #[.int .i64 0, .int .i64 0, .int .i64 0, .int .i64 0, .int .i64 0, .int .i64 0, .int .u64 0, .int .u64 0, .int .u64 0, .bool false, .int .i64 0] 49)) := ⟨_, rfl⟩
  rw [← hW1] at HQD HR1 z0 z1 z2 z3 z4 z5 z6 z7 z8 z9 z10 hfm
  have HW1 := Lib.hid hW1
  have HQDD := Lib.hid HQD.out.drew
  have HRD := Lib.hid (HR1.out.below (Below.refl _ _).drew)
  clear hqd hn hR hQ ok
  go_enter Tryz.func87, Tryz.ntmps87
  go_wp2_with (fail)
  rw [← HW1.out]
  clear HW1 hW1
  go_wp2_with (fail)
  go_region_held3 (fun w' => w'.cell? ⟨w.heap.size, 0, none⟩ = some (.int .i64 1) ∧ w'.cell? ⟨w.heap.size, 1, none⟩ = some (.int .i64 4) ∧ w'.cell? ⟨w.heap.size, 2, none⟩ = some (.int .i64 e.top) ∧ w'.cell? ⟨w.heap.size, 3, none⟩ = some (.int .i64 e.bot) ∧ w'.cell? ⟨w.heap.size, 4, none⟩ = some (.int .i64 e.ent) ∧ w'.cell? ⟨w.heap.size, 5, none⟩ = some (.int .i64 e.room) ∧ w'.cell? ⟨w.heap.size, 6, none⟩ = some (.int .u64 b) ∧ w'.cell? ⟨w.heap.size, 7, none⟩ = some (.int .u64 t) ∧ w'.cell? ⟨w.heap.size, 8, none⟩ = some (.int .u64 x) ∧ w'.cell? ⟨w.heap.size, 9, none⟩ = some (.bool won) ∧ w'.cell? ⟨w.heap.size, 10, none⟩ = some (.int .i64 out))
    (first | (with_reducible exact HPM.out) | (with_reducible exact HQ3.out.mc) | (with_reducible exact HQ2.out.mc) | (with_reducible exact HQDD.out.mc) | go_keep)
    (first
      | (go_at_call 26; (with_reducible refine (rput_any (fun k => Q k ∧ k ≠ w.heap.size ∧ k ≠ w.heap.size + 1) R n' capR L e.bot y _ HN.out hn2 HRD.out (fun b hb => by have := HQDD.out.lt; exact ⟨HQ.out b (by omega), by omega, by omega⟩)).mono ?_); rintro r w5 ⟨R2, cap2, rfl, hx, hb⟩; have HQ2 := Lib.hid (HQDD.out.step hb); have HR2 := Lib.hid hx; clear hb hx)
      | (go_at_call 113; (with_reducible refine (rdend_any _ _ _ _ _ _ _ _ _ _ _ _ _ _).mono ?_); rintro r w6 ⟨rfl, hb⟩; have HQ3 := Lib.hid (HQ2.out.step hb); have HR3 := Lib.hid (HR2.out.below hb); clear hb; obtain ⟨r0, r1, r2, r3, r4, r5, r6, r7, r8, r9, r10⟩ := HQ3.out.res; have hfr := HQ3.out.frr; have HPM := Lib.hid (HQ3.out.putm (u0 := .int .i64 1) (u1 := .int .i64 0) (u2 := .int .i64 0) (u3 := .int .i64 0) (u4 := .int .i64 0) (u5 := .int .i64 0) (u6 := .int .u64 0) (u7 := .int .u64 0) (u8 := .int .u64 0) (u9 := .bool false) (u10 := .int .i64 1)))
      | fail)
  all_goals
    go_wp2_with (fail)
    obtain ⟨e0, e1, e2, e3, e4, e5, e6, e7, e8, e9, e10⟩ := HQ3.out.putr (u0 := .int .i64 1) (u1 := .int .i64 0) (u2 := .int .i64 0) (u3 := .int .i64 0) (u4 := .int .i64 0) (u5 := .int .i64 0) (u6 := .int .u64 0) (u7 := .int .u64 0) (u8 := .int .u64 0) (u9 := .bool false) (u10 := .int .i64 1)
    exact bodyPost_ret (v := .tuple #[.slice R2 n' cap2, .agg #[.int .i64 1, .int .i64 0, .int .i64 0, .int .i64 0, .int .i64 0, .int .i64 0, .int .u64 0, .int .u64 0, .int .u64 0, .bool false, .int .i64 1]]) (by simp [results, Tryz.results87, go_sem, e0, e1, e2, e3, e4, e5, e6, e7, e8, e9, e10]) rfl ⟨_, _, rfl, HR3.out.upd (put11_upd ..) fun b hb _ => ⟨hb.2.2, hb.2.2, hb.1⟩, HQ3.out.putb⟩

/-- A step of a push that goes on, by what the step itself is. -/
def NotTwo (Q : Nat → Prop) (s : Nat) (k : Nat) : Prop := Q k ∧ k ≠ s ∧ k ≠ s + 1
set_option maxHeartbeats 8000000 in
theorem rdstep_on (Q : Nat → Prop) (R : Option Addr) (n' capR : Nat) (L L' : List Int) (pc tp bt en rm b t x : Int) (won : Bool) (out pc' tp' bt' en' rm' b' t' x' : Int) (won' : Bool) (out' : Int) (w : World)
    (hR : ReadsW Q w R L) (hpc : (pc == 0) = false)
    (HC : ∀ w1, w.heap.size + 1 < w1.heap.size → ReadsW (NotTwo Q w.heap.size) w1 R L → Calls Tryz.prog 87 #[.slice R n' capR, rdV 1 pc tp bt en rm b t x won out] w1 (SomeV (NotTwo Q w.heap.size) w1 n' L' (rdV 1 pc' tp' bt' en' rm' b' t' x' won' out'))) :
    Calls Tryz.prog 59 #[.slice R n' capR, rdV 1 pc tp bt en rm b t x won out] w (SomeV Q w n' L' (rdV 1 pc' tp' bt' en' rm' b' t' x' won' out')) := by
  have hqd := QD.new w (.int .i64 1) (.int .i64 pc) (.int .i64 tp) (.int .i64 bt) (.int .i64 en) (.int .i64 rm) (.int .u64 b) (.int .u64 t) (.int .u64 x) (.bool won) (.int .i64 out)
  have HQD := Lib.hid hqd
  obtain ⟨z0, z1, z2, z3, z4, z5, z6, z7, z8, z9, z10⟩ := hqd.mc
  have hlt0 := hqd.lt
  have HR0 : ReadsW (NotTwo Q w.heap.size) w R L := fun h0 => by
    obtain ⟨b, off, e, hb, hp, hc⟩ := hR h0
    exact ⟨b, off, e, hb, ⟨hp, by omega, by omega⟩, hc⟩
  have HR1 := Lib.hid (HR0.below hqd.bel)
  have HCC := Lib.hid HC
  obtain ⟨W1, hW1⟩ : ∃ W1, W1 = ((w.alloc (.cells #[.int .i64 1, .int .i64 pc, .int .i64 tp, .int .i64 bt, .int .i64 en, .int .i64 rm, .int .u64 b, .int .u64 t, .int .u64 x, .bool won, .int .i64 out] 49)).alloc (.cells #[.int .i64 0, .int .i64 0, .int .i64 0, .int .i64 0, .int .i64 0, .int .i64 0, .int .u64 0, .int .u64 0, .int .u64 0, .bool false, .int .i64 0] 49)) := ⟨_, rfl⟩
  rw [← hW1] at HQD HR1 z0 z1 z2 z3 z4 z5 z6 z7 z8 z9 z10
  have HW1 := Lib.hid hW1
  clear hqd hR HR0 HC
  go_enter Tryz.func59, Tryz.ntmps59
  go_wp2_with (fail)
  rw [← HW1.out]
  clear HW1 hW1
  go_wp2_with (first
    | (go_at_call 87; (with_reducible refine (HCC.out _ HQD.out.lt HR1.out).mono ?_); rintro r w4 ⟨R2, cap2, rfl, hx, hb⟩; have HQ2 := Lib.hid (HQD.out.step hb); have HR2 := Lib.hid hx; clear hb hx z0 z1 z2 z3 z4 z5 z6 z7 z8 z9 z10; obtain ⟨r0, r1, r2, r3, r4, r5, r6, r7, r8, r9, r10⟩ := HQ2.out.res; have hfr := HQ2.out.frr)
    | fail)
  obtain ⟨e0, e1, e2, e3, e4, e5, e6, e7, e8, e9, e10⟩ := HQ2.out.putr (u0 := .int .i64 1) (u1 := .int .i64 pc') (u2 := .int .i64 tp') (u3 := .int .i64 bt') (u4 := .int .i64 en') (u5 := .int .i64 rm') (u6 := .int .u64 b') (u7 := .int .u64 t') (u8 := .int .u64 x') (u9 := .bool won') (u10 := .int .i64 out')
  exact bodyPost_ret (v := .tuple #[.slice R2 n' cap2, .agg #[.int .i64 1, .int .i64 pc', .int .i64 tp', .int .i64 bt', .int .i64 en', .int .i64 rm', .int .u64 b', .int .u64 t', .int .u64 x', .bool won', .int .i64 out']]) (by simp [results, Tryz.results59, go_sem, e0, e1, e2, e3, e4, e5, e6, e7, e8, e9, e10]) rfl ⟨_, _, rfl, HR2.out.upd (put11_upd ..) fun b hb _ => ⟨hb.2.2, hb.2.2, hb.1⟩, HQ2.out.putb⟩
set_option maxHeartbeats 8000000 in
theorem rdstep_off (Q : Nat → Prop) (R : Option Addr) (n' capR : Nat) (L : List Int) (tp bt en rm b t x : Int) (won : Bool) (out : Int) (w : World)
    (hR : ReadsW Q w R L) (hQ : ∀ b, w.heap.size ≤ b → Q b) :
    Calls Tryz.prog 59 #[.slice R n' capR, rdV 1 0 tp bt en rm b t x won out] w (SomeV Q w n' L (rdV 1 0 tp bt en rm b t x won out)) := by
  have hb := (QD.new w (.int .i64 1) (.int .i64 0) (.int .i64 tp) (.int .i64 bt) (.int .i64 en) (.int .i64 rm) (.int .u64 b) (.int .u64 t) (.int .u64 x) (.bool won) (.int .i64 out)).bel
  have HB2 := Lib.hid (below_alloc0 (below_alloc0 (Below.refl w.heap.size w) (.cells #[.int .i64 1, .int .i64 0, .int .i64 tp, .int .i64 bt, .int .i64 en, .int .i64 rm, .int .u64 b, .int .u64 t, .int .u64 x, .bool won, .int .i64 out] 49)) (.cells #[.int .i64 1, .int .i64 0, .int .i64 tp, .int .i64 bt, .int .i64 en, .int .i64 rm, .int .u64 b, .int .u64 t, .int .u64 x, .bool won, .int .i64 out] 49)).drew
  have HR := Lib.hid hR
  clear hb hR
  go_enter Tryz.func59, Tryz.ntmps59
  go_wp2_with (fail)
  go_region
  go_wp2
  exact bodyPost_ret (v := .tuple #[.slice R n' capR, .agg #[.int .i64 1, .int .i64 0, .int .i64 tp, .int .i64 bt, .int .i64 en, .int .i64 rm, .int .u64 b, .int .u64 t, .int .u64 x, .bool won, .int .i64 out]]) (by simp [results, Tryz.results59, go_sem]) rfl ⟨_, _, rfl, HR.out.below HB2.out, HB2.out⟩
/-- A push as the document has it, by value. -/
def rdOf (m : Mc) : Value := if m.pc = 0 then rdV 1 0 0 0 0 0 0 0 m.w false m.out else rdV 1 m.pc m.e.top m.e.bot m.e.ent m.e.room m.b m.t m.w m.won m.out
/-- A step of a push is the document's. -/
theorem rdstep_any (Q : Nat → Prop) (R : Option Addr) (n' capR : Nat) (L : List Int) (m : Mc) (w : World) (hn : n' = L.length) (hn2 : n' ≤ 1000000) (hR : ReadsW Q w R L) (hQ : ∀ b, w.heap.size ≤ b → Q b)
    (hk : m.kind = 1) (h4 : m.pc ≤ 4) (ok : EnOk m.e) (hb : 0 ≤ m.b) :
    Calls Tryz.prog 59 #[.slice R n' capR, rdOf m] w (SomeV Q w n' (stp L m).1 (rdOf (stp L m).2)) := by
  obtain ⟨kd, pc, e, b, t, x, won, out⟩ := m
  dsimp only at hk h4 ok hb
  subst hk
  have far : ∀ w1 : World, w.heap.size + 1 < w1.heap.size → ∀ b, w1.heap.size ≤ b → NotTwo Q w.heap.size b := fun w1 h b hb => ⟨hQ b (by omega), by omega, by omega⟩
  have hp : pc = 0 ∨ pc = 1 ∨ pc = 2 ∨ pc = 3 ∨ pc = 4 := by omega
  rcases hp with rfl | rfl | rfl | rfl | rfl
  · have es : stp L ⟨1, 0, e, b, t, x, won, out⟩ = (L, ⟨1, 0, e, b, t, x, won, out⟩) := by simp [stp]
    rw [es]
    exact rdstep_off Q R n' capR L 0 0 0 0 0 0 x false out w hR hQ
  · have es : stp L ⟨1, 1, e, b, t, x, won, out⟩ = (L, ⟨1, 2, e, ldq L e.bot, t, x, won, out⟩) := by simp [stp, pushS]
    rw [es, ← ldv_eq]
    exact rdstep_on Q R n' capR L L 1 e.top e.bot e.ent e.room b t x won out 2 e.top e.bot e.ent e.room (ldv L e.bot) t x won out w hR rfl fun w1 h1 h2 => rdp1 (NotTwo Q w.heap.size) e ok R n' capR L b t x won out w1 hn hn2 h2 (far w1 h1)
  · by_cases hc : roomOf e ≤ ahead b (ldq L e.top)
    · have es : stp L ⟨1, 2, e, b, t, x, won, out⟩ = (L, ⟨1, 0, e, b, t, 0, won, 2⟩) := by simp [stp, pushS, hc, fin]
      rw [es]
      rw [← ldv_eq] at hc
      exact rdstep_on Q R n' capR L L 2 e.top e.bot e.ent e.room b t x won out 0 0 0 0 0 0 0 0 false 2 w hR rfl fun w1 h1 h2 => rdp2y (NotTwo Q w.heap.size) e ok R n' capR L b t x won out w1 hn hn2 h2 (far w1 h1) hc
    · have es : stp L ⟨1, 2, e, b, t, x, won, out⟩ = (L, ⟨1, 3, e, b, ldq L e.top, x, won, out⟩) := by simp [stp, pushS, hc]
      rw [es, ← ldv_eq]
      rw [← ldv_eq] at hc
      refine rdstep_on Q R n' capR L L 2 e.top e.bot e.ent e.room b t x won out 3 e.top e.bot e.ent e.room b (ldv L e.top) x won out w hR rfl fun w1 h1 h2 => ?_
      by_cases hg : 0 ≤ ahead b (ldv L e.top)
      · exact rdp2n (NotTwo Q w.heap.size) e ok R n' capR L b t x won out w1 hn hn2 h2 (far w1 h1) hc hg
      · exact rdp2m (NotTwo Q w.heap.size) e ok R n' capR L b t x won out w1 hn hn2 h2 (far w1 h1) hc (by omega)
  · have es : stp L ⟨1, 3, e, b, t, x, won, out⟩ = (ptq L (entOf e b) x, ⟨1, 4, e, b, t, x, won, out⟩) := by simp [stp, pushS]
    rw [es, ← ptv_eq]
    exact rdstep_on Q R n' capR L _ 3 e.top e.bot e.ent e.room b t x won out 4 e.top e.bot e.ent e.room b t x won out w hR rfl fun w1 h1 h2 => rdp3 (NotTwo Q w.heap.size) e ok R n' capR L b t x won out w1 hn hn2 h2 (far w1 h1) hb
  · have es : stp L ⟨1, 4, e, b, t, x, won, out⟩ = (ptq L e.bot (u64w (b + 1)), ⟨1, 0, e, b, t, 0, won, 1⟩) := by simp [stp, pushS, fin]
    rw [es, ← ptv_eq]
    exact rdstep_on Q R n' capR L _ 4 e.top e.bot e.ent e.room b t x won out 0 0 0 0 0 0 0 0 false 1 w hR rfl fun w1 h1 h2 => rdp4 (NotTwo Q w.heap.size) e ok R n' capR L b t x won out w1 hn hn2 h2 (far w1 h1)
end Go.Proofs.YtponbnbgiiepdaaGreat.Dg

namespace Go.Proofs.YtponbnbgiiepdaaGreat
open Go.RowKit
set_option linter.unusedVariables false
set_option linter.unusedSimpArgs false
set_option maxRecDepth 100000
open Lay (plcc plc shOf packN nodesN OkC Cfg Norm firstV Rep lenL things)

abbrev ad27 (w : World) (B : Nat) (v0 v1 v2 v3 v4 v5 v6 v7 v8 v9 v10 v11 v12 v13 v14 v15 v16 v17 v18 v19 v20 v21 v22 v23 v24 v25 v26 : Value) : World := (((((((((((((((((((((((((((w.setCell ⟨B, 0, none⟩ v0).setCell ⟨B, 1, none⟩ v1).setCell ⟨B, 2, none⟩ v2).setCell ⟨B, 3, none⟩ v3).setCell ⟨B, 4, none⟩ v4).setCell ⟨B, 5, none⟩ v5).setCell ⟨B, 6, none⟩ v6).setCell ⟨B, 7, none⟩ v7).setCell ⟨B, 8, none⟩ v8).setCell ⟨B, 9, none⟩ v9).setCell ⟨B, 10, none⟩ v10).setCell ⟨B, 11, none⟩ v11).setCell ⟨B, 12, none⟩ v12).setCell ⟨B, 13, none⟩ v13).setCell ⟨B, 14, none⟩ v14).setCell ⟨B, 15, none⟩ v15).setCell ⟨B, 16, none⟩ v16).setCell ⟨B, 17, none⟩ v17).setCell ⟨B, 18, none⟩ v18).setCell ⟨B, 19, none⟩ v19).setCell ⟨B, 20, none⟩ v20).setCell ⟨B, 21, none⟩ v21).setCell ⟨B, 22, none⟩ v22).setCell ⟨B, 23, none⟩ v23).setCell ⟨B, 24, none⟩ v24).setCell ⟨B, 25, none⟩ v25).setCell ⟨B, 26, none⟩ v26)
theorem ad27_same (w : World) (B : Nat) (t : TypeId) (x0 x1 x2 x3 x4 x5 x6 x7 x8 x9 x10 x11 x12 x13 x14 x15 x16 x17 x18 x19 x20 x21 x22 x23 x24 x25 x26 : Value) (h : w.heap[B]? = some (.cells #[x0, x1, x2, x3, x4, x5, x6, x7, x8, x9, x10, x11, x12, x13, x14, x15, x16, x17, x18, x19, x20, x21, x22, x23, x24, x25, x26] t (0, 0))) (v0 v1 v2 v3 v4 v5 v6 v7 v8 v9 v10 v11 v12 v13 v14 v15 v16 v17 v18 v19 v20 v21 v22 v23 v24 v25 v26 : Value) : (ad27 w B v0 v1 v2 v3 v4 v5 v6 v7 v8 v9 v10 v11 v12 v13 v14 v15 v16 v17 v18 v19 v20 v21 v22 v23 v24 v25 v26).heap[B]? = some (.cells #[v0, v1, v2, v3, v4, v5, v6, v7, v8, v9, v10, v11, v12, v13, v14, v15, v16, v17, v18, v19, v20, v21, v22, v23, v24, v25, v26] t (0, 0)) := by
  have h0 : (w.setCell ⟨B, 0, none⟩ v0).heap[B]? = some (.cells #[v0, x1, x2, x3, x4, x5, x6, x7, x8, x9, x10, x11, x12, x13, x14, x15, x16, x17, x18, x19, x20, x21, x22, x23, x24, x25, x26] t (0, 0)) := (heap_setCell_same _ B 0 _ t v0 h).trans (congrArg (fun c => some (Obj.cells c t (0, 0))) (show (#[x0, x1, x2, x3, x4, x5, x6, x7, x8, x9, x10, x11, x12, x13, x14, x15, x16, x17, x18, x19, x20, x21, x22, x23, x24, x25, x26] : Array Value).setIfInBounds 0 v0 = #[v0, x1, x2, x3, x4, x5, x6, x7, x8, x9, x10, x11, x12, x13, x14, x15, x16, x17, x18, x19, x20, x21, x22, x23, x24, x25, x26] from rfl))
  have h1 : ((w.setCell ⟨B, 0, none⟩ v0).setCell ⟨B, 1, none⟩ v1).heap[B]? = some (.cells #[v0, v1, x2, x3, x4, x5, x6, x7, x8, x9, x10, x11, x12, x13, x14, x15, x16, x17, x18, x19, x20, x21, x22, x23, x24, x25, x26] t (0, 0)) := (heap_setCell_same _ B 1 _ t v1 h0).trans (congrArg (fun c => some (Obj.cells c t (0, 0))) (show (#[v0, x1, x2, x3, x4, x5, x6, x7, x8, x9, x10, x11, x12, x13, x14, x15, x16, x17, x18, x19, x20, x21, x22, x23, x24, x25, x26] : Array Value).setIfInBounds 1 v1 = #[v0, v1, x2, x3, x4, x5, x6, x7, x8, x9, x10, x11, x12, x13, x14, x15, x16, x17, x18, x19, x20, x21, x22, x23, x24, x25, x26] from rfl))
  have h2 : (((w.setCell ⟨B, 0, none⟩ v0).setCell ⟨B, 1, none⟩ v1).setCell ⟨B, 2, none⟩ v2).heap[B]? = some (.cells #[v0, v1, v2, x3, x4, x5, x6, x7, x8, x9, x10, x11, x12, x13, x14, x15, x16, x17, x18, x19, x20, x21, x22, x23, x24, x25, x26] t (0, 0)) := (heap_setCell_same _ B 2 _ t v2 h1).trans (congrArg (fun c => some (Obj.cells c t (0, 0))) (show (#[v0, v1, x2, x3, x4, x5, x6, x7, x8, x9, x10, x11, x12, x13, x14, x15, x16, x17, x18, x19, x20, x21, x22, x23, x24, x25, x26] : Array Value).setIfInBounds 2 v2 = #[v0, v1, v2, x3, x4, x5, x6, x7, x8, x9, x10, x11, x12, x13, x14, x15, x16, x17, x18, x19, x20, x21, x22, x23, x24, x25, x26] from rfl))
  have h3 : ((((w.setCell ⟨B, 0, none⟩ v0).setCell ⟨B, 1, none⟩ v1).setCell ⟨B, 2, none⟩ v2).setCell ⟨B, 3, none⟩ v3).heap[B]? = some (.cells #[v0, v1, v2, v3, x4, x5, x6, x7, x8, x9, x10, x11, x12, x13, x14, x15, x16, x17, x18, x19, x20, x21, x22, x23, x24, x25, x26] t (0, 0)) := (heap_setCell_same _ B 3 _ t v3 h2).trans (congrArg (fun c => some (Obj.cells c t (0, 0))) (show (#[v0, v1, v2, x3, x4, x5, x6, x7, x8, x9, x10, x11, x12, x13, x14, x15, x16, x17, x18, x19, x20, x21, x22, x23, x24, x25, x26] : Array Value).setIfInBounds 3 v3 = #[v0, v1, v2, v3, x4, x5, x6, x7, x8, x9, x10, x11, x12, x13, x14, x15, x16, x17, x18, x19, x20, x21, x22, x23, x24, x25, x26] from rfl))
  have h4 : (((((w.setCell ⟨B, 0, none⟩ v0).setCell ⟨B, 1, none⟩ v1).setCell ⟨B, 2, none⟩ v2).setCell ⟨B, 3, none⟩ v3).setCell ⟨B, 4, none⟩ v4).heap[B]? = some (.cells #[v0, v1, v2, v3, v4, x5, x6, x7, x8, x9, x10, x11, x12, x13, x14, x15, x16, x17, x18, x19, x20, x21, x22, x23, x24, x25, x26] t (0, 0)) := (heap_setCell_same _ B 4 _ t v4 h3).trans (congrArg (fun c => some (Obj.cells c t (0, 0))) (show (#[v0, v1, v2, v3, x4, x5, x6, x7, x8, x9, x10, x11, x12, x13, x14, x15, x16, x17, x18, x19, x20, x21, x22, x23, x24, x25, x26] : Array Value).setIfInBounds 4 v4 = #[v0, v1, v2, v3, v4, x5, x6, x7, x8, x9, x10, x11, x12, x13, x14, x15, x16, x17, x18, x19, x20, x21, x22, x23, x24, x25, x26] from rfl))
  have h5 : ((((((w.setCell ⟨B, 0, none⟩ v0).setCell ⟨B, 1, none⟩ v1).setCell ⟨B, 2, none⟩ v2).setCell ⟨B, 3, none⟩ v3).setCell ⟨B, 4, none⟩ v4).setCell ⟨B, 5, none⟩ v5).heap[B]? = some (.cells #[v0, v1, v2, v3, v4, v5, x6, x7, x8, x9, x10, x11, x12, x13, x14, x15, x16, x17, x18, x19, x20, x21, x22, x23, x24, x25, x26] t (0, 0)) := (heap_setCell_same _ B 5 _ t v5 h4).trans (congrArg (fun c => some (Obj.cells c t (0, 0))) (show (#[v0, v1, v2, v3, v4, x5, x6, x7, x8, x9, x10, x11, x12, x13, x14, x15, x16, x17, x18, x19, x20, x21, x22, x23, x24, x25, x26] : Array Value).setIfInBounds 5 v5 = #[v0, v1, v2, v3, v4, v5, x6, x7, x8, x9, x10, x11, x12, x13, x14, x15, x16, x17, x18, x19, x20, x21, x22, x23, x24, x25, x26] from rfl))
  have h6 : (((((((w.setCell ⟨B, 0, none⟩ v0).setCell ⟨B, 1, none⟩ v1).setCell ⟨B, 2, none⟩ v2).setCell ⟨B, 3, none⟩ v3).setCell ⟨B, 4, none⟩ v4).setCell ⟨B, 5, none⟩ v5).setCell ⟨B, 6, none⟩ v6).heap[B]? = some (.cells #[v0, v1, v2, v3, v4, v5, v6, x7, x8, x9, x10, x11, x12, x13, x14, x15, x16, x17, x18, x19, x20, x21, x22, x23, x24, x25, x26] t (0, 0)) := (heap_setCell_same _ B 6 _ t v6 h5).trans (congrArg (fun c => some (Obj.cells c t (0, 0))) (show (#[v0, v1, v2, v3, v4, v5, x6, x7, x8, x9, x10, x11, x12, x13, x14, x15, x16, x17, x18, x19, x20, x21, x22, x23, x24, x25, x26] : Array Value).setIfInBounds 6 v6 = #[v0, v1, v2, v3, v4, v5, v6, x7, x8, x9, x10, x11, x12, x13, x14, x15, x16, x17, x18, x19, x20, x21, x22, x23, x24, x25, x26] from rfl))
  have h7 : ((((((((w.setCell ⟨B, 0, none⟩ v0).setCell ⟨B, 1, none⟩ v1).setCell ⟨B, 2, none⟩ v2).setCell ⟨B, 3, none⟩ v3).setCell ⟨B, 4, none⟩ v4).setCell ⟨B, 5, none⟩ v5).setCell ⟨B, 6, none⟩ v6).setCell ⟨B, 7, none⟩ v7).heap[B]? = some (.cells #[v0, v1, v2, v3, v4, v5, v6, v7, x8, x9, x10, x11, x12, x13, x14, x15, x16, x17, x18, x19, x20, x21, x22, x23, x24, x25, x26] t (0, 0)) := (heap_setCell_same _ B 7 _ t v7 h6).trans (congrArg (fun c => some (Obj.cells c t (0, 0))) (show (#[v0, v1, v2, v3, v4, v5, v6, x7, x8, x9, x10, x11, x12, x13, x14, x15, x16, x17, x18, x19, x20, x21, x22, x23, x24, x25, x26] : Array Value).setIfInBounds 7 v7 = #[v0, v1, v2, v3, v4, v5, v6, v7, x8, x9, x10, x11, x12, x13, x14, x15, x16, x17, x18, x19, x20, x21, x22, x23, x24, x25, x26] from rfl))
  have h8 : (((((((((w.setCell ⟨B, 0, none⟩ v0).setCell ⟨B, 1, none⟩ v1).setCell ⟨B, 2, none⟩ v2).setCell ⟨B, 3, none⟩ v3).setCell ⟨B, 4, none⟩ v4).setCell ⟨B, 5, none⟩ v5).setCell ⟨B, 6, none⟩ v6).setCell ⟨B, 7, none⟩ v7).setCell ⟨B, 8, none⟩ v8).heap[B]? = some (.cells #[v0, v1, v2, v3, v4, v5, v6, v7, v8, x9, x10, x11, x12, x13, x14, x15, x16, x17, x18, x19, x20, x21, x22, x23, x24, x25, x26] t (0, 0)) := (heap_setCell_same _ B 8 _ t v8 h7).trans (congrArg (fun c => some (Obj.cells c t (0, 0))) (show (#[v0, v1, v2, v3, v4, v5, v6, v7, x8, x9, x10, x11, x12, x13, x14, x15, x16, x17, x18, x19, x20, x21, x22, x23, x24, x25, x26] : Array Value).setIfInBounds 8 v8 = #[v0, v1, v2, v3, v4, v5, v6, v7, v8, x9, x10, x11, x12, x13, x14, x15, x16, x17, x18, x19, x20, x21, x22, x23, x24, x25, x26] from rfl))
  have h9 : ((((((((((w.setCell ⟨B, 0, none⟩ v0).setCell ⟨B, 1, none⟩ v1).setCell ⟨B, 2, none⟩ v2).setCell ⟨B, 3, none⟩ v3).setCell ⟨B, 4, none⟩ v4).setCell ⟨B, 5, none⟩ v5).setCell ⟨B, 6, none⟩ v6).setCell ⟨B, 7, none⟩ v7).setCell ⟨B, 8, none⟩ v8).setCell ⟨B, 9, none⟩ v9).heap[B]? = some (.cells #[v0, v1, v2, v3, v4, v5, v6, v7, v8, v9, x10, x11, x12, x13, x14, x15, x16, x17, x18, x19, x20, x21, x22, x23, x24, x25, x26] t (0, 0)) := (heap_setCell_same _ B 9 _ t v9 h8).trans (congrArg (fun c => some (Obj.cells c t (0, 0))) (show (#[v0, v1, v2, v3, v4, v5, v6, v7, v8, x9, x10, x11, x12, x13, x14, x15, x16, x17, x18, x19, x20, x21, x22, x23, x24, x25, x26] : Array Value).setIfInBounds 9 v9 = #[v0, v1, v2, v3, v4, v5, v6, v7, v8, v9, x10, x11, x12, x13, x14, x15, x16, x17, x18, x19, x20, x21, x22, x23, x24, x25, x26] from rfl))
  have h10 : (((((((((((w.setCell ⟨B, 0, none⟩ v0).setCell ⟨B, 1, none⟩ v1).setCell ⟨B, 2, none⟩ v2).setCell ⟨B, 3, none⟩ v3).setCell ⟨B, 4, none⟩ v4).setCell ⟨B, 5, none⟩ v5).setCell ⟨B, 6, none⟩ v6).setCell ⟨B, 7, none⟩ v7).setCell ⟨B, 8, none⟩ v8).setCell ⟨B, 9, none⟩ v9).setCell ⟨B, 10, none⟩ v10).heap[B]? = some (.cells #[v0, v1, v2, v3, v4, v5, v6, v7, v8, v9, v10, x11, x12, x13, x14, x15, x16, x17, x18, x19, x20, x21, x22, x23, x24, x25, x26] t (0, 0)) := (heap_setCell_same _ B 10 _ t v10 h9).trans (congrArg (fun c => some (Obj.cells c t (0, 0))) (show (#[v0, v1, v2, v3, v4, v5, v6, v7, v8, v9, x10, x11, x12, x13, x14, x15, x16, x17, x18, x19, x20, x21, x22, x23, x24, x25, x26] : Array Value).setIfInBounds 10 v10 = #[v0, v1, v2, v3, v4, v5, v6, v7, v8, v9, v10, x11, x12, x13, x14, x15, x16, x17, x18, x19, x20, x21, x22, x23, x24, x25, x26] from rfl))
  have h11 : ((((((((((((w.setCell ⟨B, 0, none⟩ v0).setCell ⟨B, 1, none⟩ v1).setCell ⟨B, 2, none⟩ v2).setCell ⟨B, 3, none⟩ v3).setCell ⟨B, 4, none⟩ v4).setCell ⟨B, 5, none⟩ v5).setCell ⟨B, 6, none⟩ v6).setCell ⟨B, 7, none⟩ v7).setCell ⟨B, 8, none⟩ v8).setCell ⟨B, 9, none⟩ v9).setCell ⟨B, 10, none⟩ v10).setCell ⟨B, 11, none⟩ v11).heap[B]? = some (.cells #[v0, v1, v2, v3, v4, v5, v6, v7, v8, v9, v10, v11, x12, x13, x14, x15, x16, x17, x18, x19, x20, x21, x22, x23, x24, x25, x26] t (0, 0)) := (heap_setCell_same _ B 11 _ t v11 h10).trans (congrArg (fun c => some (Obj.cells c t (0, 0))) (show (#[v0, v1, v2, v3, v4, v5, v6, v7, v8, v9, v10, x11, x12, x13, x14, x15, x16, x17, x18, x19, x20, x21, x22, x23, x24, x25, x26] : Array Value).setIfInBounds 11 v11 = #[v0, v1, v2, v3, v4, v5, v6, v7, v8, v9, v10, v11, x12, x13, x14, x15, x16, x17, x18, x19, x20, x21, x22, x23, x24, x25, x26] from rfl))
  have h12 : (((((((((((((w.setCell ⟨B, 0, none⟩ v0).setCell ⟨B, 1, none⟩ v1).setCell ⟨B, 2, none⟩ v2).setCell ⟨B, 3, none⟩ v3).setCell ⟨B, 4, none⟩ v4).setCell ⟨B, 5, none⟩ v5).setCell ⟨B, 6, none⟩ v6).setCell ⟨B, 7, none⟩ v7).setCell ⟨B, 8, none⟩ v8).setCell ⟨B, 9, none⟩ v9).setCell ⟨B, 10, none⟩ v10).setCell ⟨B, 11, none⟩ v11).setCell ⟨B, 12, none⟩ v12).heap[B]? = some (.cells #[v0, v1, v2, v3, v4, v5, v6, v7, v8, v9, v10, v11, v12, x13, x14, x15, x16, x17, x18, x19, x20, x21, x22, x23, x24, x25, x26] t (0, 0)) := (heap_setCell_same _ B 12 _ t v12 h11).trans (congrArg (fun c => some (Obj.cells c t (0, 0))) (show (#[v0, v1, v2, v3, v4, v5, v6, v7, v8, v9, v10, v11, x12, x13, x14, x15, x16, x17, x18, x19, x20, x21, x22, x23, x24, x25, x26] : Array Value).setIfInBounds 12 v12 = #[v0, v1, v2, v3, v4, v5, v6, v7, v8, v9, v10, v11, v12, x13, x14, x15, x16, x17, x18, x19, x20, x21, x22, x23, x24, x25, x26] from rfl))
  have h13 : ((((((((((((((w.setCell ⟨B, 0, none⟩ v0).setCell ⟨B, 1, none⟩ v1).setCell ⟨B, 2, none⟩ v2).setCell ⟨B, 3, none⟩ v3).setCell ⟨B, 4, none⟩ v4).setCell ⟨B, 5, none⟩ v5).setCell ⟨B, 6, none⟩ v6).setCell ⟨B, 7, none⟩ v7).setCell ⟨B, 8, none⟩ v8).setCell ⟨B, 9, none⟩ v9).setCell ⟨B, 10, none⟩ v10).setCell ⟨B, 11, none⟩ v11).setCell ⟨B, 12, none⟩ v12).setCell ⟨B, 13, none⟩ v13).heap[B]? = some (.cells #[v0, v1, v2, v3, v4, v5, v6, v7, v8, v9, v10, v11, v12, v13, x14, x15, x16, x17, x18, x19, x20, x21, x22, x23, x24, x25, x26] t (0, 0)) := (heap_setCell_same _ B 13 _ t v13 h12).trans (congrArg (fun c => some (Obj.cells c t (0, 0))) (show (#[v0, v1, v2, v3, v4, v5, v6, v7, v8, v9, v10, v11, v12, x13, x14, x15, x16, x17, x18, x19, x20, x21, x22, x23, x24, x25, x26] : Array Value).setIfInBounds 13 v13 = #[v0, v1, v2, v3, v4, v5, v6, v7, v8, v9, v10, v11, v12, v13, x14, x15, x16, x17, x18, x19, x20, x21, x22, x23, x24, x25, x26] from rfl))
  have h14 : (((((((((((((((w.setCell ⟨B, 0, none⟩ v0).setCell ⟨B, 1, none⟩ v1).setCell ⟨B, 2, none⟩ v2).setCell ⟨B, 3, none⟩ v3).setCell ⟨B, 4, none⟩ v4).setCell ⟨B, 5, none⟩ v5).setCell ⟨B, 6, none⟩ v6).setCell ⟨B, 7, none⟩ v7).setCell ⟨B, 8, none⟩ v8).setCell ⟨B, 9, none⟩ v9).setCell ⟨B, 10, none⟩ v10).setCell ⟨B, 11, none⟩ v11).setCell ⟨B, 12, none⟩ v12).setCell ⟨B, 13, none⟩ v13).setCell ⟨B, 14, none⟩ v14).heap[B]? = some (.cells #[v0, v1, v2, v3, v4, v5, v6, v7, v8, v9, v10, v11, v12, v13, v14, x15, x16, x17, x18, x19, x20, x21, x22, x23, x24, x25, x26] t (0, 0)) := (heap_setCell_same _ B 14 _ t v14 h13).trans (congrArg (fun c => some (Obj.cells c t (0, 0))) (show (#[v0, v1, v2, v3, v4, v5, v6, v7, v8, v9, v10, v11, v12, v13, x14, x15, x16, x17, x18, x19, x20, x21, x22, x23, x24, x25, x26] : Array Value).setIfInBounds 14 v14 = #[v0, v1, v2, v3, v4, v5, v6, v7, v8, v9, v10, v11, v12, v13, v14, x15, x16, x17, x18, x19, x20, x21, x22, x23, x24, x25, x26] from rfl))
  have h15 : ((((((((((((((((w.setCell ⟨B, 0, none⟩ v0).setCell ⟨B, 1, none⟩ v1).setCell ⟨B, 2, none⟩ v2).setCell ⟨B, 3, none⟩ v3).setCell ⟨B, 4, none⟩ v4).setCell ⟨B, 5, none⟩ v5).setCell ⟨B, 6, none⟩ v6).setCell ⟨B, 7, none⟩ v7).setCell ⟨B, 8, none⟩ v8).setCell ⟨B, 9, none⟩ v9).setCell ⟨B, 10, none⟩ v10).setCell ⟨B, 11, none⟩ v11).setCell ⟨B, 12, none⟩ v12).setCell ⟨B, 13, none⟩ v13).setCell ⟨B, 14, none⟩ v14).setCell ⟨B, 15, none⟩ v15).heap[B]? = some (.cells #[v0, v1, v2, v3, v4, v5, v6, v7, v8, v9, v10, v11, v12, v13, v14, v15, x16, x17, x18, x19, x20, x21, x22, x23, x24, x25, x26] t (0, 0)) := (heap_setCell_same _ B 15 _ t v15 h14).trans (congrArg (fun c => some (Obj.cells c t (0, 0))) (show (#[v0, v1, v2, v3, v4, v5, v6, v7, v8, v9, v10, v11, v12, v13, v14, x15, x16, x17, x18, x19, x20, x21, x22, x23, x24, x25, x26] : Array Value).setIfInBounds 15 v15 = #[v0, v1, v2, v3, v4, v5, v6, v7, v8, v9, v10, v11, v12, v13, v14, v15, x16, x17, x18, x19, x20, x21, x22, x23, x24, x25, x26] from rfl))
  have h16 : (((((((((((((((((w.setCell ⟨B, 0, none⟩ v0).setCell ⟨B, 1, none⟩ v1).setCell ⟨B, 2, none⟩ v2).setCell ⟨B, 3, none⟩ v3).setCell ⟨B, 4, none⟩ v4).setCell ⟨B, 5, none⟩ v5).setCell ⟨B, 6, none⟩ v6).setCell ⟨B, 7, none⟩ v7).setCell ⟨B, 8, none⟩ v8).setCell ⟨B, 9, none⟩ v9).setCell ⟨B, 10, none⟩ v10).setCell ⟨B, 11, none⟩ v11).setCell ⟨B, 12, none⟩ v12).setCell ⟨B, 13, none⟩ v13).setCell ⟨B, 14, none⟩ v14).setCell ⟨B, 15, none⟩ v15).setCell ⟨B, 16, none⟩ v16).heap[B]? = some (.cells #[v0, v1, v2, v3, v4, v5, v6, v7, v8, v9, v10, v11, v12, v13, v14, v15, v16, x17, x18, x19, x20, x21, x22, x23, x24, x25, x26] t (0, 0)) := (heap_setCell_same _ B 16 _ t v16 h15).trans (congrArg (fun c => some (Obj.cells c t (0, 0))) (show (#[v0, v1, v2, v3, v4, v5, v6, v7, v8, v9, v10, v11, v12, v13, v14, v15, x16, x17, x18, x19, x20, x21, x22, x23, x24, x25, x26] : Array Value).setIfInBounds 16 v16 = #[v0, v1, v2, v3, v4, v5, v6, v7, v8, v9, v10, v11, v12, v13, v14, v15, v16, x17, x18, x19, x20, x21, x22, x23, x24, x25, x26] from rfl))
  have h17 : ((((((((((((((((((w.setCell ⟨B, 0, none⟩ v0).setCell ⟨B, 1, none⟩ v1).setCell ⟨B, 2, none⟩ v2).setCell ⟨B, 3, none⟩ v3).setCell ⟨B, 4, none⟩ v4).setCell ⟨B, 5, none⟩ v5).setCell ⟨B, 6, none⟩ v6).setCell ⟨B, 7, none⟩ v7).setCell ⟨B, 8, none⟩ v8).setCell ⟨B, 9, none⟩ v9).setCell ⟨B, 10, none⟩ v10).setCell ⟨B, 11, none⟩ v11).setCell ⟨B, 12, none⟩ v12).setCell ⟨B, 13, none⟩ v13).setCell ⟨B, 14, none⟩ v14).setCell ⟨B, 15, none⟩ v15).setCell ⟨B, 16, none⟩ v16).setCell ⟨B, 17, none⟩ v17).heap[B]? = some (.cells #[v0, v1, v2, v3, v4, v5, v6, v7, v8, v9, v10, v11, v12, v13, v14, v15, v16, v17, x18, x19, x20, x21, x22, x23, x24, x25, x26] t (0, 0)) := (heap_setCell_same _ B 17 _ t v17 h16).trans (congrArg (fun c => some (Obj.cells c t (0, 0))) (show (#[v0, v1, v2, v3, v4, v5, v6, v7, v8, v9, v10, v11, v12, v13, v14, v15, v16, x17, x18, x19, x20, x21, x22, x23, x24, x25, x26] : Array Value).setIfInBounds 17 v17 = #[v0, v1, v2, v3, v4, v5, v6, v7, v8, v9, v10, v11, v12, v13, v14, v15, v16, v17, x18, x19, x20, x21, x22, x23, x24, x25, x26] from rfl))
  have h18 : (((((((((((((((((((w.setCell ⟨B, 0, none⟩ v0).setCell ⟨B, 1, none⟩ v1).setCell ⟨B, 2, none⟩ v2).setCell ⟨B, 3, none⟩ v3).setCell ⟨B, 4, none⟩ v4).setCell ⟨B, 5, none⟩ v5).setCell ⟨B, 6, none⟩ v6).setCell ⟨B, 7, none⟩ v7).setCell ⟨B, 8, none⟩ v8).setCell ⟨B, 9, none⟩ v9).setCell ⟨B, 10, none⟩ v10).setCell ⟨B, 11, none⟩ v11).setCell ⟨B, 12, none⟩ v12).setCell ⟨B, 13, none⟩ v13).setCell ⟨B, 14, none⟩ v14).setCell ⟨B, 15, none⟩ v15).setCell ⟨B, 16, none⟩ v16).setCell ⟨B, 17, none⟩ v17).setCell ⟨B, 18, none⟩ v18).heap[B]? = some (.cells #[v0, v1, v2, v3, v4, v5, v6, v7, v8, v9, v10, v11, v12, v13, v14, v15, v16, v17, v18, x19, x20, x21, x22, x23, x24, x25, x26] t (0, 0)) := (heap_setCell_same _ B 18 _ t v18 h17).trans (congrArg (fun c => some (Obj.cells c t (0, 0))) (show (#[v0, v1, v2, v3, v4, v5, v6, v7, v8, v9, v10, v11, v12, v13, v14, v15, v16, v17, x18, x19, x20, x21, x22, x23, x24, x25, x26] : Array Value).setIfInBounds 18 v18 = #[v0, v1, v2, v3, v4, v5, v6, v7, v8, v9, v10, v11, v12, v13, v14, v15, v16, v17, v18, x19, x20, x21, x22, x23, x24, x25, x26] from rfl))
  have h19 : ((((((((((((((((((((w.setCell ⟨B, 0, none⟩ v0).setCell ⟨B, 1, none⟩ v1).setCell ⟨B, 2, none⟩ v2).setCell ⟨B, 3, none⟩ v3).setCell ⟨B, 4, none⟩ v4).setCell ⟨B, 5, none⟩ v5).setCell ⟨B, 6, none⟩ v6).setCell ⟨B, 7, none⟩ v7).setCell ⟨B, 8, none⟩ v8).setCell ⟨B, 9, none⟩ v9).setCell ⟨B, 10, none⟩ v10).setCell ⟨B, 11, none⟩ v11).setCell ⟨B, 12, none⟩ v12).setCell ⟨B, 13, none⟩ v13).setCell ⟨B, 14, none⟩ v14).setCell ⟨B, 15, none⟩ v15).setCell ⟨B, 16, none⟩ v16).setCell ⟨B, 17, none⟩ v17).setCell ⟨B, 18, none⟩ v18).setCell ⟨B, 19, none⟩ v19).heap[B]? = some (.cells #[v0, v1, v2, v3, v4, v5, v6, v7, v8, v9, v10, v11, v12, v13, v14, v15, v16, v17, v18, v19, x20, x21, x22, x23, x24, x25, x26] t (0, 0)) := (heap_setCell_same _ B 19 _ t v19 h18).trans (congrArg (fun c => some (Obj.cells c t (0, 0))) (show (#[v0, v1, v2, v3, v4, v5, v6, v7, v8, v9, v10, v11, v12, v13, v14, v15, v16, v17, v18, x19, x20, x21, x22, x23, x24, x25, x26] : Array Value).setIfInBounds 19 v19 = #[v0, v1, v2, v3, v4, v5, v6, v7, v8, v9, v10, v11, v12, v13, v14, v15, v16, v17, v18, v19, x20, x21, x22, x23, x24, x25, x26] from rfl))
  have h20 : (((((((((((((((((((((w.setCell ⟨B, 0, none⟩ v0).setCell ⟨B, 1, none⟩ v1).setCell ⟨B, 2, none⟩ v2).setCell ⟨B, 3, none⟩ v3).setCell ⟨B, 4, none⟩ v4).setCell ⟨B, 5, none⟩ v5).setCell ⟨B, 6, none⟩ v6).setCell ⟨B, 7, none⟩ v7).setCell ⟨B, 8, none⟩ v8).setCell ⟨B, 9, none⟩ v9).setCell ⟨B, 10, none⟩ v10).setCell ⟨B, 11, none⟩ v11).setCell ⟨B, 12, none⟩ v12).setCell ⟨B, 13, none⟩ v13).setCell ⟨B, 14, none⟩ v14).setCell ⟨B, 15, none⟩ v15).setCell ⟨B, 16, none⟩ v16).setCell ⟨B, 17, none⟩ v17).setCell ⟨B, 18, none⟩ v18).setCell ⟨B, 19, none⟩ v19).setCell ⟨B, 20, none⟩ v20).heap[B]? = some (.cells #[v0, v1, v2, v3, v4, v5, v6, v7, v8, v9, v10, v11, v12, v13, v14, v15, v16, v17, v18, v19, v20, x21, x22, x23, x24, x25, x26] t (0, 0)) := (heap_setCell_same _ B 20 _ t v20 h19).trans (congrArg (fun c => some (Obj.cells c t (0, 0))) (show (#[v0, v1, v2, v3, v4, v5, v6, v7, v8, v9, v10, v11, v12, v13, v14, v15, v16, v17, v18, v19, x20, x21, x22, x23, x24, x25, x26] : Array Value).setIfInBounds 20 v20 = #[v0, v1, v2, v3, v4, v5, v6, v7, v8, v9, v10, v11, v12, v13, v14, v15, v16, v17, v18, v19, v20, x21, x22, x23, x24, x25, x26] from rfl))
  have h21 : ((((((((((((((((((((((w.setCell ⟨B, 0, none⟩ v0).setCell ⟨B, 1, none⟩ v1).setCell ⟨B, 2, none⟩ v2).setCell ⟨B, 3, none⟩ v3).setCell ⟨B, 4, none⟩ v4).setCell ⟨B, 5, none⟩ v5).setCell ⟨B, 6, none⟩ v6).setCell ⟨B, 7, none⟩ v7).setCell ⟨B, 8, none⟩ v8).setCell ⟨B, 9, none⟩ v9).setCell ⟨B, 10, none⟩ v10).setCell ⟨B, 11, none⟩ v11).setCell ⟨B, 12, none⟩ v12).setCell ⟨B, 13, none⟩ v13).setCell ⟨B, 14, none⟩ v14).setCell ⟨B, 15, none⟩ v15).setCell ⟨B, 16, none⟩ v16).setCell ⟨B, 17, none⟩ v17).setCell ⟨B, 18, none⟩ v18).setCell ⟨B, 19, none⟩ v19).setCell ⟨B, 20, none⟩ v20).setCell ⟨B, 21, none⟩ v21).heap[B]? = some (.cells #[v0, v1, v2, v3, v4, v5, v6, v7, v8, v9, v10, v11, v12, v13, v14, v15, v16, v17, v18, v19, v20, v21, x22, x23, x24, x25, x26] t (0, 0)) := (heap_setCell_same _ B 21 _ t v21 h20).trans (congrArg (fun c => some (Obj.cells c t (0, 0))) (show (#[v0, v1, v2, v3, v4, v5, v6, v7, v8, v9, v10, v11, v12, v13, v14, v15, v16, v17, v18, v19, v20, x21, x22, x23, x24, x25, x26] : Array Value).setIfInBounds 21 v21 = #[v0, v1, v2, v3, v4, v5, v6, v7, v8, v9, v10, v11, v12, v13, v14, v15, v16, v17, v18, v19, v20, v21, x22, x23, x24, x25, x26] from rfl))
  have h22 : (((((((((((((((((((((((w.setCell ⟨B, 0, none⟩ v0).setCell ⟨B, 1, none⟩ v1).setCell ⟨B, 2, none⟩ v2).setCell ⟨B, 3, none⟩ v3).setCell ⟨B, 4, none⟩ v4).setCell ⟨B, 5, none⟩ v5).setCell ⟨B, 6, none⟩ v6).setCell ⟨B, 7, none⟩ v7).setCell ⟨B, 8, none⟩ v8).setCell ⟨B, 9, none⟩ v9).setCell ⟨B, 10, none⟩ v10).setCell ⟨B, 11, none⟩ v11).setCell ⟨B, 12, none⟩ v12).setCell ⟨B, 13, none⟩ v13).setCell ⟨B, 14, none⟩ v14).setCell ⟨B, 15, none⟩ v15).setCell ⟨B, 16, none⟩ v16).setCell ⟨B, 17, none⟩ v17).setCell ⟨B, 18, none⟩ v18).setCell ⟨B, 19, none⟩ v19).setCell ⟨B, 20, none⟩ v20).setCell ⟨B, 21, none⟩ v21).setCell ⟨B, 22, none⟩ v22).heap[B]? = some (.cells #[v0, v1, v2, v3, v4, v5, v6, v7, v8, v9, v10, v11, v12, v13, v14, v15, v16, v17, v18, v19, v20, v21, v22, x23, x24, x25, x26] t (0, 0)) := (heap_setCell_same _ B 22 _ t v22 h21).trans (congrArg (fun c => some (Obj.cells c t (0, 0))) (show (#[v0, v1, v2, v3, v4, v5, v6, v7, v8, v9, v10, v11, v12, v13, v14, v15, v16, v17, v18, v19, v20, v21, x22, x23, x24, x25, x26] : Array Value).setIfInBounds 22 v22 = #[v0, v1, v2, v3, v4, v5, v6, v7, v8, v9, v10, v11, v12, v13, v14, v15, v16, v17, v18, v19, v20, v21, v22, x23, x24, x25, x26] from rfl))
  have h23 : ((((((((((((((((((((((((w.setCell ⟨B, 0, none⟩ v0).setCell ⟨B, 1, none⟩ v1).setCell ⟨B, 2, none⟩ v2).setCell ⟨B, 3, none⟩ v3).setCell ⟨B, 4, none⟩ v4).setCell ⟨B, 5, none⟩ v5).setCell ⟨B, 6, none⟩ v6).setCell ⟨B, 7, none⟩ v7).setCell ⟨B, 8, none⟩ v8).setCell ⟨B, 9, none⟩ v9).setCell ⟨B, 10, none⟩ v10).setCell ⟨B, 11, none⟩ v11).setCell ⟨B, 12, none⟩ v12).setCell ⟨B, 13, none⟩ v13).setCell ⟨B, 14, none⟩ v14).setCell ⟨B, 15, none⟩ v15).setCell ⟨B, 16, none⟩ v16).setCell ⟨B, 17, none⟩ v17).setCell ⟨B, 18, none⟩ v18).setCell ⟨B, 19, none⟩ v19).setCell ⟨B, 20, none⟩ v20).setCell ⟨B, 21, none⟩ v21).setCell ⟨B, 22, none⟩ v22).setCell ⟨B, 23, none⟩ v23).heap[B]? = some (.cells #[v0, v1, v2, v3, v4, v5, v6, v7, v8, v9, v10, v11, v12, v13, v14, v15, v16, v17, v18, v19, v20, v21, v22, v23, x24, x25, x26] t (0, 0)) := (heap_setCell_same _ B 23 _ t v23 h22).trans (congrArg (fun c => some (Obj.cells c t (0, 0))) (show (#[v0, v1, v2, v3, v4, v5, v6, v7, v8, v9, v10, v11, v12, v13, v14, v15, v16, v17, v18, v19, v20, v21, v22, x23, x24, x25, x26] : Array Value).setIfInBounds 23 v23 = #[v0, v1, v2, v3, v4, v5, v6, v7, v8, v9, v10, v11, v12, v13, v14, v15, v16, v17, v18, v19, v20, v21, v22, v23, x24, x25, x26] from rfl))
  have h24 : (((((((((((((((((((((((((w.setCell ⟨B, 0, none⟩ v0).setCell ⟨B, 1, none⟩ v1).setCell ⟨B, 2, none⟩ v2).setCell ⟨B, 3, none⟩ v3).setCell ⟨B, 4, none⟩ v4).setCell ⟨B, 5, none⟩ v5).setCell ⟨B, 6, none⟩ v6).setCell ⟨B, 7, none⟩ v7).setCell ⟨B, 8, none⟩ v8).setCell ⟨B, 9, none⟩ v9).setCell ⟨B, 10, none⟩ v10).setCell ⟨B, 11, none⟩ v11).setCell ⟨B, 12, none⟩ v12).setCell ⟨B, 13, none⟩ v13).setCell ⟨B, 14, none⟩ v14).setCell ⟨B, 15, none⟩ v15).setCell ⟨B, 16, none⟩ v16).setCell ⟨B, 17, none⟩ v17).setCell ⟨B, 18, none⟩ v18).setCell ⟨B, 19, none⟩ v19).setCell ⟨B, 20, none⟩ v20).setCell ⟨B, 21, none⟩ v21).setCell ⟨B, 22, none⟩ v22).setCell ⟨B, 23, none⟩ v23).setCell ⟨B, 24, none⟩ v24).heap[B]? = some (.cells #[v0, v1, v2, v3, v4, v5, v6, v7, v8, v9, v10, v11, v12, v13, v14, v15, v16, v17, v18, v19, v20, v21, v22, v23, v24, x25, x26] t (0, 0)) := (heap_setCell_same _ B 24 _ t v24 h23).trans (congrArg (fun c => some (Obj.cells c t (0, 0))) (show (#[v0, v1, v2, v3, v4, v5, v6, v7, v8, v9, v10, v11, v12, v13, v14, v15, v16, v17, v18, v19, v20, v21, v22, v23, x24, x25, x26] : Array Value).setIfInBounds 24 v24 = #[v0, v1, v2, v3, v4, v5, v6, v7, v8, v9, v10, v11, v12, v13, v14, v15, v16, v17, v18, v19, v20, v21, v22, v23, v24, x25, x26] from rfl))
  have h25 : ((((((((((((((((((((((((((w.setCell ⟨B, 0, none⟩ v0).setCell ⟨B, 1, none⟩ v1).setCell ⟨B, 2, none⟩ v2).setCell ⟨B, 3, none⟩ v3).setCell ⟨B, 4, none⟩ v4).setCell ⟨B, 5, none⟩ v5).setCell ⟨B, 6, none⟩ v6).setCell ⟨B, 7, none⟩ v7).setCell ⟨B, 8, none⟩ v8).setCell ⟨B, 9, none⟩ v9).setCell ⟨B, 10, none⟩ v10).setCell ⟨B, 11, none⟩ v11).setCell ⟨B, 12, none⟩ v12).setCell ⟨B, 13, none⟩ v13).setCell ⟨B, 14, none⟩ v14).setCell ⟨B, 15, none⟩ v15).setCell ⟨B, 16, none⟩ v16).setCell ⟨B, 17, none⟩ v17).setCell ⟨B, 18, none⟩ v18).setCell ⟨B, 19, none⟩ v19).setCell ⟨B, 20, none⟩ v20).setCell ⟨B, 21, none⟩ v21).setCell ⟨B, 22, none⟩ v22).setCell ⟨B, 23, none⟩ v23).setCell ⟨B, 24, none⟩ v24).setCell ⟨B, 25, none⟩ v25).heap[B]? = some (.cells #[v0, v1, v2, v3, v4, v5, v6, v7, v8, v9, v10, v11, v12, v13, v14, v15, v16, v17, v18, v19, v20, v21, v22, v23, v24, v25, x26] t (0, 0)) := (heap_setCell_same _ B 25 _ t v25 h24).trans (congrArg (fun c => some (Obj.cells c t (0, 0))) (show (#[v0, v1, v2, v3, v4, v5, v6, v7, v8, v9, v10, v11, v12, v13, v14, v15, v16, v17, v18, v19, v20, v21, v22, v23, v24, x25, x26] : Array Value).setIfInBounds 25 v25 = #[v0, v1, v2, v3, v4, v5, v6, v7, v8, v9, v10, v11, v12, v13, v14, v15, v16, v17, v18, v19, v20, v21, v22, v23, v24, v25, x26] from rfl))
  have h26 : (((((((((((((((((((((((((((w.setCell ⟨B, 0, none⟩ v0).setCell ⟨B, 1, none⟩ v1).setCell ⟨B, 2, none⟩ v2).setCell ⟨B, 3, none⟩ v3).setCell ⟨B, 4, none⟩ v4).setCell ⟨B, 5, none⟩ v5).setCell ⟨B, 6, none⟩ v6).setCell ⟨B, 7, none⟩ v7).setCell ⟨B, 8, none⟩ v8).setCell ⟨B, 9, none⟩ v9).setCell ⟨B, 10, none⟩ v10).setCell ⟨B, 11, none⟩ v11).setCell ⟨B, 12, none⟩ v12).setCell ⟨B, 13, none⟩ v13).setCell ⟨B, 14, none⟩ v14).setCell ⟨B, 15, none⟩ v15).setCell ⟨B, 16, none⟩ v16).setCell ⟨B, 17, none⟩ v17).setCell ⟨B, 18, none⟩ v18).setCell ⟨B, 19, none⟩ v19).setCell ⟨B, 20, none⟩ v20).setCell ⟨B, 21, none⟩ v21).setCell ⟨B, 22, none⟩ v22).setCell ⟨B, 23, none⟩ v23).setCell ⟨B, 24, none⟩ v24).setCell ⟨B, 25, none⟩ v25).setCell ⟨B, 26, none⟩ v26).heap[B]? = some (.cells #[v0, v1, v2, v3, v4, v5, v6, v7, v8, v9, v10, v11, v12, v13, v14, v15, v16, v17, v18, v19, v20, v21, v22, v23, v24, v25, v26] t (0, 0)) := (heap_setCell_same _ B 26 _ t v26 h25).trans (congrArg (fun c => some (Obj.cells c t (0, 0))) (show (#[v0, v1, v2, v3, v4, v5, v6, v7, v8, v9, v10, v11, v12, v13, v14, v15, v16, v17, v18, v19, v20, v21, v22, v23, v24, v25, x26] : Array Value).setIfInBounds 26 v26 = #[v0, v1, v2, v3, v4, v5, v6, v7, v8, v9, v10, v11, v12, v13, v14, v15, v16, v17, v18, v19, v20, v21, v22, v23, v24, v25, v26] from rfl))
  exact h26
theorem ad27_upd (w : World) (B : Nat) (v0 v1 v2 v3 v4 v5 v6 v7 v8 v9 v10 v11 v12 v13 v14 v15 v16 v17 v18 v19 v20 v21 v22 v23 v24 v25 v26 : Value) : Upd B B w (ad27 w B v0 v1 v2 v3 v4 v5 v6 v7 v8 v9 v10 v11 v12 v13 v14 v15 v16 v17 v18 v19 v20 v21 v22 v23 v24 v25 v26) := by
  have u := fun (w : World) (i : Nat) (v : Value) => (show Upd B B w (w.setCell ⟨B, i, none⟩ v) from ⟨rfl, rfl, rfl, by simp, fun k hk h1 _ => heap_setCell_other w ⟨B, i, none⟩ k v h1⟩)
  exact (((((((((((((((((((((((((((u _ _ _).trans (u _ _ _)).trans (u _ _ _)).trans (u _ _ _)).trans (u _ _ _)).trans (u _ _ _)).trans (u _ _ _)).trans (u _ _ _)).trans (u _ _ _)).trans (u _ _ _)).trans (u _ _ _)).trans (u _ _ _)).trans (u _ _ _)).trans (u _ _ _)).trans (u _ _ _)).trans (u _ _ _)).trans (u _ _ _)).trans (u _ _ _)).trans (u _ _ _)).trans (u _ _ _)).trans (u _ _ _)).trans (u _ _ _)).trans (u _ _ _)).trans (u _ _ _)).trans (u _ _ _)).trans (u _ _ _)).trans (u _ _ _))
abbrev adD (w : World) (B : Nat) (v0 v1 v2 v3 v4 v5 v6 v7 v8 v9 v10 : Value) : World := (((((((((((w.setCell ⟨B, 2, none⟩ v0).setCell ⟨B, 3, none⟩ v1).setCell ⟨B, 4, none⟩ v2).setCell ⟨B, 5, none⟩ v3).setCell ⟨B, 6, none⟩ v4).setCell ⟨B, 7, none⟩ v5).setCell ⟨B, 8, none⟩ v6).setCell ⟨B, 9, none⟩ v7).setCell ⟨B, 10, none⟩ v8).setCell ⟨B, 11, none⟩ v9).setCell ⟨B, 12, none⟩ v10)
theorem adD_same (w : World) (B : Nat) (t : TypeId) (x0 x1 x2 x3 x4 x5 x6 x7 x8 x9 x10 x11 x12 x13 x14 x15 x16 x17 x18 x19 x20 x21 x22 x23 x24 x25 x26 : Value) (h : w.heap[B]? = some (.cells #[x0, x1, x2, x3, x4, x5, x6, x7, x8, x9, x10, x11, x12, x13, x14, x15, x16, x17, x18, x19, x20, x21, x22, x23, x24, x25, x26] t (0, 0))) (v0 v1 v2 v3 v4 v5 v6 v7 v8 v9 v10 : Value) : (adD w B v0 v1 v2 v3 v4 v5 v6 v7 v8 v9 v10).heap[B]? = some (.cells #[x0, x1, v0, v1, v2, v3, v4, v5, v6, v7, v8, v9, v10, x13, x14, x15, x16, x17, x18, x19, x20, x21, x22, x23, x24, x25, x26] t (0, 0)) := by
  have h0 : (w.setCell ⟨B, 2, none⟩ v0).heap[B]? = some (.cells #[x0, x1, v0, x3, x4, x5, x6, x7, x8, x9, x10, x11, x12, x13, x14, x15, x16, x17, x18, x19, x20, x21, x22, x23, x24, x25, x26] t (0, 0)) := (heap_setCell_same _ B 2 _ t v0 h).trans (congrArg (fun c => some (Obj.cells c t (0, 0))) (show (#[x0, x1, x2, x3, x4, x5, x6, x7, x8, x9, x10, x11, x12, x13, x14, x15, x16, x17, x18, x19, x20, x21, x22, x23, x24, x25, x26] : Array Value).setIfInBounds 2 v0 = #[x0, x1, v0, x3, x4, x5, x6, x7, x8, x9, x10, x11, x12, x13, x14, x15, x16, x17, x18, x19, x20, x21, x22, x23, x24, x25, x26] from rfl))
  have h1 : ((w.setCell ⟨B, 2, none⟩ v0).setCell ⟨B, 3, none⟩ v1).heap[B]? = some (.cells #[x0, x1, v0, v1, x4, x5, x6, x7, x8, x9, x10, x11, x12, x13, x14, x15, x16, x17, x18, x19, x20, x21, x22, x23, x24, x25, x26] t (0, 0)) := (heap_setCell_same _ B 3 _ t v1 h0).trans (congrArg (fun c => some (Obj.cells c t (0, 0))) (show (#[x0, x1, v0, x3, x4, x5, x6, x7, x8, x9, x10, x11, x12, x13, x14, x15, x16, x17, x18, x19, x20, x21, x22, x23, x24, x25, x26] : Array Value).setIfInBounds 3 v1 = #[x0, x1, v0, v1, x4, x5, x6, x7, x8, x9, x10, x11, x12, x13, x14, x15, x16, x17, x18, x19, x20, x21, x22, x23, x24, x25, x26] from rfl))
  have h2 : (((w.setCell ⟨B, 2, none⟩ v0).setCell ⟨B, 3, none⟩ v1).setCell ⟨B, 4, none⟩ v2).heap[B]? = some (.cells #[x0, x1, v0, v1, v2, x5, x6, x7, x8, x9, x10, x11, x12, x13, x14, x15, x16, x17, x18, x19, x20, x21, x22, x23, x24, x25, x26] t (0, 0)) := (heap_setCell_same _ B 4 _ t v2 h1).trans (congrArg (fun c => some (Obj.cells c t (0, 0))) (show (#[x0, x1, v0, v1, x4, x5, x6, x7, x8, x9, x10, x11, x12, x13, x14, x15, x16, x17, x18, x19, x20, x21, x22, x23, x24, x25, x26] : Array Value).setIfInBounds 4 v2 = #[x0, x1, v0, v1, v2, x5, x6, x7, x8, x9, x10, x11, x12, x13, x14, x15, x16, x17, x18, x19, x20, x21, x22, x23, x24, x25, x26] from rfl))
  have h3 : ((((w.setCell ⟨B, 2, none⟩ v0).setCell ⟨B, 3, none⟩ v1).setCell ⟨B, 4, none⟩ v2).setCell ⟨B, 5, none⟩ v3).heap[B]? = some (.cells #[x0, x1, v0, v1, v2, v3, x6, x7, x8, x9, x10, x11, x12, x13, x14, x15, x16, x17, x18, x19, x20, x21, x22, x23, x24, x25, x26] t (0, 0)) := (heap_setCell_same _ B 5 _ t v3 h2).trans (congrArg (fun c => some (Obj.cells c t (0, 0))) (show (#[x0, x1, v0, v1, v2, x5, x6, x7, x8, x9, x10, x11, x12, x13, x14, x15, x16, x17, x18, x19, x20, x21, x22, x23, x24, x25, x26] : Array Value).setIfInBounds 5 v3 = #[x0, x1, v0, v1, v2, v3, x6, x7, x8, x9, x10, x11, x12, x13, x14, x15, x16, x17, x18, x19, x20, x21, x22, x23, x24, x25, x26] from rfl))
  have h4 : (((((w.setCell ⟨B, 2, none⟩ v0).setCell ⟨B, 3, none⟩ v1).setCell ⟨B, 4, none⟩ v2).setCell ⟨B, 5, none⟩ v3).setCell ⟨B, 6, none⟩ v4).heap[B]? = some (.cells #[x0, x1, v0, v1, v2, v3, v4, x7, x8, x9, x10, x11, x12, x13, x14, x15, x16, x17, x18, x19, x20, x21, x22, x23, x24, x25, x26] t (0, 0)) := (heap_setCell_same _ B 6 _ t v4 h3).trans (congrArg (fun c => some (Obj.cells c t (0, 0))) (show (#[x0, x1, v0, v1, v2, v3, x6, x7, x8, x9, x10, x11, x12, x13, x14, x15, x16, x17, x18, x19, x20, x21, x22, x23, x24, x25, x26] : Array Value).setIfInBounds 6 v4 = #[x0, x1, v0, v1, v2, v3, v4, x7, x8, x9, x10, x11, x12, x13, x14, x15, x16, x17, x18, x19, x20, x21, x22, x23, x24, x25, x26] from rfl))
  have h5 : ((((((w.setCell ⟨B, 2, none⟩ v0).setCell ⟨B, 3, none⟩ v1).setCell ⟨B, 4, none⟩ v2).setCell ⟨B, 5, none⟩ v3).setCell ⟨B, 6, none⟩ v4).setCell ⟨B, 7, none⟩ v5).heap[B]? = some (.cells #[x0, x1, v0, v1, v2, v3, v4, v5, x8, x9, x10, x11, x12, x13, x14, x15, x16, x17, x18, x19, x20, x21, x22, x23, x24, x25, x26] t (0, 0)) := (heap_setCell_same _ B 7 _ t v5 h4).trans (congrArg (fun c => some (Obj.cells c t (0, 0))) (show (#[x0, x1, v0, v1, v2, v3, v4, x7, x8, x9, x10, x11, x12, x13, x14, x15, x16, x17, x18, x19, x20, x21, x22, x23, x24, x25, x26] : Array Value).setIfInBounds 7 v5 = #[x0, x1, v0, v1, v2, v3, v4, v5, x8, x9, x10, x11, x12, x13, x14, x15, x16, x17, x18, x19, x20, x21, x22, x23, x24, x25, x26] from rfl))
  have h6 : (((((((w.setCell ⟨B, 2, none⟩ v0).setCell ⟨B, 3, none⟩ v1).setCell ⟨B, 4, none⟩ v2).setCell ⟨B, 5, none⟩ v3).setCell ⟨B, 6, none⟩ v4).setCell ⟨B, 7, none⟩ v5).setCell ⟨B, 8, none⟩ v6).heap[B]? = some (.cells #[x0, x1, v0, v1, v2, v3, v4, v5, v6, x9, x10, x11, x12, x13, x14, x15, x16, x17, x18, x19, x20, x21, x22, x23, x24, x25, x26] t (0, 0)) := (heap_setCell_same _ B 8 _ t v6 h5).trans (congrArg (fun c => some (Obj.cells c t (0, 0))) (show (#[x0, x1, v0, v1, v2, v3, v4, v5, x8, x9, x10, x11, x12, x13, x14, x15, x16, x17, x18, x19, x20, x21, x22, x23, x24, x25, x26] : Array Value).setIfInBounds 8 v6 = #[x0, x1, v0, v1, v2, v3, v4, v5, v6, x9, x10, x11, x12, x13, x14, x15, x16, x17, x18, x19, x20, x21, x22, x23, x24, x25, x26] from rfl))
  have h7 : ((((((((w.setCell ⟨B, 2, none⟩ v0).setCell ⟨B, 3, none⟩ v1).setCell ⟨B, 4, none⟩ v2).setCell ⟨B, 5, none⟩ v3).setCell ⟨B, 6, none⟩ v4).setCell ⟨B, 7, none⟩ v5).setCell ⟨B, 8, none⟩ v6).setCell ⟨B, 9, none⟩ v7).heap[B]? = some (.cells #[x0, x1, v0, v1, v2, v3, v4, v5, v6, v7, x10, x11, x12, x13, x14, x15, x16, x17, x18, x19, x20, x21, x22, x23, x24, x25, x26] t (0, 0)) := (heap_setCell_same _ B 9 _ t v7 h6).trans (congrArg (fun c => some (Obj.cells c t (0, 0))) (show (#[x0, x1, v0, v1, v2, v3, v4, v5, v6, x9, x10, x11, x12, x13, x14, x15, x16, x17, x18, x19, x20, x21, x22, x23, x24, x25, x26] : Array Value).setIfInBounds 9 v7 = #[x0, x1, v0, v1, v2, v3, v4, v5, v6, v7, x10, x11, x12, x13, x14, x15, x16, x17, x18, x19, x20, x21, x22, x23, x24, x25, x26] from rfl))
  have h8 : (((((((((w.setCell ⟨B, 2, none⟩ v0).setCell ⟨B, 3, none⟩ v1).setCell ⟨B, 4, none⟩ v2).setCell ⟨B, 5, none⟩ v3).setCell ⟨B, 6, none⟩ v4).setCell ⟨B, 7, none⟩ v5).setCell ⟨B, 8, none⟩ v6).setCell ⟨B, 9, none⟩ v7).setCell ⟨B, 10, none⟩ v8).heap[B]? = some (.cells #[x0, x1, v0, v1, v2, v3, v4, v5, v6, v7, v8, x11, x12, x13, x14, x15, x16, x17, x18, x19, x20, x21, x22, x23, x24, x25, x26] t (0, 0)) := (heap_setCell_same _ B 10 _ t v8 h7).trans (congrArg (fun c => some (Obj.cells c t (0, 0))) (show (#[x0, x1, v0, v1, v2, v3, v4, v5, v6, v7, x10, x11, x12, x13, x14, x15, x16, x17, x18, x19, x20, x21, x22, x23, x24, x25, x26] : Array Value).setIfInBounds 10 v8 = #[x0, x1, v0, v1, v2, v3, v4, v5, v6, v7, v8, x11, x12, x13, x14, x15, x16, x17, x18, x19, x20, x21, x22, x23, x24, x25, x26] from rfl))
  have h9 : ((((((((((w.setCell ⟨B, 2, none⟩ v0).setCell ⟨B, 3, none⟩ v1).setCell ⟨B, 4, none⟩ v2).setCell ⟨B, 5, none⟩ v3).setCell ⟨B, 6, none⟩ v4).setCell ⟨B, 7, none⟩ v5).setCell ⟨B, 8, none⟩ v6).setCell ⟨B, 9, none⟩ v7).setCell ⟨B, 10, none⟩ v8).setCell ⟨B, 11, none⟩ v9).heap[B]? = some (.cells #[x0, x1, v0, v1, v2, v3, v4, v5, v6, v7, v8, v9, x12, x13, x14, x15, x16, x17, x18, x19, x20, x21, x22, x23, x24, x25, x26] t (0, 0)) := (heap_setCell_same _ B 11 _ t v9 h8).trans (congrArg (fun c => some (Obj.cells c t (0, 0))) (show (#[x0, x1, v0, v1, v2, v3, v4, v5, v6, v7, v8, x11, x12, x13, x14, x15, x16, x17, x18, x19, x20, x21, x22, x23, x24, x25, x26] : Array Value).setIfInBounds 11 v9 = #[x0, x1, v0, v1, v2, v3, v4, v5, v6, v7, v8, v9, x12, x13, x14, x15, x16, x17, x18, x19, x20, x21, x22, x23, x24, x25, x26] from rfl))
  have h10 : (((((((((((w.setCell ⟨B, 2, none⟩ v0).setCell ⟨B, 3, none⟩ v1).setCell ⟨B, 4, none⟩ v2).setCell ⟨B, 5, none⟩ v3).setCell ⟨B, 6, none⟩ v4).setCell ⟨B, 7, none⟩ v5).setCell ⟨B, 8, none⟩ v6).setCell ⟨B, 9, none⟩ v7).setCell ⟨B, 10, none⟩ v8).setCell ⟨B, 11, none⟩ v9).setCell ⟨B, 12, none⟩ v10).heap[B]? = some (.cells #[x0, x1, v0, v1, v2, v3, v4, v5, v6, v7, v8, v9, v10, x13, x14, x15, x16, x17, x18, x19, x20, x21, x22, x23, x24, x25, x26] t (0, 0)) := (heap_setCell_same _ B 12 _ t v10 h9).trans (congrArg (fun c => some (Obj.cells c t (0, 0))) (show (#[x0, x1, v0, v1, v2, v3, v4, v5, v6, v7, v8, v9, x12, x13, x14, x15, x16, x17, x18, x19, x20, x21, x22, x23, x24, x25, x26] : Array Value).setIfInBounds 12 v10 = #[x0, x1, v0, v1, v2, v3, v4, v5, v6, v7, v8, v9, v10, x13, x14, x15, x16, x17, x18, x19, x20, x21, x22, x23, x24, x25, x26] from rfl))
  exact h10
theorem adD_upd (w : World) (B : Nat) (v0 v1 v2 v3 v4 v5 v6 v7 v8 v9 v10 : Value) : Upd B B w (adD w B v0 v1 v2 v3 v4 v5 v6 v7 v8 v9 v10) := by
  have u := fun (w : World) (i : Nat) (v : Value) => (show Upd B B w (w.setCell ⟨B, i, none⟩ v) from ⟨rfl, rfl, rfl, by simp, fun k hk h1 _ => heap_setCell_other w ⟨B, i, none⟩ k v h1⟩)
  exact (((((((((((u _ _ _).trans (u _ _ _)).trans (u _ _ _)).trans (u _ _ _)).trans (u _ _ _)).trans (u _ _ _)).trans (u _ _ _)).trans (u _ _ _)).trans (u _ _ _)).trans (u _ _ _)).trans (u _ _ _))
abbrev adP (w : World) (B : Nat) (v0 v1 v2 v3 v4 v5 v6 v7 v8 v9 v10 v11 v12 : Value) : World := (((((((((((((w.setCell ⟨B, 13, none⟩ v0).setCell ⟨B, 14, none⟩ v1).setCell ⟨B, 15, none⟩ v2).setCell ⟨B, 16, none⟩ v3).setCell ⟨B, 17, none⟩ v4).setCell ⟨B, 18, none⟩ v5).setCell ⟨B, 19, none⟩ v6).setCell ⟨B, 20, none⟩ v7).setCell ⟨B, 21, none⟩ v8).setCell ⟨B, 22, none⟩ v9).setCell ⟨B, 23, none⟩ v10).setCell ⟨B, 24, none⟩ v11).setCell ⟨B, 25, none⟩ v12)
theorem adP_same (w : World) (B : Nat) (t : TypeId) (x0 x1 x2 x3 x4 x5 x6 x7 x8 x9 x10 x11 x12 x13 x14 x15 x16 x17 x18 x19 x20 x21 x22 x23 x24 x25 x26 : Value) (h : w.heap[B]? = some (.cells #[x0, x1, x2, x3, x4, x5, x6, x7, x8, x9, x10, x11, x12, x13, x14, x15, x16, x17, x18, x19, x20, x21, x22, x23, x24, x25, x26] t (0, 0))) (v0 v1 v2 v3 v4 v5 v6 v7 v8 v9 v10 v11 v12 : Value) : (adP w B v0 v1 v2 v3 v4 v5 v6 v7 v8 v9 v10 v11 v12).heap[B]? = some (.cells #[x0, x1, x2, x3, x4, x5, x6, x7, x8, x9, x10, x11, x12, v0, v1, v2, v3, v4, v5, v6, v7, v8, v9, v10, v11, v12, x26] t (0, 0)) := by
  have h0 : (w.setCell ⟨B, 13, none⟩ v0).heap[B]? = some (.cells #[x0, x1, x2, x3, x4, x5, x6, x7, x8, x9, x10, x11, x12, v0, x14, x15, x16, x17, x18, x19, x20, x21, x22, x23, x24, x25, x26] t (0, 0)) := (heap_setCell_same _ B 13 _ t v0 h).trans (congrArg (fun c => some (Obj.cells c t (0, 0))) (show (#[x0, x1, x2, x3, x4, x5, x6, x7, x8, x9, x10, x11, x12, x13, x14, x15, x16, x17, x18, x19, x20, x21, x22, x23, x24, x25, x26] : Array Value).setIfInBounds 13 v0 = #[x0, x1, x2, x3, x4, x5, x6, x7, x8, x9, x10, x11, x12, v0, x14, x15, x16, x17, x18, x19, x20, x21, x22, x23, x24, x25, x26] from rfl))
  have h1 : ((w.setCell ⟨B, 13, none⟩ v0).setCell ⟨B, 14, none⟩ v1).heap[B]? = some (.cells #[x0, x1, x2, x3, x4, x5, x6, x7, x8, x9, x10, x11, x12, v0, v1, x15, x16, x17, x18, x19, x20, x21, x22, x23, x24, x25, x26] t (0, 0)) := (heap_setCell_same _ B 14 _ t v1 h0).trans (congrArg (fun c => some (Obj.cells c t (0, 0))) (show (#[x0, x1, x2, x3, x4, x5, x6, x7, x8, x9, x10, x11, x12, v0, x14, x15, x16, x17, x18, x19, x20, x21, x22, x23, x24, x25, x26] : Array Value).setIfInBounds 14 v1 = #[x0, x1, x2, x3, x4, x5, x6, x7, x8, x9, x10, x11, x12, v0, v1, x15, x16, x17, x18, x19, x20, x21, x22, x23, x24, x25, x26] from rfl))
  have h2 : (((w.setCell ⟨B, 13, none⟩ v0).setCell ⟨B, 14, none⟩ v1).setCell ⟨B, 15, none⟩ v2).heap[B]? = some (.cells #[x0, x1, x2, x3, x4, x5, x6, x7, x8, x9, x10, x11, x12, v0, v1, v2, x16, x17, x18, x19, x20, x21, x22, x23, x24, x25, x26] t (0, 0)) := (heap_setCell_same _ B 15 _ t v2 h1).trans (congrArg (fun c => some (Obj.cells c t (0, 0))) (show (#[x0, x1, x2, x3, x4, x5, x6, x7, x8, x9, x10, x11, x12, v0, v1, x15, x16, x17, x18, x19, x20, x21, x22, x23, x24, x25, x26] : Array Value).setIfInBounds 15 v2 = #[x0, x1, x2, x3, x4, x5, x6, x7, x8, x9, x10, x11, x12, v0, v1, v2, x16, x17, x18, x19, x20, x21, x22, x23, x24, x25, x26] from rfl))
  have h3 : ((((w.setCell ⟨B, 13, none⟩ v0).setCell ⟨B, 14, none⟩ v1).setCell ⟨B, 15, none⟩ v2).setCell ⟨B, 16, none⟩ v3).heap[B]? = some (.cells #[x0, x1, x2, x3, x4, x5, x6, x7, x8, x9, x10, x11, x12, v0, v1, v2, v3, x17, x18, x19, x20, x21, x22, x23, x24, x25, x26] t (0, 0)) := (heap_setCell_same _ B 16 _ t v3 h2).trans (congrArg (fun c => some (Obj.cells c t (0, 0))) (show (#[x0, x1, x2, x3, x4, x5, x6, x7, x8, x9, x10, x11, x12, v0, v1, v2, x16, x17, x18, x19, x20, x21, x22, x23, x24, x25, x26] : Array Value).setIfInBounds 16 v3 = #[x0, x1, x2, x3, x4, x5, x6, x7, x8, x9, x10, x11, x12, v0, v1, v2, v3, x17, x18, x19, x20, x21, x22, x23, x24, x25, x26] from rfl))
  have h4 : (((((w.setCell ⟨B, 13, none⟩ v0).setCell ⟨B, 14, none⟩ v1).setCell ⟨B, 15, none⟩ v2).setCell ⟨B, 16, none⟩ v3).setCell ⟨B, 17, none⟩ v4).heap[B]? = some (.cells #[x0, x1, x2, x3, x4, x5, x6, x7, x8, x9, x10, x11, x12, v0, v1, v2, v3, v4, x18, x19, x20, x21, x22, x23, x24, x25, x26] t (0, 0)) := (heap_setCell_same _ B 17 _ t v4 h3).trans (congrArg (fun c => some (Obj.cells c t (0, 0))) (show (#[x0, x1, x2, x3, x4, x5, x6, x7, x8, x9, x10, x11, x12, v0, v1, v2, v3, x17, x18, x19, x20, x21, x22, x23, x24, x25, x26] : Array Value).setIfInBounds 17 v4 = #[x0, x1, x2, x3, x4, x5, x6, x7, x8, x9, x10, x11, x12, v0, v1, v2, v3, v4, x18, x19, x20, x21, x22, x23, x24, x25, x26] from rfl))
  have h5 : ((((((w.setCell ⟨B, 13, none⟩ v0).setCell ⟨B, 14, none⟩ v1).setCell ⟨B, 15, none⟩ v2).setCell ⟨B, 16, none⟩ v3).setCell ⟨B, 17, none⟩ v4).setCell ⟨B, 18, none⟩ v5).heap[B]? = some (.cells #[x0, x1, x2, x3, x4, x5, x6, x7, x8, x9, x10, x11, x12, v0, v1, v2, v3, v4, v5, x19, x20, x21, x22, x23, x24, x25, x26] t (0, 0)) := (heap_setCell_same _ B 18 _ t v5 h4).trans (congrArg (fun c => some (Obj.cells c t (0, 0))) (show (#[x0, x1, x2, x3, x4, x5, x6, x7, x8, x9, x10, x11, x12, v0, v1, v2, v3, v4, x18, x19, x20, x21, x22, x23, x24, x25, x26] : Array Value).setIfInBounds 18 v5 = #[x0, x1, x2, x3, x4, x5, x6, x7, x8, x9, x10, x11, x12, v0, v1, v2, v3, v4, v5, x19, x20, x21, x22, x23, x24, x25, x26] from rfl))
  have h6 : (((((((w.setCell ⟨B, 13, none⟩ v0).setCell ⟨B, 14, none⟩ v1).setCell ⟨B, 15, none⟩ v2).setCell ⟨B, 16, none⟩ v3).setCell ⟨B, 17, none⟩ v4).setCell ⟨B, 18, none⟩ v5).setCell ⟨B, 19, none⟩ v6).heap[B]? = some (.cells #[x0, x1, x2, x3, x4, x5, x6, x7, x8, x9, x10, x11, x12, v0, v1, v2, v3, v4, v5, v6, x20, x21, x22, x23, x24, x25, x26] t (0, 0)) := (heap_setCell_same _ B 19 _ t v6 h5).trans (congrArg (fun c => some (Obj.cells c t (0, 0))) (show (#[x0, x1, x2, x3, x4, x5, x6, x7, x8, x9, x10, x11, x12, v0, v1, v2, v3, v4, v5, x19, x20, x21, x22, x23, x24, x25, x26] : Array Value).setIfInBounds 19 v6 = #[x0, x1, x2, x3, x4, x5, x6, x7, x8, x9, x10, x11, x12, v0, v1, v2, v3, v4, v5, v6, x20, x21, x22, x23, x24, x25, x26] from rfl))
  have h7 : ((((((((w.setCell ⟨B, 13, none⟩ v0).setCell ⟨B, 14, none⟩ v1).setCell ⟨B, 15, none⟩ v2).setCell ⟨B, 16, none⟩ v3).setCell ⟨B, 17, none⟩ v4).setCell ⟨B, 18, none⟩ v5).setCell ⟨B, 19, none⟩ v6).setCell ⟨B, 20, none⟩ v7).heap[B]? = some (.cells #[x0, x1, x2, x3, x4, x5, x6, x7, x8, x9, x10, x11, x12, v0, v1, v2, v3, v4, v5, v6, v7, x21, x22, x23, x24, x25, x26] t (0, 0)) := (heap_setCell_same _ B 20 _ t v7 h6).trans (congrArg (fun c => some (Obj.cells c t (0, 0))) (show (#[x0, x1, x2, x3, x4, x5, x6, x7, x8, x9, x10, x11, x12, v0, v1, v2, v3, v4, v5, v6, x20, x21, x22, x23, x24, x25, x26] : Array Value).setIfInBounds 20 v7 = #[x0, x1, x2, x3, x4, x5, x6, x7, x8, x9, x10, x11, x12, v0, v1, v2, v3, v4, v5, v6, v7, x21, x22, x23, x24, x25, x26] from rfl))
  have h8 : (((((((((w.setCell ⟨B, 13, none⟩ v0).setCell ⟨B, 14, none⟩ v1).setCell ⟨B, 15, none⟩ v2).setCell ⟨B, 16, none⟩ v3).setCell ⟨B, 17, none⟩ v4).setCell ⟨B, 18, none⟩ v5).setCell ⟨B, 19, none⟩ v6).setCell ⟨B, 20, none⟩ v7).setCell ⟨B, 21, none⟩ v8).heap[B]? = some (.cells #[x0, x1, x2, x3, x4, x5, x6, x7, x8, x9, x10, x11, x12, v0, v1, v2, v3, v4, v5, v6, v7, v8, x22, x23, x24, x25, x26] t (0, 0)) := (heap_setCell_same _ B 21 _ t v8 h7).trans (congrArg (fun c => some (Obj.cells c t (0, 0))) (show (#[x0, x1, x2, x3, x4, x5, x6, x7, x8, x9, x10, x11, x12, v0, v1, v2, v3, v4, v5, v6, v7, x21, x22, x23, x24, x25, x26] : Array Value).setIfInBounds 21 v8 = #[x0, x1, x2, x3, x4, x5, x6, x7, x8, x9, x10, x11, x12, v0, v1, v2, v3, v4, v5, v6, v7, v8, x22, x23, x24, x25, x26] from rfl))
  have h9 : ((((((((((w.setCell ⟨B, 13, none⟩ v0).setCell ⟨B, 14, none⟩ v1).setCell ⟨B, 15, none⟩ v2).setCell ⟨B, 16, none⟩ v3).setCell ⟨B, 17, none⟩ v4).setCell ⟨B, 18, none⟩ v5).setCell ⟨B, 19, none⟩ v6).setCell ⟨B, 20, none⟩ v7).setCell ⟨B, 21, none⟩ v8).setCell ⟨B, 22, none⟩ v9).heap[B]? = some (.cells #[x0, x1, x2, x3, x4, x5, x6, x7, x8, x9, x10, x11, x12, v0, v1, v2, v3, v4, v5, v6, v7, v8, v9, x23, x24, x25, x26] t (0, 0)) := (heap_setCell_same _ B 22 _ t v9 h8).trans (congrArg (fun c => some (Obj.cells c t (0, 0))) (show (#[x0, x1, x2, x3, x4, x5, x6, x7, x8, x9, x10, x11, x12, v0, v1, v2, v3, v4, v5, v6, v7, v8, x22, x23, x24, x25, x26] : Array Value).setIfInBounds 22 v9 = #[x0, x1, x2, x3, x4, x5, x6, x7, x8, x9, x10, x11, x12, v0, v1, v2, v3, v4, v5, v6, v7, v8, v9, x23, x24, x25, x26] from rfl))
  have h10 : (((((((((((w.setCell ⟨B, 13, none⟩ v0).setCell ⟨B, 14, none⟩ v1).setCell ⟨B, 15, none⟩ v2).setCell ⟨B, 16, none⟩ v3).setCell ⟨B, 17, none⟩ v4).setCell ⟨B, 18, none⟩ v5).setCell ⟨B, 19, none⟩ v6).setCell ⟨B, 20, none⟩ v7).setCell ⟨B, 21, none⟩ v8).setCell ⟨B, 22, none⟩ v9).setCell ⟨B, 23, none⟩ v10).heap[B]? = some (.cells #[x0, x1, x2, x3, x4, x5, x6, x7, x8, x9, x10, x11, x12, v0, v1, v2, v3, v4, v5, v6, v7, v8, v9, v10, x24, x25, x26] t (0, 0)) := (heap_setCell_same _ B 23 _ t v10 h9).trans (congrArg (fun c => some (Obj.cells c t (0, 0))) (show (#[x0, x1, x2, x3, x4, x5, x6, x7, x8, x9, x10, x11, x12, v0, v1, v2, v3, v4, v5, v6, v7, v8, v9, x23, x24, x25, x26] : Array Value).setIfInBounds 23 v10 = #[x0, x1, x2, x3, x4, x5, x6, x7, x8, x9, x10, x11, x12, v0, v1, v2, v3, v4, v5, v6, v7, v8, v9, v10, x24, x25, x26] from rfl))
  have h11 : ((((((((((((w.setCell ⟨B, 13, none⟩ v0).setCell ⟨B, 14, none⟩ v1).setCell ⟨B, 15, none⟩ v2).setCell ⟨B, 16, none⟩ v3).setCell ⟨B, 17, none⟩ v4).setCell ⟨B, 18, none⟩ v5).setCell ⟨B, 19, none⟩ v6).setCell ⟨B, 20, none⟩ v7).setCell ⟨B, 21, none⟩ v8).setCell ⟨B, 22, none⟩ v9).setCell ⟨B, 23, none⟩ v10).setCell ⟨B, 24, none⟩ v11).heap[B]? = some (.cells #[x0, x1, x2, x3, x4, x5, x6, x7, x8, x9, x10, x11, x12, v0, v1, v2, v3, v4, v5, v6, v7, v8, v9, v10, v11, x25, x26] t (0, 0)) := (heap_setCell_same _ B 24 _ t v11 h10).trans (congrArg (fun c => some (Obj.cells c t (0, 0))) (show (#[x0, x1, x2, x3, x4, x5, x6, x7, x8, x9, x10, x11, x12, v0, v1, v2, v3, v4, v5, v6, v7, v8, v9, v10, x24, x25, x26] : Array Value).setIfInBounds 24 v11 = #[x0, x1, x2, x3, x4, x5, x6, x7, x8, x9, x10, x11, x12, v0, v1, v2, v3, v4, v5, v6, v7, v8, v9, v10, v11, x25, x26] from rfl))
  have h12 : (((((((((((((w.setCell ⟨B, 13, none⟩ v0).setCell ⟨B, 14, none⟩ v1).setCell ⟨B, 15, none⟩ v2).setCell ⟨B, 16, none⟩ v3).setCell ⟨B, 17, none⟩ v4).setCell ⟨B, 18, none⟩ v5).setCell ⟨B, 19, none⟩ v6).setCell ⟨B, 20, none⟩ v7).setCell ⟨B, 21, none⟩ v8).setCell ⟨B, 22, none⟩ v9).setCell ⟨B, 23, none⟩ v10).setCell ⟨B, 24, none⟩ v11).setCell ⟨B, 25, none⟩ v12).heap[B]? = some (.cells #[x0, x1, x2, x3, x4, x5, x6, x7, x8, x9, x10, x11, x12, v0, v1, v2, v3, v4, v5, v6, v7, v8, v9, v10, v11, v12, x26] t (0, 0)) := (heap_setCell_same _ B 25 _ t v12 h11).trans (congrArg (fun c => some (Obj.cells c t (0, 0))) (show (#[x0, x1, x2, x3, x4, x5, x6, x7, x8, x9, x10, x11, x12, v0, v1, v2, v3, v4, v5, v6, v7, v8, v9, v10, v11, x25, x26] : Array Value).setIfInBounds 25 v12 = #[x0, x1, x2, x3, x4, x5, x6, x7, x8, x9, x10, x11, x12, v0, v1, v2, v3, v4, v5, v6, v7, v8, v9, v10, v11, v12, x26] from rfl))
  exact h12
theorem adP_upd (w : World) (B : Nat) (v0 v1 v2 v3 v4 v5 v6 v7 v8 v9 v10 v11 v12 : Value) : Upd B B w (adP w B v0 v1 v2 v3 v4 v5 v6 v7 v8 v9 v10 v11 v12) := by
  have u := fun (w : World) (i : Nat) (v : Value) => (show Upd B B w (w.setCell ⟨B, i, none⟩ v) from ⟨rfl, rfl, rfl, by simp, fun k hk h1 _ => heap_setCell_other w ⟨B, i, none⟩ k v h1⟩)
  exact (((((((((((((u _ _ _).trans (u _ _ _)).trans (u _ _ _)).trans (u _ _ _)).trans (u _ _ _)).trans (u _ _ _)).trans (u _ _ _)).trans (u _ _ _)).trans (u _ _ _)).trans (u _ _ _)).trans (u _ _ _)).trans (u _ _ _)).trans (u _ _ _))
theorem row27_cells {w : World} {B : Nat} {t : TypeId} {x0 x1 x2 x3 x4 x5 x6 x7 x8 x9 x10 x11 x12 x13 x14 x15 x16 x17 x18 x19 x20 x21 x22 x23 x24 x25 x26 : Value} (h : w.heap[B]? = some (.cells #[x0, x1, x2, x3, x4, x5, x6, x7, x8, x9, x10, x11, x12, x13, x14, x15, x16, x17, x18, x19, x20, x21, x22, x23, x24, x25, x26] t (0, 0))) : w.cell? ⟨B, 0, none⟩ = some x0 ∧ w.cell? ⟨B, 1, none⟩ = some x1 ∧ w.cell? ⟨B, 2, none⟩ = some x2 ∧ w.cell? ⟨B, 3, none⟩ = some x3 ∧ w.cell? ⟨B, 4, none⟩ = some x4 ∧ w.cell? ⟨B, 5, none⟩ = some x5 ∧ w.cell? ⟨B, 6, none⟩ = some x6 ∧ w.cell? ⟨B, 7, none⟩ = some x7 ∧ w.cell? ⟨B, 8, none⟩ = some x8 ∧ w.cell? ⟨B, 9, none⟩ = some x9 ∧ w.cell? ⟨B, 10, none⟩ = some x10 ∧ w.cell? ⟨B, 11, none⟩ = some x11 ∧ w.cell? ⟨B, 12, none⟩ = some x12 ∧ w.cell? ⟨B, 13, none⟩ = some x13 ∧ w.cell? ⟨B, 14, none⟩ = some x14 ∧ w.cell? ⟨B, 15, none⟩ = some x15 ∧ w.cell? ⟨B, 16, none⟩ = some x16 ∧ w.cell? ⟨B, 17, none⟩ = some x17 ∧ w.cell? ⟨B, 18, none⟩ = some x18 ∧ w.cell? ⟨B, 19, none⟩ = some x19 ∧ w.cell? ⟨B, 20, none⟩ = some x20 ∧ w.cell? ⟨B, 21, none⟩ = some x21 ∧ w.cell? ⟨B, 22, none⟩ = some x22 ∧ w.cell? ⟨B, 23, none⟩ = some x23 ∧ w.cell? ⟨B, 24, none⟩ = some x24 ∧ w.cell? ⟨B, 25, none⟩ = some x25 ∧ w.cell? ⟨B, 26, none⟩ = some x26 := by
  refine ⟨?_, ?_, ?_, ?_, ?_, ?_, ?_, ?_, ?_, ?_, ?_, ?_, ?_, ?_, ?_, ?_, ?_, ?_, ?_, ?_, ?_, ?_, ?_, ?_, ?_, ?_, ?_⟩ <;> simp [World.cell?, h]
theorem set27 (w : World) (B : Nat) (u0 u1 u2 u3 u4 u5 u6 u7 u8 u9 u10 u11 u12 u13 u14 u15 u16 u17 u18 u19 u20 u21 u22 u23 u24 u25 u26 : Value) : w.setCells B 0 (#[u0, u1, u2, u3, u4, u5, u6, u7, u8, u9, u10, u11, u12, u13, u14, u15, u16, u17, u18, u19, u20, u21, u22, u23, u24, u25, u26] : Array Value).toList = ad27 w B u0 u1 u2 u3 u4 u5 u6 u7 u8 u9 u10 u11 u12 u13 u14 u15 u16 u17 u18 u19 u20 u21 u22 u23 u24 u25 u26 := rfl
/-- A map's box, a machine's, and the result's place. -/
structure AS (w w' : World) (A : Option Addr) (n cap : Nat) (P : Int) (x0 x1 x2 x3 x4 x5 x6 x7 x8 x9 x10 x11 x12 x13 x14 x15 x16 x17 x18 x19 x20 x21 x22 x23 x24 x25 x26 : Value) : Prop where
  bel : Below w.heap.size w w'
  ba : w'.heap[w.heap.size]? = some (.cells #[.slice A n cap, .int .i64 P] 35 (0, 0))
  bm : w'.heap[w.heap.size + 1]? = some (.cells #[x0, x1, x2, x3, x4, x5, x6, x7, x8, x9, x10, x11, x12, x13, x14, x15, x16, x17, x18, x19, x20, x21, x22, x23, x24, x25, x26] 59 (0, 0))
  br : w'.heap[w.heap.size + 1 + 1]? = some (.cells #[.int .i64 0, .int .u64 0, .int .i64 0, .int .i64 0, .int .i64 0, .int .i64 0, .int .i64 0, .int .i64 0, .int .u64 0, .int .u64 0, .int .u64 0, .bool false, .int .i64 0, .int .i64 0, .int .i64 0, .slice none 0 0, .int .i64 0, .int .i64 0, .int .i64 0, .int .i64 0, .int .i64 0, .slice none 0 0, .int .u32 0, .int .u64 0, .int .u32 0, .int .i64 0, .bool false] 59 (0, 0))
section
variable {w w' w2 : World} {A : Option Addr} {n cap : Nat} {P : Int} {x0 x1 x2 x3 x4 x5 x6 x7 x8 x9 x10 x11 x12 x13 x14 x15 x16 x17 x18 x19 x20 x21 x22 x23 x24 x25 x26 u0 u1 u2 u3 u4 u5 u6 u7 u8 u9 u10 u11 u12 u13 u14 u15 u16 u17 u18 u19 u20 u21 u22 u23 u24 u25 u26 y0 y1 y2 y3 y4 y5 y6 y7 y8 y9 y10 q0 q1 q2 q3 q4 q5 q6 q7 q8 q9 q10 q11 q12 : Value}
theorem AS.step (k : AS w w' A n cap P x0 x1 x2 x3 x4 x5 x6 x7 x8 x9 x10 x11 x12 x13 x14 x15 x16 x17 x18 x19 x20 x21 x22 x23 x24 x25 x26) (hb : Below w'.heap.size w' w2) : AS w w2 A n cap P x0 x1 x2 x3 x4 x5 x6 x7 x8 x9 x10 x11 x12 x13 x14 x15 x16 x17 x18 x19 x20 x21 x22 x23 x24 x25 x26 :=
  ⟨below_step k.bel k.bel.size hb, (hb.block _ (Array.getElem?_eq_some_iff.1 k.ba).1).trans k.ba, (hb.block _ (Array.getElem?_eq_some_iff.1 k.bm).1).trans k.bm, (hb.block _ (Array.getElem?_eq_some_iff.1 k.br).1).trans k.br⟩
theorem AS.lt (k : AS w w' A n cap P x0 x1 x2 x3 x4 x5 x6 x7 x8 x9 x10 x11 x12 x13 x14 x15 x16 x17 x18 x19 x20 x21 x22 x23 x24 x25 x26) : w.heap.size + 2 < w'.heap.size := (Array.getElem?_eq_some_iff.1 k.br).1
theorem AS.cells (k : AS w w' A n cap P x0 x1 x2 x3 x4 x5 x6 x7 x8 x9 x10 x11 x12 x13 x14 x15 x16 x17 x18 x19 x20 x21 x22 x23 x24 x25 x26) : w'.cell? ⟨w.heap.size, 0, none⟩ = some (.slice A n cap) ∧ w'.cell? ⟨w.heap.size, 1, none⟩ = some (.int .i64 P) := by
  have := k.ba
  constructor <;> simp [World.cell?, this]
theorem AS.frr (k : AS w w' A n cap P x0 x1 x2 x3 x4 x5 x6 x7 x8 x9 x10 x11 x12 x13 x14 x15 x16 x17 x18 x19 x20 x21 x22 x23 x24 x25 x26) (j : Nat) : w'.frozen? ⟨w.heap.size + 1 + 1, j, none⟩ = false := frozen_of_row w' _ j _ _ k.br
theorem AS.frm (k : AS w w' A n cap P x0 x1 x2 x3 x4 x5 x6 x7 x8 x9 x10 x11 x12 x13 x14 x15 x16 x17 x18 x19 x20 x21 x22 x23 x24 x25 x26) (j : Nat) : w'.frozen? ⟨w.heap.size + 1, j, none⟩ = false := frozen_of_row w' _ j _ _ k.bm
theorem AS.mc (k : AS w w' A n cap P x0 x1 x2 x3 x4 x5 x6 x7 x8 x9 x10 x11 x12 x13 x14 x15 x16 x17 x18 x19 x20 x21 x22 x23 x24 x25 x26) : w'.cell? ⟨w.heap.size + 1, 0, none⟩ = some x0 ∧ w'.cell? ⟨w.heap.size + 1, 1, none⟩ = some x1 ∧ w'.cell? ⟨w.heap.size + 1, 2, none⟩ = some x2 ∧ w'.cell? ⟨w.heap.size + 1, 3, none⟩ = some x3 ∧ w'.cell? ⟨w.heap.size + 1, 4, none⟩ = some x4 ∧ w'.cell? ⟨w.heap.size + 1, 5, none⟩ = some x5 ∧ w'.cell? ⟨w.heap.size + 1, 6, none⟩ = some x6 ∧ w'.cell? ⟨w.heap.size + 1, 7, none⟩ = some x7 ∧ w'.cell? ⟨w.heap.size + 1, 8, none⟩ = some x8 ∧ w'.cell? ⟨w.heap.size + 1, 9, none⟩ = some x9 ∧ w'.cell? ⟨w.heap.size + 1, 10, none⟩ = some x10 ∧ w'.cell? ⟨w.heap.size + 1, 11, none⟩ = some x11 ∧ w'.cell? ⟨w.heap.size + 1, 12, none⟩ = some x12 ∧ w'.cell? ⟨w.heap.size + 1, 13, none⟩ = some x13 ∧ w'.cell? ⟨w.heap.size + 1, 14, none⟩ = some x14 ∧ w'.cell? ⟨w.heap.size + 1, 15, none⟩ = some x15 ∧ w'.cell? ⟨w.heap.size + 1, 16, none⟩ = some x16 ∧ w'.cell? ⟨w.heap.size + 1, 17, none⟩ = some x17 ∧ w'.cell? ⟨w.heap.size + 1, 18, none⟩ = some x18 ∧ w'.cell? ⟨w.heap.size + 1, 19, none⟩ = some x19 ∧ w'.cell? ⟨w.heap.size + 1, 20, none⟩ = some x20 ∧ w'.cell? ⟨w.heap.size + 1, 21, none⟩ = some x21 ∧ w'.cell? ⟨w.heap.size + 1, 22, none⟩ = some x22 ∧ w'.cell? ⟨w.heap.size + 1, 23, none⟩ = some x23 ∧ w'.cell? ⟨w.heap.size + 1, 24, none⟩ = some x24 ∧ w'.cell? ⟨w.heap.size + 1, 25, none⟩ = some x25 ∧ w'.cell? ⟨w.heap.size + 1, 26, none⟩ = some x26 := row27_cells k.bm
theorem AS.res (k : AS w w' A n cap P x0 x1 x2 x3 x4 x5 x6 x7 x8 x9 x10 x11 x12 x13 x14 x15 x16 x17 x18 x19 x20 x21 x22 x23 x24 x25 x26) : w'.cell? ⟨w.heap.size + 1 + 1, 0, none⟩ = some (.int .i64 0) ∧ w'.cell? ⟨w.heap.size + 1 + 1, 1, none⟩ = some (.int .u64 0) ∧ w'.cell? ⟨w.heap.size + 1 + 1, 2, none⟩ = some (.int .i64 0) ∧ w'.cell? ⟨w.heap.size + 1 + 1, 3, none⟩ = some (.int .i64 0) ∧ w'.cell? ⟨w.heap.size + 1 + 1, 4, none⟩ = some (.int .i64 0) ∧ w'.cell? ⟨w.heap.size + 1 + 1, 5, none⟩ = some (.int .i64 0) ∧ w'.cell? ⟨w.heap.size + 1 + 1, 6, none⟩ = some (.int .i64 0) ∧ w'.cell? ⟨w.heap.size + 1 + 1, 7, none⟩ = some (.int .i64 0) ∧ w'.cell? ⟨w.heap.size + 1 + 1, 8, none⟩ = some (.int .u64 0) ∧ w'.cell? ⟨w.heap.size + 1 + 1, 9, none⟩ = some (.int .u64 0) ∧ w'.cell? ⟨w.heap.size + 1 + 1, 10, none⟩ = some (.int .u64 0) ∧ w'.cell? ⟨w.heap.size + 1 + 1, 11, none⟩ = some (.bool false) ∧ w'.cell? ⟨w.heap.size + 1 + 1, 12, none⟩ = some (.int .i64 0) ∧ w'.cell? ⟨w.heap.size + 1 + 1, 13, none⟩ = some (.int .i64 0) ∧ w'.cell? ⟨w.heap.size + 1 + 1, 14, none⟩ = some (.int .i64 0) ∧ w'.cell? ⟨w.heap.size + 1 + 1, 15, none⟩ = some (.slice none 0 0) ∧ w'.cell? ⟨w.heap.size + 1 + 1, 16, none⟩ = some (.int .i64 0) ∧ w'.cell? ⟨w.heap.size + 1 + 1, 17, none⟩ = some (.int .i64 0) ∧ w'.cell? ⟨w.heap.size + 1 + 1, 18, none⟩ = some (.int .i64 0) ∧ w'.cell? ⟨w.heap.size + 1 + 1, 19, none⟩ = some (.int .i64 0) ∧ w'.cell? ⟨w.heap.size + 1 + 1, 20, none⟩ = some (.int .i64 0) ∧ w'.cell? ⟨w.heap.size + 1 + 1, 21, none⟩ = some (.slice none 0 0) ∧ w'.cell? ⟨w.heap.size + 1 + 1, 22, none⟩ = some (.int .u32 0) ∧ w'.cell? ⟨w.heap.size + 1 + 1, 23, none⟩ = some (.int .u64 0) ∧ w'.cell? ⟨w.heap.size + 1 + 1, 24, none⟩ = some (.int .u32 0) ∧ w'.cell? ⟨w.heap.size + 1 + 1, 25, none⟩ = some (.int .i64 0) ∧ w'.cell? ⟨w.heap.size + 1 + 1, 26, none⟩ = some (.bool false) := row27_cells k.br
theorem AS.upd (k : AS w w' A n cap P x0 x1 x2 x3 x4 x5 x6 x7 x8 x9 x10 x11 x12 x13 x14 x15 x16 x17 x18 x19 x20 x21 x22 x23 x24 x25 x26) (u : Upd (w.heap.size + 1) (w.heap.size + 1) w' w2) (h : w2.heap[w.heap.size + 1]? = some (.cells #[u0, u1, u2, u3, u4, u5, u6, u7, u8, u9, u10, u11, u12, u13, u14, u15, u16, u17, u18, u19, u20, u21, u22, u23, u24, u25, u26] 59 (0, 0))) : AS w w2 A n cap P u0 u1 u2 u3 u4 u5 u6 u7 u8 u9 u10 u11 u12 u13 u14 u15 u16 u17 u18 u19 u20 u21 u22 u23 u24 u25 u26 :=
  ⟨below_upd k.bel (Nat.le_refl _) u (by omega) (by omega), (u.block _ (Array.getElem?_eq_some_iff.1 k.ba).1 (by omega) (by omega)).trans k.ba, h, (u.block _ (Array.getElem?_eq_some_iff.1 k.br).1 (by omega) (by omega)).trans k.br⟩
theorem AS.setD (k : AS w w' A n cap P x0 x1 x2 x3 x4 x5 x6 x7 x8 x9 x10 x11 x12 x13 x14 x15 x16 x17 x18 x19 x20 x21 x22 x23 x24 x25 x26) (y0 y1 y2 y3 y4 y5 y6 y7 y8 y9 y10 : Value) : AS w (adD w' (w.heap.size + 1) y0 y1 y2 y3 y4 y5 y6 y7 y8 y9 y10) A n cap P x0 x1 y0 y1 y2 y3 y4 y5 y6 y7 y8 y9 y10 x13 x14 x15 x16 x17 x18 x19 x20 x21 x22 x23 x24 x25 x26 :=
  k.upd (adD_upd w' (w.heap.size + 1) y0 y1 y2 y3 y4 y5 y6 y7 y8 y9 y10) (adD_same w' (w.heap.size + 1) 59 _ _ _ _ _ _ _ _ _ _ _ _ _ _ _ _ _ _ _ _ _ _ _ _ _ _ _ k.bm y0 y1 y2 y3 y4 y5 y6 y7 y8 y9 y10)
theorem AS.setP (k : AS w w' A n cap P x0 x1 x2 x3 x4 x5 x6 x7 x8 x9 x10 x11 x12 x13 x14 x15 x16 x17 x18 x19 x20 x21 x22 x23 x24 x25 x26) (q0 q1 q2 q3 q4 q5 q6 q7 q8 q9 q10 q11 q12 : Value) : AS w (adP w' (w.heap.size + 1) q0 q1 q2 q3 q4 q5 q6 q7 q8 q9 q10 q11 q12) A n cap P x0 x1 x2 x3 x4 x5 x6 x7 x8 x9 x10 x11 x12 q0 q1 q2 q3 q4 q5 q6 q7 q8 q9 q10 q11 q12 x26 :=
  k.upd (adP_upd w' (w.heap.size + 1) q0 q1 q2 q3 q4 q5 q6 q7 q8 q9 q10 q11 q12) (adP_same w' (w.heap.size + 1) 59 _ _ _ _ _ _ _ _ _ _ _ _ _ _ _ _ _ _ _ _ _ _ _ _ _ _ _ k.bm q0 q1 q2 q3 q4 q5 q6 q7 q8 q9 q10 q11 q12)
theorem AS.set0 (k : AS w w' A n cap P x0 x1 x2 x3 x4 x5 x6 x7 x8 x9 x10 x11 x12 x13 x14 x15 x16 x17 x18 x19 x20 x21 x22 x23 x24 x25 x26) (v : Value) : AS w (w'.setCell ⟨w.heap.size + 1, 0, none⟩ v) A n cap P v x1 x2 x3 x4 x5 x6 x7 x8 x9 x10 x11 x12 x13 x14 x15 x16 x17 x18 x19 x20 x21 x22 x23 x24 x25 x26 :=
  k.upd ⟨rfl, rfl, rfl, by simp, fun k hk h1 _ => heap_setCell_other w' ⟨w.heap.size + 1, 0, none⟩ k v h1⟩ ((heap_setCell_same _ (w.heap.size + 1) 0 _ 59 v k.bm).trans (congrArg (fun c => some (Obj.cells c 59 (0, 0))) (show (#[x0, x1, x2, x3, x4, x5, x6, x7, x8, x9, x10, x11, x12, x13, x14, x15, x16, x17, x18, x19, x20, x21, x22, x23, x24, x25, x26] : Array Value).setIfInBounds 0 v = #[v, x1, x2, x3, x4, x5, x6, x7, x8, x9, x10, x11, x12, x13, x14, x15, x16, x17, x18, x19, x20, x21, x22, x23, x24, x25, x26] from rfl)))
theorem AS.set26 (k : AS w w' A n cap P x0 x1 x2 x3 x4 x5 x6 x7 x8 x9 x10 x11 x12 x13 x14 x15 x16 x17 x18 x19 x20 x21 x22 x23 x24 x25 x26) (v : Value) : AS w (w'.setCell ⟨w.heap.size + 1, 26, none⟩ v) A n cap P x0 x1 x2 x3 x4 x5 x6 x7 x8 x9 x10 x11 x12 x13 x14 x15 x16 x17 x18 x19 x20 x21 x22 x23 x24 x25 v :=
  k.upd ⟨rfl, rfl, rfl, by simp, fun k hk h1 _ => heap_setCell_other w' ⟨w.heap.size + 1, 26, none⟩ k v h1⟩ ((heap_setCell_same _ (w.heap.size + 1) 26 _ 59 v k.bm).trans (congrArg (fun c => some (Obj.cells c 59 (0, 0))) (show (#[x0, x1, x2, x3, x4, x5, x6, x7, x8, x9, x10, x11, x12, x13, x14, x15, x16, x17, x18, x19, x20, x21, x22, x23, x24, x25, x26] : Array Value).setIfInBounds 26 v = #[x0, x1, x2, x3, x4, x5, x6, x7, x8, x9, x10, x11, x12, x13, x14, x15, x16, x17, x18, x19, x20, x21, x22, x23, x24, x25, v] from rfl)))
theorem AS.putr (k : AS w w' A n cap P x0 x1 x2 x3 x4 x5 x6 x7 x8 x9 x10 x11 x12 x13 x14 x15 x16 x17 x18 x19 x20 x21 x22 x23 x24 x25 x26) : (ad27 w' (w.heap.size + 1 + 1) u0 u1 u2 u3 u4 u5 u6 u7 u8 u9 u10 u11 u12 u13 u14 u15 u16 u17 u18 u19 u20 u21 u22 u23 u24 u25 u26).cell? ⟨w.heap.size + 1 + 1, 0, none⟩ = some u0 ∧ (ad27 w' (w.heap.size + 1 + 1) u0 u1 u2 u3 u4 u5 u6 u7 u8 u9 u10 u11 u12 u13 u14 u15 u16 u17 u18 u19 u20 u21 u22 u23 u24 u25 u26).cell? ⟨w.heap.size + 1 + 1, 1, none⟩ = some u1 ∧ (ad27 w' (w.heap.size + 1 + 1) u0 u1 u2 u3 u4 u5 u6 u7 u8 u9 u10 u11 u12 u13 u14 u15 u16 u17 u18 u19 u20 u21 u22 u23 u24 u25 u26).cell? ⟨w.heap.size + 1 + 1, 2, none⟩ = some u2 ∧ (ad27 w' (w.heap.size + 1 + 1) u0 u1 u2 u3 u4 u5 u6 u7 u8 u9 u10 u11 u12 u13 u14 u15 u16 u17 u18 u19 u20 u21 u22 u23 u24 u25 u26).cell? ⟨w.heap.size + 1 + 1, 3, none⟩ = some u3 ∧ (ad27 w' (w.heap.size + 1 + 1) u0 u1 u2 u3 u4 u5 u6 u7 u8 u9 u10 u11 u12 u13 u14 u15 u16 u17 u18 u19 u20 u21 u22 u23 u24 u25 u26).cell? ⟨w.heap.size + 1 + 1, 4, none⟩ = some u4 ∧ (ad27 w' (w.heap.size + 1 + 1) u0 u1 u2 u3 u4 u5 u6 u7 u8 u9 u10 u11 u12 u13 u14 u15 u16 u17 u18 u19 u20 u21 u22 u23 u24 u25 u26).cell? ⟨w.heap.size + 1 + 1, 5, none⟩ = some u5 ∧ (ad27 w' (w.heap.size + 1 + 1) u0 u1 u2 u3 u4 u5 u6 u7 u8 u9 u10 u11 u12 u13 u14 u15 u16 u17 u18 u19 u20 u21 u22 u23 u24 u25 u26).cell? ⟨w.heap.size + 1 + 1, 6, none⟩ = some u6 ∧ (ad27 w' (w.heap.size + 1 + 1) u0 u1 u2 u3 u4 u5 u6 u7 u8 u9 u10 u11 u12 u13 u14 u15 u16 u17 u18 u19 u20 u21 u22 u23 u24 u25 u26).cell? ⟨w.heap.size + 1 + 1, 7, none⟩ = some u7 ∧ (ad27 w' (w.heap.size + 1 + 1) u0 u1 u2 u3 u4 u5 u6 u7 u8 u9 u10 u11 u12 u13 u14 u15 u16 u17 u18 u19 u20 u21 u22 u23 u24 u25 u26).cell? ⟨w.heap.size + 1 + 1, 8, none⟩ = some u8 ∧ (ad27 w' (w.heap.size + 1 + 1) u0 u1 u2 u3 u4 u5 u6 u7 u8 u9 u10 u11 u12 u13 u14 u15 u16 u17 u18 u19 u20 u21 u22 u23 u24 u25 u26).cell? ⟨w.heap.size + 1 + 1, 9, none⟩ = some u9 ∧ (ad27 w' (w.heap.size + 1 + 1) u0 u1 u2 u3 u4 u5 u6 u7 u8 u9 u10 u11 u12 u13 u14 u15 u16 u17 u18 u19 u20 u21 u22 u23 u24 u25 u26).cell? ⟨w.heap.size + 1 + 1, 10, none⟩ = some u10 ∧ (ad27 w' (w.heap.size + 1 + 1) u0 u1 u2 u3 u4 u5 u6 u7 u8 u9 u10 u11 u12 u13 u14 u15 u16 u17 u18 u19 u20 u21 u22 u23 u24 u25 u26).cell? ⟨w.heap.size + 1 + 1, 11, none⟩ = some u11 ∧ (ad27 w' (w.heap.size + 1 + 1) u0 u1 u2 u3 u4 u5 u6 u7 u8 u9 u10 u11 u12 u13 u14 u15 u16 u17 u18 u19 u20 u21 u22 u23 u24 u25 u26).cell? ⟨w.heap.size + 1 + 1, 12, none⟩ = some u12 ∧ (ad27 w' (w.heap.size + 1 + 1) u0 u1 u2 u3 u4 u5 u6 u7 u8 u9 u10 u11 u12 u13 u14 u15 u16 u17 u18 u19 u20 u21 u22 u23 u24 u25 u26).cell? ⟨w.heap.size + 1 + 1, 13, none⟩ = some u13 ∧ (ad27 w' (w.heap.size + 1 + 1) u0 u1 u2 u3 u4 u5 u6 u7 u8 u9 u10 u11 u12 u13 u14 u15 u16 u17 u18 u19 u20 u21 u22 u23 u24 u25 u26).cell? ⟨w.heap.size + 1 + 1, 14, none⟩ = some u14 ∧ (ad27 w' (w.heap.size + 1 + 1) u0 u1 u2 u3 u4 u5 u6 u7 u8 u9 u10 u11 u12 u13 u14 u15 u16 u17 u18 u19 u20 u21 u22 u23 u24 u25 u26).cell? ⟨w.heap.size + 1 + 1, 15, none⟩ = some u15 ∧ (ad27 w' (w.heap.size + 1 + 1) u0 u1 u2 u3 u4 u5 u6 u7 u8 u9 u10 u11 u12 u13 u14 u15 u16 u17 u18 u19 u20 u21 u22 u23 u24 u25 u26).cell? ⟨w.heap.size + 1 + 1, 16, none⟩ = some u16 ∧ (ad27 w' (w.heap.size + 1 + 1) u0 u1 u2 u3 u4 u5 u6 u7 u8 u9 u10 u11 u12 u13 u14 u15 u16 u17 u18 u19 u20 u21 u22 u23 u24 u25 u26).cell? ⟨w.heap.size + 1 + 1, 17, none⟩ = some u17 ∧ (ad27 w' (w.heap.size + 1 + 1) u0 u1 u2 u3 u4 u5 u6 u7 u8 u9 u10 u11 u12 u13 u14 u15 u16 u17 u18 u19 u20 u21 u22 u23 u24 u25 u26).cell? ⟨w.heap.size + 1 + 1, 18, none⟩ = some u18 ∧ (ad27 w' (w.heap.size + 1 + 1) u0 u1 u2 u3 u4 u5 u6 u7 u8 u9 u10 u11 u12 u13 u14 u15 u16 u17 u18 u19 u20 u21 u22 u23 u24 u25 u26).cell? ⟨w.heap.size + 1 + 1, 19, none⟩ = some u19 ∧ (ad27 w' (w.heap.size + 1 + 1) u0 u1 u2 u3 u4 u5 u6 u7 u8 u9 u10 u11 u12 u13 u14 u15 u16 u17 u18 u19 u20 u21 u22 u23 u24 u25 u26).cell? ⟨w.heap.size + 1 + 1, 20, none⟩ = some u20 ∧ (ad27 w' (w.heap.size + 1 + 1) u0 u1 u2 u3 u4 u5 u6 u7 u8 u9 u10 u11 u12 u13 u14 u15 u16 u17 u18 u19 u20 u21 u22 u23 u24 u25 u26).cell? ⟨w.heap.size + 1 + 1, 21, none⟩ = some u21 ∧ (ad27 w' (w.heap.size + 1 + 1) u0 u1 u2 u3 u4 u5 u6 u7 u8 u9 u10 u11 u12 u13 u14 u15 u16 u17 u18 u19 u20 u21 u22 u23 u24 u25 u26).cell? ⟨w.heap.size + 1 + 1, 22, none⟩ = some u22 ∧ (ad27 w' (w.heap.size + 1 + 1) u0 u1 u2 u3 u4 u5 u6 u7 u8 u9 u10 u11 u12 u13 u14 u15 u16 u17 u18 u19 u20 u21 u22 u23 u24 u25 u26).cell? ⟨w.heap.size + 1 + 1, 23, none⟩ = some u23 ∧ (ad27 w' (w.heap.size + 1 + 1) u0 u1 u2 u3 u4 u5 u6 u7 u8 u9 u10 u11 u12 u13 u14 u15 u16 u17 u18 u19 u20 u21 u22 u23 u24 u25 u26).cell? ⟨w.heap.size + 1 + 1, 24, none⟩ = some u24 ∧ (ad27 w' (w.heap.size + 1 + 1) u0 u1 u2 u3 u4 u5 u6 u7 u8 u9 u10 u11 u12 u13 u14 u15 u16 u17 u18 u19 u20 u21 u22 u23 u24 u25 u26).cell? ⟨w.heap.size + 1 + 1, 25, none⟩ = some u25 ∧ (ad27 w' (w.heap.size + 1 + 1) u0 u1 u2 u3 u4 u5 u6 u7 u8 u9 u10 u11 u12 u13 u14 u15 u16 u17 u18 u19 u20 u21 u22 u23 u24 u25 u26).cell? ⟨w.heap.size + 1 + 1, 26, none⟩ = some u26 :=
  row27_cells (ad27_same w' (w.heap.size + 1 + 1) 59 _ _ _ _ _ _ _ _ _ _ _ _ _ _ _ _ _ _ _ _ _ _ _ _ _ _ _ k.br u0 u1 u2 u3 u4 u5 u6 u7 u8 u9 u10 u11 u12 u13 u14 u15 u16 u17 u18 u19 u20 u21 u22 u23 u24 u25 u26)
theorem AS.there (k : AS w w' A n cap P x0 x1 x2 x3 x4 x5 x6 x7 x8 x9 x10 x11 x12 x13 x14 x15 x16 x17 x18 x19 x20 x21 x22 x23 x24 x25 x26) : w'.there (w.heap.size + 1 + 1) 0 27 := fun j hj => by
  refine ⟨?_, ?_⟩
  · have h := cell_of_row w' (w.heap.size + 1 + 1) (0 + j) _ _ _ k.br
    rw [h, Array.getElem?_eq_getElem (by simp; omega)]; rfl
  · exact k.frr _
theorem AS.range (k : AS w w' A n cap P x0 x1 x2 x3 x4 x5 x6 x7 x8 x9 x10 x11 x12 x13 x14 x15 x16 x17 x18 x19 x20 x21 x22 x23 x24 x25 x26) : w'.rangeAt (w.heap.size + 1) 0 [x0, x1, x2, x3, x4, x5, x6, x7, x8, x9, x10, x11, x12, x13, x14, x15, x16, x17, x18, x19, x20, x21, x22, x23, x24, x25, x26] := fun j v hv => by
  rw [cell_of_row w' (w.heap.size + 1) (0 + j) _ _ _ k.bm, Nat.zero_add, List.getElem?_toArray]; exact hv
theorem AS.ranger (k : AS w w' A n cap P x0 x1 x2 x3 x4 x5 x6 x7 x8 x9 x10 x11 x12 x13 x14 x15 x16 x17 x18 x19 x20 x21 x22 x23 x24 x25 x26) (u0 u1 u2 u3 u4 u5 u6 u7 u8 u9 u10 u11 u12 u13 u14 u15 u16 u17 u18 u19 u20 u21 u22 u23 u24 u25 u26 : Value) : (ad27 w' (w.heap.size + 1 + 1) u0 u1 u2 u3 u4 u5 u6 u7 u8 u9 u10 u11 u12 u13 u14 u15 u16 u17 u18 u19 u20 u21 u22 u23 u24 u25 u26).rangeAt (w.heap.size + 1 + 1) 0 [u0, u1, u2, u3, u4, u5, u6, u7, u8, u9, u10, u11, u12, u13, u14, u15, u16, u17, u18, u19, u20, u21, u22, u23, u24, u25, u26] := fun j v hv => by
  rw [cell_of_row _ (w.heap.size + 1 + 1) (0 + j) _ _ _ (ad27_same w' (w.heap.size + 1 + 1) 59 _ _ _ _ _ _ _ _ _ _ _ _ _ _ _ _ _ _ _ _ _ _ _ _ _ _ _ k.br u0 u1 u2 u3 u4 u5 u6 u7 u8 u9 u10 u11 u12 u13 u14 u15 u16 u17 u18 u19 u20 u21 u22 u23 u24 u25 u26), Nat.zero_add, List.getElem?_toArray]; exact hv
theorem AS.putb (k : AS w w' A n cap P x0 x1 x2 x3 x4 x5 x6 x7 x8 x9 x10 x11 x12 x13 x14 x15 x16 x17 x18 x19 x20 x21 x22 x23 x24 x25 x26) : Below w.heap.size w (ad27 w' (w.heap.size + 1 + 1) u0 u1 u2 u3 u4 u5 u6 u7 u8 u9 u10 u11 u12 u13 u14 u15 u16 u17 u18 u19 u20 u21 u22 u23 u24 u25 u26) := below_upd k.bel (Nat.le_refl _) (ad27_upd w' (w.heap.size + 1 + 1) u0 u1 u2 u3 u4 u5 u6 u7 u8 u9 u10 u11 u12 u13 u14 u15 u16 u17 u18 u19 u20 u21 u22 u23 u24 u25 u26) (by omega) (by omega)
theorem AS.new (w : World) (A : Option Addr) (n cap : Nat) (P : Int) (x0 x1 x2 x3 x4 x5 x6 x7 x8 x9 x10 x11 x12 x13 x14 x15 x16 x17 x18 x19 x20 x21 x22 x23 x24 x25 x26 : Value) : AS w (((w.alloc (.cells #[.slice A n cap, .int .i64 P] 35)).alloc (.cells #[x0, x1, x2, x3, x4, x5, x6, x7, x8, x9, x10, x11, x12, x13, x14, x15, x16, x17, x18, x19, x20, x21, x22, x23, x24, x25, x26] 59)).alloc (.cells #[.int .i64 0, .int .u64 0, .int .i64 0, .int .i64 0, .int .i64 0, .int .i64 0, .int .i64 0, .int .i64 0, .int .u64 0, .int .u64 0, .int .u64 0, .bool false, .int .i64 0, .int .i64 0, .int .i64 0, .slice none 0 0, .int .i64 0, .int .i64 0, .int .i64 0, .int .i64 0, .int .i64 0, .slice none 0 0, .int .u32 0, .int .u64 0, .int .u32 0, .int .i64 0, .bool false] 59)) A n cap P x0 x1 x2 x3 x4 x5 x6 x7 x8 x9 x10 x11 x12 x13 x14 x15 x16 x17 x18 x19 x20 x21 x22 x23 x24 x25 x26 := by
  obtain ⟨W, hW⟩ : ∃ W, W = w.alloc (.cells #[.slice A n cap, .int .i64 P] 35) := ⟨_, rfl⟩
  have e1 : W.heap.size = w.heap.size + 1 := by rw [hW]; simp
  have h0 : W.heap[w.heap.size]? = some (.cells #[.slice A n cap, .int .i64 P] 35 (0, 0)) := by
    rw [hW]; exact Go.heap_alloc_new _ _
  have hb0 : Below w.heap.size w W := by rw [hW]; exact below_alloc0 (Below.refl _ _) _
  rw [← hW]
  obtain ⟨V, hV⟩ : ∃ V, V = W.alloc (.cells #[x0, x1, x2, x3, x4, x5, x6, x7, x8, x9, x10, x11, x12, x13, x14, x15, x16, x17, x18, x19, x20, x21, x22, x23, x24, x25, x26] 59) := ⟨_, rfl⟩
  have e2 : V.heap.size = w.heap.size + 2 := by rw [hV]; simp [e1]
  have h1 : V.heap[w.heap.size + 1]? = some (.cells #[x0, x1, x2, x3, x4, x5, x6, x7, x8, x9, x10, x11, x12, x13, x14, x15, x16, x17, x18, x19, x20, x21, x22, x23, x24, x25, x26] 59 (0, 0)) := by
    rw [hV, ← e1]; exact Go.heap_alloc_new _ _
  have hb1 : Below W.heap.size W V := by rw [hV]; exact below_alloc0 (Below.refl _ _) _
  rw [← hV]
  have h2 : (V.alloc (.cells #[.int .i64 0, .int .u64 0, .int .i64 0, .int .i64 0, .int .i64 0, .int .i64 0, .int .i64 0, .int .i64 0, .int .u64 0, .int .u64 0, .int .u64 0, .bool false, .int .i64 0, .int .i64 0, .int .i64 0, .slice none 0 0, .int .i64 0, .int .i64 0, .int .i64 0, .int .i64 0, .int .i64 0, .slice none 0 0, .int .u32 0, .int .u64 0, .int .u32 0, .int .i64 0, .bool false] 59)).heap[w.heap.size + 1 + 1]? = some (.cells #[.int .i64 0, .int .u64 0, .int .i64 0, .int .i64 0, .int .i64 0, .int .i64 0, .int .i64 0, .int .i64 0, .int .u64 0, .int .u64 0, .int .u64 0, .bool false, .int .i64 0, .int .i64 0, .int .i64 0, .slice none 0 0, .int .i64 0, .int .i64 0, .int .i64 0, .int .i64 0, .int .i64 0, .slice none 0 0, .int .u32 0, .int .u64 0, .int .u32 0, .int .i64 0, .bool false] 59 (0, 0)) := by
    rw [show w.heap.size + 1 + 1 = V.heap.size from e2.symm]; exact Go.heap_alloc_new _ _
  have hb2 : Below V.heap.size V (V.alloc (.cells #[.int .i64 0, .int .u64 0, .int .i64 0, .int .i64 0, .int .i64 0, .int .i64 0, .int .i64 0, .int .i64 0, .int .u64 0, .int .u64 0, .int .u64 0, .bool false, .int .i64 0, .int .i64 0, .int .i64 0, .slice none 0 0, .int .i64 0, .int .i64 0, .int .i64 0, .int .i64 0, .int .i64 0, .slice none 0 0, .int .u32 0, .int .u64 0, .int .u32 0, .int .i64 0, .bool false] 59)) := below_alloc0 (Below.refl _ _) _
  exact ⟨below_step (below_step hb0 hb0.size hb1) (by rw [e2]; omega) hb2, (hb2.block _ (by rw [e2]; omega)).trans ((hb1.block _ (by rw [e1]; omega)).trans h0), (hb2.block _ (by rw [e2]; omega)).trans h1, h2⟩
end
/-- What others write may not be these two blocks. -/
abbrev NotT (Q : Nat → Prop) (s : Nat) (k : Nat) : Prop := Q k ∧ k ≠ s + 1 ∧ k ≠ s + 1 + 1
theorem RPm.far {Q : Nat → Prop} {w w1 : World} {m : Pm} {v : Value} (h : RPm Q w m v) (hb : Below w.heap.size w w1) : RPm (NotT Q w.heap.size) w1 m v := by
  obtain ⟨T, tn, tc, A, n, cap, e, h1, h2, h3, h4, h5, h6⟩ := h
  refine ⟨T, tn, tc, A, n, cap, e, h1, h2.below hb (Nat.le_refl _), h3, h4.below hb (Nat.le_refl _), fun h0 a ea => ?_, fun h0 a ea => ?_⟩
  · obtain ⟨b, off, e2, hlt, _⟩ := h2 h0
    rw [ea] at e2; cases e2
    exact ⟨h5 h0 _ ea, by dsimp only; omega, by dsimp only; omega⟩
  · obtain ⟨b, off, e2, hlt, _⟩ := h4 h0
    rw [ea] at e2; cases e2
    exact ⟨h6 h0 _ ea, by dsimp only; omega, by dsimp only; omega⟩
theorem Reads.put0 {k : IntKind} {w w' : World} {A : Option Addr} {zs : List Int} {B : Nat} (h : Reads k w A zs) (u : Upd B B w w') (hB : 0 < zs.length → ∀ a, A = some a → a.block ≠ B) : Reads k w' A zs := fun h0 => (h.put u (hB h0)) h0
theorem RPm.near {Q : Nat → Prop} {s : Nat} {w w' : World} {m : Pm} {v : Value} (h : RPm (NotT Q s) w m v) {B : Nat} (hB : B = s + 1 ∨ B = s + 1 + 1) (u : Upd B B w w') : RPm (NotT Q s) w' m v := by
  obtain ⟨T, tn, tc, A, n, cap, e, h1, h2, h3, h4, h5, h6⟩ := h
  refine ⟨T, tn, tc, A, n, cap, e, h1, h2.put0 u fun h0 a ea => ?_, h3, h4.put0 u fun h0 a ea => ?_, h5, h6⟩
  · have := (h5 h0 a ea).2; omega
  · have := (h6 h0 a ea).2; omega
theorem RPm.wide {Q : Nat → Prop} {s : Nat} {w : World} {m : Pm} {v : Value} (h : RPm (NotT Q s) w m v) : RPm Q w m v := by
  obtain ⟨T, tn, tc, A, n, cap, e, h1, h2, h3, h4, h5, h6⟩ := h
  exact ⟨T, tn, tc, A, n, cap, e, h1, h2, h3, h4, fun h0 a ea => (h5 h0 a ea).1, fun h0 a ea => (h6 h0 a ea).1⟩
theorem ReadsW.two13 {Q : Nat → Prop} {s : Nat} {w w' : World} {R : Option Addr} {L : List Int} (h : ReadsW (NotT Q s) w R L) {j : Nat} (hj : j = s + 1 ∨ j = s + 1 + 1) (u : Upd j j w w') : ReadsW (NotT Q s) w' R L :=
  h.upd u fun k hk _ => ⟨by have h1 := hk.2.1; have h2 := hk.2.2; omega, by have h1 := hk.2.1; have h2 := hk.2.2; omega, hk⟩
theorem row59 : ∃ d, (Tryz.prog).underlying 59 = some d ∧ d.isRow = true := ⟨_, rfl, rfl⟩
/-- A function's two results: a slot, a variable. -/
theorem res2 {P : Program} {fn : Func} {p q : Tmp} {ty : TypeId} (h : fn.results = #[.tmp p, .cell q ty]) (tmps : Array Value) (w : World) (v c : Value) (a : Addr) (hp : tmps.getD p undef = v) (hq : tmps.getD q undef = .pointer (some a)) (hl : (loadVar ty a).run P w = .ok c w) : (results fn tmps).run P w = .ok (.tuple #[v, c]) w := by
  have hq' : tmps[q]?.getD undef = .pointer (some a) := by simpa using hq
  have hp' : tmps[p]?.getD undef = v := by simpa using hp
  simp [results, h, hp', hq', asAddr, hl]
/-- A step's answer: a row of words, a value. -/
def SomeA (Q : Nat → Prop) (w : World) (n' : Nat) (L : List Int) (V : World → Value → Prop) (e : Ending) (w' : World) : Prop :=
  ∃ R cap v, e = .returned (.tuple #[.slice R n' cap, v]) ∧ ReadsW Q w' R L ∧ V w' v ∧ Below w.heap.size w w'
end Go.Proofs.YtponbnbgiiepdaaGreat

namespace Go.Proofs.YtponbnbgiiepdaaGreat
open Go.RowKit
set_option linter.unusedVariables false
set_option linter.unusedSimpArgs false
set_option maxRecDepth 100000
open Lay (plcc plc shOf packN nodesN OkC Cfg Norm firstV Rep lenL things)

set_option maxHeartbeats 8000000 in
theorem ras_0 (Q : Nat → Prop) (A : Option Addr) (n cap : Nat) (P : Int) (R : Option Addr) (n' capR : Nat) (L : List Int) (tk : Int) (d0 d1 d2 d3 d4 d5 d6 d7 d8 d10 : Int) (d9 : Bool) (p0 p1 p3 p4 p5 p6 p7 p9 p10 p11 p12 : Int) (T : Option Addr) (tn tc : Nat) (LA : Option Addr) (ln lc : Nat) (bs : Bool) (w : World) (hR : ReadsW Q w R L) :
    Calls Tryz.prog 21 #[aVal A n cap P, .slice R n' capR, .agg #[.int .i64 0, .int .u64 tk, .int .i64 d0, .int .i64 d1, .int .i64 d2, .int .i64 d3, .int .i64 d4, .int .i64 d5, .int .u64 d6, .int .u64 d7, .int .u64 d8, .bool d9, .int .i64 d10, .int .i64 p0, .int .i64 p1, .slice T tn tc, .int .i64 p3, .int .i64 p4, .int .i64 p5, .int .i64 p6, .int .i64 p7, .slice LA ln lc, .int .u32 p9, .int .u64 p10, .int .u32 p11, .int .i64 p12, .bool bs]] w (SomeA Q w n' L (fun _ v => v = .agg #[.int .i64 0, .int .u64 tk, .int .i64 d0, .int .i64 d1, .int .i64 d2, .int .i64 d3, .int .i64 d4, .int .i64 d5, .int .u64 d6, .int .u64 d7, .int .u64 d8, .bool d9, .int .i64 d10, .int .i64 p0, .int .i64 p1, .slice T tn tc, .int .i64 p3, .int .i64 p4, .int .i64 p5, .int .i64 p6, .int .i64 p7, .slice LA ln lc, .int .u32 p9, .int .u64 p10, .int .u32 p11, .int .i64 p12, .bool bs])) := by
  have has := AS.new w A n cap P (.int .i64 0) (.int .u64 tk) (.int .i64 d0) (.int .i64 d1) (.int .i64 d2) (.int .i64 d3) (.int .i64 d4) (.int .i64 d5) (.int .u64 d6) (.int .u64 d7) (.int .u64 d8) (.bool d9) (.int .i64 d10) (.int .i64 p0) (.int .i64 p1) (.slice T tn tc) (.int .i64 p3) (.int .i64 p4) (.int .i64 p5) (.int .i64 p6) (.int .i64 p7) (.slice LA ln lc) (.int .u32 p9) (.int .u64 p10) (.int .u32 p11) (.int .i64 p12) (.bool bs)
  have HK4 := Lib.hid has
  obtain ⟨z0, z⟩ := has.mc
  clear z
  have hlt0 := has.lt
  have HR0 : ReadsW (NotT Q w.heap.size) w R L := fun h0 => by
    obtain ⟨b, off, e, hb, hp, hc⟩ := hR h0
    exact ⟨b, off, e, hb, ⟨hp, by omega, by omega⟩, hc⟩
  have HR5 := Lib.hid (HR0.below has.bel)
  obtain ⟨W2, hW1⟩ : ∃ W1, W1 = (((w.alloc (.cells #[.slice A n cap, .int .i64 P] 35)).alloc (.cells #[.int .i64 0, .int .u64 tk, .int .i64 d0, .int .i64 d1, .int .i64 d2, .int .i64 d3, .int .i64 d4, .int .i64 d5, .int .u64 d6, .int .u64 d7, .int .u64 d8, .bool d9, .int .i64 d10, .int .i64 p0, .int .i64 p1, .slice T tn tc, .int .i64 p3, .int .i64 p4, .int .i64 p5, .int .i64 p6, .int .i64 p7, .slice LA ln lc, .int .u32 p9, .int .u64 p10, .int .u32 p11, .int .i64 p12, .bool bs] 59)).alloc (.cells #[.int .i64 0, .int .u64 0, .int .i64 0, .int .i64 0, .int .i64 0, .int .i64 0, .int .i64 0, .int .i64 0, .int .u64 0, .int .u64 0, .int .u64 0, .bool false, .int .i64 0, .int .i64 0, .int .i64 0, .slice none 0 0, .int .i64 0, .int .i64 0, .int .i64 0, .int .i64 0, .int .i64 0, .slice none 0 0, .int .u32 0, .int .u64 0, .int .u32 0, .int .i64 0, .bool false] 59)) := ⟨_, rfl⟩
  rw [← hW1] at HK4 HR5 z0 hlt0
  have HW1 := Lib.hid hW1
  clear has hR HR0
  go_enter Tryz.func21, Tryz.ntmps21
  go_wp2_with (fail)
  rw [← HW1.out]
  clear HW1 hW1
  go_wp2_with (fail)
  have HK5 := Lib.hid (HK4.out.step (Below.refl _ _).drew)
  have HR6 := Lib.hid (HR5.out.below (Below.refl _ _).drew)
  refine wp_region_any (by kernel_rfl) ?_
  change wpAny _ _ _ _ 4 _ _ (World.drew _)
  refine wpAny_take (i := 0) (v := .slice R n' capR) rfl (by kernel_rfl) (by kernel_rfl) (by kernel_rfl) (fun _ _ _ h => h) (Or.inl ⟨by rfl, fun w => by exact BigFrame.run_move (.tmp 1) rfl w⟩) ?_
  refine wpAny_take (i := 2) (v := .slice R n' capR) rfl (by kernel_rfl) (by kernel_rfl) (by kernel_rfl) (fun _ _ _ h => h) (Or.inl ⟨by rfl, fun w => by exact BigFrame.run_assign (.tmp 60) rfl w⟩) ?_
  refine wpAny_ready (rs := [1]) (by kernel_rfl) (by decide) (AllReady.cons rfl (fun K' hK => ?_) AllReady.nil)
  rw [if_pos (by rfl)]
  refine wp_load_mid 59 (.tmp 5) rfl (w.heap.size + 1) 0 rfl _ _ HK5.out.range row59.choose_spec.1 row59.choose_spec.2 (by kernel_rfl) (hK _ _ ?_)
  refine wpAny_ready (rs := [3]) (by kernel_rfl) (by decide) (AllReady.cons rfl (fun K' hK => ?_) AllReady.nil)
  rw [if_pos (by rfl)]
  refine wp_store_mid 59 (.tmp 7) (.tmp 61) rfl (w.heap.size + 1 + 1) 0 _ rfl rfl HK5.out.there (by kernel_rfl) (by simp only [List.all_toArray, List.all_cons, List.all_nil, Value.oneCell', Bool.and_self]) (hK _ _ ?_)
  refine wpAny_done (by kernel_rfl) ?_ _
  rw [set27]
  obtain ⟨W3, hW3⟩ : ∃ W3, W3 = ad27 W2.drew (w.heap.size + 1 + 1) (.int .i64 0) (.int .u64 tk) (.int .i64 d0) (.int .i64 d1) (.int .i64 d2) (.int .i64 d3) (.int .i64 d4) (.int .i64 d5) (.int .u64 d6) (.int .u64 d7) (.int .u64 d8) (.bool d9) (.int .i64 d10) (.int .i64 p0) (.int .i64 p1) (.slice T tn tc) (.int .i64 p3) (.int .i64 p4) (.int .i64 p5) (.int .i64 p6) (.int .i64 p7) (.slice LA ln lc) (.int .u32 p9) (.int .u64 p10) (.int .u32 p11) (.int .i64 p12) (.bool bs) := ⟨_, rfl⟩
  have HB5 : Below w.heap.size w W3 := by rw [hW3]; exact HK5.out.putb
  have HR7 : ReadsW Q W3 R L := by rw [hW3]; exact HR6.out.upd (ad27_upd ..) fun b hb _ => ⟨hb.2.2, hb.2.2, hb.1⟩
  have hl : (loadVar 59 ⟨w.heap.size + 1 + 1, 0, none⟩).run Tryz.prog W3 = .ok (.agg #[.int .i64 0, .int .u64 tk, .int .i64 d0, .int .i64 d1, .int .i64 d2, .int .i64 d3, .int .i64 d4, .int .i64 d5, .int .u64 d6, .int .u64 d7, .int .u64 d8, .bool d9, .int .i64 d10, .int .i64 p0, .int .i64 p1, .slice T tn tc, .int .i64 p3, .int .i64 p4, .int .i64 p5, .int .i64 p6, .int .i64 p7, .slice LA ln lc, .int .u32 p9, .int .u64 p10, .int .u32 p11, .int .i64 p12, .bool bs]) W3 := by
    rw [hW3]; exact run_loadVar_mid _ _ 0 59 _ _ (HK5.out.ranger (.int .i64 0) (.int .u64 tk) (.int .i64 d0) (.int .i64 d1) (.int .i64 d2) (.int .i64 d3) (.int .i64 d4) (.int .i64 d5) (.int .u64 d6) (.int .u64 d7) (.int .u64 d8) (.bool d9) (.int .i64 d10) (.int .i64 p0) (.int .i64 p1) (.slice T tn tc) (.int .i64 p3) (.int .i64 p4) (.int .i64 p5) (.int .i64 p6) (.int .i64 p7) (.slice LA ln lc) (.int .u32 p9) (.int .u64 p10) (.int .u32 p11) (.int .i64 p12) (.bool bs)) row59.choose_spec.1 row59.choose_spec.2 (by kernel_rfl)
  rw [← hW3]
  clear hW3
  go_wp2
  exact bodyPost_ret (v := .tuple #[.slice R n' capR, .agg #[.int .i64 0, .int .u64 tk, .int .i64 d0, .int .i64 d1, .int .i64 d2, .int .i64 d3, .int .i64 d4, .int .i64 d5, .int .u64 d6, .int .u64 d7, .int .u64 d8, .bool d9, .int .i64 d10, .int .i64 p0, .int .i64 p1, .slice T tn tc, .int .i64 p3, .int .i64 p4, .int .i64 p5, .int .i64 p6, .int .i64 p7, .slice LA ln lc, .int .u32 p9, .int .u64 p10, .int .u32 p11, .int .i64 p12, .bool bs]]) (res2 Tryz.results21 _ W3 _ _ _ rfl rfl hl) rfl ⟨R, capR, _, rfl, HR7, rfl, HB5⟩

set_option maxHeartbeats 16000000 in
theorem ras_d_on (Q : Nat → Prop) (A : Option Addr) (n cap : Nat) (P : Int) (R : Option Addr) (n' capR : Nat) (L L' : List Int) (tk pc' out' : Int) (d0 d1 d2 d3 d4 d5 d6 d7 d8 d10 : Int) (d9 : Bool) (p0 p1 p3 p4 p5 p6 p7 p9 p10 p11 p12 : Int) (T : Option Addr) (tn tc : Nat) (LA : Option Addr) (ln lc : Nat) (bs : Bool) (y0 y2 y3 y4 y5 y6 y7 y8 : Int) (y9 : Bool) (w : World)
    (hR : ReadsW Q w R L) (hp : (pc' == 0) = false)
    (HC : ∀ w1, w.heap.size + 2 < w1.heap.size → ReadsW (NotT Q w.heap.size) w1 R L → Calls Tryz.prog 59 #[.slice R n' capR, .agg #[.int .i64 d0, .int .i64 d1, .int .i64 d2, .int .i64 d3, .int .i64 d4, .int .i64 d5, .int .u64 d6, .int .u64 d7, .int .u64 d8, .bool d9, .int .i64 d10]] w1 (Dg.SomeV (NotT Q w.heap.size) w1 n' L' (.agg #[.int .i64 y0, .int .i64 pc', .int .i64 y2, .int .i64 y3, .int .i64 y4, .int .i64 y5, .int .u64 y6, .int .u64 y7, .int .u64 y8, .bool y9, .int .i64 out']))) :
    Calls Tryz.prog 21 #[aVal A n cap P, .slice R n' capR, .agg #[.int .i64 1, .int .u64 tk, .int .i64 d0, .int .i64 d1, .int .i64 d2, .int .i64 d3, .int .i64 d4, .int .i64 d5, .int .u64 d6, .int .u64 d7, .int .u64 d8, .bool d9, .int .i64 d10, .int .i64 p0, .int .i64 p1, .slice T tn tc, .int .i64 p3, .int .i64 p4, .int .i64 p5, .int .i64 p6, .int .i64 p7, .slice LA ln lc, .int .u32 p9, .int .u64 p10, .int .u32 p11, .int .i64 p12, .bool bs]] w (SomeA Q w n' L' (fun w' v => v = .agg #[.int .i64 1, .int .u64 tk, .int .i64 y0, .int .i64 pc', .int .i64 y2, .int .i64 y3, .int .i64 y4, .int .i64 y5, .int .u64 y6, .int .u64 y7, .int .u64 y8, .bool y9, .int .i64 out', .int .i64 p0, .int .i64 p1, .slice T tn tc, .int .i64 p3, .int .i64 p4, .int .i64 p5, .int .i64 p6, .int .i64 p7, .slice LA ln lc, .int .u32 p9, .int .u64 p10, .int .u32 p11, .int .i64 p12, .bool bs])) := by
  have has := AS.new w A n cap P (.int .i64 1) (.int .u64 tk) (.int .i64 d0) (.int .i64 d1) (.int .i64 d2) (.int .i64 d3) (.int .i64 d4) (.int .i64 d5) (.int .u64 d6) (.int .u64 d7) (.int .u64 d8) (.bool d9) (.int .i64 d10) (.int .i64 p0) (.int .i64 p1) (.slice T tn tc) (.int .i64 p3) (.int .i64 p4) (.int .i64 p5) (.int .i64 p6) (.int .i64 p7) (.slice LA ln lc) (.int .u32 p9) (.int .u64 p10) (.int .u32 p11) (.int .i64 p12) (.bool bs)
  have HAS := Lib.hid has
  obtain ⟨z0, z1, z2, z3, z4, z5, z6, z7, z8, z9, z10, z11, z12, z13, z14, z15, z16, z17, z18, z19, z20, z21, z22, z23, z24, z25, z26⟩ := has.mc
  have hlt0 := has.lt
  have HR0 : ReadsW (NotT Q w.heap.size) w R L := fun h0 => by
    obtain ⟨b, off, e, hb, hp, hc⟩ := hR h0
    exact ⟨b, off, e, hb, ⟨hp, by omega, by omega⟩, hc⟩
  have HR1 := Lib.hid (HR0.below has.bel)
  have HCC := Lib.hid HC
  obtain ⟨W1, hW1⟩ : ∃ W1, W1 = (((w.alloc (.cells #[.slice A n cap, .int .i64 P] 35)).alloc (.cells #[.int .i64 1, .int .u64 tk, .int .i64 d0, .int .i64 d1, .int .i64 d2, .int .i64 d3, .int .i64 d4, .int .i64 d5, .int .u64 d6, .int .u64 d7, .int .u64 d8, .bool d9, .int .i64 d10, .int .i64 p0, .int .i64 p1, .slice T tn tc, .int .i64 p3, .int .i64 p4, .int .i64 p5, .int .i64 p6, .int .i64 p7, .slice LA ln lc, .int .u32 p9, .int .u64 p10, .int .u32 p11, .int .i64 p12, .bool bs] 59)).alloc (.cells #[.int .i64 0, .int .u64 0, .int .i64 0, .int .i64 0, .int .i64 0, .int .i64 0, .int .i64 0, .int .i64 0, .int .u64 0, .int .u64 0, .int .u64 0, .bool false, .int .i64 0, .int .i64 0, .int .i64 0, .slice none 0 0, .int .i64 0, .int .i64 0, .int .i64 0, .int .i64 0, .int .i64 0, .slice none 0 0, .int .u32 0, .int .u64 0, .int .u32 0, .int .i64 0, .bool false] 59)) := ⟨_, rfl⟩
  rw [← hW1] at HAS HR1 z0 z1 z2 z3 z4 z5 z6 z7 z8 z9 z10 z11 z12 z13 z14 z15 z16 z17 z18 z19 z20 z21 z22 z23 z24 z25 z26
  have HW1 := Lib.hid hW1
  clear has hR HR0 HC
  go_enter Tryz.func21, Tryz.ntmps21
  go_wp2_with (fail)
  rw [← HW1.out]
  clear HW1 hW1
  go_wp2_with (first
    | (go_at_call 59; (with_reducible refine (HCC.out _ HAS.out.lt HR1.out).mono ?_); rintro r w3 ⟨R2, cap2, rfl, hx, hb⟩; have HP4 := Lib.hid ((HAS.out.step hb).step (below_alloc0 (Below.refl _ _) (.cells #[.int .i64 y0, .int .i64 pc', .int .i64 y2, .int .i64 y3, .int .i64 y4, .int .i64 y5, .int .u64 y6, .int .u64 y7, .int .u64 y8, .bool y9, .int .i64 out'] 49))); have HR4 := Lib.hid (hx.below (below_alloc0 (Below.refl w3.heap.size w3) (.cells #[.int .i64 y0, .int .i64 pc', .int .i64 y2, .int .i64 y3, .int .i64 y4, .int .i64 y5, .int .u64 y6, .int .u64 y7, .int .u64 y8, .bool y9, .int .i64 out'] 49))); clear hb hx z0 z1 z2 z3 z4 z5 z6 z7 z8 z9 z10 z11 z12 z13 z14 z15 z16 z17 z18 z19 z20 z21 z22 z23 z24 z25 z26; obtain ⟨z0, z1, z2, z3, z4, z5, z6, z7, z8, z9, z10, z11, z12, z13, z14, z15, z16, z17, z18, z19, z20, z21, z22, z23, z24, z25, z26⟩ := HP4.out.mc; have hfm := HP4.out.frm; have hlt := HP4.out.lt)
    | fail)
  have hk : AS w ((((((((((((w3.alloc (.cells #[.int .i64 y0, .int .i64 pc', .int .i64 y2, .int .i64 y3, .int .i64 y4, .int .i64 y5, .int .u64 y6, .int .u64 y7, .int .u64 y8, .bool y9, .int .i64 out'] 49)).setCell ⟨w.heap.size + 1, 2, none⟩ (.int .i64 y0)).setCell ⟨w.heap.size + 1, 3, none⟩ (.int .i64 pc')).setCell ⟨w.heap.size + 1, 4, none⟩ (.int .i64 y2)).setCell ⟨w.heap.size + 1, 5, none⟩ (.int .i64 y3)).setCell ⟨w.heap.size + 1, 6, none⟩ (.int .i64 y4)).setCell ⟨w.heap.size + 1, 7, none⟩ (.int .i64 y5)).setCell ⟨w.heap.size + 1, 8, none⟩ (.int .u64 y6)).setCell ⟨w.heap.size + 1, 9, none⟩ (.int .u64 y7)).setCell ⟨w.heap.size + 1, 10, none⟩ (.int .u64 y8)).setCell ⟨w.heap.size + 1, 11, none⟩ (.bool y9)).setCell ⟨w.heap.size + 1, 12, none⟩ (.int .i64 out')) A n cap P (.int .i64 1) (.int .u64 tk) (.int .i64 y0) (.int .i64 pc') (.int .i64 y2) (.int .i64 y3) (.int .i64 y4) (.int .i64 y5) (.int .u64 y6) (.int .u64 y7) (.int .u64 y8) (.bool y9) (.int .i64 out') (.int .i64 p0) (.int .i64 p1) (.slice T tn tc) (.int .i64 p3) (.int .i64 p4) (.int .i64 p5) (.int .i64 p6) (.int .i64 p7) (.slice LA ln lc) (.int .u32 p9) (.int .u64 p10) (.int .u32 p11) (.int .i64 p12) (.bool bs) := HP4.out.setD (.int .i64 y0) (.int .i64 pc') (.int .i64 y2) (.int .i64 y3) (.int .i64 y4) (.int .i64 y5) (.int .u64 y6) (.int .u64 y7) (.int .u64 y8) (.bool y9) (.int .i64 out')
  have hr4 : ReadsW (NotT Q w.heap.size) ((((((((((((w3.alloc (.cells #[.int .i64 y0, .int .i64 pc', .int .i64 y2, .int .i64 y3, .int .i64 y4, .int .i64 y5, .int .u64 y6, .int .u64 y7, .int .u64 y8, .bool y9, .int .i64 out'] 49)).setCell ⟨w.heap.size + 1, 2, none⟩ (.int .i64 y0)).setCell ⟨w.heap.size + 1, 3, none⟩ (.int .i64 pc')).setCell ⟨w.heap.size + 1, 4, none⟩ (.int .i64 y2)).setCell ⟨w.heap.size + 1, 5, none⟩ (.int .i64 y3)).setCell ⟨w.heap.size + 1, 6, none⟩ (.int .i64 y4)).setCell ⟨w.heap.size + 1, 7, none⟩ (.int .i64 y5)).setCell ⟨w.heap.size + 1, 8, none⟩ (.int .u64 y6)).setCell ⟨w.heap.size + 1, 9, none⟩ (.int .u64 y7)).setCell ⟨w.heap.size + 1, 10, none⟩ (.int .u64 y8)).setCell ⟨w.heap.size + 1, 11, none⟩ (.bool y9)).setCell ⟨w.heap.size + 1, 12, none⟩ (.int .i64 out')) R2 L' := (HR4.out.two13 (.inl rfl) (adD_upd _ _ (.int .i64 y0) (.int .i64 pc') (.int .i64 y2) (.int .i64 y3) (.int .i64 y4) (.int .i64 y5) (.int .u64 y6) (.int .u64 y7) (.int .u64 y8) (.bool y9) (.int .i64 out')))
  obtain ⟨W2, hW2⟩ : ∃ W2, W2 = ((((((((((((w3.alloc (.cells #[.int .i64 y0, .int .i64 pc', .int .i64 y2, .int .i64 y3, .int .i64 y4, .int .i64 y5, .int .u64 y6, .int .u64 y7, .int .u64 y8, .bool y9, .int .i64 out'] 49)).setCell ⟨w.heap.size + 1, 2, none⟩ (.int .i64 y0)).setCell ⟨w.heap.size + 1, 3, none⟩ (.int .i64 pc')).setCell ⟨w.heap.size + 1, 4, none⟩ (.int .i64 y2)).setCell ⟨w.heap.size + 1, 5, none⟩ (.int .i64 y3)).setCell ⟨w.heap.size + 1, 6, none⟩ (.int .i64 y4)).setCell ⟨w.heap.size + 1, 7, none⟩ (.int .i64 y5)).setCell ⟨w.heap.size + 1, 8, none⟩ (.int .u64 y6)).setCell ⟨w.heap.size + 1, 9, none⟩ (.int .u64 y7)).setCell ⟨w.heap.size + 1, 10, none⟩ (.int .u64 y8)).setCell ⟨w.heap.size + 1, 11, none⟩ (.bool y9)).setCell ⟨w.heap.size + 1, 12, none⟩ (.int .i64 out')) := ⟨_, rfl⟩
  rw [← hW2] at hk hr4  ⊢
  clear hW2 z0 z1 z2 z3 z4 z5 z6 z7 z8 z9 z10 z11 z12 z13 z14 z15 z16 z17 z18 z19 z20 z21 z22 z23 z24 z25 z26 hfm HP4
  have HK4 := Lib.hid hk; have HR5 := Lib.hid hr4
  clear hk hr4
  have HK5 := Lib.hid (HK4.out.step (Below.refl _ _).drew)
  have HR6 := Lib.hid (HR5.out.below (Below.refl _ _).drew)
  refine wp_region_any (by kernel_rfl) ?_
  change wpAny _ _ _ _ 4 _ _ (World.drew _)
  refine wpAny_take (i := 0) (v := .slice R2 n' cap2) rfl (by kernel_rfl) (by kernel_rfl) (by kernel_rfl) (fun _ _ _ h => h) (Or.inl ⟨by rfl, fun w => by exact BigFrame.run_move (.tmp 8) rfl w⟩) ?_
  refine wpAny_take (i := 2) (v := .slice R2 n' cap2) rfl (by kernel_rfl) (by kernel_rfl) (by kernel_rfl) (fun _ _ _ h => h) (Or.inl ⟨by rfl, fun w => by exact BigFrame.run_assign (.tmp 39) rfl w⟩) ?_
  refine wpAny_ready (rs := [1]) (by kernel_rfl) (by decide) (AllReady.cons rfl (fun K' hK => ?_) AllReady.nil)
  rw [if_pos (by rfl)]
  refine wp_load_mid 59 (.tmp 5) rfl (w.heap.size + 1) 0 rfl _ _ HK5.out.range row59.choose_spec.1 row59.choose_spec.2 (by kernel_rfl) (hK _ _ ?_)
  refine wpAny_ready (rs := [3]) (by kernel_rfl) (by decide) (AllReady.cons rfl (fun K' hK => ?_) AllReady.nil)
  rw [if_pos (by rfl)]
  refine wp_store_mid 59 (.tmp 7) (.tmp 40) rfl (w.heap.size + 1 + 1) 0 _ rfl rfl HK5.out.there (by kernel_rfl) (by simp only [List.all_toArray, List.all_cons, List.all_nil, Value.oneCell', Bool.and_self]) (hK _ _ ?_)
  refine wpAny_done (by kernel_rfl) ?_ _
  rw [set27]
  obtain ⟨W3, hW3⟩ : ∃ W3, W3 = ad27 W2.drew (w.heap.size + 1 + 1) (.int .i64 1) (.int .u64 tk) (.int .i64 y0) (.int .i64 pc') (.int .i64 y2) (.int .i64 y3) (.int .i64 y4) (.int .i64 y5) (.int .u64 y6) (.int .u64 y7) (.int .u64 y8) (.bool y9) (.int .i64 out') (.int .i64 p0) (.int .i64 p1) (.slice T tn tc) (.int .i64 p3) (.int .i64 p4) (.int .i64 p5) (.int .i64 p6) (.int .i64 p7) (.slice LA ln lc) (.int .u32 p9) (.int .u64 p10) (.int .u32 p11) (.int .i64 p12) (.bool bs) := ⟨_, rfl⟩
  have HB5 : Below w.heap.size w W3 := by rw [hW3]; exact HK5.out.putb
  have HR7 : ReadsW Q W3 R2 L' := by rw [hW3]; exact HR6.out.upd (ad27_upd ..) fun b hb _ => ⟨hb.2.2, hb.2.2, hb.1⟩
  have hl : (loadVar 59 ⟨w.heap.size + 1 + 1, 0, none⟩).run Tryz.prog W3 = .ok (.agg #[.int .i64 1, .int .u64 tk, .int .i64 y0, .int .i64 pc', .int .i64 y2, .int .i64 y3, .int .i64 y4, .int .i64 y5, .int .u64 y6, .int .u64 y7, .int .u64 y8, .bool y9, .int .i64 out', .int .i64 p0, .int .i64 p1, .slice T tn tc, .int .i64 p3, .int .i64 p4, .int .i64 p5, .int .i64 p6, .int .i64 p7, .slice LA ln lc, .int .u32 p9, .int .u64 p10, .int .u32 p11, .int .i64 p12, .bool bs]) W3 := by
    rw [hW3]; exact run_loadVar_mid _ _ 0 59 _ _ (HK5.out.ranger (.int .i64 1) (.int .u64 tk) (.int .i64 y0) (.int .i64 pc') (.int .i64 y2) (.int .i64 y3) (.int .i64 y4) (.int .i64 y5) (.int .u64 y6) (.int .u64 y7) (.int .u64 y8) (.bool y9) (.int .i64 out') (.int .i64 p0) (.int .i64 p1) (.slice T tn tc) (.int .i64 p3) (.int .i64 p4) (.int .i64 p5) (.int .i64 p6) (.int .i64 p7) (.slice LA ln lc) (.int .u32 p9) (.int .u64 p10) (.int .u32 p11) (.int .i64 p12) (.bool bs)) row59.choose_spec.1 row59.choose_spec.2 (by kernel_rfl)
  rw [← hW3]
  clear hW3
  go_wp2
  exact bodyPost_ret (v := .tuple #[.slice R2 n' cap2, .agg #[.int .i64 1, .int .u64 tk, .int .i64 y0, .int .i64 pc', .int .i64 y2, .int .i64 y3, .int .i64 y4, .int .i64 y5, .int .u64 y6, .int .u64 y7, .int .u64 y8, .bool y9, .int .i64 out', .int .i64 p0, .int .i64 p1, .slice T tn tc, .int .i64 p3, .int .i64 p4, .int .i64 p5, .int .i64 p6, .int .i64 p7, .slice LA ln lc, .int .u32 p9, .int .u64 p10, .int .u32 p11, .int .i64 p12, .bool bs]]) (res2 Tryz.results21 _ W3 _ _ _ rfl rfl hl) rfl ⟨R2, cap2, _, rfl, HR7, rfl, HB5⟩

set_option maxHeartbeats 16000000 in
theorem ras_d_done (Q : Nat → Prop) (A : Option Addr) (n cap : Nat) (P : Int) (R : Option Addr) (n' capR : Nat) (L L' : List Int) (tk out' : Int) (d0 d1 d2 d3 d4 d5 d6 d7 d8 d10 : Int) (d9 : Bool) (p0 p1 p3 p4 p5 p6 p7 p9 p10 p11 p12 : Int) (T : Option Addr) (tn tc : Nat) (LA : Option Addr) (ln lc : Nat) (bs : Bool) (y0 y2 y3 y4 y5 y6 y7 y8 : Int) (y9 : Bool) (w : World)
    (hR : ReadsW Q w R L) (ho : (out' == 2) = false)
    (HC : ∀ w1, w.heap.size + 2 < w1.heap.size → ReadsW (NotT Q w.heap.size) w1 R L → Calls Tryz.prog 59 #[.slice R n' capR, .agg #[.int .i64 d0, .int .i64 d1, .int .i64 d2, .int .i64 d3, .int .i64 d4, .int .i64 d5, .int .u64 d6, .int .u64 d7, .int .u64 d8, .bool d9, .int .i64 d10]] w1 (Dg.SomeV (NotT Q w.heap.size) w1 n' L' (.agg #[.int .i64 y0, .int .i64 0, .int .i64 y2, .int .i64 y3, .int .i64 y4, .int .i64 y5, .int .u64 y6, .int .u64 y7, .int .u64 y8, .bool y9, .int .i64 out']))) :
    Calls Tryz.prog 21 #[aVal A n cap P, .slice R n' capR, .agg #[.int .i64 1, .int .u64 tk, .int .i64 d0, .int .i64 d1, .int .i64 d2, .int .i64 d3, .int .i64 d4, .int .i64 d5, .int .u64 d6, .int .u64 d7, .int .u64 d8, .bool d9, .int .i64 d10, .int .i64 p0, .int .i64 p1, .slice T tn tc, .int .i64 p3, .int .i64 p4, .int .i64 p5, .int .i64 p6, .int .i64 p7, .slice LA ln lc, .int .u32 p9, .int .u64 p10, .int .u32 p11, .int .i64 p12, .bool bs]] w (SomeA Q w n' L' (fun w' v => v = .agg #[.int .i64 0, .int .u64 tk, .int .i64 y0, .int .i64 0, .int .i64 y2, .int .i64 y3, .int .i64 y4, .int .i64 y5, .int .u64 y6, .int .u64 y7, .int .u64 y8, .bool y9, .int .i64 out', .int .i64 p0, .int .i64 p1, .slice T tn tc, .int .i64 p3, .int .i64 p4, .int .i64 p5, .int .i64 p6, .int .i64 p7, .slice LA ln lc, .int .u32 p9, .int .u64 p10, .int .u32 p11, .int .i64 p12, .bool bs])) := by
  have has := AS.new w A n cap P (.int .i64 1) (.int .u64 tk) (.int .i64 d0) (.int .i64 d1) (.int .i64 d2) (.int .i64 d3) (.int .i64 d4) (.int .i64 d5) (.int .u64 d6) (.int .u64 d7) (.int .u64 d8) (.bool d9) (.int .i64 d10) (.int .i64 p0) (.int .i64 p1) (.slice T tn tc) (.int .i64 p3) (.int .i64 p4) (.int .i64 p5) (.int .i64 p6) (.int .i64 p7) (.slice LA ln lc) (.int .u32 p9) (.int .u64 p10) (.int .u32 p11) (.int .i64 p12) (.bool bs)
  have HAS := Lib.hid has
  obtain ⟨z0, z1, z2, z3, z4, z5, z6, z7, z8, z9, z10, z11, z12, z13, z14, z15, z16, z17, z18, z19, z20, z21, z22, z23, z24, z25, z26⟩ := has.mc
  have hlt0 := has.lt
  have HR0 : ReadsW (NotT Q w.heap.size) w R L := fun h0 => by
    obtain ⟨b, off, e, hb, hp, hc⟩ := hR h0
    exact ⟨b, off, e, hb, ⟨hp, by omega, by omega⟩, hc⟩
  have HR1 := Lib.hid (HR0.below has.bel)
  have HCC := Lib.hid HC
  obtain ⟨W1, hW1⟩ : ∃ W1, W1 = (((w.alloc (.cells #[.slice A n cap, .int .i64 P] 35)).alloc (.cells #[.int .i64 1, .int .u64 tk, .int .i64 d0, .int .i64 d1, .int .i64 d2, .int .i64 d3, .int .i64 d4, .int .i64 d5, .int .u64 d6, .int .u64 d7, .int .u64 d8, .bool d9, .int .i64 d10, .int .i64 p0, .int .i64 p1, .slice T tn tc, .int .i64 p3, .int .i64 p4, .int .i64 p5, .int .i64 p6, .int .i64 p7, .slice LA ln lc, .int .u32 p9, .int .u64 p10, .int .u32 p11, .int .i64 p12, .bool bs] 59)).alloc (.cells #[.int .i64 0, .int .u64 0, .int .i64 0, .int .i64 0, .int .i64 0, .int .i64 0, .int .i64 0, .int .i64 0, .int .u64 0, .int .u64 0, .int .u64 0, .bool false, .int .i64 0, .int .i64 0, .int .i64 0, .slice none 0 0, .int .i64 0, .int .i64 0, .int .i64 0, .int .i64 0, .int .i64 0, .slice none 0 0, .int .u32 0, .int .u64 0, .int .u32 0, .int .i64 0, .bool false] 59)) := ⟨_, rfl⟩
  rw [← hW1] at HAS HR1 z0 z1 z2 z3 z4 z5 z6 z7 z8 z9 z10 z11 z12 z13 z14 z15 z16 z17 z18 z19 z20 z21 z22 z23 z24 z25 z26 hlt0
  have HW1 := Lib.hid hW1
  clear has hR HR0 HC
  go_enter Tryz.func21, Tryz.ntmps21
  go_wp2_with (fail)
  rw [← HW1.out]
  clear HW1 hW1
  go_upto_if 26 with (first
    | (go_at_call 59; (with_reducible refine (HCC.out _ HAS.out.lt HR1.out).mono ?_); rintro r w3 ⟨R2, cap2, rfl, hx, hb⟩; have HP4 := Lib.hid ((HAS.out.step hb).step (below_alloc0 (Below.refl _ _) (.cells #[.int .i64 y0, .int .i64 0, .int .i64 y2, .int .i64 y3, .int .i64 y4, .int .i64 y5, .int .u64 y6, .int .u64 y7, .int .u64 y8, .bool y9, .int .i64 out'] 49))); have HR4 := Lib.hid (hx.below (below_alloc0 (Below.refl w3.heap.size w3) (.cells #[.int .i64 y0, .int .i64 0, .int .i64 y2, .int .i64 y3, .int .i64 y4, .int .i64 y5, .int .u64 y6, .int .u64 y7, .int .u64 y8, .bool y9, .int .i64 out'] 49))); have hlt3 := (HAS.out.step hb).lt; clear hb hx z0 z1 z2 z3 z4 z5 z6 z7 z8 z9 z10 z11 z12 z13 z14 z15 z16 z17 z18 z19 z20 z21 z22 z23 z24 z25 z26; obtain ⟨z0, z1, z2, z3, z4, z5, z6, z7, z8, z9, z10, z11, z12, z13, z14, z15, z16, z17, z18, z19, z20, z21, z22, z23, z24, z25, z26⟩ := HP4.out.mc; have hfm := HP4.out.frm; have hlt := HP4.out.lt)
    | fail)
  have hk : AS w ((((((((((((w3.alloc (.cells #[.int .i64 y0, .int .i64 0, .int .i64 y2, .int .i64 y3, .int .i64 y4, .int .i64 y5, .int .u64 y6, .int .u64 y7, .int .u64 y8, .bool y9, .int .i64 out'] 49)).setCell ⟨w.heap.size + 1, 2, none⟩ (.int .i64 y0)).setCell ⟨w.heap.size + 1, 3, none⟩ (.int .i64 0)).setCell ⟨w.heap.size + 1, 4, none⟩ (.int .i64 y2)).setCell ⟨w.heap.size + 1, 5, none⟩ (.int .i64 y3)).setCell ⟨w.heap.size + 1, 6, none⟩ (.int .i64 y4)).setCell ⟨w.heap.size + 1, 7, none⟩ (.int .i64 y5)).setCell ⟨w.heap.size + 1, 8, none⟩ (.int .u64 y6)).setCell ⟨w.heap.size + 1, 9, none⟩ (.int .u64 y7)).setCell ⟨w.heap.size + 1, 10, none⟩ (.int .u64 y8)).setCell ⟨w.heap.size + 1, 11, none⟩ (.bool y9)).setCell ⟨w.heap.size + 1, 12, none⟩ (.int .i64 out')) A n cap P (.int .i64 1) (.int .u64 tk) (.int .i64 y0) (.int .i64 0) (.int .i64 y2) (.int .i64 y3) (.int .i64 y4) (.int .i64 y5) (.int .u64 y6) (.int .u64 y7) (.int .u64 y8) (.bool y9) (.int .i64 out') (.int .i64 p0) (.int .i64 p1) (.slice T tn tc) (.int .i64 p3) (.int .i64 p4) (.int .i64 p5) (.int .i64 p6) (.int .i64 p7) (.slice LA ln lc) (.int .u32 p9) (.int .u64 p10) (.int .u32 p11) (.int .i64 p12) (.bool bs) := HP4.out.setD (.int .i64 y0) (.int .i64 0) (.int .i64 y2) (.int .i64 y3) (.int .i64 y4) (.int .i64 y5) (.int .u64 y6) (.int .u64 y7) (.int .u64 y8) (.bool y9) (.int .i64 out')
  have hr4 : ReadsW (NotT Q w.heap.size) ((((((((((((w3.alloc (.cells #[.int .i64 y0, .int .i64 0, .int .i64 y2, .int .i64 y3, .int .i64 y4, .int .i64 y5, .int .u64 y6, .int .u64 y7, .int .u64 y8, .bool y9, .int .i64 out'] 49)).setCell ⟨w.heap.size + 1, 2, none⟩ (.int .i64 y0)).setCell ⟨w.heap.size + 1, 3, none⟩ (.int .i64 0)).setCell ⟨w.heap.size + 1, 4, none⟩ (.int .i64 y2)).setCell ⟨w.heap.size + 1, 5, none⟩ (.int .i64 y3)).setCell ⟨w.heap.size + 1, 6, none⟩ (.int .i64 y4)).setCell ⟨w.heap.size + 1, 7, none⟩ (.int .i64 y5)).setCell ⟨w.heap.size + 1, 8, none⟩ (.int .u64 y6)).setCell ⟨w.heap.size + 1, 9, none⟩ (.int .u64 y7)).setCell ⟨w.heap.size + 1, 10, none⟩ (.int .u64 y8)).setCell ⟨w.heap.size + 1, 11, none⟩ (.bool y9)).setCell ⟨w.heap.size + 1, 12, none⟩ (.int .i64 out')) R2 L' := HR4.out.two13 (.inl rfl) (adD_upd _ _ (.int .i64 y0) (.int .i64 0) (.int .i64 y2) (.int .i64 y3) (.int .i64 y4) (.int .i64 y5) (.int .u64 y6) (.int .u64 y7) (.int .u64 y8) (.bool y9) (.int .i64 out'))
  have hd : ((((((((((((w3.alloc (.cells #[.int .i64 y0, .int .i64 0, .int .i64 y2, .int .i64 y3, .int .i64 y4, .int .i64 y5, .int .u64 y6, .int .u64 y7, .int .u64 y8, .bool y9, .int .i64 out'] 49)).setCell ⟨w.heap.size + 1, 2, none⟩ (.int .i64 y0)).setCell ⟨w.heap.size + 1, 3, none⟩ (.int .i64 0)).setCell ⟨w.heap.size + 1, 4, none⟩ (.int .i64 y2)).setCell ⟨w.heap.size + 1, 5, none⟩ (.int .i64 y3)).setCell ⟨w.heap.size + 1, 6, none⟩ (.int .i64 y4)).setCell ⟨w.heap.size + 1, 7, none⟩ (.int .i64 y5)).setCell ⟨w.heap.size + 1, 8, none⟩ (.int .u64 y6)).setCell ⟨w.heap.size + 1, 9, none⟩ (.int .u64 y7)).setCell ⟨w.heap.size + 1, 10, none⟩ (.int .u64 y8)).setCell ⟨w.heap.size + 1, 11, none⟩ (.bool y9)).setCell ⟨w.heap.size + 1, 12, none⟩ (.int .i64 out')).heap[w3.heap.size]? = some (.cells #[.int .i64 y0, .int .i64 0, .int .i64 y2, .int .i64 y3, .int .i64 y4, .int .i64 y5, .int .u64 y6, .int .u64 y7, .int .u64 y8, .bool y9, .int .i64 out'] 49 (0, 0)) := ((adD_upd (w3.alloc (.cells #[.int .i64 y0, .int .i64 0, .int .i64 y2, .int .i64 y3, .int .i64 y4, .int .i64 y5, .int .u64 y6, .int .u64 y7, .int .u64 y8, .bool y9, .int .i64 out'] 49)) (w.heap.size + 1) (.int .i64 y0) (.int .i64 0) (.int .i64 y2) (.int .i64 y3) (.int .i64 y4) (.int .i64 y5) (.int .u64 y6) (.int .u64 y7) (.int .u64 y8) (.bool y9) (.int .i64 out')).block w3.heap.size (by simp) (by omega) (by omega)).trans (Go.heap_alloc_new _ _)
  obtain ⟨W4, hW4⟩ : ∃ W4, W4 = ((((((((((((w3.alloc (.cells #[.int .i64 y0, .int .i64 0, .int .i64 y2, .int .i64 y3, .int .i64 y4, .int .i64 y5, .int .u64 y6, .int .u64 y7, .int .u64 y8, .bool y9, .int .i64 out'] 49)).setCell ⟨w.heap.size + 1, 2, none⟩ (.int .i64 y0)).setCell ⟨w.heap.size + 1, 3, none⟩ (.int .i64 0)).setCell ⟨w.heap.size + 1, 4, none⟩ (.int .i64 y2)).setCell ⟨w.heap.size + 1, 5, none⟩ (.int .i64 y3)).setCell ⟨w.heap.size + 1, 6, none⟩ (.int .i64 y4)).setCell ⟨w.heap.size + 1, 7, none⟩ (.int .i64 y5)).setCell ⟨w.heap.size + 1, 8, none⟩ (.int .u64 y6)).setCell ⟨w.heap.size + 1, 9, none⟩ (.int .u64 y7)).setCell ⟨w.heap.size + 1, 10, none⟩ (.int .u64 y8)).setCell ⟨w.heap.size + 1, 11, none⟩ (.bool y9)).setCell ⟨w.heap.size + 1, 12, none⟩ (.int .i64 out')) := ⟨_, rfl⟩
  rw [← hW4] at hk hr4 hd ⊢
  clear hW4 z0 z1 z2 z3 z4 z5 z6 z7 z8 z9 z10 z11 z12 z13 z14 z15 z16 z17 z18 z19 z20 z21 z22 z23 z24 z25 z26 hfm HP4 HR4 hlt
  obtain ⟨z0, z1, z2, z3, z4, z5, z6, z7, z8, z9, z10, z11, z12, z13, z14, z15, z16, z17, z18, z19, z20, z21, z22, z23, z24, z25, z26⟩ := hk.mc
  have hfm := hk.frm
  have hlt := hk.lt
  obtain ⟨o0, o1, o2, o3, o4, o5, o6, o7, o8, o9, o10⟩ := Dg.row11_cells hd
  clear o0 o2 o3 o4 o5 o6 o7 o8 o9
  have HK3 := Lib.hid hk; have HR4 := Lib.hid hr4
  clear hk hr4 hd
  go_wp2_with (fail)
  have hk : AS w (W4.setCell ⟨w.heap.size + 1, 0, none⟩ (.int .i64 0)) A n cap P (.int .i64 0) (.int .u64 tk) (.int .i64 y0) (.int .i64 0) (.int .i64 y2) (.int .i64 y3) (.int .i64 y4) (.int .i64 y5) (.int .u64 y6) (.int .u64 y7) (.int .u64 y8) (.bool y9) (.int .i64 out') (.int .i64 p0) (.int .i64 p1) (.slice T tn tc) (.int .i64 p3) (.int .i64 p4) (.int .i64 p5) (.int .i64 p6) (.int .i64 p7) (.slice LA ln lc) (.int .u32 p9) (.int .u64 p10) (.int .u32 p11) (.int .i64 p12) (.bool bs) := HK3.out.set0 (.int .i64 0)
  have hr4 : ReadsW (NotT Q w.heap.size) (W4.setCell ⟨w.heap.size + 1, 0, none⟩ (.int .i64 0)) R2 L' := HR4.out.two13 (.inl rfl) (upd_set1 _ (w.heap.size + 1) 0 _)
  obtain ⟨W2, hW2⟩ : ∃ W2, W2 = (W4.setCell ⟨w.heap.size + 1, 0, none⟩ (.int .i64 0)) := ⟨_, rfl⟩
  rw [← hW2] at hk hr4  ⊢
  clear hW2 z0 z1 z2 z3 z4 z5 z6 z7 z8 z9 z10 z11 z12 z13 z14 z15 z16 z17 z18 z19 z20 z21 z22 z23 z24 z25 z26 hfm o1 o10
  have HK4 := Lib.hid hk; have HR5 := Lib.hid hr4
  clear hk hr4
  have HK5 := Lib.hid (HK4.out.step (Below.refl _ _).drew)
  have HR6 := Lib.hid (HR5.out.below (Below.refl _ _).drew)
  refine wp_region_any (by kernel_rfl) ?_
  change wpAny _ _ _ _ 4 _ _ (World.drew _)
  refine wpAny_take (i := 0) (v := .slice R2 n' cap2) rfl (by kernel_rfl) (by kernel_rfl) (by kernel_rfl) (fun _ _ _ h => h) (Or.inl ⟨by rfl, fun w => by exact BigFrame.run_move (.tmp 8) rfl w⟩) ?_
  refine wpAny_take (i := 2) (v := .slice R2 n' cap2) rfl (by kernel_rfl) (by kernel_rfl) (by kernel_rfl) (fun _ _ _ h => h) (Or.inl ⟨by rfl, fun w => by exact BigFrame.run_assign (.tmp 39) rfl w⟩) ?_
  refine wpAny_ready (rs := [1]) (by kernel_rfl) (by decide) (AllReady.cons rfl (fun K' hK => ?_) AllReady.nil)
  rw [if_pos (by rfl)]
  refine wp_load_mid 59 (.tmp 5) rfl (w.heap.size + 1) 0 rfl _ _ HK5.out.range row59.choose_spec.1 row59.choose_spec.2 (by kernel_rfl) (hK _ _ ?_)
  refine wpAny_ready (rs := [3]) (by kernel_rfl) (by decide) (AllReady.cons rfl (fun K' hK => ?_) AllReady.nil)
  rw [if_pos (by rfl)]
  refine wp_store_mid 59 (.tmp 7) (.tmp 40) rfl (w.heap.size + 1 + 1) 0 _ rfl rfl HK5.out.there (by kernel_rfl) (by simp only [List.all_toArray, List.all_cons, List.all_nil, Value.oneCell', Bool.and_self]) (hK _ _ ?_)
  refine wpAny_done (by kernel_rfl) ?_ _
  rw [set27]
  obtain ⟨W3, hW3⟩ : ∃ W3, W3 = ad27 W2.drew (w.heap.size + 1 + 1) (.int .i64 0) (.int .u64 tk) (.int .i64 y0) (.int .i64 0) (.int .i64 y2) (.int .i64 y3) (.int .i64 y4) (.int .i64 y5) (.int .u64 y6) (.int .u64 y7) (.int .u64 y8) (.bool y9) (.int .i64 out') (.int .i64 p0) (.int .i64 p1) (.slice T tn tc) (.int .i64 p3) (.int .i64 p4) (.int .i64 p5) (.int .i64 p6) (.int .i64 p7) (.slice LA ln lc) (.int .u32 p9) (.int .u64 p10) (.int .u32 p11) (.int .i64 p12) (.bool bs) := ⟨_, rfl⟩
  have HB5 : Below w.heap.size w W3 := by rw [hW3]; exact HK5.out.putb
  have HR7 : ReadsW Q W3 R2 L' := by rw [hW3]; exact HR6.out.upd (ad27_upd ..) fun b hb _ => ⟨hb.2.2, hb.2.2, hb.1⟩
  have hl : (loadVar 59 ⟨w.heap.size + 1 + 1, 0, none⟩).run Tryz.prog W3 = .ok (.agg #[.int .i64 0, .int .u64 tk, .int .i64 y0, .int .i64 0, .int .i64 y2, .int .i64 y3, .int .i64 y4, .int .i64 y5, .int .u64 y6, .int .u64 y7, .int .u64 y8, .bool y9, .int .i64 out', .int .i64 p0, .int .i64 p1, .slice T tn tc, .int .i64 p3, .int .i64 p4, .int .i64 p5, .int .i64 p6, .int .i64 p7, .slice LA ln lc, .int .u32 p9, .int .u64 p10, .int .u32 p11, .int .i64 p12, .bool bs]) W3 := by
    rw [hW3]; exact run_loadVar_mid _ _ 0 59 _ _ (HK5.out.ranger (.int .i64 0) (.int .u64 tk) (.int .i64 y0) (.int .i64 0) (.int .i64 y2) (.int .i64 y3) (.int .i64 y4) (.int .i64 y5) (.int .u64 y6) (.int .u64 y7) (.int .u64 y8) (.bool y9) (.int .i64 out') (.int .i64 p0) (.int .i64 p1) (.slice T tn tc) (.int .i64 p3) (.int .i64 p4) (.int .i64 p5) (.int .i64 p6) (.int .i64 p7) (.slice LA ln lc) (.int .u32 p9) (.int .u64 p10) (.int .u32 p11) (.int .i64 p12) (.bool bs)) row59.choose_spec.1 row59.choose_spec.2 (by kernel_rfl)
  rw [← hW3]
  clear hW3
  go_wp2
  exact bodyPost_ret (v := .tuple #[.slice R2 n' cap2, .agg #[.int .i64 0, .int .u64 tk, .int .i64 y0, .int .i64 0, .int .i64 y2, .int .i64 y3, .int .i64 y4, .int .i64 y5, .int .u64 y6, .int .u64 y7, .int .u64 y8, .bool y9, .int .i64 out', .int .i64 p0, .int .i64 p1, .slice T tn tc, .int .i64 p3, .int .i64 p4, .int .i64 p5, .int .i64 p6, .int .i64 p7, .slice LA ln lc, .int .u32 p9, .int .u64 p10, .int .u32 p11, .int .i64 p12, .bool bs]]) (res2 Tryz.results21 _ W3 _ _ _ rfl rfl hl) rfl ⟨R2, cap2, _, rfl, HR7, rfl, HB5⟩

set_option maxHeartbeats 16000000 in
theorem ras_d_full {c : Cfg} (hc : OkC c) (Q : Nat → Prop) (A : Option Addr) (n cap : Nat) (R : Option Addr) (n' capR : Nat) (L L' : List Int) (tk : Int) (d0 d1 d2 d3 d4 d5 d6 d7 d8 d10 : Int) (d9 : Bool) (p0 p1 p3 p4 p5 p6 p7 p9 p10 p11 p12 : Int) (T : Option Addr) (tn tc : Nat) (LA : Option Addr) (ln lc : Nat) (bs : Bool) (y0 y2 y3 y4 y5 y6 y7 y8 : Int) (y9 : Bool) (w : World)
    (hR : ReadsW Q w R L) (hA : IsA w c A n) (hQ : ∀ b, w.heap.size ≤ b → Q b) (m : Pm) (hm : pPut (gOf c) [tk] = m)
    (HC : ∀ w1, w.heap.size + 2 < w1.heap.size → ReadsW (NotT Q w.heap.size) w1 R L → Calls Tryz.prog 59 #[.slice R n' capR, .agg #[.int .i64 d0, .int .i64 d1, .int .i64 d2, .int .i64 d3, .int .i64 d4, .int .i64 d5, .int .u64 d6, .int .u64 d7, .int .u64 d8, .bool d9, .int .i64 d10]] w1 (Dg.SomeV (NotT Q w.heap.size) w1 n' L' (.agg #[.int .i64 y0, .int .i64 0, .int .i64 y2, .int .i64 y3, .int .i64 y4, .int .i64 y5, .int .u64 y6, .int .u64 y7, .int .u64 y8, .bool y9, .int .i64 2]))) :
    Calls Tryz.prog 21 #[aVal A n cap (packN c), .slice R n' capR, .agg #[.int .i64 1, .int .u64 tk, .int .i64 d0, .int .i64 d1, .int .i64 d2, .int .i64 d3, .int .i64 d4, .int .i64 d5, .int .u64 d6, .int .u64 d7, .int .u64 d8, .bool d9, .int .i64 d10, .int .i64 p0, .int .i64 p1, .slice T tn tc, .int .i64 p3, .int .i64 p4, .int .i64 p5, .int .i64 p6, .int .i64 p7, .slice LA ln lc, .int .u32 p9, .int .u64 p10, .int .u32 p11, .int .i64 p12, .bool bs]] w (SomeA Q w n' L' (fun w2 v => ∃ T2 tn2 tc2 LB lm ld, v = .agg #[.int .i64 2, .int .u64 tk, .int .i64 y0, .int .i64 0, .int .i64 y2, .int .i64 y3, .int .i64 y4, .int .i64 y5, .int .u64 y6, .int .u64 y7, .int .u64 y8, .bool y9, .int .i64 2, .int .i64 m.kind, .int .i64 m.pc, .slice T2 tn2 tc2, .int .i64 m.j, .int .i64 m.p, .int .i64 m.x.kind, .int .i64 m.x.pc, .int .i64 m.x.k.head, .slice LB lm ld, .int .u32 m.x.item, .int .u64 m.x.h, .int .u32 m.x.link, .int .i64 m.x.tries, .bool true] ∧ RPm Q w2 m (pmVm m T2 tn2 tc2 LB lm ld))) := by
  have HA := Lib.hid hA; have HQ := Lib.hid hQ; have HM := Lib.hid hm
  clear hA hQ hm
  have has := AS.new w A n cap (packN c) (.int .i64 1) (.int .u64 tk) (.int .i64 d0) (.int .i64 d1) (.int .i64 d2) (.int .i64 d3) (.int .i64 d4) (.int .i64 d5) (.int .u64 d6) (.int .u64 d7) (.int .u64 d8) (.bool d9) (.int .i64 d10) (.int .i64 p0) (.int .i64 p1) (.slice T tn tc) (.int .i64 p3) (.int .i64 p4) (.int .i64 p5) (.int .i64 p6) (.int .i64 p7) (.slice LA ln lc) (.int .u32 p9) (.int .u64 p10) (.int .u32 p11) (.int .i64 p12) (.bool bs)
  have HAS := Lib.hid has
  obtain ⟨z0, z1, z2, z3, z4, z5, z6, z7, z8, z9, z10, z11, z12, z13, z14, z15, z16, z17, z18, z19, z20, z21, z22, z23, z24, z25, z26⟩ := has.mc
  have hlt0 := has.lt
  have HR0 : ReadsW (NotT Q w.heap.size) w R L := fun h0 => by
    obtain ⟨b, off, e, hb, hp, hc⟩ := hR h0
    exact ⟨b, off, e, hb, ⟨hp, by omega, by omega⟩, hc⟩
  have HR1 := Lib.hid (HR0.below has.bel)
  have HCC := Lib.hid HC
  obtain ⟨W1, hW1⟩ : ∃ W1, W1 = (((w.alloc (.cells #[.slice A n cap, .int .i64 (packN c)] 35)).alloc (.cells #[.int .i64 1, .int .u64 tk, .int .i64 d0, .int .i64 d1, .int .i64 d2, .int .i64 d3, .int .i64 d4, .int .i64 d5, .int .u64 d6, .int .u64 d7, .int .u64 d8, .bool d9, .int .i64 d10, .int .i64 p0, .int .i64 p1, .slice T tn tc, .int .i64 p3, .int .i64 p4, .int .i64 p5, .int .i64 p6, .int .i64 p7, .slice LA ln lc, .int .u32 p9, .int .u64 p10, .int .u32 p11, .int .i64 p12, .bool bs] 59)).alloc (.cells #[.int .i64 0, .int .u64 0, .int .i64 0, .int .i64 0, .int .i64 0, .int .i64 0, .int .i64 0, .int .i64 0, .int .u64 0, .int .u64 0, .int .u64 0, .bool false, .int .i64 0, .int .i64 0, .int .i64 0, .slice none 0 0, .int .i64 0, .int .i64 0, .int .i64 0, .int .i64 0, .int .i64 0, .slice none 0 0, .int .u32 0, .int .u64 0, .int .u32 0, .int .i64 0, .bool false] 59)) := ⟨_, rfl⟩
  rw [← hW1] at HAS HR1 z0 z1 z2 z3 z4 z5 z6 z7 z8 z9 z10 z11 z12 z13 z14 z15 z16 z17 z18 z19 z20 z21 z22 z23 z24 z25 z26 hlt0
  have HW1 := Lib.hid hW1
  clear has hR HR0 HC
  go_enter Tryz.func21, Tryz.ntmps21
  go_wp2_with (fail)
  rw [← HW1.out]
  clear HW1 hW1
  go_upto_if 26 with (first
    | (go_at_call 59; (with_reducible refine (HCC.out _ HAS.out.lt HR1.out).mono ?_); rintro r w3 ⟨R2, cap2, rfl, hx, hb⟩; have HP4 := Lib.hid ((HAS.out.step hb).step (below_alloc0 (Below.refl _ _) (.cells #[.int .i64 y0, .int .i64 0, .int .i64 y2, .int .i64 y3, .int .i64 y4, .int .i64 y5, .int .u64 y6, .int .u64 y7, .int .u64 y8, .bool y9, .int .i64 2] 49))); have HR4 := Lib.hid (hx.below (below_alloc0 (Below.refl w3.heap.size w3) (.cells #[.int .i64 y0, .int .i64 0, .int .i64 y2, .int .i64 y3, .int .i64 y4, .int .i64 y5, .int .u64 y6, .int .u64 y7, .int .u64 y8, .bool y9, .int .i64 2] 49))); have hlt3 := (HAS.out.step hb).lt; clear hb hx z0 z1 z2 z3 z4 z5 z6 z7 z8 z9 z10 z11 z12 z13 z14 z15 z16 z17 z18 z19 z20 z21 z22 z23 z24 z25 z26; obtain ⟨z0, z1, z2, z3, z4, z5, z6, z7, z8, z9, z10, z11, z12, z13, z14, z15, z16, z17, z18, z19, z20, z21, z22, z23, z24, z25, z26⟩ := HP4.out.mc; have hfm := HP4.out.frm; have hlt := HP4.out.lt)
    | fail)
  have hk : AS w ((((((((((((w3.alloc (.cells #[.int .i64 y0, .int .i64 0, .int .i64 y2, .int .i64 y3, .int .i64 y4, .int .i64 y5, .int .u64 y6, .int .u64 y7, .int .u64 y8, .bool y9, .int .i64 2] 49)).setCell ⟨w.heap.size + 1, 2, none⟩ (.int .i64 y0)).setCell ⟨w.heap.size + 1, 3, none⟩ (.int .i64 0)).setCell ⟨w.heap.size + 1, 4, none⟩ (.int .i64 y2)).setCell ⟨w.heap.size + 1, 5, none⟩ (.int .i64 y3)).setCell ⟨w.heap.size + 1, 6, none⟩ (.int .i64 y4)).setCell ⟨w.heap.size + 1, 7, none⟩ (.int .i64 y5)).setCell ⟨w.heap.size + 1, 8, none⟩ (.int .u64 y6)).setCell ⟨w.heap.size + 1, 9, none⟩ (.int .u64 y7)).setCell ⟨w.heap.size + 1, 10, none⟩ (.int .u64 y8)).setCell ⟨w.heap.size + 1, 11, none⟩ (.bool y9)).setCell ⟨w.heap.size + 1, 12, none⟩ (.int .i64 2)) A n cap (packN c) (.int .i64 1) (.int .u64 tk) (.int .i64 y0) (.int .i64 0) (.int .i64 y2) (.int .i64 y3) (.int .i64 y4) (.int .i64 y5) (.int .u64 y6) (.int .u64 y7) (.int .u64 y8) (.bool y9) (.int .i64 2) (.int .i64 p0) (.int .i64 p1) (.slice T tn tc) (.int .i64 p3) (.int .i64 p4) (.int .i64 p5) (.int .i64 p6) (.int .i64 p7) (.slice LA ln lc) (.int .u32 p9) (.int .u64 p10) (.int .u32 p11) (.int .i64 p12) (.bool bs) := HP4.out.setD (.int .i64 y0) (.int .i64 0) (.int .i64 y2) (.int .i64 y3) (.int .i64 y4) (.int .i64 y5) (.int .u64 y6) (.int .u64 y7) (.int .u64 y8) (.bool y9) (.int .i64 2)
  have hr4 : ReadsW (NotT Q w.heap.size) ((((((((((((w3.alloc (.cells #[.int .i64 y0, .int .i64 0, .int .i64 y2, .int .i64 y3, .int .i64 y4, .int .i64 y5, .int .u64 y6, .int .u64 y7, .int .u64 y8, .bool y9, .int .i64 2] 49)).setCell ⟨w.heap.size + 1, 2, none⟩ (.int .i64 y0)).setCell ⟨w.heap.size + 1, 3, none⟩ (.int .i64 0)).setCell ⟨w.heap.size + 1, 4, none⟩ (.int .i64 y2)).setCell ⟨w.heap.size + 1, 5, none⟩ (.int .i64 y3)).setCell ⟨w.heap.size + 1, 6, none⟩ (.int .i64 y4)).setCell ⟨w.heap.size + 1, 7, none⟩ (.int .i64 y5)).setCell ⟨w.heap.size + 1, 8, none⟩ (.int .u64 y6)).setCell ⟨w.heap.size + 1, 9, none⟩ (.int .u64 y7)).setCell ⟨w.heap.size + 1, 10, none⟩ (.int .u64 y8)).setCell ⟨w.heap.size + 1, 11, none⟩ (.bool y9)).setCell ⟨w.heap.size + 1, 12, none⟩ (.int .i64 2)) R2 L' := HR4.out.two13 (.inl rfl) (adD_upd _ _ (.int .i64 y0) (.int .i64 0) (.int .i64 y2) (.int .i64 y3) (.int .i64 y4) (.int .i64 y5) (.int .u64 y6) (.int .u64 y7) (.int .u64 y8) (.bool y9) (.int .i64 2))
  have hd : ((((((((((((w3.alloc (.cells #[.int .i64 y0, .int .i64 0, .int .i64 y2, .int .i64 y3, .int .i64 y4, .int .i64 y5, .int .u64 y6, .int .u64 y7, .int .u64 y8, .bool y9, .int .i64 2] 49)).setCell ⟨w.heap.size + 1, 2, none⟩ (.int .i64 y0)).setCell ⟨w.heap.size + 1, 3, none⟩ (.int .i64 0)).setCell ⟨w.heap.size + 1, 4, none⟩ (.int .i64 y2)).setCell ⟨w.heap.size + 1, 5, none⟩ (.int .i64 y3)).setCell ⟨w.heap.size + 1, 6, none⟩ (.int .i64 y4)).setCell ⟨w.heap.size + 1, 7, none⟩ (.int .i64 y5)).setCell ⟨w.heap.size + 1, 8, none⟩ (.int .u64 y6)).setCell ⟨w.heap.size + 1, 9, none⟩ (.int .u64 y7)).setCell ⟨w.heap.size + 1, 10, none⟩ (.int .u64 y8)).setCell ⟨w.heap.size + 1, 11, none⟩ (.bool y9)).setCell ⟨w.heap.size + 1, 12, none⟩ (.int .i64 2)).heap[w3.heap.size]? = some (.cells #[.int .i64 y0, .int .i64 0, .int .i64 y2, .int .i64 y3, .int .i64 y4, .int .i64 y5, .int .u64 y6, .int .u64 y7, .int .u64 y8, .bool y9, .int .i64 2] 49 (0, 0)) := ((adD_upd (w3.alloc (.cells #[.int .i64 y0, .int .i64 0, .int .i64 y2, .int .i64 y3, .int .i64 y4, .int .i64 y5, .int .u64 y6, .int .u64 y7, .int .u64 y8, .bool y9, .int .i64 2] 49)) (w.heap.size + 1) (.int .i64 y0) (.int .i64 0) (.int .i64 y2) (.int .i64 y3) (.int .i64 y4) (.int .i64 y5) (.int .u64 y6) (.int .u64 y7) (.int .u64 y8) (.bool y9) (.int .i64 2)).block w3.heap.size (by simp) (by omega) (by omega)).trans (Go.heap_alloc_new _ _)
  obtain ⟨W4, hW4⟩ : ∃ W4, W4 = ((((((((((((w3.alloc (.cells #[.int .i64 y0, .int .i64 0, .int .i64 y2, .int .i64 y3, .int .i64 y4, .int .i64 y5, .int .u64 y6, .int .u64 y7, .int .u64 y8, .bool y9, .int .i64 2] 49)).setCell ⟨w.heap.size + 1, 2, none⟩ (.int .i64 y0)).setCell ⟨w.heap.size + 1, 3, none⟩ (.int .i64 0)).setCell ⟨w.heap.size + 1, 4, none⟩ (.int .i64 y2)).setCell ⟨w.heap.size + 1, 5, none⟩ (.int .i64 y3)).setCell ⟨w.heap.size + 1, 6, none⟩ (.int .i64 y4)).setCell ⟨w.heap.size + 1, 7, none⟩ (.int .i64 y5)).setCell ⟨w.heap.size + 1, 8, none⟩ (.int .u64 y6)).setCell ⟨w.heap.size + 1, 9, none⟩ (.int .u64 y7)).setCell ⟨w.heap.size + 1, 10, none⟩ (.int .u64 y8)).setCell ⟨w.heap.size + 1, 11, none⟩ (.bool y9)).setCell ⟨w.heap.size + 1, 12, none⟩ (.int .i64 2)) := ⟨_, rfl⟩
  rw [← hW4] at hk hr4 hd ⊢
  clear hW4 z0 z1 z2 z3 z4 z5 z6 z7 z8 z9 z10 z11 z12 z13 z14 z15 z16 z17 z18 z19 z20 z21 z22 z23 z24 z25 z26 hfm HP4 HR4 hlt
  obtain ⟨z0, z1, z2, z3, z4, z5, z6, z7, z8, z9, z10, z11, z12, z13, z14, z15, z16, z17, z18, z19, z20, z21, z22, z23, z24, z25, z26⟩ := hk.mc
  have hfm := hk.frm
  have hlt := hk.lt
  obtain ⟨o0, o1, o2, o3, o4, o5, o6, o7, o8, o9, o10⟩ := Dg.row11_cells hd
  clear o0 o2 o3 o4 o5 o6 o7 o8 o9
  have HK3 := Lib.hid hk; have HR4 := Lib.hid hr4
  clear hk hr4 hd
  obtain ⟨a0, a1⟩ := HK3.out.cells
  have HK6 := Lib.hid ((((HK3.out.set0 (.int .i64 0)).set0 (.int .i64 2)).set26 (.bool true)).step (below_alloc0 (Below.refl (((W4.setCell ⟨w.heap.size + 1, 0, none⟩ (.int .i64 0)).setCell ⟨w.heap.size + 1, 0, none⟩ (.int .i64 2)).setCell ⟨w.heap.size + 1, 26, none⟩ (.bool true)).heap.size (((W4.setCell ⟨w.heap.size + 1, 0, none⟩ (.int .i64 0)).setCell ⟨w.heap.size + 1, 0, none⟩ (.int .i64 2)).setCell ⟨w.heap.size + 1, 26, none⟩ (.bool true))) (.cells #[.int .u64 tk] 25)))
  have HR6 := Lib.hid ((((HR4.out.two13 (.inl rfl) (upd_set1 _ (w.heap.size + 1) 0 (.int .i64 0))).two13 (.inl rfl) (upd_set1 _ (w.heap.size + 1) 0 (.int .i64 2))).two13 (.inl rfl) (upd_set1 _ (w.heap.size + 1) 26 (.bool true))).below (below_alloc0 (Below.refl (((W4.setCell ⟨w.heap.size + 1, 0, none⟩ (.int .i64 0)).setCell ⟨w.heap.size + 1, 0, none⟩ (.int .i64 2)).setCell ⟨w.heap.size + 1, 26, none⟩ (.bool true)).heap.size (((W4.setCell ⟨w.heap.size + 1, 0, none⟩ (.int .i64 0)).setCell ⟨w.heap.size + 1, 0, none⟩ (.int .i64 2)).setCell ⟨w.heap.size + 1, 26, none⟩ (.bool true))) (.cells #[.int .u64 tk] 25)))
  have hsz : ((((W4.setCell ⟨w.heap.size + 1, 0, none⟩ (.int .i64 0)).setCell ⟨w.heap.size + 1, 0, none⟩ (.int .i64 2)).setCell ⟨w.heap.size + 1, 26, none⟩ (.bool true)).alloc (.cells #[.int .u64 tk] 25)).heap.size = W4.heap.size + 1 := by simp
  have HQ6 : Hid (∀ b, ((((W4.setCell ⟨w.heap.size + 1, 0, none⟩ (.int .i64 0)).setCell ⟨w.heap.size + 1, 0, none⟩ (.int .i64 2)).setCell ⟨w.heap.size + 1, 26, none⟩ (.bool true)).alloc (.cells #[.int .u64 tk] 25)).heap.size ≤ b → NotT Q w.heap.size b) := Lib.hid (fun b hb => by rw [hsz] at hb; exact ⟨HQ.out b (by omega), by omega, by omega⟩)
  have HT6 : Hid (Reads .u64 ((((W4.setCell ⟨w.heap.size + 1, 0, none⟩ (.int .i64 0)).setCell ⟨w.heap.size + 1, 0, none⟩ (.int .i64 2)).setCell ⟨w.heap.size + 1, 26, none⟩ (.bool true)).alloc (.cells #[.int .u64 tk] 25)) (some ⟨W4.heap.size, 0, none⟩) [tk]) := Lib.hid (fun h0 => ⟨W4.heap.size, 0, rfl, by rw [hsz]; omega, fun j hj => by
    obtain rfl : j = 0 := by simp at hj; omega
    rw [cell_of_row _ W4.heap.size (0 + 0) #[.int .u64 tk] 25 (0, 0) (by
      have h := Go.heap_alloc_new (((W4.setCell ⟨w.heap.size + 1, 0, none⟩ (.int .i64 0)).setCell ⟨w.heap.size + 1, 0, none⟩ (.int .i64 2)).setCell ⟨w.heap.size + 1, 26, none⟩ (.bool true)) (.cells #[.int .u64 tk] 25)
      rwa [show (((W4.setCell ⟨w.heap.size + 1, 0, none⟩ (.int .i64 0)).setCell ⟨w.heap.size + 1, 0, none⟩ (.int .i64 2)).setCell ⟨w.heap.size + 1, 26, none⟩ (.bool true)).heap.size = W4.heap.size by simp] at h)]; rfl⟩)
  have HTQ6 : Hid (0 < [tk].length → ∀ a : Addr, some (⟨W4.heap.size, 0, none⟩ : Addr) = some a → NotT Q w.heap.size a.block) := Lib.hid (fun _ a e => by
    cases e; exact ⟨HQ.out _ (by dsimp only; omega), by dsimp only; omega, by dsimp only; omega⟩)
  have HA6 := Lib.hid (HA.out.below HK6.out.bel)
  clear hsz
  go_wp2_with (first
    | (go_at_call 60; (with_reducible refine (rpput_any hc (NotT Q w.heap.size) A n cap (some ⟨W4.heap.size, 0, none⟩) 1 1 [tk] _ HA6.out rfl HT6.out (Nat.le_refl 1) (by decide) HQ6.out HTQ6.out).mono ?_); rw [HM.out]; rintro r w6 ⟨v, rfl, hv, hb⟩; have HPM := Lib.hid hv; clear hv; obtain ⟨T2, tn2, tc2, LB, lm, ld, rfl, hg⟩ := HPM.out; clear hg; have HK7 := Lib.hid (HK6.out.step hb); have HR7 := Lib.hid (HR6.out.below hb); clear hb z0 z1 z2 z3 z4 z5 z6 z7 z8 z9 z10 z11 z12 z13 z14 z15 z16 z17 z18 z19 z20 z21 z22 z23 z24 z25 z26 o1 o10 a0 a1; obtain ⟨z0, z1, z2, z3, z4, z5, z6, z7, z8, z9, z10, z11, z12, z13, z14, z15, z16, z17, z18, z19, z20, z21, z22, z23, z24, z25, z26⟩ := HK7.out.mc; have hfm7 := HK7.out.frm)
    | fail)
  have hk : AS w (((((((((((((w6.setCell ⟨w.heap.size + 1, 13, none⟩ (.int .i64 m.kind)).setCell ⟨w.heap.size + 1, 14, none⟩ (.int .i64 m.pc)).setCell ⟨w.heap.size + 1, 15, none⟩ (.slice T2 tn2 tc2)).setCell ⟨w.heap.size + 1, 16, none⟩ (.int .i64 m.j)).setCell ⟨w.heap.size + 1, 17, none⟩ (.int .i64 m.p)).setCell ⟨w.heap.size + 1, 18, none⟩ (.int .i64 m.x.kind)).setCell ⟨w.heap.size + 1, 19, none⟩ (.int .i64 m.x.pc)).setCell ⟨w.heap.size + 1, 20, none⟩ (.int .i64 m.x.k.head)).setCell ⟨w.heap.size + 1, 21, none⟩ (.slice LB lm ld)).setCell ⟨w.heap.size + 1, 22, none⟩ (.int .u32 m.x.item)).setCell ⟨w.heap.size + 1, 23, none⟩ (.int .u64 m.x.h)).setCell ⟨w.heap.size + 1, 24, none⟩ (.int .u32 m.x.link)).setCell ⟨w.heap.size + 1, 25, none⟩ (.int .i64 m.x.tries)) A n cap (packN c) (.int .i64 2) (.int .u64 tk) (.int .i64 y0) (.int .i64 0) (.int .i64 y2) (.int .i64 y3) (.int .i64 y4) (.int .i64 y5) (.int .u64 y6) (.int .u64 y7) (.int .u64 y8) (.bool y9) (.int .i64 2) (.int .i64 m.kind) (.int .i64 m.pc) (.slice T2 tn2 tc2) (.int .i64 m.j) (.int .i64 m.p) (.int .i64 m.x.kind) (.int .i64 m.x.pc) (.int .i64 m.x.k.head) (.slice LB lm ld) (.int .u32 m.x.item) (.int .u64 m.x.h) (.int .u32 m.x.link) (.int .i64 m.x.tries) (.bool true) := HK7.out.setP (.int .i64 m.kind) (.int .i64 m.pc) (.slice T2 tn2 tc2) (.int .i64 m.j) (.int .i64 m.p) (.int .i64 m.x.kind) (.int .i64 m.x.pc) (.int .i64 m.x.k.head) (.slice LB lm ld) (.int .u32 m.x.item) (.int .u64 m.x.h) (.int .u32 m.x.link) (.int .i64 m.x.tries)
  have hr4 : ReadsW (NotT Q w.heap.size) (((((((((((((w6.setCell ⟨w.heap.size + 1, 13, none⟩ (.int .i64 m.kind)).setCell ⟨w.heap.size + 1, 14, none⟩ (.int .i64 m.pc)).setCell ⟨w.heap.size + 1, 15, none⟩ (.slice T2 tn2 tc2)).setCell ⟨w.heap.size + 1, 16, none⟩ (.int .i64 m.j)).setCell ⟨w.heap.size + 1, 17, none⟩ (.int .i64 m.p)).setCell ⟨w.heap.size + 1, 18, none⟩ (.int .i64 m.x.kind)).setCell ⟨w.heap.size + 1, 19, none⟩ (.int .i64 m.x.pc)).setCell ⟨w.heap.size + 1, 20, none⟩ (.int .i64 m.x.k.head)).setCell ⟨w.heap.size + 1, 21, none⟩ (.slice LB lm ld)).setCell ⟨w.heap.size + 1, 22, none⟩ (.int .u32 m.x.item)).setCell ⟨w.heap.size + 1, 23, none⟩ (.int .u64 m.x.h)).setCell ⟨w.heap.size + 1, 24, none⟩ (.int .u32 m.x.link)).setCell ⟨w.heap.size + 1, 25, none⟩ (.int .i64 m.x.tries)) R2 L' := HR7.out.two13 (.inl rfl) (adP_upd _ _ (.int .i64 m.kind) (.int .i64 m.pc) (.slice T2 tn2 tc2) (.int .i64 m.j) (.int .i64 m.p) (.int .i64 m.x.kind) (.int .i64 m.x.pc) (.int .i64 m.x.k.head) (.slice LB lm ld) (.int .u32 m.x.item) (.int .u64 m.x.h) (.int .u32 m.x.link) (.int .i64 m.x.tries))
  have hp4 : RPm (NotT Q w.heap.size) (((((((((((((w6.setCell ⟨w.heap.size + 1, 13, none⟩ (.int .i64 m.kind)).setCell ⟨w.heap.size + 1, 14, none⟩ (.int .i64 m.pc)).setCell ⟨w.heap.size + 1, 15, none⟩ (.slice T2 tn2 tc2)).setCell ⟨w.heap.size + 1, 16, none⟩ (.int .i64 m.j)).setCell ⟨w.heap.size + 1, 17, none⟩ (.int .i64 m.p)).setCell ⟨w.heap.size + 1, 18, none⟩ (.int .i64 m.x.kind)).setCell ⟨w.heap.size + 1, 19, none⟩ (.int .i64 m.x.pc)).setCell ⟨w.heap.size + 1, 20, none⟩ (.int .i64 m.x.k.head)).setCell ⟨w.heap.size + 1, 21, none⟩ (.slice LB lm ld)).setCell ⟨w.heap.size + 1, 22, none⟩ (.int .u32 m.x.item)).setCell ⟨w.heap.size + 1, 23, none⟩ (.int .u64 m.x.h)).setCell ⟨w.heap.size + 1, 24, none⟩ (.int .u32 m.x.link)).setCell ⟨w.heap.size + 1, 25, none⟩ (.int .i64 m.x.tries)) m (pmVm m T2 tn2 tc2 LB lm ld) := HPM.out.near (.inl rfl) (adP_upd _ _ (.int .i64 m.kind) (.int .i64 m.pc) (.slice T2 tn2 tc2) (.int .i64 m.j) (.int .i64 m.p) (.int .i64 m.x.kind) (.int .i64 m.x.pc) (.int .i64 m.x.k.head) (.slice LB lm ld) (.int .u32 m.x.item) (.int .u64 m.x.h) (.int .u32 m.x.link) (.int .i64 m.x.tries))
  obtain ⟨W2, hW2⟩ : ∃ W2, W2 = (((((((((((((w6.setCell ⟨w.heap.size + 1, 13, none⟩ (.int .i64 m.kind)).setCell ⟨w.heap.size + 1, 14, none⟩ (.int .i64 m.pc)).setCell ⟨w.heap.size + 1, 15, none⟩ (.slice T2 tn2 tc2)).setCell ⟨w.heap.size + 1, 16, none⟩ (.int .i64 m.j)).setCell ⟨w.heap.size + 1, 17, none⟩ (.int .i64 m.p)).setCell ⟨w.heap.size + 1, 18, none⟩ (.int .i64 m.x.kind)).setCell ⟨w.heap.size + 1, 19, none⟩ (.int .i64 m.x.pc)).setCell ⟨w.heap.size + 1, 20, none⟩ (.int .i64 m.x.k.head)).setCell ⟨w.heap.size + 1, 21, none⟩ (.slice LB lm ld)).setCell ⟨w.heap.size + 1, 22, none⟩ (.int .u32 m.x.item)).setCell ⟨w.heap.size + 1, 23, none⟩ (.int .u64 m.x.h)).setCell ⟨w.heap.size + 1, 24, none⟩ (.int .u32 m.x.link)).setCell ⟨w.heap.size + 1, 25, none⟩ (.int .i64 m.x.tries)) := ⟨_, rfl⟩
  rw [← hW2] at hk hr4 hp4 ⊢
  clear hW2 z0 z1 z2 z3 z4 z5 z6 z7 z8 z9 z10 z11 z12 z13 z14 z15 z16 z17 z18 z19 z20 z21 z22 z23 z24 z25 z26 hfm hfm7
  have HK4 := Lib.hid hk; have HR5 := Lib.hid hr4
  clear hk hr4
  have HP5 := Lib.hid hp4
  clear hp4
  have HK5 := Lib.hid (HK4.out.step (Below.refl _ _).drew)
  have HR6 := Lib.hid (HR5.out.below (Below.refl _ _).drew)
  refine wp_region_any (by kernel_rfl) ?_
  change wpAny _ _ _ _ 4 _ _ (World.drew _)
  refine wpAny_take (i := 0) (v := .slice R2 n' cap2) rfl (by kernel_rfl) (by kernel_rfl) (by kernel_rfl) (fun _ _ _ h => h) (Or.inl ⟨by rfl, fun w => by exact BigFrame.run_move (.tmp 8) rfl w⟩) ?_
  refine wpAny_take (i := 2) (v := .slice R2 n' cap2) rfl (by kernel_rfl) (by kernel_rfl) (by kernel_rfl) (fun _ _ _ h => h) (Or.inl ⟨by rfl, fun w => by exact BigFrame.run_assign (.tmp 39) rfl w⟩) ?_
  refine wpAny_ready (rs := [1]) (by kernel_rfl) (by decide) (AllReady.cons rfl (fun K' hK => ?_) AllReady.nil)
  rw [if_pos (by rfl)]
  refine wp_load_mid 59 (.tmp 5) rfl (w.heap.size + 1) 0 rfl _ _ HK5.out.range row59.choose_spec.1 row59.choose_spec.2 (by kernel_rfl) (hK _ _ ?_)
  refine wpAny_ready (rs := [3]) (by kernel_rfl) (by decide) (AllReady.cons rfl (fun K' hK => ?_) AllReady.nil)
  rw [if_pos (by rfl)]
  refine wp_store_mid 59 (.tmp 7) (.tmp 40) rfl (w.heap.size + 1 + 1) 0 _ rfl rfl HK5.out.there (by kernel_rfl) (by simp only [List.all_toArray, List.all_cons, List.all_nil, Value.oneCell', Bool.and_self]) (hK _ _ ?_)
  refine wpAny_done (by kernel_rfl) ?_ _
  rw [set27]
  obtain ⟨W3, hW3⟩ : ∃ W3, W3 = ad27 W2.drew (w.heap.size + 1 + 1) (.int .i64 2) (.int .u64 tk) (.int .i64 y0) (.int .i64 0) (.int .i64 y2) (.int .i64 y3) (.int .i64 y4) (.int .i64 y5) (.int .u64 y6) (.int .u64 y7) (.int .u64 y8) (.bool y9) (.int .i64 2) (.int .i64 m.kind) (.int .i64 m.pc) (.slice T2 tn2 tc2) (.int .i64 m.j) (.int .i64 m.p) (.int .i64 m.x.kind) (.int .i64 m.x.pc) (.int .i64 m.x.k.head) (.slice LB lm ld) (.int .u32 m.x.item) (.int .u64 m.x.h) (.int .u32 m.x.link) (.int .i64 m.x.tries) (.bool true) := ⟨_, rfl⟩
  have HB5 : Below w.heap.size w W3 := by rw [hW3]; exact HK5.out.putb
  have HR7 : ReadsW Q W3 R2 L' := by rw [hW3]; exact HR6.out.upd (ad27_upd ..) fun b hb _ => ⟨hb.2.2, hb.2.2, hb.1⟩
  have hl : (loadVar 59 ⟨w.heap.size + 1 + 1, 0, none⟩).run Tryz.prog W3 = .ok (.agg #[.int .i64 2, .int .u64 tk, .int .i64 y0, .int .i64 0, .int .i64 y2, .int .i64 y3, .int .i64 y4, .int .i64 y5, .int .u64 y6, .int .u64 y7, .int .u64 y8, .bool y9, .int .i64 2, .int .i64 m.kind, .int .i64 m.pc, .slice T2 tn2 tc2, .int .i64 m.j, .int .i64 m.p, .int .i64 m.x.kind, .int .i64 m.x.pc, .int .i64 m.x.k.head, .slice LB lm ld, .int .u32 m.x.item, .int .u64 m.x.h, .int .u32 m.x.link, .int .i64 m.x.tries, .bool true]) W3 := by
    rw [hW3]; exact run_loadVar_mid _ _ 0 59 _ _ (HK5.out.ranger (.int .i64 2) (.int .u64 tk) (.int .i64 y0) (.int .i64 0) (.int .i64 y2) (.int .i64 y3) (.int .i64 y4) (.int .i64 y5) (.int .u64 y6) (.int .u64 y7) (.int .u64 y8) (.bool y9) (.int .i64 2) (.int .i64 m.kind) (.int .i64 m.pc) (.slice T2 tn2 tc2) (.int .i64 m.j) (.int .i64 m.p) (.int .i64 m.x.kind) (.int .i64 m.x.pc) (.int .i64 m.x.k.head) (.slice LB lm ld) (.int .u32 m.x.item) (.int .u64 m.x.h) (.int .u32 m.x.link) (.int .i64 m.x.tries) (.bool true)) row59.choose_spec.1 row59.choose_spec.2 (by kernel_rfl)
  have hp7 : RPm Q W3 m (pmVm m T2 tn2 tc2 LB lm ld) := by rw [hW3]; exact ((HP5.out.below (Below.refl _ _).drew).near (.inr rfl) (ad27_upd ..)).wide
  rw [← hW3]
  clear hW3
  go_wp2
  exact bodyPost_ret (v := .tuple #[.slice R2 n' cap2, .agg #[.int .i64 2, .int .u64 tk, .int .i64 y0, .int .i64 0, .int .i64 y2, .int .i64 y3, .int .i64 y4, .int .i64 y5, .int .u64 y6, .int .u64 y7, .int .u64 y8, .bool y9, .int .i64 2, .int .i64 m.kind, .int .i64 m.pc, .slice T2 tn2 tc2, .int .i64 m.j, .int .i64 m.p, .int .i64 m.x.kind, .int .i64 m.x.pc, .int .i64 m.x.k.head, .slice LB lm ld, .int .u32 m.x.item, .int .u64 m.x.h, .int .u32 m.x.link, .int .i64 m.x.tries, .bool true]]) (res2 Tryz.results21 _ W3 _ _ _ rfl rfl hl) rfl ⟨R2, cap2, _, rfl, HR7, ⟨T2, tn2, tc2, LB, lm, ld, rfl, hp7⟩, HB5⟩

set_option maxHeartbeats 16000000 in
theorem ras_p_on (Q : Nat → Prop) (A : Option Addr) (n cap : Nat) (P : Int) (R : Option Addr) (n' capR : Nat) (L L' : List Int) (tk : Int) (d0 d1 d2 d3 d4 d5 d6 d7 d8 d10 : Int) (d9 : Bool) (p0 p1 p3 p4 p5 p6 p7 p9 p10 p11 p12 : Int) (T : Option Addr) (tn tc : Nat) (LA : Option Addr) (ln lc : Nat) (bs : Bool) (y : Pm) (w : World)
    (hR : ReadsW Q w R L) (dq : ((y.pc : Int) == 0) = false)
    (HC : ∀ w1, Below w.heap.size w w1 → w.heap.size + 2 < w1.heap.size → ReadsW (NotT Q w.heap.size) w1 R L → Calls Tryz.prog 61 #[aVal A n cap P, .slice R n' capR, .agg #[.int .i64 p0, .int .i64 p1, .slice T tn tc, .int .i64 p3, .int .i64 p4, .int .i64 p5, .int .i64 p6, .int .i64 p7, .slice LA ln lc, .int .u32 p9, .int .u64 p10, .int .u32 p11, .int .i64 p12]] w1 (SomePs (NotT Q w.heap.size) w1 n' L' y)) :
    Calls Tryz.prog 21 #[aVal A n cap P, .slice R n' capR, .agg #[.int .i64 2, .int .u64 tk, .int .i64 d0, .int .i64 d1, .int .i64 d2, .int .i64 d3, .int .i64 d4, .int .i64 d5, .int .u64 d6, .int .u64 d7, .int .u64 d8, .bool d9, .int .i64 d10, .int .i64 p0, .int .i64 p1, .slice T tn tc, .int .i64 p3, .int .i64 p4, .int .i64 p5, .int .i64 p6, .int .i64 p7, .slice LA ln lc, .int .u32 p9, .int .u64 p10, .int .u32 p11, .int .i64 p12, .bool bs]] w (SomeA Q w n' L' (fun w2 v => ∃ T2 tn2 tc2 LB lm ld, v = .agg #[.int .i64 2, .int .u64 tk, .int .i64 d0, .int .i64 d1, .int .i64 d2, .int .i64 d3, .int .i64 d4, .int .i64 d5, .int .u64 d6, .int .u64 d7, .int .u64 d8, .bool d9, .int .i64 d10, .int .i64 y.kind, .int .i64 y.pc, .slice T2 tn2 tc2, .int .i64 y.j, .int .i64 y.p, .int .i64 y.x.kind, .int .i64 y.x.pc, .int .i64 y.x.k.head, .slice LB lm ld, .int .u32 y.x.item, .int .u64 y.x.h, .int .u32 y.x.link, .int .i64 y.x.tries, .bool bs] ∧ RPm Q w2 y (pmVm y T2 tn2 tc2 LB lm ld))) := by
  have has := AS.new w A n cap P (.int .i64 2) (.int .u64 tk) (.int .i64 d0) (.int .i64 d1) (.int .i64 d2) (.int .i64 d3) (.int .i64 d4) (.int .i64 d5) (.int .u64 d6) (.int .u64 d7) (.int .u64 d8) (.bool d9) (.int .i64 d10) (.int .i64 p0) (.int .i64 p1) (.slice T tn tc) (.int .i64 p3) (.int .i64 p4) (.int .i64 p5) (.int .i64 p6) (.int .i64 p7) (.slice LA ln lc) (.int .u32 p9) (.int .u64 p10) (.int .u32 p11) (.int .i64 p12) (.bool bs)
  have HAS := Lib.hid has
  obtain ⟨z0, z1, z2, z3, z4, z5, z6, z7, z8, z9, z10, z11, z12, z13, z14, z15, z16, z17, z18, z19, z20, z21, z22, z23, z24, z25, z26⟩ := has.mc
  obtain ⟨a0, a1⟩ := has.cells
  have hlt0 := has.lt
  have HR0 : ReadsW (NotT Q w.heap.size) w R L := fun h0 => by
    obtain ⟨b, off, e, hb, hp, hc⟩ := hR h0
    exact ⟨b, off, e, hb, ⟨hp, by omega, by omega⟩, hc⟩
  have HR1 := Lib.hid (HR0.below has.bel)
  have HCC := Lib.hid HC
  obtain ⟨W1, hW1⟩ : ∃ W1, W1 = (((w.alloc (.cells #[.slice A n cap, .int .i64 P] 35)).alloc (.cells #[.int .i64 2, .int .u64 tk, .int .i64 d0, .int .i64 d1, .int .i64 d2, .int .i64 d3, .int .i64 d4, .int .i64 d5, .int .u64 d6, .int .u64 d7, .int .u64 d8, .bool d9, .int .i64 d10, .int .i64 p0, .int .i64 p1, .slice T tn tc, .int .i64 p3, .int .i64 p4, .int .i64 p5, .int .i64 p6, .int .i64 p7, .slice LA ln lc, .int .u32 p9, .int .u64 p10, .int .u32 p11, .int .i64 p12, .bool bs] 59)).alloc (.cells #[.int .i64 0, .int .u64 0, .int .i64 0, .int .i64 0, .int .i64 0, .int .i64 0, .int .i64 0, .int .i64 0, .int .u64 0, .int .u64 0, .int .u64 0, .bool false, .int .i64 0, .int .i64 0, .int .i64 0, .slice none 0 0, .int .i64 0, .int .i64 0, .int .i64 0, .int .i64 0, .int .i64 0, .slice none 0 0, .int .u32 0, .int .u64 0, .int .u32 0, .int .i64 0, .bool false] 59)) := ⟨_, rfl⟩
  rw [← hW1] at HAS HR1 z0 z1 z2 z3 z4 z5 z6 z7 z8 z9 z10 z11 z12 z13 z14 z15 z16 z17 z18 z19 z20 z21 z22 z23 z24 z25 z26 hlt0 a0 a1
  have HW1 := Lib.hid hW1
  clear has hR HR0 HC
  go_enter Tryz.func21, Tryz.ntmps21
  go_wp2_with (fail)
  rw [← HW1.out]
  clear HW1 hW1
  go_upto_if 56 with (first
    | (go_at_call 61; (with_reducible refine (HCC.out _ HAS.out.bel HAS.out.lt HR1.out).mono ?_); rintro r w3 ⟨R2, cap2, v, rfl, hx, hv, hb⟩; have HPM := Lib.hid hv; clear hv; obtain ⟨T2, tn2, tc2, LB, lm, ld, rfl, hg⟩ := HPM.out; clear hg; have HP4 := Lib.hid ((HAS.out.step hb).step (below_alloc0 (Below.refl _ _) (.cells #[.int .i64 y.kind, .int .i64 y.pc, .slice T2 tn2 tc2, .int .i64 y.j, .int .i64 y.p, .int .i64 y.x.kind, .int .i64 y.x.pc, .int .i64 y.x.k.head, .slice LB lm ld, .int .u32 y.x.item, .int .u64 y.x.h, .int .u32 y.x.link, .int .i64 y.x.tries] 57))); have HR4 := Lib.hid (hx.below (below_alloc0 (Below.refl w3.heap.size w3) (.cells #[.int .i64 y.kind, .int .i64 y.pc, .slice T2 tn2 tc2, .int .i64 y.j, .int .i64 y.p, .int .i64 y.x.kind, .int .i64 y.x.pc, .int .i64 y.x.k.head, .slice LB lm ld, .int .u32 y.x.item, .int .u64 y.x.h, .int .u32 y.x.link, .int .i64 y.x.tries] 57))); have hlt3 := (HAS.out.step hb).lt; clear hb hx z0 z1 z2 z3 z4 z5 z6 z7 z8 z9 z10 z11 z12 z13 z14 z15 z16 z17 z18 z19 z20 z21 z22 z23 z24 z25 z26 a0 a1; obtain ⟨z0, z1, z2, z3, z4, z5, z6, z7, z8, z9, z10, z11, z12, z13, z14, z15, z16, z17, z18, z19, z20, z21, z22, z23, z24, z25, z26⟩ := HP4.out.mc; have hfm := HP4.out.frm; have hlt := HP4.out.lt)
    | fail)
  have hk : AS w ((((((((((((((w3.alloc (.cells #[.int .i64 y.kind, .int .i64 y.pc, .slice T2 tn2 tc2, .int .i64 y.j, .int .i64 y.p, .int .i64 y.x.kind, .int .i64 y.x.pc, .int .i64 y.x.k.head, .slice LB lm ld, .int .u32 y.x.item, .int .u64 y.x.h, .int .u32 y.x.link, .int .i64 y.x.tries] 57)).setCell ⟨w.heap.size + 1, 13, none⟩ (.int .i64 y.kind)).setCell ⟨w.heap.size + 1, 14, none⟩ (.int .i64 y.pc)).setCell ⟨w.heap.size + 1, 15, none⟩ (.slice T2 tn2 tc2)).setCell ⟨w.heap.size + 1, 16, none⟩ (.int .i64 y.j)).setCell ⟨w.heap.size + 1, 17, none⟩ (.int .i64 y.p)).setCell ⟨w.heap.size + 1, 18, none⟩ (.int .i64 y.x.kind)).setCell ⟨w.heap.size + 1, 19, none⟩ (.int .i64 y.x.pc)).setCell ⟨w.heap.size + 1, 20, none⟩ (.int .i64 y.x.k.head)).setCell ⟨w.heap.size + 1, 21, none⟩ (.slice LB lm ld)).setCell ⟨w.heap.size + 1, 22, none⟩ (.int .u32 y.x.item)).setCell ⟨w.heap.size + 1, 23, none⟩ (.int .u64 y.x.h)).setCell ⟨w.heap.size + 1, 24, none⟩ (.int .u32 y.x.link)).setCell ⟨w.heap.size + 1, 25, none⟩ (.int .i64 y.x.tries)) A n cap P (.int .i64 2) (.int .u64 tk) (.int .i64 d0) (.int .i64 d1) (.int .i64 d2) (.int .i64 d3) (.int .i64 d4) (.int .i64 d5) (.int .u64 d6) (.int .u64 d7) (.int .u64 d8) (.bool d9) (.int .i64 d10) (.int .i64 y.kind) (.int .i64 y.pc) (.slice T2 tn2 tc2) (.int .i64 y.j) (.int .i64 y.p) (.int .i64 y.x.kind) (.int .i64 y.x.pc) (.int .i64 y.x.k.head) (.slice LB lm ld) (.int .u32 y.x.item) (.int .u64 y.x.h) (.int .u32 y.x.link) (.int .i64 y.x.tries) (.bool bs) := HP4.out.setP (.int .i64 y.kind) (.int .i64 y.pc) (.slice T2 tn2 tc2) (.int .i64 y.j) (.int .i64 y.p) (.int .i64 y.x.kind) (.int .i64 y.x.pc) (.int .i64 y.x.k.head) (.slice LB lm ld) (.int .u32 y.x.item) (.int .u64 y.x.h) (.int .u32 y.x.link) (.int .i64 y.x.tries)
  have hr4 : ReadsW (NotT Q w.heap.size) ((((((((((((((w3.alloc (.cells #[.int .i64 y.kind, .int .i64 y.pc, .slice T2 tn2 tc2, .int .i64 y.j, .int .i64 y.p, .int .i64 y.x.kind, .int .i64 y.x.pc, .int .i64 y.x.k.head, .slice LB lm ld, .int .u32 y.x.item, .int .u64 y.x.h, .int .u32 y.x.link, .int .i64 y.x.tries] 57)).setCell ⟨w.heap.size + 1, 13, none⟩ (.int .i64 y.kind)).setCell ⟨w.heap.size + 1, 14, none⟩ (.int .i64 y.pc)).setCell ⟨w.heap.size + 1, 15, none⟩ (.slice T2 tn2 tc2)).setCell ⟨w.heap.size + 1, 16, none⟩ (.int .i64 y.j)).setCell ⟨w.heap.size + 1, 17, none⟩ (.int .i64 y.p)).setCell ⟨w.heap.size + 1, 18, none⟩ (.int .i64 y.x.kind)).setCell ⟨w.heap.size + 1, 19, none⟩ (.int .i64 y.x.pc)).setCell ⟨w.heap.size + 1, 20, none⟩ (.int .i64 y.x.k.head)).setCell ⟨w.heap.size + 1, 21, none⟩ (.slice LB lm ld)).setCell ⟨w.heap.size + 1, 22, none⟩ (.int .u32 y.x.item)).setCell ⟨w.heap.size + 1, 23, none⟩ (.int .u64 y.x.h)).setCell ⟨w.heap.size + 1, 24, none⟩ (.int .u32 y.x.link)).setCell ⟨w.heap.size + 1, 25, none⟩ (.int .i64 y.x.tries)) R2 L' := HR4.out.two13 (.inl rfl) (adP_upd _ _ (.int .i64 y.kind) (.int .i64 y.pc) (.slice T2 tn2 tc2) (.int .i64 y.j) (.int .i64 y.p) (.int .i64 y.x.kind) (.int .i64 y.x.pc) (.int .i64 y.x.k.head) (.slice LB lm ld) (.int .u32 y.x.item) (.int .u64 y.x.h) (.int .u32 y.x.link) (.int .i64 y.x.tries))
  have hp4 : RPm (NotT Q w.heap.size) ((((((((((((((w3.alloc (.cells #[.int .i64 y.kind, .int .i64 y.pc, .slice T2 tn2 tc2, .int .i64 y.j, .int .i64 y.p, .int .i64 y.x.kind, .int .i64 y.x.pc, .int .i64 y.x.k.head, .slice LB lm ld, .int .u32 y.x.item, .int .u64 y.x.h, .int .u32 y.x.link, .int .i64 y.x.tries] 57)).setCell ⟨w.heap.size + 1, 13, none⟩ (.int .i64 y.kind)).setCell ⟨w.heap.size + 1, 14, none⟩ (.int .i64 y.pc)).setCell ⟨w.heap.size + 1, 15, none⟩ (.slice T2 tn2 tc2)).setCell ⟨w.heap.size + 1, 16, none⟩ (.int .i64 y.j)).setCell ⟨w.heap.size + 1, 17, none⟩ (.int .i64 y.p)).setCell ⟨w.heap.size + 1, 18, none⟩ (.int .i64 y.x.kind)).setCell ⟨w.heap.size + 1, 19, none⟩ (.int .i64 y.x.pc)).setCell ⟨w.heap.size + 1, 20, none⟩ (.int .i64 y.x.k.head)).setCell ⟨w.heap.size + 1, 21, none⟩ (.slice LB lm ld)).setCell ⟨w.heap.size + 1, 22, none⟩ (.int .u32 y.x.item)).setCell ⟨w.heap.size + 1, 23, none⟩ (.int .u64 y.x.h)).setCell ⟨w.heap.size + 1, 24, none⟩ (.int .u32 y.x.link)).setCell ⟨w.heap.size + 1, 25, none⟩ (.int .i64 y.x.tries)) y (pmVm y T2 tn2 tc2 LB lm ld) := (HPM.out.below (below_alloc0 (Below.refl _ _) (.cells #[.int .i64 y.kind, .int .i64 y.pc, .slice T2 tn2 tc2, .int .i64 y.j, .int .i64 y.p, .int .i64 y.x.kind, .int .i64 y.x.pc, .int .i64 y.x.k.head, .slice LB lm ld, .int .u32 y.x.item, .int .u64 y.x.h, .int .u32 y.x.link, .int .i64 y.x.tries] 57))).near (.inl rfl) (adP_upd _ _ (.int .i64 y.kind) (.int .i64 y.pc) (.slice T2 tn2 tc2) (.int .i64 y.j) (.int .i64 y.p) (.int .i64 y.x.kind) (.int .i64 y.x.pc) (.int .i64 y.x.k.head) (.slice LB lm ld) (.int .u32 y.x.item) (.int .u64 y.x.h) (.int .u32 y.x.link) (.int .i64 y.x.tries))
  have hd : ((((((((((((((w3.alloc (.cells #[.int .i64 y.kind, .int .i64 y.pc, .slice T2 tn2 tc2, .int .i64 y.j, .int .i64 y.p, .int .i64 y.x.kind, .int .i64 y.x.pc, .int .i64 y.x.k.head, .slice LB lm ld, .int .u32 y.x.item, .int .u64 y.x.h, .int .u32 y.x.link, .int .i64 y.x.tries] 57)).setCell ⟨w.heap.size + 1, 13, none⟩ (.int .i64 y.kind)).setCell ⟨w.heap.size + 1, 14, none⟩ (.int .i64 y.pc)).setCell ⟨w.heap.size + 1, 15, none⟩ (.slice T2 tn2 tc2)).setCell ⟨w.heap.size + 1, 16, none⟩ (.int .i64 y.j)).setCell ⟨w.heap.size + 1, 17, none⟩ (.int .i64 y.p)).setCell ⟨w.heap.size + 1, 18, none⟩ (.int .i64 y.x.kind)).setCell ⟨w.heap.size + 1, 19, none⟩ (.int .i64 y.x.pc)).setCell ⟨w.heap.size + 1, 20, none⟩ (.int .i64 y.x.k.head)).setCell ⟨w.heap.size + 1, 21, none⟩ (.slice LB lm ld)).setCell ⟨w.heap.size + 1, 22, none⟩ (.int .u32 y.x.item)).setCell ⟨w.heap.size + 1, 23, none⟩ (.int .u64 y.x.h)).setCell ⟨w.heap.size + 1, 24, none⟩ (.int .u32 y.x.link)).setCell ⟨w.heap.size + 1, 25, none⟩ (.int .i64 y.x.tries)).heap[w3.heap.size]? = some (.cells #[.int .i64 y.kind, .int .i64 y.pc, .slice T2 tn2 tc2, .int .i64 y.j, .int .i64 y.p, .int .i64 y.x.kind, .int .i64 y.x.pc, .int .i64 y.x.k.head, .slice LB lm ld, .int .u32 y.x.item, .int .u64 y.x.h, .int .u32 y.x.link, .int .i64 y.x.tries] 57 (0, 0)) := ((adP_upd (w3.alloc (.cells #[.int .i64 y.kind, .int .i64 y.pc, .slice T2 tn2 tc2, .int .i64 y.j, .int .i64 y.p, .int .i64 y.x.kind, .int .i64 y.x.pc, .int .i64 y.x.k.head, .slice LB lm ld, .int .u32 y.x.item, .int .u64 y.x.h, .int .u32 y.x.link, .int .i64 y.x.tries] 57)) (w.heap.size + 1) (.int .i64 y.kind) (.int .i64 y.pc) (.slice T2 tn2 tc2) (.int .i64 y.j) (.int .i64 y.p) (.int .i64 y.x.kind) (.int .i64 y.x.pc) (.int .i64 y.x.k.head) (.slice LB lm ld) (.int .u32 y.x.item) (.int .u64 y.x.h) (.int .u32 y.x.link) (.int .i64 y.x.tries)).block w3.heap.size (by simp) (by omega) (by omega)).trans (Go.heap_alloc_new _ _)
  obtain ⟨W4, hW4⟩ : ∃ W4, W4 = ((((((((((((((w3.alloc (.cells #[.int .i64 y.kind, .int .i64 y.pc, .slice T2 tn2 tc2, .int .i64 y.j, .int .i64 y.p, .int .i64 y.x.kind, .int .i64 y.x.pc, .int .i64 y.x.k.head, .slice LB lm ld, .int .u32 y.x.item, .int .u64 y.x.h, .int .u32 y.x.link, .int .i64 y.x.tries] 57)).setCell ⟨w.heap.size + 1, 13, none⟩ (.int .i64 y.kind)).setCell ⟨w.heap.size + 1, 14, none⟩ (.int .i64 y.pc)).setCell ⟨w.heap.size + 1, 15, none⟩ (.slice T2 tn2 tc2)).setCell ⟨w.heap.size + 1, 16, none⟩ (.int .i64 y.j)).setCell ⟨w.heap.size + 1, 17, none⟩ (.int .i64 y.p)).setCell ⟨w.heap.size + 1, 18, none⟩ (.int .i64 y.x.kind)).setCell ⟨w.heap.size + 1, 19, none⟩ (.int .i64 y.x.pc)).setCell ⟨w.heap.size + 1, 20, none⟩ (.int .i64 y.x.k.head)).setCell ⟨w.heap.size + 1, 21, none⟩ (.slice LB lm ld)).setCell ⟨w.heap.size + 1, 22, none⟩ (.int .u32 y.x.item)).setCell ⟨w.heap.size + 1, 23, none⟩ (.int .u64 y.x.h)).setCell ⟨w.heap.size + 1, 24, none⟩ (.int .u32 y.x.link)).setCell ⟨w.heap.size + 1, 25, none⟩ (.int .i64 y.x.tries)) := ⟨_, rfl⟩
  rw [← hW4] at hk hr4 hp4 hd ⊢
  clear hW4 z0 z1 z2 z3 z4 z5 z6 z7 z8 z9 z10 z11 z12 z13 z14 z15 z16 z17 z18 z19 z20 z21 z22 z23 z24 z25 z26 hfm HP4 HR4 hlt
  obtain ⟨z0, z1, z2, z3, z4, z5, z6, z7, z8, z9, z10, z11, z12, z13, z14, z15, z16, z17, z18, z19, z20, z21, z22, z23, z24, z25, z26⟩ := hk.mc
  have hfm := hk.frm
  have hlt := hk.lt
  obtain ⟨o0, o1, o2, o3, o4, o5, o6, o7, o8, o9, o10, o11, o12⟩ := row13_cells hd
  clear o0 o2 o3 o4 o5 o6 o7 o8 o9 o10 o11 o12
  have HK3 := Lib.hid hk; have HR4 := Lib.hid hr4; have HP4 := Lib.hid hp4
  clear hk hr4 hd hp4
  go_wp2_with (fail)
  clear z0 z1 z2 z3 z4 z5 z6 z7 z8 z9 z10 z11 z12 z13 z14 z15 z16 z17 z18 z19 z20 z21 z22 z23 z24 z25 z26 hfm o1
  obtain ⟨W2, hW2⟩ : ∃ W2, W2 = W4 := ⟨_, rfl⟩
  rw [← hW2] at HK3 HR4 HP4 ⊢
  clear hW2 hlt
  have HK4 := Lib.hid HK3.out; have HR5 := Lib.hid HR4.out
  have HK5 := Lib.hid (HK4.out.step (Below.refl _ _).drew)
  have HR6 := Lib.hid (HR5.out.below (Below.refl _ _).drew)
  refine wp_region_any (by kernel_rfl) ?_
  change wpAny _ _ _ _ 4 _ _ (World.drew _)
  refine wpAny_take (i := 0) (v := .slice R2 n' cap2) rfl (by kernel_rfl) (by kernel_rfl) (by kernel_rfl) (fun _ _ _ h => h) (Or.inl ⟨by rfl, fun w => by exact BigFrame.run_move (.tmp 10) rfl w⟩) ?_
  refine wpAny_take (i := 2) (v := .slice R2 n' cap2) rfl (by kernel_rfl) (by kernel_rfl) (by kernel_rfl) (fun _ _ _ h => h) (Or.inl ⟨by rfl, fun w => by exact BigFrame.run_assign (.tmp 58) rfl w⟩) ?_
  refine wpAny_ready (rs := [1]) (by kernel_rfl) (by decide) (AllReady.cons rfl (fun K' hK => ?_) AllReady.nil)
  rw [if_pos (by rfl)]
  refine wp_load_mid 59 (.tmp 5) rfl (w.heap.size + 1) 0 rfl _ _ HK5.out.range row59.choose_spec.1 row59.choose_spec.2 (by kernel_rfl) (hK _ _ ?_)
  refine wpAny_ready (rs := [3]) (by kernel_rfl) (by decide) (AllReady.cons rfl (fun K' hK => ?_) AllReady.nil)
  rw [if_pos (by rfl)]
  refine wp_store_mid 59 (.tmp 7) (.tmp 59) rfl (w.heap.size + 1 + 1) 0 _ rfl rfl HK5.out.there (by kernel_rfl) (by simp only [List.all_toArray, List.all_cons, List.all_nil, Value.oneCell', Bool.and_self]) (hK _ _ ?_)
  refine wpAny_done (by kernel_rfl) ?_ _
  rw [set27]
  obtain ⟨W3, hW3⟩ : ∃ W3, W3 = ad27 W2.drew (w.heap.size + 1 + 1) (.int .i64 2) (.int .u64 tk) (.int .i64 d0) (.int .i64 d1) (.int .i64 d2) (.int .i64 d3) (.int .i64 d4) (.int .i64 d5) (.int .u64 d6) (.int .u64 d7) (.int .u64 d8) (.bool d9) (.int .i64 d10) (.int .i64 y.kind) (.int .i64 y.pc) (.slice T2 tn2 tc2) (.int .i64 y.j) (.int .i64 y.p) (.int .i64 y.x.kind) (.int .i64 y.x.pc) (.int .i64 y.x.k.head) (.slice LB lm ld) (.int .u32 y.x.item) (.int .u64 y.x.h) (.int .u32 y.x.link) (.int .i64 y.x.tries) (.bool bs) := ⟨_, rfl⟩
  have HB5 : Below w.heap.size w W3 := by rw [hW3]; exact HK5.out.putb
  have HR7 : ReadsW Q W3 R2 L' := by rw [hW3]; exact HR6.out.upd (ad27_upd ..) fun b hb _ => ⟨hb.2.2, hb.2.2, hb.1⟩
  have hl : (loadVar 59 ⟨w.heap.size + 1 + 1, 0, none⟩).run Tryz.prog W3 = .ok (.agg #[.int .i64 2, .int .u64 tk, .int .i64 d0, .int .i64 d1, .int .i64 d2, .int .i64 d3, .int .i64 d4, .int .i64 d5, .int .u64 d6, .int .u64 d7, .int .u64 d8, .bool d9, .int .i64 d10, .int .i64 y.kind, .int .i64 y.pc, .slice T2 tn2 tc2, .int .i64 y.j, .int .i64 y.p, .int .i64 y.x.kind, .int .i64 y.x.pc, .int .i64 y.x.k.head, .slice LB lm ld, .int .u32 y.x.item, .int .u64 y.x.h, .int .u32 y.x.link, .int .i64 y.x.tries, .bool bs]) W3 := by
    rw [hW3]; exact run_loadVar_mid _ _ 0 59 _ _ (HK5.out.ranger (.int .i64 2) (.int .u64 tk) (.int .i64 d0) (.int .i64 d1) (.int .i64 d2) (.int .i64 d3) (.int .i64 d4) (.int .i64 d5) (.int .u64 d6) (.int .u64 d7) (.int .u64 d8) (.bool d9) (.int .i64 d10) (.int .i64 y.kind) (.int .i64 y.pc) (.slice T2 tn2 tc2) (.int .i64 y.j) (.int .i64 y.p) (.int .i64 y.x.kind) (.int .i64 y.x.pc) (.int .i64 y.x.k.head) (.slice LB lm ld) (.int .u32 y.x.item) (.int .u64 y.x.h) (.int .u32 y.x.link) (.int .i64 y.x.tries) (.bool bs)) row59.choose_spec.1 row59.choose_spec.2 (by kernel_rfl)
  have hp7 : RPm Q W3 y (pmVm y T2 tn2 tc2 LB lm ld) := by rw [hW3]; exact ((HP4.out.below (Below.refl _ _).drew).near (.inr rfl) (ad27_upd ..)).wide
  rw [← hW3]
  clear hW3
  go_wp2
  exact bodyPost_ret (v := .tuple #[.slice R2 n' cap2, .agg #[.int .i64 2, .int .u64 tk, .int .i64 d0, .int .i64 d1, .int .i64 d2, .int .i64 d3, .int .i64 d4, .int .i64 d5, .int .u64 d6, .int .u64 d7, .int .u64 d8, .bool d9, .int .i64 d10, .int .i64 y.kind, .int .i64 y.pc, .slice T2 tn2 tc2, .int .i64 y.j, .int .i64 y.p, .int .i64 y.x.kind, .int .i64 y.x.pc, .int .i64 y.x.k.head, .slice LB lm ld, .int .u32 y.x.item, .int .u64 y.x.h, .int .u32 y.x.link, .int .i64 y.x.tries, .bool bs]]) (res2 Tryz.results21 _ W3 _ _ _ rfl rfl hl) rfl ⟨R2, cap2, _, rfl, HR7, ⟨T2, tn2, tc2, LB, lm, ld, rfl, hp7⟩, HB5⟩

set_option maxHeartbeats 16000000 in
theorem ras_p_done (Q : Nat → Prop) (A : Option Addr) (n cap : Nat) (P : Int) (R : Option Addr) (n' capR : Nat) (L L' : List Int) (tk : Int) (d0 d1 d2 d3 d4 d5 d6 d7 d8 d10 : Int) (d9 : Bool) (p0 p1 p3 p4 p5 p6 p7 p9 p10 p11 p12 : Int) (T : Option Addr) (tn tc : Nat) (LA : Option Addr) (ln lc : Nat) (bs : Bool) (y : Pm) (w : World)
    (hR : ReadsW Q w R L) (dq : ((y.pc : Int) == 0) = true)
    (HC : ∀ w1, Below w.heap.size w w1 → w.heap.size + 2 < w1.heap.size → ReadsW (NotT Q w.heap.size) w1 R L → Calls Tryz.prog 61 #[aVal A n cap P, .slice R n' capR, .agg #[.int .i64 p0, .int .i64 p1, .slice T tn tc, .int .i64 p3, .int .i64 p4, .int .i64 p5, .int .i64 p6, .int .i64 p7, .slice LA ln lc, .int .u32 p9, .int .u64 p10, .int .u32 p11, .int .i64 p12]] w1 (SomePs (NotT Q w.heap.size) w1 n' L' y)) :
    Calls Tryz.prog 21 #[aVal A n cap P, .slice R n' capR, .agg #[.int .i64 2, .int .u64 tk, .int .i64 d0, .int .i64 d1, .int .i64 d2, .int .i64 d3, .int .i64 d4, .int .i64 d5, .int .u64 d6, .int .u64 d7, .int .u64 d8, .bool d9, .int .i64 d10, .int .i64 p0, .int .i64 p1, .slice T tn tc, .int .i64 p3, .int .i64 p4, .int .i64 p5, .int .i64 p6, .int .i64 p7, .slice LA ln lc, .int .u32 p9, .int .u64 p10, .int .u32 p11, .int .i64 p12, .bool bs]] w (SomeA Q w n' L' (fun w2 v => ∃ T2 tn2 tc2 LB lm ld, v = .agg #[.int .i64 0, .int .u64 tk, .int .i64 d0, .int .i64 d1, .int .i64 d2, .int .i64 d3, .int .i64 d4, .int .i64 d5, .int .u64 d6, .int .u64 d7, .int .u64 d8, .bool d9, .int .i64 d10, .int .i64 y.kind, .int .i64 y.pc, .slice T2 tn2 tc2, .int .i64 y.j, .int .i64 y.p, .int .i64 y.x.kind, .int .i64 y.x.pc, .int .i64 y.x.k.head, .slice LB lm ld, .int .u32 y.x.item, .int .u64 y.x.h, .int .u32 y.x.link, .int .i64 y.x.tries, .bool bs] ∧ RPm Q w2 y (pmVm y T2 tn2 tc2 LB lm ld))) := by
  have has := AS.new w A n cap P (.int .i64 2) (.int .u64 tk) (.int .i64 d0) (.int .i64 d1) (.int .i64 d2) (.int .i64 d3) (.int .i64 d4) (.int .i64 d5) (.int .u64 d6) (.int .u64 d7) (.int .u64 d8) (.bool d9) (.int .i64 d10) (.int .i64 p0) (.int .i64 p1) (.slice T tn tc) (.int .i64 p3) (.int .i64 p4) (.int .i64 p5) (.int .i64 p6) (.int .i64 p7) (.slice LA ln lc) (.int .u32 p9) (.int .u64 p10) (.int .u32 p11) (.int .i64 p12) (.bool bs)
  have HAS := Lib.hid has
  obtain ⟨z0, z1, z2, z3, z4, z5, z6, z7, z8, z9, z10, z11, z12, z13, z14, z15, z16, z17, z18, z19, z20, z21, z22, z23, z24, z25, z26⟩ := has.mc
  obtain ⟨a0, a1⟩ := has.cells
  have hlt0 := has.lt
  have HR0 : ReadsW (NotT Q w.heap.size) w R L := fun h0 => by
    obtain ⟨b, off, e, hb, hp, hc⟩ := hR h0
    exact ⟨b, off, e, hb, ⟨hp, by omega, by omega⟩, hc⟩
  have HR1 := Lib.hid (HR0.below has.bel)
  have HCC := Lib.hid HC
  obtain ⟨W1, hW1⟩ : ∃ W1, W1 = (((w.alloc (.cells #[.slice A n cap, .int .i64 P] 35)).alloc (.cells #[.int .i64 2, .int .u64 tk, .int .i64 d0, .int .i64 d1, .int .i64 d2, .int .i64 d3, .int .i64 d4, .int .i64 d5, .int .u64 d6, .int .u64 d7, .int .u64 d8, .bool d9, .int .i64 d10, .int .i64 p0, .int .i64 p1, .slice T tn tc, .int .i64 p3, .int .i64 p4, .int .i64 p5, .int .i64 p6, .int .i64 p7, .slice LA ln lc, .int .u32 p9, .int .u64 p10, .int .u32 p11, .int .i64 p12, .bool bs] 59)).alloc (.cells #[.int .i64 0, .int .u64 0, .int .i64 0, .int .i64 0, .int .i64 0, .int .i64 0, .int .i64 0, .int .i64 0, .int .u64 0, .int .u64 0, .int .u64 0, .bool false, .int .i64 0, .int .i64 0, .int .i64 0, .slice none 0 0, .int .i64 0, .int .i64 0, .int .i64 0, .int .i64 0, .int .i64 0, .slice none 0 0, .int .u32 0, .int .u64 0, .int .u32 0, .int .i64 0, .bool false] 59)) := ⟨_, rfl⟩
  rw [← hW1] at HAS HR1 z0 z1 z2 z3 z4 z5 z6 z7 z8 z9 z10 z11 z12 z13 z14 z15 z16 z17 z18 z19 z20 z21 z22 z23 z24 z25 z26 hlt0 a0 a1
  have HW1 := Lib.hid hW1
  clear has hR HR0 HC
  go_enter Tryz.func21, Tryz.ntmps21
  go_wp2_with (fail)
  rw [← HW1.out]
  clear HW1 hW1
  go_upto_if 56 with (first
    | (go_at_call 61; (with_reducible refine (HCC.out _ HAS.out.bel HAS.out.lt HR1.out).mono ?_); rintro r w3 ⟨R2, cap2, v, rfl, hx, hv, hb⟩; have HPM := Lib.hid hv; clear hv; obtain ⟨T2, tn2, tc2, LB, lm, ld, rfl, hg⟩ := HPM.out; clear hg; have HP4 := Lib.hid ((HAS.out.step hb).step (below_alloc0 (Below.refl _ _) (.cells #[.int .i64 y.kind, .int .i64 y.pc, .slice T2 tn2 tc2, .int .i64 y.j, .int .i64 y.p, .int .i64 y.x.kind, .int .i64 y.x.pc, .int .i64 y.x.k.head, .slice LB lm ld, .int .u32 y.x.item, .int .u64 y.x.h, .int .u32 y.x.link, .int .i64 y.x.tries] 57))); have HR4 := Lib.hid (hx.below (below_alloc0 (Below.refl w3.heap.size w3) (.cells #[.int .i64 y.kind, .int .i64 y.pc, .slice T2 tn2 tc2, .int .i64 y.j, .int .i64 y.p, .int .i64 y.x.kind, .int .i64 y.x.pc, .int .i64 y.x.k.head, .slice LB lm ld, .int .u32 y.x.item, .int .u64 y.x.h, .int .u32 y.x.link, .int .i64 y.x.tries] 57))); have hlt3 := (HAS.out.step hb).lt; clear hb hx z0 z1 z2 z3 z4 z5 z6 z7 z8 z9 z10 z11 z12 z13 z14 z15 z16 z17 z18 z19 z20 z21 z22 z23 z24 z25 z26 a0 a1; obtain ⟨z0, z1, z2, z3, z4, z5, z6, z7, z8, z9, z10, z11, z12, z13, z14, z15, z16, z17, z18, z19, z20, z21, z22, z23, z24, z25, z26⟩ := HP4.out.mc; have hfm := HP4.out.frm; have hlt := HP4.out.lt)
    | fail)
  have hk : AS w ((((((((((((((w3.alloc (.cells #[.int .i64 y.kind, .int .i64 y.pc, .slice T2 tn2 tc2, .int .i64 y.j, .int .i64 y.p, .int .i64 y.x.kind, .int .i64 y.x.pc, .int .i64 y.x.k.head, .slice LB lm ld, .int .u32 y.x.item, .int .u64 y.x.h, .int .u32 y.x.link, .int .i64 y.x.tries] 57)).setCell ⟨w.heap.size + 1, 13, none⟩ (.int .i64 y.kind)).setCell ⟨w.heap.size + 1, 14, none⟩ (.int .i64 y.pc)).setCell ⟨w.heap.size + 1, 15, none⟩ (.slice T2 tn2 tc2)).setCell ⟨w.heap.size + 1, 16, none⟩ (.int .i64 y.j)).setCell ⟨w.heap.size + 1, 17, none⟩ (.int .i64 y.p)).setCell ⟨w.heap.size + 1, 18, none⟩ (.int .i64 y.x.kind)).setCell ⟨w.heap.size + 1, 19, none⟩ (.int .i64 y.x.pc)).setCell ⟨w.heap.size + 1, 20, none⟩ (.int .i64 y.x.k.head)).setCell ⟨w.heap.size + 1, 21, none⟩ (.slice LB lm ld)).setCell ⟨w.heap.size + 1, 22, none⟩ (.int .u32 y.x.item)).setCell ⟨w.heap.size + 1, 23, none⟩ (.int .u64 y.x.h)).setCell ⟨w.heap.size + 1, 24, none⟩ (.int .u32 y.x.link)).setCell ⟨w.heap.size + 1, 25, none⟩ (.int .i64 y.x.tries)) A n cap P (.int .i64 2) (.int .u64 tk) (.int .i64 d0) (.int .i64 d1) (.int .i64 d2) (.int .i64 d3) (.int .i64 d4) (.int .i64 d5) (.int .u64 d6) (.int .u64 d7) (.int .u64 d8) (.bool d9) (.int .i64 d10) (.int .i64 y.kind) (.int .i64 y.pc) (.slice T2 tn2 tc2) (.int .i64 y.j) (.int .i64 y.p) (.int .i64 y.x.kind) (.int .i64 y.x.pc) (.int .i64 y.x.k.head) (.slice LB lm ld) (.int .u32 y.x.item) (.int .u64 y.x.h) (.int .u32 y.x.link) (.int .i64 y.x.tries) (.bool bs) := HP4.out.setP (.int .i64 y.kind) (.int .i64 y.pc) (.slice T2 tn2 tc2) (.int .i64 y.j) (.int .i64 y.p) (.int .i64 y.x.kind) (.int .i64 y.x.pc) (.int .i64 y.x.k.head) (.slice LB lm ld) (.int .u32 y.x.item) (.int .u64 y.x.h) (.int .u32 y.x.link) (.int .i64 y.x.tries)
  have hr4 : ReadsW (NotT Q w.heap.size) ((((((((((((((w3.alloc (.cells #[.int .i64 y.kind, .int .i64 y.pc, .slice T2 tn2 tc2, .int .i64 y.j, .int .i64 y.p, .int .i64 y.x.kind, .int .i64 y.x.pc, .int .i64 y.x.k.head, .slice LB lm ld, .int .u32 y.x.item, .int .u64 y.x.h, .int .u32 y.x.link, .int .i64 y.x.tries] 57)).setCell ⟨w.heap.size + 1, 13, none⟩ (.int .i64 y.kind)).setCell ⟨w.heap.size + 1, 14, none⟩ (.int .i64 y.pc)).setCell ⟨w.heap.size + 1, 15, none⟩ (.slice T2 tn2 tc2)).setCell ⟨w.heap.size + 1, 16, none⟩ (.int .i64 y.j)).setCell ⟨w.heap.size + 1, 17, none⟩ (.int .i64 y.p)).setCell ⟨w.heap.size + 1, 18, none⟩ (.int .i64 y.x.kind)).setCell ⟨w.heap.size + 1, 19, none⟩ (.int .i64 y.x.pc)).setCell ⟨w.heap.size + 1, 20, none⟩ (.int .i64 y.x.k.head)).setCell ⟨w.heap.size + 1, 21, none⟩ (.slice LB lm ld)).setCell ⟨w.heap.size + 1, 22, none⟩ (.int .u32 y.x.item)).setCell ⟨w.heap.size + 1, 23, none⟩ (.int .u64 y.x.h)).setCell ⟨w.heap.size + 1, 24, none⟩ (.int .u32 y.x.link)).setCell ⟨w.heap.size + 1, 25, none⟩ (.int .i64 y.x.tries)) R2 L' := HR4.out.two13 (.inl rfl) (adP_upd _ _ (.int .i64 y.kind) (.int .i64 y.pc) (.slice T2 tn2 tc2) (.int .i64 y.j) (.int .i64 y.p) (.int .i64 y.x.kind) (.int .i64 y.x.pc) (.int .i64 y.x.k.head) (.slice LB lm ld) (.int .u32 y.x.item) (.int .u64 y.x.h) (.int .u32 y.x.link) (.int .i64 y.x.tries))
  have hp4 : RPm (NotT Q w.heap.size) ((((((((((((((w3.alloc (.cells #[.int .i64 y.kind, .int .i64 y.pc, .slice T2 tn2 tc2, .int .i64 y.j, .int .i64 y.p, .int .i64 y.x.kind, .int .i64 y.x.pc, .int .i64 y.x.k.head, .slice LB lm ld, .int .u32 y.x.item, .int .u64 y.x.h, .int .u32 y.x.link, .int .i64 y.x.tries] 57)).setCell ⟨w.heap.size + 1, 13, none⟩ (.int .i64 y.kind)).setCell ⟨w.heap.size + 1, 14, none⟩ (.int .i64 y.pc)).setCell ⟨w.heap.size + 1, 15, none⟩ (.slice T2 tn2 tc2)).setCell ⟨w.heap.size + 1, 16, none⟩ (.int .i64 y.j)).setCell ⟨w.heap.size + 1, 17, none⟩ (.int .i64 y.p)).setCell ⟨w.heap.size + 1, 18, none⟩ (.int .i64 y.x.kind)).setCell ⟨w.heap.size + 1, 19, none⟩ (.int .i64 y.x.pc)).setCell ⟨w.heap.size + 1, 20, none⟩ (.int .i64 y.x.k.head)).setCell ⟨w.heap.size + 1, 21, none⟩ (.slice LB lm ld)).setCell ⟨w.heap.size + 1, 22, none⟩ (.int .u32 y.x.item)).setCell ⟨w.heap.size + 1, 23, none⟩ (.int .u64 y.x.h)).setCell ⟨w.heap.size + 1, 24, none⟩ (.int .u32 y.x.link)).setCell ⟨w.heap.size + 1, 25, none⟩ (.int .i64 y.x.tries)) y (pmVm y T2 tn2 tc2 LB lm ld) := (HPM.out.below (below_alloc0 (Below.refl _ _) (.cells #[.int .i64 y.kind, .int .i64 y.pc, .slice T2 tn2 tc2, .int .i64 y.j, .int .i64 y.p, .int .i64 y.x.kind, .int .i64 y.x.pc, .int .i64 y.x.k.head, .slice LB lm ld, .int .u32 y.x.item, .int .u64 y.x.h, .int .u32 y.x.link, .int .i64 y.x.tries] 57))).near (.inl rfl) (adP_upd _ _ (.int .i64 y.kind) (.int .i64 y.pc) (.slice T2 tn2 tc2) (.int .i64 y.j) (.int .i64 y.p) (.int .i64 y.x.kind) (.int .i64 y.x.pc) (.int .i64 y.x.k.head) (.slice LB lm ld) (.int .u32 y.x.item) (.int .u64 y.x.h) (.int .u32 y.x.link) (.int .i64 y.x.tries))
  have hd : ((((((((((((((w3.alloc (.cells #[.int .i64 y.kind, .int .i64 y.pc, .slice T2 tn2 tc2, .int .i64 y.j, .int .i64 y.p, .int .i64 y.x.kind, .int .i64 y.x.pc, .int .i64 y.x.k.head, .slice LB lm ld, .int .u32 y.x.item, .int .u64 y.x.h, .int .u32 y.x.link, .int .i64 y.x.tries] 57)).setCell ⟨w.heap.size + 1, 13, none⟩ (.int .i64 y.kind)).setCell ⟨w.heap.size + 1, 14, none⟩ (.int .i64 y.pc)).setCell ⟨w.heap.size + 1, 15, none⟩ (.slice T2 tn2 tc2)).setCell ⟨w.heap.size + 1, 16, none⟩ (.int .i64 y.j)).setCell ⟨w.heap.size + 1, 17, none⟩ (.int .i64 y.p)).setCell ⟨w.heap.size + 1, 18, none⟩ (.int .i64 y.x.kind)).setCell ⟨w.heap.size + 1, 19, none⟩ (.int .i64 y.x.pc)).setCell ⟨w.heap.size + 1, 20, none⟩ (.int .i64 y.x.k.head)).setCell ⟨w.heap.size + 1, 21, none⟩ (.slice LB lm ld)).setCell ⟨w.heap.size + 1, 22, none⟩ (.int .u32 y.x.item)).setCell ⟨w.heap.size + 1, 23, none⟩ (.int .u64 y.x.h)).setCell ⟨w.heap.size + 1, 24, none⟩ (.int .u32 y.x.link)).setCell ⟨w.heap.size + 1, 25, none⟩ (.int .i64 y.x.tries)).heap[w3.heap.size]? = some (.cells #[.int .i64 y.kind, .int .i64 y.pc, .slice T2 tn2 tc2, .int .i64 y.j, .int .i64 y.p, .int .i64 y.x.kind, .int .i64 y.x.pc, .int .i64 y.x.k.head, .slice LB lm ld, .int .u32 y.x.item, .int .u64 y.x.h, .int .u32 y.x.link, .int .i64 y.x.tries] 57 (0, 0)) := ((adP_upd (w3.alloc (.cells #[.int .i64 y.kind, .int .i64 y.pc, .slice T2 tn2 tc2, .int .i64 y.j, .int .i64 y.p, .int .i64 y.x.kind, .int .i64 y.x.pc, .int .i64 y.x.k.head, .slice LB lm ld, .int .u32 y.x.item, .int .u64 y.x.h, .int .u32 y.x.link, .int .i64 y.x.tries] 57)) (w.heap.size + 1) (.int .i64 y.kind) (.int .i64 y.pc) (.slice T2 tn2 tc2) (.int .i64 y.j) (.int .i64 y.p) (.int .i64 y.x.kind) (.int .i64 y.x.pc) (.int .i64 y.x.k.head) (.slice LB lm ld) (.int .u32 y.x.item) (.int .u64 y.x.h) (.int .u32 y.x.link) (.int .i64 y.x.tries)).block w3.heap.size (by simp) (by omega) (by omega)).trans (Go.heap_alloc_new _ _)
  obtain ⟨W4, hW4⟩ : ∃ W4, W4 = ((((((((((((((w3.alloc (.cells #[.int .i64 y.kind, .int .i64 y.pc, .slice T2 tn2 tc2, .int .i64 y.j, .int .i64 y.p, .int .i64 y.x.kind, .int .i64 y.x.pc, .int .i64 y.x.k.head, .slice LB lm ld, .int .u32 y.x.item, .int .u64 y.x.h, .int .u32 y.x.link, .int .i64 y.x.tries] 57)).setCell ⟨w.heap.size + 1, 13, none⟩ (.int .i64 y.kind)).setCell ⟨w.heap.size + 1, 14, none⟩ (.int .i64 y.pc)).setCell ⟨w.heap.size + 1, 15, none⟩ (.slice T2 tn2 tc2)).setCell ⟨w.heap.size + 1, 16, none⟩ (.int .i64 y.j)).setCell ⟨w.heap.size + 1, 17, none⟩ (.int .i64 y.p)).setCell ⟨w.heap.size + 1, 18, none⟩ (.int .i64 y.x.kind)).setCell ⟨w.heap.size + 1, 19, none⟩ (.int .i64 y.x.pc)).setCell ⟨w.heap.size + 1, 20, none⟩ (.int .i64 y.x.k.head)).setCell ⟨w.heap.size + 1, 21, none⟩ (.slice LB lm ld)).setCell ⟨w.heap.size + 1, 22, none⟩ (.int .u32 y.x.item)).setCell ⟨w.heap.size + 1, 23, none⟩ (.int .u64 y.x.h)).setCell ⟨w.heap.size + 1, 24, none⟩ (.int .u32 y.x.link)).setCell ⟨w.heap.size + 1, 25, none⟩ (.int .i64 y.x.tries)) := ⟨_, rfl⟩
  rw [← hW4] at hk hr4 hp4 hd ⊢
  clear hW4 z0 z1 z2 z3 z4 z5 z6 z7 z8 z9 z10 z11 z12 z13 z14 z15 z16 z17 z18 z19 z20 z21 z22 z23 z24 z25 z26 hfm HP4 HR4 hlt
  obtain ⟨z0, z1, z2, z3, z4, z5, z6, z7, z8, z9, z10, z11, z12, z13, z14, z15, z16, z17, z18, z19, z20, z21, z22, z23, z24, z25, z26⟩ := hk.mc
  have hfm := hk.frm
  have hlt := hk.lt
  obtain ⟨o0, o1, o2, o3, o4, o5, o6, o7, o8, o9, o10, o11, o12⟩ := row13_cells hd
  clear o0 o2 o3 o4 o5 o6 o7 o8 o9 o10 o11 o12
  have HK3 := Lib.hid hk; have HR4 := Lib.hid hr4; have HP4 := Lib.hid hp4
  clear hk hr4 hd hp4
  go_wp2_with (fail)
  have hk : AS w (W4.setCell ⟨w.heap.size + 1, 0, none⟩ (.int .i64 0)) A n cap P (.int .i64 0) (.int .u64 tk) (.int .i64 d0) (.int .i64 d1) (.int .i64 d2) (.int .i64 d3) (.int .i64 d4) (.int .i64 d5) (.int .u64 d6) (.int .u64 d7) (.int .u64 d8) (.bool d9) (.int .i64 d10) (.int .i64 y.kind) (.int .i64 y.pc) (.slice T2 tn2 tc2) (.int .i64 y.j) (.int .i64 y.p) (.int .i64 y.x.kind) (.int .i64 y.x.pc) (.int .i64 y.x.k.head) (.slice LB lm ld) (.int .u32 y.x.item) (.int .u64 y.x.h) (.int .u32 y.x.link) (.int .i64 y.x.tries) (.bool bs) := HK3.out.set0 (.int .i64 0)
  have hr4 : ReadsW (NotT Q w.heap.size) (W4.setCell ⟨w.heap.size + 1, 0, none⟩ (.int .i64 0)) R2 L' := HR4.out.two13 (.inl rfl) (upd_set1 _ (w.heap.size + 1) 0 _)
  have hp4 : RPm (NotT Q w.heap.size) (W4.setCell ⟨w.heap.size + 1, 0, none⟩ (.int .i64 0)) y (pmVm y T2 tn2 tc2 LB lm ld) := HP4.out.near (.inl rfl) (upd_set1 _ (w.heap.size + 1) 0 _)
  obtain ⟨W2, hW2⟩ : ∃ W2, W2 = (W4.setCell ⟨w.heap.size + 1, 0, none⟩ (.int .i64 0)) := ⟨_, rfl⟩
  rw [← hW2] at hk hr4 hp4 ⊢
  clear hW2 z0 z1 z2 z3 z4 z5 z6 z7 z8 z9 z10 z11 z12 z13 z14 z15 z16 z17 z18 z19 z20 z21 z22 z23 z24 z25 z26 hfm o1
  have HK4 := Lib.hid hk; have HR5 := Lib.hid hr4
  clear hk hr4
  have HP5 := Lib.hid hp4
  clear hp4
  have HK5 := Lib.hid (HK4.out.step (Below.refl _ _).drew)
  have HR6 := Lib.hid (HR5.out.below (Below.refl _ _).drew)
  refine wp_region_any (by kernel_rfl) ?_
  change wpAny _ _ _ _ 4 _ _ (World.drew _)
  refine wpAny_take (i := 0) (v := .slice R2 n' cap2) rfl (by kernel_rfl) (by kernel_rfl) (by kernel_rfl) (fun _ _ _ h => h) (Or.inl ⟨by rfl, fun w => by exact BigFrame.run_move (.tmp 10) rfl w⟩) ?_
  refine wpAny_take (i := 2) (v := .slice R2 n' cap2) rfl (by kernel_rfl) (by kernel_rfl) (by kernel_rfl) (fun _ _ _ h => h) (Or.inl ⟨by rfl, fun w => by exact BigFrame.run_assign (.tmp 58) rfl w⟩) ?_
  refine wpAny_ready (rs := [1]) (by kernel_rfl) (by decide) (AllReady.cons rfl (fun K' hK => ?_) AllReady.nil)
  rw [if_pos (by rfl)]
  refine wp_load_mid 59 (.tmp 5) rfl (w.heap.size + 1) 0 rfl _ _ HK5.out.range row59.choose_spec.1 row59.choose_spec.2 (by kernel_rfl) (hK _ _ ?_)
  refine wpAny_ready (rs := [3]) (by kernel_rfl) (by decide) (AllReady.cons rfl (fun K' hK => ?_) AllReady.nil)
  rw [if_pos (by rfl)]
  refine wp_store_mid 59 (.tmp 7) (.tmp 59) rfl (w.heap.size + 1 + 1) 0 _ rfl rfl HK5.out.there (by kernel_rfl) (by simp only [List.all_toArray, List.all_cons, List.all_nil, Value.oneCell', Bool.and_self]) (hK _ _ ?_)
  refine wpAny_done (by kernel_rfl) ?_ _
  rw [set27]
  obtain ⟨W3, hW3⟩ : ∃ W3, W3 = ad27 W2.drew (w.heap.size + 1 + 1) (.int .i64 0) (.int .u64 tk) (.int .i64 d0) (.int .i64 d1) (.int .i64 d2) (.int .i64 d3) (.int .i64 d4) (.int .i64 d5) (.int .u64 d6) (.int .u64 d7) (.int .u64 d8) (.bool d9) (.int .i64 d10) (.int .i64 y.kind) (.int .i64 y.pc) (.slice T2 tn2 tc2) (.int .i64 y.j) (.int .i64 y.p) (.int .i64 y.x.kind) (.int .i64 y.x.pc) (.int .i64 y.x.k.head) (.slice LB lm ld) (.int .u32 y.x.item) (.int .u64 y.x.h) (.int .u32 y.x.link) (.int .i64 y.x.tries) (.bool bs) := ⟨_, rfl⟩
  have HB5 : Below w.heap.size w W3 := by rw [hW3]; exact HK5.out.putb
  have HR7 : ReadsW Q W3 R2 L' := by rw [hW3]; exact HR6.out.upd (ad27_upd ..) fun b hb _ => ⟨hb.2.2, hb.2.2, hb.1⟩
  have hl : (loadVar 59 ⟨w.heap.size + 1 + 1, 0, none⟩).run Tryz.prog W3 = .ok (.agg #[.int .i64 0, .int .u64 tk, .int .i64 d0, .int .i64 d1, .int .i64 d2, .int .i64 d3, .int .i64 d4, .int .i64 d5, .int .u64 d6, .int .u64 d7, .int .u64 d8, .bool d9, .int .i64 d10, .int .i64 y.kind, .int .i64 y.pc, .slice T2 tn2 tc2, .int .i64 y.j, .int .i64 y.p, .int .i64 y.x.kind, .int .i64 y.x.pc, .int .i64 y.x.k.head, .slice LB lm ld, .int .u32 y.x.item, .int .u64 y.x.h, .int .u32 y.x.link, .int .i64 y.x.tries, .bool bs]) W3 := by
    rw [hW3]; exact run_loadVar_mid _ _ 0 59 _ _ (HK5.out.ranger (.int .i64 0) (.int .u64 tk) (.int .i64 d0) (.int .i64 d1) (.int .i64 d2) (.int .i64 d3) (.int .i64 d4) (.int .i64 d5) (.int .u64 d6) (.int .u64 d7) (.int .u64 d8) (.bool d9) (.int .i64 d10) (.int .i64 y.kind) (.int .i64 y.pc) (.slice T2 tn2 tc2) (.int .i64 y.j) (.int .i64 y.p) (.int .i64 y.x.kind) (.int .i64 y.x.pc) (.int .i64 y.x.k.head) (.slice LB lm ld) (.int .u32 y.x.item) (.int .u64 y.x.h) (.int .u32 y.x.link) (.int .i64 y.x.tries) (.bool bs)) row59.choose_spec.1 row59.choose_spec.2 (by kernel_rfl)
  have hp7 : RPm Q W3 y (pmVm y T2 tn2 tc2 LB lm ld) := by rw [hW3]; exact ((HP5.out.below (Below.refl _ _).drew).near (.inr rfl) (ad27_upd ..)).wide
  rw [← hW3]
  clear hW3
  go_wp2
  exact bodyPost_ret (v := .tuple #[.slice R2 n' cap2, .agg #[.int .i64 0, .int .u64 tk, .int .i64 d0, .int .i64 d1, .int .i64 d2, .int .i64 d3, .int .i64 d4, .int .i64 d5, .int .u64 d6, .int .u64 d7, .int .u64 d8, .bool d9, .int .i64 d10, .int .i64 y.kind, .int .i64 y.pc, .slice T2 tn2 tc2, .int .i64 y.j, .int .i64 y.p, .int .i64 y.x.kind, .int .i64 y.x.pc, .int .i64 y.x.k.head, .slice LB lm ld, .int .u32 y.x.item, .int .u64 y.x.h, .int .u32 y.x.link, .int .i64 y.x.tries, .bool bs]]) (res2 Tryz.results21 _ W3 _ _ _ rfl rfl hl) rfl ⟨R2, cap2, _, rfl, HR7, ⟨T2, tn2, tc2, LB, lm, ld, rfl, hp7⟩, HB5⟩
end Go.Proofs.YtponbnbgiiepdaaGreat
