
import Derived.Test.YtpocihddecemfaaGreatJ2
import Derived.Test.YtpocihddecemfaaGreatJ17
namespace Go.Proofs.YtpocihddecemfaaGreat.Dg
open Go.RowKit
set_option linter.unusedVariables false
set_option linter.unusedSimpArgs false
set_option maxRecDepth 100000
abbrev put11 (w : World) (B : Nat) (u0 u1 u2 u3 u4 u5 u6 u7 u8 u9 u10 : Value) : World := (((((((((((w.setCell ⟨B, 0, none⟩ u0).setCell ⟨B, 1, none⟩ u1).setCell ⟨B, 2, none⟩ u2).setCell ⟨B, 3, none⟩ u3).setCell ⟨B, 4, none⟩ u4).setCell ⟨B, 5, none⟩ u5).setCell ⟨B, 6, none⟩ u6).setCell ⟨B, 7, none⟩ u7).setCell ⟨B, 8, none⟩ u8).setCell ⟨B, 9, none⟩ u9).setCell ⟨B, 10, none⟩ u10)
theorem put11_same (w : World) (B : Nat) (t : TypeId) (x0 x1 x2 x3 x4 x5 x6 x7 x8 x9 x10 : Value) (h : w.heap[B]? = some (.cells #[x0, x1, x2, x3, x4, x5, x6, x7, x8, x9, x10] t (0, 0))) (u0 u1 u2 u3 u4 u5 u6 u7 u8 u9 u10 : Value) : (put11 w B u0 u1 u2 u3 u4 u5 u6 u7 u8 u9 u10).heap[B]? = some (.cells #[u0, u1, u2, u3, u4, u5, u6, u7, u8, u9, u10] t (0, 0)) := by
  have h0 : (w.setCell ⟨B, 0, none⟩ u0).heap[B]? = some (.cells #[u0, x1, x2, x3, x4, x5, x6, x7, x8, x9, x10] t (0, 0)) := (heap_setCell_same _ B 0 _ t u0 h).trans (congrArg (fun c => some (Obj.cells c t (0, 0))) (show (#[x0, x1, x2, x3, x4, x5, x6, x7, x8, x9, x10] : Array Value).setIfInBounds 0 u0 = #[u0, x1, x2, x3, x4, x5, x6, x7, x8, x9, x10] from rfl))
  have h1 : ((w.setCell ⟨B, 0, none⟩ u0).setCell ⟨B, 1, none⟩ u1).heap[B]? = some (.cells #[u0, u1, x2, x3, x4, x5, x6, x7, x8, x9, x10] t (0, 0)) := (heap_setCell_same _ B 1 _ t u1 h0).trans (congrArg (fun c => some (Obj.cells c t (0, 0))) (show (#[u0, x1, x2, x3, x4, x5, x6, x7, x8, x9, x10] : Array Value).setIfInBounds 1 u1 = #[u0, u1, x2, x3, x4, x5, x6, x7, x8, x9, x10] from rfl))
  have h2 : (((w.setCell ⟨B, 0, none⟩ u0).setCell ⟨B, 1, none⟩ u1).setCell ⟨B, 2, none⟩ u2).heap[B]? = some (.cells #[u0, u1, u2, x3, x4, x5, x6, x7, x8, x9, x10] t (0, 0)) := (heap_setCell_same _ B 2 _ t u2 h1).trans (congrArg (fun c => some (Obj.cells c t (0, 0))) (show (#[u0, u1, x2, x3, x4, x5, x6, x7, x8, x9, x10] : Array Value).setIfInBounds 2 u2 = #[u0, u1, u2, x3, x4, x5, x6, x7, x8, x9, x10] from rfl))
  have h3 : ((((w.setCell ⟨B, 0, none⟩ u0).setCell ⟨B, 1, none⟩ u1).setCell ⟨B, 2, none⟩ u2).setCell ⟨B, 3, none⟩ u3).heap[B]? = some (.cells #[u0, u1, u2, u3, x4, x5, x6, x7, x8, x9, x10] t (0, 0)) := (heap_setCell_same _ B 3 _ t u3 h2).trans (congrArg (fun c => some (Obj.cells c t (0, 0))) (show (#[u0, u1, u2, x3, x4, x5, x6, x7, x8, x9, x10] : Array Value).setIfInBounds 3 u3 = #[u0, u1, u2, u3, x4, x5, x6, x7, x8, x9, x10] from rfl))
  have h4 : (((((w.setCell ⟨B, 0, none⟩ u0).setCell ⟨B, 1, none⟩ u1).setCell ⟨B, 2, none⟩ u2).setCell ⟨B, 3, none⟩ u3).setCell ⟨B, 4, none⟩ u4).heap[B]? = some (.cells #[u0, u1, u2, u3, u4, x5, x6, x7, x8, x9, x10] t (0, 0)) := (heap_setCell_same _ B 4 _ t u4 h3).trans (congrArg (fun c => some (Obj.cells c t (0, 0))) (show (#[u0, u1, u2, u3, x4, x5, x6, x7, x8, x9, x10] : Array Value).setIfInBounds 4 u4 = #[u0, u1, u2, u3, u4, x5, x6, x7, x8, x9, x10] from rfl))
  have h5 : ((((((w.setCell ⟨B, 0, none⟩ u0).setCell ⟨B, 1, none⟩ u1).setCell ⟨B, 2, none⟩ u2).setCell ⟨B, 3, none⟩ u3).setCell ⟨B, 4, none⟩ u4).setCell ⟨B, 5, none⟩ u5).heap[B]? = some (.cells #[u0, u1, u2, u3, u4, u5, x6, x7, x8, x9, x10] t (0, 0)) := (heap_setCell_same _ B 5 _ t u5 h4).trans (congrArg (fun c => some (Obj.cells c t (0, 0))) (show (#[u0, u1, u2, u3, u4, x5, x6, x7, x8, x9, x10] : Array Value).setIfInBounds 5 u5 = #[u0, u1, u2, u3, u4, u5, x6, x7, x8, x9, x10] from rfl))
  have h6 : (((((((w.setCell ⟨B, 0, none⟩ u0).setCell ⟨B, 1, none⟩ u1).setCell ⟨B, 2, none⟩ u2).setCell ⟨B, 3, none⟩ u3).setCell ⟨B, 4, none⟩ u4).setCell ⟨B, 5, none⟩ u5).setCell ⟨B, 6, none⟩ u6).heap[B]? = some (.cells #[u0, u1, u2, u3, u4, u5, u6, x7, x8, x9, x10] t (0, 0)) := (heap_setCell_same _ B 6 _ t u6 h5).trans (congrArg (fun c => some (Obj.cells c t (0, 0))) (show (#[u0, u1, u2, u3, u4, u5, x6, x7, x8, x9, x10] : Array Value).setIfInBounds 6 u6 = #[u0, u1, u2, u3, u4, u5, u6, x7, x8, x9, x10] from rfl))
  have h7 : ((((((((w.setCell ⟨B, 0, none⟩ u0).setCell ⟨B, 1, none⟩ u1).setCell ⟨B, 2, none⟩ u2).setCell ⟨B, 3, none⟩ u3).setCell ⟨B, 4, none⟩ u4).setCell ⟨B, 5, none⟩ u5).setCell ⟨B, 6, none⟩ u6).setCell ⟨B, 7, none⟩ u7).heap[B]? = some (.cells #[u0, u1, u2, u3, u4, u5, u6, u7, x8, x9, x10] t (0, 0)) := (heap_setCell_same _ B 7 _ t u7 h6).trans (congrArg (fun c => some (Obj.cells c t (0, 0))) (show (#[u0, u1, u2, u3, u4, u5, u6, x7, x8, x9, x10] : Array Value).setIfInBounds 7 u7 = #[u0, u1, u2, u3, u4, u5, u6, u7, x8, x9, x10] from rfl))
  have h8 : (((((((((w.setCell ⟨B, 0, none⟩ u0).setCell ⟨B, 1, none⟩ u1).setCell ⟨B, 2, none⟩ u2).setCell ⟨B, 3, none⟩ u3).setCell ⟨B, 4, none⟩ u4).setCell ⟨B, 5, none⟩ u5).setCell ⟨B, 6, none⟩ u6).setCell ⟨B, 7, none⟩ u7).setCell ⟨B, 8, none⟩ u8).heap[B]? = some (.cells #[u0, u1, u2, u3, u4, u5, u6, u7, u8, x9, x10] t (0, 0)) := (heap_setCell_same _ B 8 _ t u8 h7).trans (congrArg (fun c => some (Obj.cells c t (0, 0))) (show (#[u0, u1, u2, u3, u4, u5, u6, u7, x8, x9, x10] : Array Value).setIfInBounds 8 u8 = #[u0, u1, u2, u3, u4, u5, u6, u7, u8, x9, x10] from rfl))
  have h9 : ((((((((((w.setCell ⟨B, 0, none⟩ u0).setCell ⟨B, 1, none⟩ u1).setCell ⟨B, 2, none⟩ u2).setCell ⟨B, 3, none⟩ u3).setCell ⟨B, 4, none⟩ u4).setCell ⟨B, 5, none⟩ u5).setCell ⟨B, 6, none⟩ u6).setCell ⟨B, 7, none⟩ u7).setCell ⟨B, 8, none⟩ u8).setCell ⟨B, 9, none⟩ u9).heap[B]? = some (.cells #[u0, u1, u2, u3, u4, u5, u6, u7, u8, u9, x10] t (0, 0)) := (heap_setCell_same _ B 9 _ t u9 h8).trans (congrArg (fun c => some (Obj.cells c t (0, 0))) (show (#[u0, u1, u2, u3, u4, u5, u6, u7, u8, x9, x10] : Array Value).setIfInBounds 9 u9 = #[u0, u1, u2, u3, u4, u5, u6, u7, u8, u9, x10] from rfl))
  have h10 : (((((((((((w.setCell ⟨B, 0, none⟩ u0).setCell ⟨B, 1, none⟩ u1).setCell ⟨B, 2, none⟩ u2).setCell ⟨B, 3, none⟩ u3).setCell ⟨B, 4, none⟩ u4).setCell ⟨B, 5, none⟩ u5).setCell ⟨B, 6, none⟩ u6).setCell ⟨B, 7, none⟩ u7).setCell ⟨B, 8, none⟩ u8).setCell ⟨B, 9, none⟩ u9).setCell ⟨B, 10, none⟩ u10).heap[B]? = some (.cells #[u0, u1, u2, u3, u4, u5, u6, u7, u8, u9, u10] t (0, 0)) := (heap_setCell_same _ B 10 _ t u10 h9).trans (congrArg (fun c => some (Obj.cells c t (0, 0))) (show (#[u0, u1, u2, u3, u4, u5, u6, u7, u8, u9, x10] : Array Value).setIfInBounds 10 u10 = #[u0, u1, u2, u3, u4, u5, u6, u7, u8, u9, u10] from rfl))
  exact h10
theorem put11_upd (w : World) (B : Nat) (u0 u1 u2 u3 u4 u5 u6 u7 u8 u9 u10 : Value) : Upd B B w (put11 w B u0 u1 u2 u3 u4 u5 u6 u7 u8 u9 u10) := by
  have u := fun (w : World) (i : Nat) (v : Value) => (show Upd B B w (w.setCell ⟨B, i, none⟩ v) from ⟨rfl, rfl, rfl, by simp, fun k hk h1 _ => heap_setCell_other w ⟨B, i, none⟩ k v h1⟩)
  exact (((((((((((u _ _ _).trans (u _ _ _)).trans (u _ _ _)).trans (u _ _ _)).trans (u _ _ _)).trans (u _ _ _)).trans (u _ _ _)).trans (u _ _ _)).trans (u _ _ _)).trans (u _ _ _)).trans (u _ _ _))
theorem row11_cells {w : World} {B : Nat} {t : TypeId} {x0 x1 x2 x3 x4 x5 x6 x7 x8 x9 x10 : Value} (h : w.heap[B]? = some (.cells #[x0, x1, x2, x3, x4, x5, x6, x7, x8, x9, x10] t (0, 0))) : w.cell? ⟨B, 0, none⟩ = some x0 ∧ w.cell? ⟨B, 1, none⟩ = some x1 ∧ w.cell? ⟨B, 2, none⟩ = some x2 ∧ w.cell? ⟨B, 3, none⟩ = some x3 ∧ w.cell? ⟨B, 4, none⟩ = some x4 ∧ w.cell? ⟨B, 5, none⟩ = some x5 ∧ w.cell? ⟨B, 6, none⟩ = some x6 ∧ w.cell? ⟨B, 7, none⟩ = some x7 ∧ w.cell? ⟨B, 8, none⟩ = some x8 ∧ w.cell? ⟨B, 9, none⟩ = some x9 ∧ w.cell? ⟨B, 10, none⟩ = some x10 := by
  refine ⟨?_, ?_, ?_, ?_, ?_, ?_, ?_, ?_, ?_, ?_, ?_⟩ <;> simp [World.cell?, h]
structure QD (w w' : World) (x0 x1 x2 x3 x4 x5 x6 x7 x8 x9 x10 : Value) : Prop where
  bel : Below w.heap.size w w'
  bm : w'.heap[w.heap.size]? = some (.cells #[x0, x1, x2, x3, x4, x5, x6, x7, x8, x9, x10] 50 (0, 0))
  br : w'.heap[w.heap.size + 1]? = some (.cells #[.int .i64 0, .int .i64 0, .int .i64 0, .int .i64 0, .int .i64 0, .int .i64 0, .int .u64 0, .int .u64 0, .int .u64 0, .bool false, .int .i64 0] 50 (0, 0))
section
variable {w w' w2 : World} {x0 x1 x2 x3 x4 x5 x6 x7 x8 x9 x10 u0 u1 u2 u3 u4 u5 u6 u7 u8 u9 u10 : Value}
theorem QD.step (k : QD w w' x0 x1 x2 x3 x4 x5 x6 x7 x8 x9 x10) (hb : Below w'.heap.size w' w2) : QD w w2 x0 x1 x2 x3 x4 x5 x6 x7 x8 x9 x10 :=
  ⟨below_step k.bel k.bel.size hb, (hb.block _ (Array.getElem?_eq_some_iff.1 k.bm).1).trans k.bm, (hb.block _ (Array.getElem?_eq_some_iff.1 k.br).1).trans k.br⟩
theorem QD.drew (k : QD w w' x0 x1 x2 x3 x4 x5 x6 x7 x8 x9 x10) : QD w w'.drew x0 x1 x2 x3 x4 x5 x6 x7 x8 x9 x10 := k.step (Below.refl _ _).drew
theorem QD.lt (k : QD w w' x0 x1 x2 x3 x4 x5 x6 x7 x8 x9 x10) : w.heap.size + 1 < w'.heap.size := (Array.getElem?_eq_some_iff.1 k.br).1
theorem QD.frr (k : QD w w' x0 x1 x2 x3 x4 x5 x6 x7 x8 x9 x10) (j : Nat) : w'.frozen? ⟨w.heap.size + 1, j, none⟩ = false := frozen_of_row w' _ j _ _ k.br
theorem QD.frm (k : QD w w' x0 x1 x2 x3 x4 x5 x6 x7 x8 x9 x10) (j : Nat) : w'.frozen? ⟨w.heap.size, j, none⟩ = false := frozen_of_row w' _ j _ _ k.bm
theorem QD.mc (k : QD w w' x0 x1 x2 x3 x4 x5 x6 x7 x8 x9 x10) : w'.cell? ⟨w.heap.size, 0, none⟩ = some x0 ∧ w'.cell? ⟨w.heap.size, 1, none⟩ = some x1 ∧ w'.cell? ⟨w.heap.size, 2, none⟩ = some x2 ∧ w'.cell? ⟨w.heap.size, 3, none⟩ = some x3 ∧ w'.cell? ⟨w.heap.size, 4, none⟩ = some x4 ∧ w'.cell? ⟨w.heap.size, 5, none⟩ = some x5 ∧ w'.cell? ⟨w.heap.size, 6, none⟩ = some x6 ∧ w'.cell? ⟨w.heap.size, 7, none⟩ = some x7 ∧ w'.cell? ⟨w.heap.size, 8, none⟩ = some x8 ∧ w'.cell? ⟨w.heap.size, 9, none⟩ = some x9 ∧ w'.cell? ⟨w.heap.size, 10, none⟩ = some x10 := row11_cells k.bm
theorem QD.res (k : QD w w' x0 x1 x2 x3 x4 x5 x6 x7 x8 x9 x10) : w'.cell? ⟨w.heap.size + 1, 0, none⟩ = some (.int .i64 0) ∧ w'.cell? ⟨w.heap.size + 1, 1, none⟩ = some (.int .i64 0) ∧ w'.cell? ⟨w.heap.size + 1, 2, none⟩ = some (.int .i64 0) ∧ w'.cell? ⟨w.heap.size + 1, 3, none⟩ = some (.int .i64 0) ∧ w'.cell? ⟨w.heap.size + 1, 4, none⟩ = some (.int .i64 0) ∧ w'.cell? ⟨w.heap.size + 1, 5, none⟩ = some (.int .i64 0) ∧ w'.cell? ⟨w.heap.size + 1, 6, none⟩ = some (.int .u64 0) ∧ w'.cell? ⟨w.heap.size + 1, 7, none⟩ = some (.int .u64 0) ∧ w'.cell? ⟨w.heap.size + 1, 8, none⟩ = some (.int .u64 0) ∧ w'.cell? ⟨w.heap.size + 1, 9, none⟩ = some (.bool false) ∧ w'.cell? ⟨w.heap.size + 1, 10, none⟩ = some (.int .i64 0) := row11_cells k.br
theorem QD.upd (k : QD w w' x0 x1 x2 x3 x4 x5 x6 x7 x8 x9 x10) (u : Upd w.heap.size w.heap.size w' w2) (h : w2.heap[w.heap.size]? = some (.cells #[u0, u1, u2, u3, u4, u5, u6, u7, u8, u9, u10] 50 (0, 0))) : QD w w2 u0 u1 u2 u3 u4 u5 u6 u7 u8 u9 u10 :=
  ⟨below_upd k.bel (Nat.le_refl _) u (by omega) (by omega), h, (u.block _ (Array.getElem?_eq_some_iff.1 k.br).1 (by omega) (by omega)).trans k.br⟩
theorem QD.set1 (k : QD w w' x0 x1 x2 x3 x4 x5 x6 x7 x8 x9 x10) (v : Value) : QD w (w'.setCell ⟨w.heap.size, 1, none⟩ v) x0 v x2 x3 x4 x5 x6 x7 x8 x9 x10 :=
  k.upd ⟨rfl, rfl, rfl, by simp, fun k hk h1 _ => heap_setCell_other w' ⟨w.heap.size, 1, none⟩ k v h1⟩ ((heap_setCell_same _ w.heap.size 1 _ 50 v k.bm).trans (congrArg (fun c => some (Obj.cells c 50 (0, 0))) (show (#[x0, x1, x2, x3, x4, x5, x6, x7, x8, x9, x10] : Array Value).setIfInBounds 1 v = #[x0, v, x2, x3, x4, x5, x6, x7, x8, x9, x10] from rfl)))
theorem QD.set6 (k : QD w w' x0 x1 x2 x3 x4 x5 x6 x7 x8 x9 x10) (v : Value) : QD w (w'.setCell ⟨w.heap.size, 6, none⟩ v) x0 x1 x2 x3 x4 x5 v x7 x8 x9 x10 :=
  k.upd ⟨rfl, rfl, rfl, by simp, fun k hk h1 _ => heap_setCell_other w' ⟨w.heap.size, 6, none⟩ k v h1⟩ ((heap_setCell_same _ w.heap.size 6 _ 50 v k.bm).trans (congrArg (fun c => some (Obj.cells c 50 (0, 0))) (show (#[x0, x1, x2, x3, x4, x5, x6, x7, x8, x9, x10] : Array Value).setIfInBounds 6 v = #[x0, x1, x2, x3, x4, x5, v, x7, x8, x9, x10] from rfl)))
theorem QD.set7 (k : QD w w' x0 x1 x2 x3 x4 x5 x6 x7 x8 x9 x10) (v : Value) : QD w (w'.setCell ⟨w.heap.size, 7, none⟩ v) x0 x1 x2 x3 x4 x5 x6 v x8 x9 x10 :=
  k.upd ⟨rfl, rfl, rfl, by simp, fun k hk h1 _ => heap_setCell_other w' ⟨w.heap.size, 7, none⟩ k v h1⟩ ((heap_setCell_same _ w.heap.size 7 _ 50 v k.bm).trans (congrArg (fun c => some (Obj.cells c 50 (0, 0))) (show (#[x0, x1, x2, x3, x4, x5, x6, x7, x8, x9, x10] : Array Value).setIfInBounds 7 v = #[x0, x1, x2, x3, x4, x5, x6, v, x8, x9, x10] from rfl)))
theorem QD.putr (k : QD w w' x0 x1 x2 x3 x4 x5 x6 x7 x8 x9 x10) : (put11 w' (w.heap.size + 1) u0 u1 u2 u3 u4 u5 u6 u7 u8 u9 u10).cell? ⟨w.heap.size + 1, 0, none⟩ = some u0 ∧ (put11 w' (w.heap.size + 1) u0 u1 u2 u3 u4 u5 u6 u7 u8 u9 u10).cell? ⟨w.heap.size + 1, 1, none⟩ = some u1 ∧ (put11 w' (w.heap.size + 1) u0 u1 u2 u3 u4 u5 u6 u7 u8 u9 u10).cell? ⟨w.heap.size + 1, 2, none⟩ = some u2 ∧ (put11 w' (w.heap.size + 1) u0 u1 u2 u3 u4 u5 u6 u7 u8 u9 u10).cell? ⟨w.heap.size + 1, 3, none⟩ = some u3 ∧ (put11 w' (w.heap.size + 1) u0 u1 u2 u3 u4 u5 u6 u7 u8 u9 u10).cell? ⟨w.heap.size + 1, 4, none⟩ = some u4 ∧ (put11 w' (w.heap.size + 1) u0 u1 u2 u3 u4 u5 u6 u7 u8 u9 u10).cell? ⟨w.heap.size + 1, 5, none⟩ = some u5 ∧ (put11 w' (w.heap.size + 1) u0 u1 u2 u3 u4 u5 u6 u7 u8 u9 u10).cell? ⟨w.heap.size + 1, 6, none⟩ = some u6 ∧ (put11 w' (w.heap.size + 1) u0 u1 u2 u3 u4 u5 u6 u7 u8 u9 u10).cell? ⟨w.heap.size + 1, 7, none⟩ = some u7 ∧ (put11 w' (w.heap.size + 1) u0 u1 u2 u3 u4 u5 u6 u7 u8 u9 u10).cell? ⟨w.heap.size + 1, 8, none⟩ = some u8 ∧ (put11 w' (w.heap.size + 1) u0 u1 u2 u3 u4 u5 u6 u7 u8 u9 u10).cell? ⟨w.heap.size + 1, 9, none⟩ = some u9 ∧ (put11 w' (w.heap.size + 1) u0 u1 u2 u3 u4 u5 u6 u7 u8 u9 u10).cell? ⟨w.heap.size + 1, 10, none⟩ = some u10 :=
  row11_cells (put11_same w' (w.heap.size + 1) 50 _ _ _ _ _ _ _ _ _ _ _ k.br u0 u1 u2 u3 u4 u5 u6 u7 u8 u9 u10)
theorem QD.putb (k : QD w w' x0 x1 x2 x3 x4 x5 x6 x7 x8 x9 x10) : Below w.heap.size w (put11 w' (w.heap.size + 1) u0 u1 u2 u3 u4 u5 u6 u7 u8 u9 u10) := below_upd k.bel (Nat.le_refl _) (put11_upd w' (w.heap.size + 1) u0 u1 u2 u3 u4 u5 u6 u7 u8 u9 u10) (by omega) (by omega)
theorem QD.putm (k : QD w w' x0 x1 x2 x3 x4 x5 x6 x7 x8 x9 x10) : (put11 w' (w.heap.size + 1) u0 u1 u2 u3 u4 u5 u6 u7 u8 u9 u10).cell? ⟨w.heap.size, 0, none⟩ = some x0 ∧ (put11 w' (w.heap.size + 1) u0 u1 u2 u3 u4 u5 u6 u7 u8 u9 u10).cell? ⟨w.heap.size, 1, none⟩ = some x1 ∧ (put11 w' (w.heap.size + 1) u0 u1 u2 u3 u4 u5 u6 u7 u8 u9 u10).cell? ⟨w.heap.size, 2, none⟩ = some x2 ∧ (put11 w' (w.heap.size + 1) u0 u1 u2 u3 u4 u5 u6 u7 u8 u9 u10).cell? ⟨w.heap.size, 3, none⟩ = some x3 ∧ (put11 w' (w.heap.size + 1) u0 u1 u2 u3 u4 u5 u6 u7 u8 u9 u10).cell? ⟨w.heap.size, 4, none⟩ = some x4 ∧ (put11 w' (w.heap.size + 1) u0 u1 u2 u3 u4 u5 u6 u7 u8 u9 u10).cell? ⟨w.heap.size, 5, none⟩ = some x5 ∧ (put11 w' (w.heap.size + 1) u0 u1 u2 u3 u4 u5 u6 u7 u8 u9 u10).cell? ⟨w.heap.size, 6, none⟩ = some x6 ∧ (put11 w' (w.heap.size + 1) u0 u1 u2 u3 u4 u5 u6 u7 u8 u9 u10).cell? ⟨w.heap.size, 7, none⟩ = some x7 ∧ (put11 w' (w.heap.size + 1) u0 u1 u2 u3 u4 u5 u6 u7 u8 u9 u10).cell? ⟨w.heap.size, 8, none⟩ = some x8 ∧ (put11 w' (w.heap.size + 1) u0 u1 u2 u3 u4 u5 u6 u7 u8 u9 u10).cell? ⟨w.heap.size, 9, none⟩ = some x9 ∧ (put11 w' (w.heap.size + 1) u0 u1 u2 u3 u4 u5 u6 u7 u8 u9 u10).cell? ⟨w.heap.size, 10, none⟩ = some x10 :=
  row11_cells ((put11_upd w' (w.heap.size + 1) u0 u1 u2 u3 u4 u5 u6 u7 u8 u9 u10).block _ (Array.getElem?_eq_some_iff.1 k.bm).1 (by omega) (by omega) |>.trans k.bm)
theorem QD.new (w : World) (x0 x1 x2 x3 x4 x5 x6 x7 x8 x9 x10 : Value) : QD w ((w.alloc (.cells #[x0, x1, x2, x3, x4, x5, x6, x7, x8, x9, x10] 50)).alloc (.cells #[.int .i64 0, .int .i64 0, .int .i64 0, .int .i64 0, .int .i64 0, .int .i64 0, .int .u64 0, .int .u64 0, .int .u64 0, .bool false, .int .i64 0] 50)) x0 x1 x2 x3 x4 x5 x6 x7 x8 x9 x10 := by
  obtain ⟨W, hW⟩ : ∃ W, W = w.alloc (.cells #[x0, x1, x2, x3, x4, x5, x6, x7, x8, x9, x10] 50) := ⟨_, rfl⟩
  have e1 : W.heap.size = w.heap.size + 1 := by rw [hW]; simp
  have h0 : W.heap[w.heap.size]? = some (.cells #[x0, x1, x2, x3, x4, x5, x6, x7, x8, x9, x10] 50 (0, 0)) := by
    rw [hW]; exact Go.heap_alloc_new _ _
  have hb0 : Below w.heap.size w W := by rw [hW]; exact below_alloc0 (Below.refl _ _) _
  rw [← hW]
  have h2 : (W.alloc (.cells #[.int .i64 0, .int .i64 0, .int .i64 0, .int .i64 0, .int .i64 0, .int .i64 0, .int .u64 0, .int .u64 0, .int .u64 0, .bool false, .int .i64 0] 50)).heap[w.heap.size + 1]? = some (.cells #[.int .i64 0, .int .i64 0, .int .i64 0, .int .i64 0, .int .i64 0, .int .i64 0, .int .u64 0, .int .u64 0, .int .u64 0, .bool false, .int .i64 0] 50 (0, 0)) := by
    rw [← e1]; exact Go.heap_alloc_new _ _
  have hb2 : Below W.heap.size W (W.alloc (.cells #[.int .i64 0, .int .i64 0, .int .i64 0, .int .i64 0, .int .i64 0, .int .i64 0, .int .u64 0, .int .u64 0, .int .u64 0, .bool false, .int .i64 0] 50)) := below_alloc0 (Below.refl _ _) _
  exact ⟨below_step hb0 hb0.size hb2, (hb2.block _ (by rw [e1]; omega)).trans h0, h2⟩
end
theorem two {Q : Nat → Prop} {w w' : World} {R : Option Addr} {L : List Int} {b : Nat} (h : ReadsW (fun k => Q k ∧ k ≠ b ∧ k ≠ b + 1) w R L) {j : Nat} (hj : j = b ∨ j = b + 1) (u : Upd j j w w') : ReadsW (fun k => Q k ∧ k ≠ b ∧ k ≠ b + 1) w' R L :=
  h.upd u fun k hk _ => ⟨by have h1 := hk.2.1; have h2 := hk.2.2; omega, by have h1 := hk.2.1; have h2 := hk.2.2; omega, hk⟩
theorem upd_set1 (w : World) (B i : Nat) (v : Value) : Upd B B w (w.setCell ⟨B, i, none⟩ v) := ⟨rfl, rfl, rfl, by simp, fun k hk h1 _ => heap_setCell_other w ⟨B, i, none⟩ k v h1⟩
def SomeV (Q : Nat → Prop) (w : World) (n' : Nat) (L : List Int) (v : Value) (e : Ending) (w' : World) : Prop :=
  ∃ R cap, e = .returned (.tuple #[.slice R n' cap, v]) ∧ ReadsW Q w' R L ∧ Below w.heap.size w w'
abbrev enV0 (e : En) : Value := .agg #[.int .i64 e.top, .int .i64 e.bot, .int .i64 e.ent, .int .i64 e.room]
abbrev rdV (kd pc tp bt en rm b t w : Int) (won : Bool) (out : Int) : Value := .agg #[.int .i64 kd, .int .i64 pc, .int .i64 tp, .int .i64 bt, .int .i64 en, .int .i64 rm, .int .u64 b, .int .u64 t, .int .u64 w, .bool won, .int .i64 out]
set_option maxHeartbeats 1000000 in
theorem rdpush_any (e : En) (x : Int) (w : World) : Calls Tryz.prog 106 #[enV0 e, .int .u64 x] w fun a w' => a = .returned (rdV 1 1 e.top e.bot e.ent e.room 0 0 x false 0) ∧ Below w.heap.size w w' := by
  go_enter Tryz.func106, Tryz.ntmps106
  go_wp2_with (fail)
  exact bodyPost_ret (v := rdV 1 1 e.top e.bot e.ent e.room 0 0 x false 0) (by simp [results, Tryz.results106, go_sem]) rfl ⟨rfl, below_alloc0 (below_alloc0 (Below.refl _ _) _) _⟩
set_option maxHeartbeats 1000000 in
theorem rdend_any (kd pc tp bt en rm b t x : Int) (won : Bool) (out : Int) (o y : Int) (w : World) : Calls Tryz.prog 121 #[rdV kd pc tp bt en rm b t x won out, .int .i64 o, .int .u64 y] w fun a w' => a = .returned (rdV kd 0 0 0 0 0 0 0 y false o) ∧ Below w.heap.size w w' := by
  go_enter Tryz.func121, Tryz.ntmps121
  go_wp2_with (fail)
  exact bodyPost_ret (v := rdV kd 0 0 0 0 0 0 0 y false o) (by simp [results, Tryz.results121, go_sem]) rfl ⟨rfl, below_alloc0 (below_alloc0 (Below.refl _ _) _) _⟩
set_option maxHeartbeats 1000000 in
theorem rdroom_any (e : En) (h : e.room ≤ 1000000000) (w : World) : Calls Tryz.prog 120 #[enV0 e] w fun a w' => a = .returned (.int .u64 (roomOf e)) ∧ Below w.heap.size w w' := by
  by_cases h1 : e.room < 1
  · have d : decide (e.room < 1) = true := by simpa using h1
    have er : roomOf e = 1 := by unfold roomOf; rw [if_pos h1]
    rw [er]
    go_enter Tryz.func120, Tryz.ntmps120
    go_wp2_with (fail)
    go_ret
    exact ⟨rfl, below_alloc0 (Below.refl _ _) _⟩
  · have d : decide (e.room < 1) = false := by simpa using h1
    have er : roomOf e = e.room := by unfold roomOf; rw [if_neg h1]
    rw [er]
    have ew : IntKind.u64.wrap e.room = e.room := by rw [IntKind.wrap_u64]; omega
    go_enter Tryz.func120, Tryz.ntmps120
    go_wp2_with (fail)
    go_ret
    exact ⟨rfl, below_alloc0 (Below.refl _ _) _⟩
set_option maxHeartbeats 1000000 in
theorem rahead_any (a b : Int) (w : World) : Calls Tryz.prog 119 #[.int .u64 a, .int .u64 b] w fun e w' => e = .returned (.int .i64 (ahead a b)) ∧ w = w' := by
  obtain ⟨z, hz⟩ : ∃ z, IntKind.u64.wrap (a - b) = z := ⟨_, rfl⟩
  have hz2 : u64w (a - b) = z := by rw [← hz, IntKind.wrap_u64]; rfl
  have hb : 0 ≤ z ∧ z < 18446744073709551616 := by rw [← hz2]; unfold u64w; omega
  by_cases h : z < 9223372036854775808
  · have e : ahead a b = z := by unfold ahead; rw [hz2, if_pos h]
    have d : decide (z < 9223372036854775808) = true := by simpa using h
    have ew : IntKind.i64.wrap z = z := IntWalk.i64_in _ (by omega)
    rw [e]
    clear hz2 e
    go_enter Tryz.func119, Tryz.ntmps119
    go_wp2_with (fail)
    go_ret
    exact ⟨rfl, rfl⟩
  · have e : ahead a b = z - 18446744073709551616 := by unfold ahead; rw [hz2, if_neg h]
    have d : decide (z < 9223372036854775808) = false := by simpa using h
    have e1 : IntKind.u64.wrap (18446744073709551615 - z) = 18446744073709551615 - z := by rw [IntKind.wrap_u64]; omega
    have e2 : IntKind.i64.wrap (18446744073709551615 - z) = 18446744073709551615 - z := IntWalk.i64_in _ (by omega)
    have e3 : IntKind.i64.wrap (-(18446744073709551615 - z)) = -(18446744073709551615 - z) := IntWalk.i64_in _ (by omega)
    have e4 : IntKind.i64.wrap (-(18446744073709551615 - z) - 1) = -(18446744073709551615 - z) - 1 := IntWalk.i64_in _ (by omega)
    rw [e]
    clear hz2 e
    go_enter Tryz.func119, Tryz.ntmps119
    go_wp2_with (fail)
    go_ret
    exact ⟨ret_int (by omega), rfl⟩
set_option maxHeartbeats 1000000 in
theorem rentry_any (e : En) (x : Int) (ok : EnOk e) (hx : 0 ≤ x) (w : World) : Calls Tryz.prog 122 #[enV0 e, .int .u64 x] w fun a w' => a = .returned (.int .i64 (entOf e x)) ∧ Below w.heap.size w w' := by
  obtain ⟨r0, r1⟩ := ok.rm
  have h0 := ok.lo
  have h1 := ok.hi
  obtain ⟨Rm, hR⟩ : ∃ Rm, Rm = roomOf e := ⟨_, rfl⟩
  obtain ⟨z, hz⟩ : ∃ z, z = entOf e x := ⟨_, rfl⟩
  have hz2 := hz
  unfold entOf at hz2
  rw [← hz]
  rw [← hR] at hz2 r0 r1
  have m0 : 0 ≤ x % Rm := Int.emod_nonneg _ (by omega)
  have m1 : x % Rm < Rm := Int.emod_lt_of_pos _ (by omega)
  have e2 : x.tmod Rm = x % Rm := Int.tmod_eq_emod_of_nonneg hx
  obtain ⟨y, hy⟩ : ∃ y, y = x % Rm := ⟨_, rfl⟩
  rw [← hy] at e2 hz2 m0 m1
  have e3 : IntKind.i64.wrap y = y := by rw [IntKind.wrap_i64]; omega
  have e5 : IntKind.u64.wrap y = y := by rw [IntKind.wrap_u64]; omega
  have e4 : IntKind.i64.wrap (e.ent + y) = z := by rw [IntKind.wrap_i64]; omega
  have hne : (Rm == 0) = false := by rw [beq_eq_false_iff_ne]; omega
  have hne2 : ¬ Rm = 0 := by omega
  have HR := Lib.hid hR; have HRM := Lib.hid ok.room
  have HB0 := Lib.hid (below_alloc0 (Below.refl w.heap.size w) (.cells #[.int .i64 e.top, .int .i64 e.bot, .int .i64 e.ent, .int .i64 e.room] 48))
  have hcl : ∀ w', Below (w.heap.size + 1) (w.alloc (.cells #[.int .i64 e.top, .int .i64 e.bot, .int .i64 e.ent, .int .i64 e.room] 48)) w' → w'.cell? ⟨w.heap.size, 0, none⟩ = some (.int .i64 e.top) ∧ w'.cell? ⟨w.heap.size, 1, none⟩ = some (.int .i64 e.bot) ∧ w'.cell? ⟨w.heap.size, 2, none⟩ = some (.int .i64 e.ent) ∧ w'.cell? ⟨w.heap.size, 3, none⟩ = some (.int .i64 e.room) := fun w' hb => by
    have h : (w.alloc (.cells #[.int .i64 e.top, .int .i64 e.bot, .int .i64 e.ent, .int .i64 e.room] 48)).heap[w.heap.size]? = some (.cells #[.int .i64 e.top, .int .i64 e.bot, .int .i64 e.ent, .int .i64 e.room] 48 (0, 0)) := Array.getElem?_push_size
    have h2 := (hb.block _ (by omega)).trans h
    refine ⟨?_, ?_, ?_, ?_⟩ <;> simp [World.cell?, h2]
  obtain ⟨W, hW⟩ : ∃ W, W = w.alloc (.cells #[.int .i64 e.top, .int .i64 e.bot, .int .i64 e.ent, .int .i64 e.room] 48) := ⟨_, rfl⟩
  have hs : W.heap.size = w.heap.size + 1 := by rw [hW]; simp
  have HCL := Lib.hid hcl
  clear hy hz hR hcl
  rw [← hW] at HB0 HCL
  have HW := Lib.hid hW
  have HBD : Hid (Below (w.heap.size + 1) W W.drew) := Lib.hid (Below.refl _ _).drew
  obtain ⟨c0, c1, c2, c3⟩ := HCL.out _ (Below.refl _ _)
  clear hW
  go_enter Tryz.func122, Tryz.ntmps122
  go_wp2_with (fail)
  rw [← HW.out]
  go_region_held3 (fun w' => w'.cell? ⟨w.heap.size, 0, none⟩ = some (.int .i64 e.top) ∧ w'.cell? ⟨w.heap.size, 1, none⟩ = some (.int .i64 e.bot) ∧ w'.cell? ⟨w.heap.size, 2, none⟩ = some (.int .i64 e.ent) ∧ w'.cell? ⟨w.heap.size, 3, none⟩ = some (.int .i64 e.room))
    (first | exact HCL.out _ HB2.out | exact HCL.out _ HBD.out | go_keep)
    (first
      | (go_at_call 120; (with_reducible refine (rdroom_any e HRM.out _).mono ?_); rintro r w3 ⟨rfl, hb⟩; rw [← HR.out]; have HB2 : Hid (Below (w.heap.size + 1) W w3) := Lib.hid (HBD.out.trans (hb.mono (by show w.heap.size + 1 ≤ W.heap.size; omega))); clear hb)
      | fail)
  all_goals
    go_wp2_with (fail)
    go_ret
    exact ⟨ret_int hz2.symm, HB0.out.trans (HB2.out.mono (by omega))⟩
set_option maxHeartbeats 8000000 in
theorem rdp1 (Q : Nat → Prop) (e : En) (ok : EnOk e) (R : Option Addr) (n' capR : Nat) (L : List Int) (b t x : Int) (won : Bool) (out : Int) (w : World)
    (hn : n' = L.length) (hn2 : n' ≤ 1000000) (hR : ReadsW Q w R L) (hQ : ∀ b, w.heap.size ≤ b → Q b) :
    Calls Tryz.prog 108 #[.slice R n' capR, rdV 1 1 e.top e.bot e.ent e.room b t x won out] w (SomeV Q w n' L (rdV 1 2 e.top e.bot e.ent e.room (ldv L e.bot) t x won out)) := by
  have hqd := QD.new w (.int .i64 1) (.int .i64 1) (.int .i64 e.top) (.int .i64 e.bot) (.int .i64 e.ent) (.int .i64 e.room) (.int .u64 b) (.int .u64 t) (.int .u64 x) (.bool won) (.int .i64 out)
  have HQD := Lib.hid hqd
  obtain ⟨z0, z1, z2, z3, z4, z5, z6, z7, z8, z9, z10⟩ := hqd.mc
  have hfm := hqd.frm
  have hlt0 := hqd.lt
  have HN := Lib.hid hn; have HOK := Lib.hid ok
  have HQ := Lib.hid hQ
  have HR0 : Hid (ReadsW (fun k => Q k ∧ k ≠ w.heap.size ∧ k ≠ w.heap.size + 1) w R L) := Lib.hid (fun h0 => by
    obtain ⟨b, off, e, hb, hp, hc⟩ := hR h0
    exact ⟨b, off, e, hb, ⟨hp, by omega, by omega⟩, hc⟩)
  have HR1 := Lib.hid (HR0.out.below hqd.bel)
  obtain ⟨z, hz⟩ : ∃ z, z = ldv L e.bot := ⟨_, rfl⟩
  rw [← hz]
  have HZ := Lib.hid hz
  clear hz
  obtain ⟨W1, hW1⟩ : ∃ W1, W1 = ((w.alloc (.cells #[.int .i64 1, .int .i64 1, .int .i64 e.top, .int .i64 e.bot, .int .i64 e.ent, .int .i64 e.room, .int .u64 b, .int .u64 t, .int .u64 x, .bool won, .int .i64 out] 50)).alloc (.cells #[.int .i64 0, .int .i64 0, .int .i64 0, .int .i64 0, .int .i64 0, .int .i64 0, .int .u64 0, .int .u64 0, .int .u64 0, .bool false, .int .i64 0] 50)) := ⟨_, rfl⟩
  rw [← hW1] at HQD HR1 z0 z1 z2 z3 z4 z5 z6 z7 z8 z9 z10 hfm
  have HW1 := Lib.hid hW1
  clear hqd hn hR hQ ok
  go_enter Tryz.func108, Tryz.ntmps108
  go_wp2_with (fail)
  rw [← HW1.out]
  clear HW1 hW1
  go_wp2_with (first
    | (go_at_call 53; (with_reducible refine (rload_any R n' capR L e.bot _ HN.out HR1.out.reads).mono ?_); rintro r w4 ⟨rfl, rfl⟩; rw [← HZ.out])
    | fail)
  have hk : QD w ((W1.setCell ⟨w.heap.size, 6, none⟩ (.int .u64 z)).setCell ⟨w.heap.size, 1, none⟩ (.int .i64 2)) (.int .i64 1) (.int .i64 2) (.int .i64 e.top) (.int .i64 e.bot) (.int .i64 e.ent) (.int .i64 e.room) (.int .u64 z) (.int .u64 t) (.int .u64 x) (.bool won) (.int .i64 out) := ((HQD.out.set6 (.int .u64 z)).set1 (.int .i64 2))
  have hr4 : ReadsW (fun k => Q k ∧ k ≠ w.heap.size ∧ k ≠ w.heap.size + 1) ((W1.setCell ⟨w.heap.size, 6, none⟩ (.int .u64 z)).setCell ⟨w.heap.size, 1, none⟩ (.int .i64 2)) R L := (two (two HR1.out (.inl rfl) (upd_set1 _ w.heap.size 6 (.int .u64 z))) (.inl rfl) (upd_set1 _ w.heap.size 1 (.int .i64 2)))
  obtain ⟨W2, hW2⟩ : ∃ W2, W2 = ((W1.setCell ⟨w.heap.size, 6, none⟩ (.int .u64 z)).setCell ⟨w.heap.size, 1, none⟩ (.int .i64 2)) := ⟨_, rfl⟩
  rw [← hW2] at hk hr4 ⊢
  clear hW2 z0 z1 z2 z3 z4 z5 z6 z7 z8 z9 z10 hfm
  obtain ⟨z0, z1, z2, z3, z4, z5, z6, z7, z8, z9, z10⟩ := hk.mc
  obtain ⟨r0, r1, r2, r3, r4, r5, r6, r7, r8, r9, r10⟩ := hk.res
  have hfr := hk.frr
  have HK4 := Lib.hid hk; have HR6 := Lib.hid hr4
  clear hk hr4
  go_region
  go_wp2
  obtain ⟨e0, e1, e2, e3, e4, e5, e6, e7, e8, e9, e10⟩ := HK4.out.putr (u0 := .int .i64 1) (u1 := .int .i64 2) (u2 := .int .i64 e.top) (u3 := .int .i64 e.bot) (u4 := .int .i64 e.ent) (u5 := .int .i64 e.room) (u6 := .int .u64 z) (u7 := .int .u64 t) (u8 := .int .u64 x) (u9 := .bool won) (u10 := .int .i64 out)
  exact bodyPost_ret (v := .tuple #[.slice R n' capR, .agg #[.int .i64 1, .int .i64 2, .int .i64 e.top, .int .i64 e.bot, .int .i64 e.ent, .int .i64 e.room, .int .u64 z, .int .u64 t, .int .u64 x, .bool won, .int .i64 out]]) (by simp [results, Tryz.results108, go_sem, e0, e1, e2, e3, e4, e5, e6, e7, e8, e9, e10]) rfl ⟨_, _, rfl, (HR6.out.upd (put11_upd ..) fun b hb _ => ⟨hb.2.2, hb.2.2, hb.1⟩).below (Below.refl _ _).drew, HK4.out.putb.drew⟩
set_option maxHeartbeats 8000000 in
theorem rdp2m (Q : Nat → Prop) (e : En) (ok : EnOk e) (R : Option Addr) (n' capR : Nat) (L : List Int) (b t x : Int) (won : Bool) (out : Int) (w : World)
    (hn : n' = L.length) (hn2 : n' ≤ 1000000) (hR : ReadsW Q w R L) (hQ : ∀ b, w.heap.size ≤ b → Q b) (hc : ¬ roomOf e ≤ ahead b (ldv L e.top)) (hneg : ahead b (ldv L e.top) < 0) :
    Calls Tryz.prog 108 #[.slice R n' capR, rdV 1 2 e.top e.bot e.ent e.room b t x won out] w (SomeV Q w n' L (rdV 1 3 e.top e.bot e.ent e.room b (ldv L e.top) x won out)) := by
  have hqd := QD.new w (.int .i64 1) (.int .i64 2) (.int .i64 e.top) (.int .i64 e.bot) (.int .i64 e.ent) (.int .i64 e.room) (.int .u64 b) (.int .u64 t) (.int .u64 x) (.bool won) (.int .i64 out)
  have HQD := Lib.hid hqd
  obtain ⟨z0, z1, z2, z3, z4, z5, z6, z7, z8, z9, z10⟩ := hqd.mc
  have hfm := hqd.frm
  have hlt0 := hqd.lt
  have HN := Lib.hid hn; have HOK := Lib.hid ok
  have HQ := Lib.hid hQ
  have HR0 : Hid (ReadsW (fun k => Q k ∧ k ≠ w.heap.size ∧ k ≠ w.heap.size + 1) w R L) := Lib.hid (fun h0 => by
    obtain ⟨b, off, e, hb, hp, hc⟩ := hR h0
    exact ⟨b, off, e, hb, ⟨hp, by omega, by omega⟩, hc⟩)
  have HR1 := Lib.hid (HR0.out.below hqd.bel)
  obtain ⟨z, hz⟩ : ∃ z, z = ldv L e.top := ⟨_, rfl⟩
  rw [← hz] at hc ⊢
  have HZ := Lib.hid hz
  obtain ⟨d, hd⟩ : ∃ d, d = ahead b z := ⟨_, rfl⟩
  rw [← hz] at hneg
  rw [← hd] at hc hneg
  have HD := Lib.hid hd
  obtain ⟨Rm, hRm⟩ : ∃ Rm, Rm = roomOf e := ⟨_, rfl⟩
  rw [← hRm] at hc
  have hr1 := ok.rm
  rw [← hRm] at hr1
  have HRm := Lib.hid hRm
  have hdb : d ≤ 9223372036854775807 := by rw [hd]; unfold ahead u64w; split <;> omega
  have HROK := Lib.hid ok.room
  have d1 : decide (d ≥ 0) = false := by simp; omega
  clear hd hRm hz
  obtain ⟨W1, hW1⟩ : ∃ W1, W1 = ((w.alloc (.cells #[.int .i64 1, .int .i64 2, .int .i64 e.top, .int .i64 e.bot, .int .i64 e.ent, .int .i64 e.room, .int .u64 b, .int .u64 t, .int .u64 x, .bool won, .int .i64 out] 50)).alloc (.cells #[.int .i64 0, .int .i64 0, .int .i64 0, .int .i64 0, .int .i64 0, .int .i64 0, .int .u64 0, .int .u64 0, .int .u64 0, .bool false, .int .i64 0] 50)) := ⟨_, rfl⟩
  rw [← hW1] at HQD HR1 z0 z1 z2 z3 z4 z5 z6 z7 z8 z9 z10 hfm
  have HW1 := Lib.hid hW1
  clear hqd hn hR hQ ok
  go_enter Tryz.func108, Tryz.ntmps108
  go_wp2_with (fail)
  rw [← HW1.out]
  clear HW1 hW1
  go_wp2_with (first
    | (go_at_call 53; (with_reducible refine (rload_any R n' capR L e.top _ HN.out HR1.out.reads).mono ?_); rintro r w4 ⟨rfl, rfl⟩; rw [← HZ.out])
    | (go_at_call 119; (with_reducible refine (rahead_any _ _ _).mono ?_); rintro r w4 ⟨rfl, hw⟩; cases hw; rw [← HD.out])
    | (go_at_call 120; (with_reducible refine (rdroom_any e HROK.out _).mono ?_); rintro r w5 ⟨rfl, hb⟩; rw [← HRm.out]; have HQ2 := Lib.hid ((HQD.out.set7 (.int .u64 z)).step hb); have HR2 := Lib.hid ((two HR1.out (.inl rfl) (upd_set1 _ w.heap.size 7 (.int .u64 z))).below hb); clear hb z0 z1 z2 z3 z4 z5 z6 z7 z8 z9 z10 hfm; obtain ⟨z0, z1, z2, z3, z4, z5, z6, z7, z8, z9, z10⟩ := HQ2.out.mc; have hfm := HQ2.out.frm)
    | fail)
  have hk : QD w ((W1.setCell ⟨w.heap.size, 7, none⟩ (.int .u64 z)).setCell ⟨w.heap.size, 1, none⟩ (.int .i64 3)) (.int .i64 1) (.int .i64 3) (.int .i64 e.top) (.int .i64 e.bot) (.int .i64 e.ent) (.int .i64 e.room) (.int .u64 b) (.int .u64 z) (.int .u64 x) (.bool won) (.int .i64 out) := ((HQD.out.set7 (.int .u64 z)).set1 (.int .i64 3))
  have hr4 : ReadsW (fun k => Q k ∧ k ≠ w.heap.size ∧ k ≠ w.heap.size + 1) ((W1.setCell ⟨w.heap.size, 7, none⟩ (.int .u64 z)).setCell ⟨w.heap.size, 1, none⟩ (.int .i64 3)) R L := (two (two HR1.out (.inl rfl) (upd_set1 _ w.heap.size 7 (.int .u64 z))) (.inl rfl) (upd_set1 _ w.heap.size 1 (.int .i64 3)))
  obtain ⟨W2, hW2⟩ : ∃ W2, W2 = ((W1.setCell ⟨w.heap.size, 7, none⟩ (.int .u64 z)).setCell ⟨w.heap.size, 1, none⟩ (.int .i64 3)) := ⟨_, rfl⟩
  rw [← hW2] at hk hr4 ⊢
  clear hW2 z0 z1 z2 z3 z4 z5 z6 z7 z8 z9 z10 hfm
  obtain ⟨z0, z1, z2, z3, z4, z5, z6, z7, z8, z9, z10⟩ := hk.mc
  obtain ⟨r0, r1, r2, r3, r4, r5, r6, r7, r8, r9, r10⟩ := hk.res
  have hfr := hk.frr
  have HK4 := Lib.hid hk; have HR6 := Lib.hid hr4
  clear hk hr4
  go_region
  go_wp2
  obtain ⟨e0, e1, e2, e3, e4, e5, e6, e7, e8, e9, e10⟩ := HK4.out.putr (u0 := .int .i64 1) (u1 := .int .i64 3) (u2 := .int .i64 e.top) (u3 := .int .i64 e.bot) (u4 := .int .i64 e.ent) (u5 := .int .i64 e.room) (u6 := .int .u64 b) (u7 := .int .u64 z) (u8 := .int .u64 x) (u9 := .bool won) (u10 := .int .i64 out)
  exact bodyPost_ret (v := .tuple #[.slice R n' capR, .agg #[.int .i64 1, .int .i64 3, .int .i64 e.top, .int .i64 e.bot, .int .i64 e.ent, .int .i64 e.room, .int .u64 b, .int .u64 z, .int .u64 x, .bool won, .int .i64 out]]) (by simp [results, Tryz.results108, go_sem, e0, e1, e2, e3, e4, e5, e6, e7, e8, e9, e10]) rfl ⟨_, _, rfl, (HR6.out.upd (put11_upd ..) fun b hb _ => ⟨hb.2.2, hb.2.2, hb.1⟩).below (Below.refl _ _).drew, HK4.out.putb.drew⟩
set_option maxHeartbeats 8000000 in
theorem rdp2n (Q : Nat → Prop) (e : En) (ok : EnOk e) (R : Option Addr) (n' capR : Nat) (L : List Int) (b t x : Int) (won : Bool) (out : Int) (w : World)
    (hn : n' = L.length) (hn2 : n' ≤ 1000000) (hR : ReadsW Q w R L) (hQ : ∀ b, w.heap.size ≤ b → Q b) (hc : ¬ roomOf e ≤ ahead b (ldv L e.top)) (hneg : 0 ≤ ahead b (ldv L e.top)) :
    Calls Tryz.prog 108 #[.slice R n' capR, rdV 1 2 e.top e.bot e.ent e.room b t x won out] w (SomeV Q w n' L (rdV 1 3 e.top e.bot e.ent e.room b (ldv L e.top) x won out)) := by
  have hqd := QD.new w (.int .i64 1) (.int .i64 2) (.int .i64 e.top) (.int .i64 e.bot) (.int .i64 e.ent) (.int .i64 e.room) (.int .u64 b) (.int .u64 t) (.int .u64 x) (.bool won) (.int .i64 out)
  have HQD := Lib.hid hqd
  obtain ⟨z0, z1, z2, z3, z4, z5, z6, z7, z8, z9, z10⟩ := hqd.mc
  have hfm := hqd.frm
  have hlt0 := hqd.lt
  have HN := Lib.hid hn; have HOK := Lib.hid ok
  have HQ := Lib.hid hQ
  have HR0 : Hid (ReadsW (fun k => Q k ∧ k ≠ w.heap.size ∧ k ≠ w.heap.size + 1) w R L) := Lib.hid (fun h0 => by
    obtain ⟨b, off, e, hb, hp, hc⟩ := hR h0
    exact ⟨b, off, e, hb, ⟨hp, by omega, by omega⟩, hc⟩)
  have HR1 := Lib.hid (HR0.out.below hqd.bel)
  obtain ⟨z, hz⟩ : ∃ z, z = ldv L e.top := ⟨_, rfl⟩
  rw [← hz] at hc ⊢
  have HZ := Lib.hid hz
  obtain ⟨d, hd⟩ : ∃ d, d = ahead b z := ⟨_, rfl⟩
  rw [← hz] at hneg
  rw [← hd] at hc hneg
  have HD := Lib.hid hd
  obtain ⟨Rm, hRm⟩ : ∃ Rm, Rm = roomOf e := ⟨_, rfl⟩
  rw [← hRm] at hc
  have hr1 := ok.rm
  rw [← hRm] at hr1
  have HRm := Lib.hid hRm
  have hdb : d ≤ 9223372036854775807 := by rw [hd]; unfold ahead u64w; split <;> omega
  have HROK := Lib.hid ok.room
  have d1 : decide (d ≥ 0) = true := by simp; omega
  have ew : IntKind.u64.wrap d = d := by rw [IntKind.wrap_u64]; omega
  have d2 : decide (d ≥ Rm) = false := by simp; omega
  clear hd hRm hz
  obtain ⟨W1, hW1⟩ : ∃ W1, W1 = ((w.alloc (.cells #[.int .i64 1, .int .i64 2, .int .i64 e.top, .int .i64 e.bot, .int .i64 e.ent, .int .i64 e.room, .int .u64 b, .int .u64 t, .int .u64 x, .bool won, .int .i64 out] 50)).alloc (.cells #[.int .i64 0, .int .i64 0, .int .i64 0, .int .i64 0, .int .i64 0, .int .i64 0, .int .u64 0, .int .u64 0, .int .u64 0, .bool false, .int .i64 0] 50)) := ⟨_, rfl⟩
  rw [← hW1] at HQD HR1 z0 z1 z2 z3 z4 z5 z6 z7 z8 z9 z10 hfm
  have HW1 := Lib.hid hW1
  clear hqd hn hR hQ ok
  go_enter Tryz.func108, Tryz.ntmps108
  go_wp2_with (fail)
  rw [← HW1.out]
  clear HW1 hW1
  go_wp2_with (first
    | (go_at_call 53; (with_reducible refine (rload_any R n' capR L e.top _ HN.out HR1.out.reads).mono ?_); rintro r w4 ⟨rfl, rfl⟩; rw [← HZ.out])
    | (go_at_call 119; (with_reducible refine (rahead_any _ _ _).mono ?_); rintro r w4 ⟨rfl, hw⟩; cases hw; rw [← HD.out])
    | (go_at_call 120; (with_reducible refine (rdroom_any e HROK.out _).mono ?_); rintro r w5 ⟨rfl, hb⟩; rw [← HRm.out]; have HQ2 := Lib.hid ((HQD.out.set7 (.int .u64 z)).step hb); have HR2 := Lib.hid ((two HR1.out (.inl rfl) (upd_set1 _ w.heap.size 7 (.int .u64 z))).below hb); clear hb z0 z1 z2 z3 z4 z5 z6 z7 z8 z9 z10 hfm; obtain ⟨z0, z1, z2, z3, z4, z5, z6, z7, z8, z9, z10⟩ := HQ2.out.mc; have hfm := HQ2.out.frm)
    | fail)
  have hk : QD w (w5.setCell ⟨w.heap.size, 1, none⟩ (.int .i64 3)) (.int .i64 1) (.int .i64 3) (.int .i64 e.top) (.int .i64 e.bot) (.int .i64 e.ent) (.int .i64 e.room) (.int .u64 b) (.int .u64 z) (.int .u64 x) (.bool won) (.int .i64 out) := (HQ2.out.set1 (.int .i64 3))
  have hr4 : ReadsW (fun k => Q k ∧ k ≠ w.heap.size ∧ k ≠ w.heap.size + 1) (w5.setCell ⟨w.heap.size, 1, none⟩ (.int .i64 3)) R L := (two HR2.out (.inl rfl) (upd_set1 _ w.heap.size 1 (.int .i64 3)))
  obtain ⟨W2, hW2⟩ : ∃ W2, W2 = (w5.setCell ⟨w.heap.size, 1, none⟩ (.int .i64 3)) := ⟨_, rfl⟩
  rw [← hW2] at hk hr4 ⊢
  clear hW2 z0 z1 z2 z3 z4 z5 z6 z7 z8 z9 z10 hfm
  obtain ⟨z0, z1, z2, z3, z4, z5, z6, z7, z8, z9, z10⟩ := hk.mc
  obtain ⟨r0, r1, r2, r3, r4, r5, r6, r7, r8, r9, r10⟩ := hk.res
  have hfr := hk.frr
  have HK4 := Lib.hid hk; have HR6 := Lib.hid hr4
  clear hk hr4
  go_region
  go_wp2
  obtain ⟨e0, e1, e2, e3, e4, e5, e6, e7, e8, e9, e10⟩ := HK4.out.putr (u0 := .int .i64 1) (u1 := .int .i64 3) (u2 := .int .i64 e.top) (u3 := .int .i64 e.bot) (u4 := .int .i64 e.ent) (u5 := .int .i64 e.room) (u6 := .int .u64 b) (u7 := .int .u64 z) (u8 := .int .u64 x) (u9 := .bool won) (u10 := .int .i64 out)
  exact bodyPost_ret (v := .tuple #[.slice R n' capR, .agg #[.int .i64 1, .int .i64 3, .int .i64 e.top, .int .i64 e.bot, .int .i64 e.ent, .int .i64 e.room, .int .u64 b, .int .u64 z, .int .u64 x, .bool won, .int .i64 out]]) (by simp [results, Tryz.results108, go_sem, e0, e1, e2, e3, e4, e5, e6, e7, e8, e9, e10]) rfl ⟨_, _, rfl, (HR6.out.upd (put11_upd ..) fun b hb _ => ⟨hb.2.2, hb.2.2, hb.1⟩).below (Below.refl _ _).drew, HK4.out.putb.drew⟩
set_option maxHeartbeats 8000000 in
theorem rdp2y (Q : Nat → Prop) (e : En) (ok : EnOk e) (R : Option Addr) (n' capR : Nat) (L : List Int) (b t x : Int) (won : Bool) (out : Int) (w : World)
    (hn : n' = L.length) (hn2 : n' ≤ 1000000) (hR : ReadsW Q w R L) (hQ : ∀ b, w.heap.size ≤ b → Q b) (hc : roomOf e ≤ ahead b (ldv L e.top)) :
    Calls Tryz.prog 108 #[.slice R n' capR, rdV 1 2 e.top e.bot e.ent e.room b t x won out] w (SomeV Q w n' L (rdV 1 0 0 0 0 0 0 0 0 false 2)) := by
  have hqd := QD.new w (.int .i64 1) (.int .i64 2) (.int .i64 e.top) (.int .i64 e.bot) (.int .i64 e.ent) (.int .i64 e.room) (.int .u64 b) (.int .u64 t) (.int .u64 x) (.bool won) (.int .i64 out)
  have HQD := Lib.hid hqd
  obtain ⟨z0, z1, z2, z3, z4, z5, z6, z7, z8, z9, z10⟩ := hqd.mc
  have hfm := hqd.frm
  have hlt0 := hqd.lt
  have HN := Lib.hid hn; have HOK := Lib.hid ok
  have HQ := Lib.hid hQ
  have HR0 : Hid (ReadsW (fun k => Q k ∧ k ≠ w.heap.size ∧ k ≠ w.heap.size + 1) w R L) := Lib.hid (fun h0 => by
    obtain ⟨b, off, e, hb, hp, hc⟩ := hR h0
    exact ⟨b, off, e, hb, ⟨hp, by omega, by omega⟩, hc⟩)
  have HR1 := Lib.hid (HR0.out.below hqd.bel)
  obtain ⟨z, hz⟩ : ∃ z, z = ldv L e.top := ⟨_, rfl⟩
  rw [← hz] at hc
  have HZ := Lib.hid hz
  obtain ⟨d, hd⟩ : ∃ d, d = ahead b z := ⟨_, rfl⟩
  rw [← hd] at hc
  have HD := Lib.hid hd
  obtain ⟨Rm, hRm⟩ : ∃ Rm, Rm = roomOf e := ⟨_, rfl⟩
  rw [← hRm] at hc
  have hr1 := ok.rm
  rw [← hRm] at hr1
  have HRm := Lib.hid hRm
  have hdb : d ≤ 9223372036854775807 := by rw [hd]; unfold ahead u64w; split <;> omega
  have HROK := Lib.hid ok.room
  have d1 : decide (d ≥ 0) = true := by simp; omega
  have ew : IntKind.u64.wrap d = d := by rw [IntKind.wrap_u64]; omega
  have d2 : decide (d ≥ Rm) = true := by simp; omega
  clear hd hRm hz
  obtain ⟨W1, hW1⟩ : ∃ W1, W1 = ((w.alloc (.cells #[.int .i64 1, .int .i64 2, .int .i64 e.top, .int .i64 e.bot, .int .i64 e.ent, .int .i64 e.room, .int .u64 b, .int .u64 t, .int .u64 x, .bool won, .int .i64 out] 50)).alloc (.cells #[.int .i64 0, .int .i64 0, .int .i64 0, .int .i64 0, .int .i64 0, .int .i64 0, .int .u64 0, .int .u64 0, .int .u64 0, .bool false, .int .i64 0] 50)) := ⟨_, rfl⟩
  rw [← hW1] at HQD HR1 z0 z1 z2 z3 z4 z5 z6 z7 z8 z9 z10 hfm
  have HW1 := Lib.hid hW1
  clear hqd hn hR hQ ok
  go_enter Tryz.func108, Tryz.ntmps108
  go_wp2_with (fail)
  rw [← HW1.out]
  clear HW1 hW1
  go_wp2_with (first
    | (go_at_call 53; (with_reducible refine (rload_any R n' capR L e.top _ HN.out HR1.out.reads).mono ?_); rintro r w4 ⟨rfl, rfl⟩; rw [← HZ.out])
    | (go_at_call 119; (with_reducible refine (rahead_any _ _ _).mono ?_); rintro r w4 ⟨rfl, hw⟩; cases hw; rw [← HD.out])
    | (go_at_call 120; (with_reducible refine (rdroom_any e HROK.out _).mono ?_); rintro r w5 ⟨rfl, hb⟩; rw [← HRm.out]; have HQ2 := Lib.hid ((HQD.out.set7 (.int .u64 z)).step hb); have HR2 := Lib.hid ((two HR1.out (.inl rfl) (upd_set1 _ w.heap.size 7 (.int .u64 z))).below hb); clear hb z0 z1 z2 z3 z4 z5 z6 z7 z8 z9 z10 hfm; obtain ⟨z0, z1, z2, z3, z4, z5, z6, z7, z8, z9, z10⟩ := HQ2.out.mc; have hfm := HQ2.out.frm)
    | (go_at_call 121; (with_reducible refine (rdend_any _ _ _ _ _ _ _ _ _ _ _ _ _ _).mono ?_); rintro r w6 ⟨rfl, hb⟩; have HQ3 := Lib.hid (HQ2.out.step hb); have HR3 := Lib.hid (HR2.out.below hb); clear hb z0 z1 z2 z3 z4 z5 z6 z7 z8 z9 z10 hfm; obtain ⟨r0, r1, r2, r3, r4, r5, r6, r7, r8, r9, r10⟩ := HQ3.out.res; have hfr := HQ3.out.frr)
    | fail)
  obtain ⟨e0, e1, e2, e3, e4, e5, e6, e7, e8, e9, e10⟩ := HQ3.out.putr (u0 := .int .i64 1) (u1 := .int .i64 0) (u2 := .int .i64 0) (u3 := .int .i64 0) (u4 := .int .i64 0) (u5 := .int .i64 0) (u6 := .int .u64 0) (u7 := .int .u64 0) (u8 := .int .u64 0) (u9 := .bool false) (u10 := .int .i64 2)
  exact bodyPost_ret (v := .tuple #[.slice R n' capR, .agg #[.int .i64 1, .int .i64 0, .int .i64 0, .int .i64 0, .int .i64 0, .int .i64 0, .int .u64 0, .int .u64 0, .int .u64 0, .bool false, .int .i64 2]]) (by simp [results, Tryz.results108, go_sem, e0, e1, e2, e3, e4, e5, e6, e7, e8, e9, e10]) rfl ⟨_, _, rfl, HR3.out.upd (put11_upd ..) fun b hb _ => ⟨hb.2.2, hb.2.2, hb.1⟩, HQ3.out.putb⟩
set_option maxHeartbeats 8000000 in
theorem rdp3 (Q : Nat → Prop) (e : En) (ok : EnOk e) (R : Option Addr) (n' capR : Nat) (L : List Int) (b t x : Int) (won : Bool) (out : Int) (w : World)
    (hn : n' = L.length) (hn2 : n' ≤ 1000000) (hR : ReadsW Q w R L) (hQ : ∀ b, w.heap.size ≤ b → Q b) (hb0 : 0 ≤ b) :
    Calls Tryz.prog 108 #[.slice R n' capR, rdV 1 3 e.top e.bot e.ent e.room b t x won out] w (SomeV Q w n' (ptv L (entOf e b) x) (rdV 1 4 e.top e.bot e.ent e.room b t x won out)) := by
  have hqd := QD.new w (.int .i64 1) (.int .i64 3) (.int .i64 e.top) (.int .i64 e.bot) (.int .i64 e.ent) (.int .i64 e.room) (.int .u64 b) (.int .u64 t) (.int .u64 x) (.bool won) (.int .i64 out)
  have HQD := Lib.hid hqd
  obtain ⟨z0, z1, z2, z3, z4, z5, z6, z7, z8, z9, z10⟩ := hqd.mc
  have hfm := hqd.frm
  have hlt0 := hqd.lt
  have HN := Lib.hid hn; have HOK := Lib.hid ok
  have HQ := Lib.hid hQ
  have HR0 : Hid (ReadsW (fun k => Q k ∧ k ≠ w.heap.size ∧ k ≠ w.heap.size + 1) w R L) := Lib.hid (fun h0 => by
    obtain ⟨b, off, e, hb, hp, hc⟩ := hR h0
    exact ⟨b, off, e, hb, ⟨hp, by omega, by omega⟩, hc⟩)
  have HR1 := Lib.hid (HR0.out.below hqd.bel)
  obtain ⟨W1, hW1⟩ : ∃ W1, W1 = ((w.alloc (.cells #[.int .i64 1, .int .i64 3, .int .i64 e.top, .int .i64 e.bot, .int .i64 e.ent, .int .i64 e.room, .int .u64 b, .int .u64 t, .int .u64 x, .bool won, .int .i64 out] 50)).alloc (.cells #[.int .i64 0, .int .i64 0, .int .i64 0, .int .i64 0, .int .i64 0, .int .i64 0, .int .u64 0, .int .u64 0, .int .u64 0, .bool false, .int .i64 0] 50)) := ⟨_, rfl⟩
  rw [← hW1] at HQD HR1 z0 z1 z2 z3 z4 z5 z6 z7 z8 z9 z10 hfm
  have HW1 := Lib.hid hW1
  have HQDD := Lib.hid HQD.out.drew
  have HRD := Lib.hid (HR1.out.below (Below.refl _ _).drew)
  clear hqd hn hR hQ ok
  go_enter Tryz.func108, Tryz.ntmps108
  go_wp2_with (fail)
  rw [← HW1.out]
  clear HW1 hW1
  go_wp2_with (fail)
  go_region_held3 (fun w' => w'.cell? ⟨w.heap.size, 0, none⟩ = some (.int .i64 1) ∧ w'.cell? ⟨w.heap.size, 1, none⟩ = some (.int .i64 3) ∧ w'.cell? ⟨w.heap.size, 2, none⟩ = some (.int .i64 e.top) ∧ w'.cell? ⟨w.heap.size, 3, none⟩ = some (.int .i64 e.bot) ∧ w'.cell? ⟨w.heap.size, 4, none⟩ = some (.int .i64 e.ent) ∧ w'.cell? ⟨w.heap.size, 5, none⟩ = some (.int .i64 e.room) ∧ w'.cell? ⟨w.heap.size, 6, none⟩ = some (.int .u64 b) ∧ w'.cell? ⟨w.heap.size, 7, none⟩ = some (.int .u64 t) ∧ w'.cell? ⟨w.heap.size, 8, none⟩ = some (.int .u64 x) ∧ w'.cell? ⟨w.heap.size, 9, none⟩ = some (.bool won) ∧ w'.cell? ⟨w.heap.size, 10, none⟩ = some (.int .i64 out))
    (first | (with_reducible exact HQ3.out.mc) | (with_reducible exact HQ2.out.mc) | (with_reducible exact HQDD.out.mc) | go_keep)
    (first
      | (go_at_call 122; (with_reducible refine (rentry_any e b HOK.out hb0 _).mono ?_); rintro r w4 ⟨rfl, hb⟩; have HQ2 := Lib.hid (HQDD.out.step hb); have HR2 := Lib.hid (HRD.out.below hb); clear hb)
      | (go_at_call 22; (with_reducible refine (rput_any (fun k => Q k ∧ k ≠ w.heap.size ∧ k ≠ w.heap.size + 1) R n' capR L (entOf e b) x _ HN.out hn2 HR2.out (fun b hb => by have := HQ2.out.lt; exact ⟨HQ.out b (by omega), by omega, by omega⟩)).mono ?_); rintro r w5 ⟨R2, cap2, rfl, hx, hb⟩; have HQ3 := Lib.hid (HQ2.out.step hb); have HR3 := Lib.hid hx; clear hb hx z0 z1 z2 z3 z4 z5 z6 z7 z8 z9 z10 hfm; obtain ⟨z0, z1, z2, z3, z4, z5, z6, z7, z8, z9, z10⟩ := HQ3.out.mc; have hfm := HQ3.out.frm)
      | fail)
  all_goals
    go_wp2_with (fail)
    have hk : QD w (w5.setCell ⟨w.heap.size, 1, none⟩ (.int .i64 4)) (.int .i64 1) (.int .i64 4) (.int .i64 e.top) (.int .i64 e.bot) (.int .i64 e.ent) (.int .i64 e.room) (.int .u64 b) (.int .u64 t) (.int .u64 x) (.bool won) (.int .i64 out) := (HQ3.out.set1 (.int .i64 4))
    have hr4 : ReadsW (fun k => Q k ∧ k ≠ w.heap.size ∧ k ≠ w.heap.size + 1) (w5.setCell ⟨w.heap.size, 1, none⟩ (.int .i64 4)) R2 (ptv L (entOf e b) x) := (two HR3.out (.inl rfl) (upd_set1 _ w.heap.size 1 (.int .i64 4)))
    obtain ⟨W2, hW2⟩ : ∃ W2, W2 = (w5.setCell ⟨w.heap.size, 1, none⟩ (.int .i64 4)) := ⟨_, rfl⟩
    rw [← hW2] at hk hr4 ⊢
    clear hW2 z0 z1 z2 z3 z4 z5 z6 z7 z8 z9 z10 hfm
    obtain ⟨z0, z1, z2, z3, z4, z5, z6, z7, z8, z9, z10⟩ := hk.mc
    obtain ⟨r0, r1, r2, r3, r4, r5, r6, r7, r8, r9, r10⟩ := hk.res
    have hfr := hk.frr
    have HK4 := Lib.hid hk; have HR6 := Lib.hid hr4
    clear hk hr4
    go_region
    go_wp2
    obtain ⟨e0, e1, e2, e3, e4, e5, e6, e7, e8, e9, e10⟩ := HK4.out.putr (u0 := .int .i64 1) (u1 := .int .i64 4) (u2 := .int .i64 e.top) (u3 := .int .i64 e.bot) (u4 := .int .i64 e.ent) (u5 := .int .i64 e.room) (u6 := .int .u64 b) (u7 := .int .u64 t) (u8 := .int .u64 x) (u9 := .bool won) (u10 := .int .i64 out)
    exact bodyPost_ret (v := .tuple #[.slice R2 n' cap2, .agg #[.int .i64 1, .int .i64 4, .int .i64 e.top, .int .i64 e.bot, .int .i64 e.ent, .int .i64 e.room, .int .u64 b, .int .u64 t, .int .u64 x, .bool won, .int .i64 out]]) (by simp [results, Tryz.results108, go_sem, e0, e1, e2, e3, e4, e5, e6, e7, e8, e9, e10]) rfl ⟨_, _, rfl, (HR6.out.upd (put11_upd ..) fun b hb _ => ⟨hb.2.2, hb.2.2, hb.1⟩).below (Below.refl _ _).drew, HK4.out.putb.drew⟩
set_option maxHeartbeats 8000000 in
theorem rdp4 (Q : Nat → Prop) (e : En) (ok : EnOk e) (R : Option Addr) (n' capR : Nat) (L : List Int) (b t x : Int) (won : Bool) (out : Int) (w : World)
    (hn : n' = L.length) (hn2 : n' ≤ 1000000) (hR : ReadsW Q w R L) (hQ : ∀ b, w.heap.size ≤ b → Q b) :
    Calls Tryz.prog 108 #[.slice R n' capR, rdV 1 4 e.top e.bot e.ent e.room b t x won out] w (SomeV Q w n' (ptv L e.bot (u64w (b + 1))) (rdV 1 0 0 0 0 0 0 0 0 false 1)) := by
  have hqd := QD.new w (.int .i64 1) (.int .i64 4) (.int .i64 e.top) (.int .i64 e.bot) (.int .i64 e.ent) (.int .i64 e.room) (.int .u64 b) (.int .u64 t) (.int .u64 x) (.bool won) (.int .i64 out)
  have HQD := Lib.hid hqd
  obtain ⟨z0, z1, z2, z3, z4, z5, z6, z7, z8, z9, z10⟩ := hqd.mc
  have hfm := hqd.frm
  have hlt0 := hqd.lt
  have HN := Lib.hid hn; have HOK := Lib.hid ok
  have HQ := Lib.hid hQ
  have HR0 : Hid (ReadsW (fun k => Q k ∧ k ≠ w.heap.size ∧ k ≠ w.heap.size + 1) w R L) := Lib.hid (fun h0 => by
    obtain ⟨b, off, e, hb, hp, hc⟩ := hR h0
    exact ⟨b, off, e, hb, ⟨hp, by omega, by omega⟩, hc⟩)
  have HR1 := Lib.hid (HR0.out.below hqd.bel)
  obtain ⟨y, hy⟩ : ∃ y, IntKind.u64.wrap (b + 1) = y := ⟨_, rfl⟩
  have hy2 : u64w (b + 1) = y := by rw [← hy, IntKind.wrap_u64]; rfl
  rw [hy2]
  clear hy2
  obtain ⟨W1, hW1⟩ : ∃ W1, W1 = ((w.alloc (.cells #[.int .i64 1, .int .i64 4, .int .i64 e.top, .int .i64 e.bot, .int .i64 e.ent, .int .i64 e.room, .int .u64 b, .int .u64 t, .int .u64 x, .bool won, .int .i64 out] 50)).alloc (.cells #[.int .i64 0, .int .i64 0, .int .i64 0, .int .i64 0, .int .i64 0, .int .i64 0, .int .u64 0, .int .u64 0, .int .u64 0, .bool false, .int .i64 0] 50)) := ⟨_, rfl⟩
  rw [← hW1] at HQD HR1 z0 z1 z2 z3 z4 z5 z6 z7 z8 z9 z10 hfm
  have HW1 := Lib.hid hW1
  have HQDD := Lib.hid HQD.out.drew
  have HRD := Lib.hid (HR1.out.below (Below.refl _ _).drew)
  clear hqd hn hR hQ ok
  go_enter Tryz.func108, Tryz.ntmps108
  go_wp2_with (fail)
  rw [← HW1.out]
  clear HW1 hW1
  go_wp2_with (fail)
  go_region_held3 (fun w' => w'.cell? ⟨w.heap.size, 0, none⟩ = some (.int .i64 1) ∧ w'.cell? ⟨w.heap.size, 1, none⟩ = some (.int .i64 4) ∧ w'.cell? ⟨w.heap.size, 2, none⟩ = some (.int .i64 e.top) ∧ w'.cell? ⟨w.heap.size, 3, none⟩ = some (.int .i64 e.bot) ∧ w'.cell? ⟨w.heap.size, 4, none⟩ = some (.int .i64 e.ent) ∧ w'.cell? ⟨w.heap.size, 5, none⟩ = some (.int .i64 e.room) ∧ w'.cell? ⟨w.heap.size, 6, none⟩ = some (.int .u64 b) ∧ w'.cell? ⟨w.heap.size, 7, none⟩ = some (.int .u64 t) ∧ w'.cell? ⟨w.heap.size, 8, none⟩ = some (.int .u64 x) ∧ w'.cell? ⟨w.heap.size, 9, none⟩ = some (.bool won) ∧ w'.cell? ⟨w.heap.size, 10, none⟩ = some (.int .i64 out))
    (first | (with_reducible exact HPM.out) | (with_reducible exact HQ3.out.mc) | (with_reducible exact HQ2.out.mc) | (with_reducible exact HQDD.out.mc) | go_keep)
    (first
      | (go_at_call 22; (with_reducible refine (rput_any (fun k => Q k ∧ k ≠ w.heap.size ∧ k ≠ w.heap.size + 1) R n' capR L e.bot y _ HN.out hn2 HRD.out (fun b hb => by have := HQDD.out.lt; exact ⟨HQ.out b (by omega), by omega, by omega⟩)).mono ?_); rintro r w5 ⟨R2, cap2, rfl, hx, hb⟩; have HQ2 := Lib.hid (HQDD.out.step hb); have HR2 := Lib.hid hx; clear hb hx)
      | (go_at_call 121; (with_reducible refine (rdend_any _ _ _ _ _ _ _ _ _ _ _ _ _ _).mono ?_); rintro r w6 ⟨rfl, hb⟩; have HQ3 := Lib.hid (HQ2.out.step hb); have HR3 := Lib.hid (HR2.out.below hb); clear hb; obtain ⟨r0, r1, r2, r3, r4, r5, r6, r7, r8, r9, r10⟩ := HQ3.out.res; have hfr := HQ3.out.frr; have HPM := Lib.hid (HQ3.out.putm (u0 := .int .i64 1) (u1 := .int .i64 0) (u2 := .int .i64 0) (u3 := .int .i64 0) (u4 := .int .i64 0) (u5 := .int .i64 0) (u6 := .int .u64 0) (u7 := .int .u64 0) (u8 := .int .u64 0) (u9 := .bool false) (u10 := .int .i64 1)))
      | fail)
  all_goals
    go_wp2_with (fail)
    obtain ⟨e0, e1, e2, e3, e4, e5, e6, e7, e8, e9, e10⟩ := HQ3.out.putr (u0 := .int .i64 1) (u1 := .int .i64 0) (u2 := .int .i64 0) (u3 := .int .i64 0) (u4 := .int .i64 0) (u5 := .int .i64 0) (u6 := .int .u64 0) (u7 := .int .u64 0) (u8 := .int .u64 0) (u9 := .bool false) (u10 := .int .i64 1)
    exact bodyPost_ret (v := .tuple #[.slice R2 n' cap2, .agg #[.int .i64 1, .int .i64 0, .int .i64 0, .int .i64 0, .int .i64 0, .int .i64 0, .int .u64 0, .int .u64 0, .int .u64 0, .bool false, .int .i64 1]]) (by simp [results, Tryz.results108, go_sem, e0, e1, e2, e3, e4, e5, e6, e7, e8, e9, e10]) rfl ⟨_, _, rfl, HR3.out.upd (put11_upd ..) fun b hb _ => ⟨hb.2.2, hb.2.2, hb.1⟩, HQ3.out.putb⟩
def NotTwo (Q : Nat → Prop) (s : Nat) (k : Nat) : Prop := Q k ∧ k ≠ s ∧ k ≠ s + 1
set_option maxHeartbeats 8000000 in
theorem rdstep_on (Q : Nat → Prop) (R : Option Addr) (n' capR : Nat) (L L' : List Int) (pc tp bt en rm b t x : Int) (won : Bool) (out pc' tp' bt' en' rm' b' t' x' : Int) (won' : Bool) (out' : Int) (w : World)
    (hR : ReadsW Q w R L) (hpc : (pc == 0) = false)
    (HC : ∀ w1, w.heap.size + 1 < w1.heap.size → ReadsW (NotTwo Q w.heap.size) w1 R L → Calls Tryz.prog 108 #[.slice R n' capR, rdV 1 pc tp bt en rm b t x won out] w1 (SomeV (NotTwo Q w.heap.size) w1 n' L' (rdV 1 pc' tp' bt' en' rm' b' t' x' won' out'))) :
    Calls Tryz.prog 87 #[.slice R n' capR, rdV 1 pc tp bt en rm b t x won out] w (SomeV Q w n' L' (rdV 1 pc' tp' bt' en' rm' b' t' x' won' out')) := by
  have hqd := QD.new w (.int .i64 1) (.int .i64 pc) (.int .i64 tp) (.int .i64 bt) (.int .i64 en) (.int .i64 rm) (.int .u64 b) (.int .u64 t) (.int .u64 x) (.bool won) (.int .i64 out)
  have HQD := Lib.hid hqd
  obtain ⟨z0, z1, z2, z3, z4, z5, z6, z7, z8, z9, z10⟩ := hqd.mc
  have hlt0 := hqd.lt
  have HR0 : ReadsW (NotTwo Q w.heap.size) w R L := fun h0 => by
    obtain ⟨b, off, e, hb, hp, hc⟩ := hR h0
    exact ⟨b, off, e, hb, ⟨hp, by omega, by omega⟩, hc⟩
  have HR1 := Lib.hid (HR0.below hqd.bel)
  have HCC := Lib.hid HC
  obtain ⟨W1, hW1⟩ : ∃ W1, W1 = ((w.alloc (.cells #[.int .i64 1, .int .i64 pc, .int .i64 tp, .int .i64 bt, .int .i64 en, .int .i64 rm, .int .u64 b, .int .u64 t, .int .u64 x, .bool won, .int .i64 out] 50)).alloc (.cells #[.int .i64 0, .int .i64 0, .int .i64 0, .int .i64 0, .int .i64 0, .int .i64 0, .int .u64 0, .int .u64 0, .int .u64 0, .bool false, .int .i64 0] 50)) := ⟨_, rfl⟩
  rw [← hW1] at HQD HR1 z0 z1 z2 z3 z4 z5 z6 z7 z8 z9 z10
  have HW1 := Lib.hid hW1
  clear hqd hR HR0 HC
  go_enter Tryz.func87, Tryz.ntmps87
  go_wp2_with (fail)
  rw [← HW1.out]
  clear HW1 hW1
  go_wp2_with (first
    | (go_at_call 108; (with_reducible refine (HCC.out _ HQD.out.lt HR1.out).mono ?_); rintro r w4 ⟨R2, cap2, rfl, hx, hb⟩; have HQ2 := Lib.hid (HQD.out.step hb); have HR2 := Lib.hid hx; clear hb hx z0 z1 z2 z3 z4 z5 z6 z7 z8 z9 z10; obtain ⟨r0, r1, r2, r3, r4, r5, r6, r7, r8, r9, r10⟩ := HQ2.out.res; have hfr := HQ2.out.frr)
    | fail)
  obtain ⟨e0, e1, e2, e3, e4, e5, e6, e7, e8, e9, e10⟩ := HQ2.out.putr (u0 := .int .i64 1) (u1 := .int .i64 pc') (u2 := .int .i64 tp') (u3 := .int .i64 bt') (u4 := .int .i64 en') (u5 := .int .i64 rm') (u6 := .int .u64 b') (u7 := .int .u64 t') (u8 := .int .u64 x') (u9 := .bool won') (u10 := .int .i64 out')
  exact bodyPost_ret (v := .tuple #[.slice R2 n' cap2, .agg #[.int .i64 1, .int .i64 pc', .int .i64 tp', .int .i64 bt', .int .i64 en', .int .i64 rm', .int .u64 b', .int .u64 t', .int .u64 x', .bool won', .int .i64 out']]) (by simp [results, Tryz.results87, go_sem, e0, e1, e2, e3, e4, e5, e6, e7, e8, e9, e10]) rfl ⟨_, _, rfl, HR2.out.upd (put11_upd ..) fun b hb _ => ⟨hb.2.2, hb.2.2, hb.1⟩, HQ2.out.putb⟩
set_option maxHeartbeats 8000000 in
theorem rdstep_off (Q : Nat → Prop) (R : Option Addr) (n' capR : Nat) (L : List Int) (tp bt en rm b t x : Int) (won : Bool) (out : Int) (w : World)
    (hR : ReadsW Q w R L) (hQ : ∀ b, w.heap.size ≤ b → Q b) :
    Calls Tryz.prog 87 #[.slice R n' capR, rdV 1 0 tp bt en rm b t x won out] w (SomeV Q w n' L (rdV 1 0 tp bt en rm b t x won out)) := by
  have hb := (QD.new w (.int .i64 1) (.int .i64 0) (.int .i64 tp) (.int .i64 bt) (.int .i64 en) (.int .i64 rm) (.int .u64 b) (.int .u64 t) (.int .u64 x) (.bool won) (.int .i64 out)).bel
  have HB2 := Lib.hid (below_alloc0 (below_alloc0 (Below.refl w.heap.size w) (.cells #[.int .i64 1, .int .i64 0, .int .i64 tp, .int .i64 bt, .int .i64 en, .int .i64 rm, .int .u64 b, .int .u64 t, .int .u64 x, .bool won, .int .i64 out] 50)) (.cells #[.int .i64 1, .int .i64 0, .int .i64 tp, .int .i64 bt, .int .i64 en, .int .i64 rm, .int .u64 b, .int .u64 t, .int .u64 x, .bool won, .int .i64 out] 50)).drew
  have HR := Lib.hid hR
  clear hb hR
  go_enter Tryz.func87, Tryz.ntmps87
  go_wp2_with (fail)
  go_region
  go_wp2
  exact bodyPost_ret (v := .tuple #[.slice R n' capR, .agg #[.int .i64 1, .int .i64 0, .int .i64 tp, .int .i64 bt, .int .i64 en, .int .i64 rm, .int .u64 b, .int .u64 t, .int .u64 x, .bool won, .int .i64 out]]) (by simp [results, Tryz.results87, go_sem]) rfl ⟨_, _, rfl, HR.out.below HB2.out, HB2.out⟩
def rdOf (m : Mc) : Value := if m.pc = 0 then rdV 1 0 0 0 0 0 0 0 m.w false m.out else rdV 1 m.pc m.e.top m.e.bot m.e.ent m.e.room m.b m.t m.w m.won m.out
theorem rdstep_any (Q : Nat → Prop) (R : Option Addr) (n' capR : Nat) (L : List Int) (m : Mc) (w : World) (hn : n' = L.length) (hn2 : n' ≤ 1000000) (hR : ReadsW Q w R L) (hQ : ∀ b, w.heap.size ≤ b → Q b)
    (hk : m.kind = 1) (h4 : m.pc ≤ 4) (ok : EnOk m.e) (hb : 0 ≤ m.b) :
    Calls Tryz.prog 87 #[.slice R n' capR, rdOf m] w (SomeV Q w n' (stp L m).1 (rdOf (stp L m).2)) := by
  obtain ⟨kd, pc, e, b, t, x, won, out⟩ := m
  dsimp only at hk h4 ok hb
  subst hk
  have far : ∀ w1 : World, w.heap.size + 1 < w1.heap.size → ∀ b, w1.heap.size ≤ b → NotTwo Q w.heap.size b := fun w1 h b hb => ⟨hQ b (by omega), by omega, by omega⟩
  have hp : pc = 0 ∨ pc = 1 ∨ pc = 2 ∨ pc = 3 ∨ pc = 4 := by omega
  rcases hp with rfl | rfl | rfl | rfl | rfl
  · have es : stp L ⟨1, 0, e, b, t, x, won, out⟩ = (L, ⟨1, 0, e, b, t, x, won, out⟩) := by simp [stp]
    rw [es]
    exact rdstep_off Q R n' capR L 0 0 0 0 0 0 x false out w hR hQ
  · have es : stp L ⟨1, 1, e, b, t, x, won, out⟩ = (L, ⟨1, 2, e, ldq L e.bot, t, x, won, out⟩) := by simp [stp, pushS]
    rw [es, ← ldv_eq]
    exact rdstep_on Q R n' capR L L 1 e.top e.bot e.ent e.room b t x won out 2 e.top e.bot e.ent e.room (ldv L e.bot) t x won out w hR rfl fun w1 h1 h2 => rdp1 (NotTwo Q w.heap.size) e ok R n' capR L b t x won out w1 hn hn2 h2 (far w1 h1)
  · by_cases hc : roomOf e ≤ ahead b (ldq L e.top)
    · have es : stp L ⟨1, 2, e, b, t, x, won, out⟩ = (L, ⟨1, 0, e, b, t, 0, won, 2⟩) := by simp [stp, pushS, hc, fin]
      rw [es]
      rw [← ldv_eq] at hc
      exact rdstep_on Q R n' capR L L 2 e.top e.bot e.ent e.room b t x won out 0 0 0 0 0 0 0 0 false 2 w hR rfl fun w1 h1 h2 => rdp2y (NotTwo Q w.heap.size) e ok R n' capR L b t x won out w1 hn hn2 h2 (far w1 h1) hc
    · have es : stp L ⟨1, 2, e, b, t, x, won, out⟩ = (L, ⟨1, 3, e, b, ldq L e.top, x, won, out⟩) := by simp [stp, pushS, hc]
      rw [es, ← ldv_eq]
      rw [← ldv_eq] at hc
      refine rdstep_on Q R n' capR L L 2 e.top e.bot e.ent e.room b t x won out 3 e.top e.bot e.ent e.room b (ldv L e.top) x won out w hR rfl fun w1 h1 h2 => ?_
      by_cases hg : 0 ≤ ahead b (ldv L e.top)
      · exact rdp2n (NotTwo Q w.heap.size) e ok R n' capR L b t x won out w1 hn hn2 h2 (far w1 h1) hc hg
      · exact rdp2m (NotTwo Q w.heap.size) e ok R n' capR L b t x won out w1 hn hn2 h2 (far w1 h1) hc (by omega)
  · have es : stp L ⟨1, 3, e, b, t, x, won, out⟩ = (ptq L (entOf e b) x, ⟨1, 4, e, b, t, x, won, out⟩) := by simp [stp, pushS]
    rw [es, ← ptv_eq]
    exact rdstep_on Q R n' capR L _ 3 e.top e.bot e.ent e.room b t x won out 4 e.top e.bot e.ent e.room b t x won out w hR rfl fun w1 h1 h2 => rdp3 (NotTwo Q w.heap.size) e ok R n' capR L b t x won out w1 hn hn2 h2 (far w1 h1) hb
  · have es : stp L ⟨1, 4, e, b, t, x, won, out⟩ = (ptq L e.bot (u64w (b + 1)), ⟨1, 0, e, b, t, 0, won, 1⟩) := by simp [stp, pushS, fin]
    rw [es, ← ptv_eq]
    exact rdstep_on Q R n' capR L _ 4 e.top e.bot e.ent e.room b t x won out 0 0 0 0 0 0 0 0 false 1 w hR rfl fun w1 h1 h2 => rdp4 (NotTwo Q w.heap.size) e ok R n' capR L b t x won out w1 hn hn2 h2 (far w1 h1)
end Go.Proofs.YtpocihddecemfaaGreat.Dg
