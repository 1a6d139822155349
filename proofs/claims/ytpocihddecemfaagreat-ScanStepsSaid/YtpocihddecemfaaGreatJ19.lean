/-  -/
import Derived.Test.YtpocihddecemfaaGreatJ1
import Derived.Test.YtpocihddecemfaaGreatJ13
import Derived.Test.YtpocihddecemfaaGreatRefSt
namespace Go.Proofs.YtpocihddecemfaaGreat
open Go.RowKit
set_option linter.unusedVariables false
set_option maxRecDepth 100000
abbrev put13 (w : World) (B : Nat) (u0 u1 u2 u3 u4 u5 u6 u7 u8 u9 u10 u11 u12 : Value) : World := (((((((((((((w.setCell ⟨B, 0, none⟩ u0).setCell ⟨B, 1, none⟩ u1).setCell ⟨B, 2, none⟩ u2).setCell ⟨B, 3, none⟩ u3).setCell ⟨B, 4, none⟩ u4).setCell ⟨B, 5, none⟩ u5).setCell ⟨B, 6, none⟩ u6).setCell ⟨B, 7, none⟩ u7).setCell ⟨B, 8, none⟩ u8).setCell ⟨B, 9, none⟩ u9).setCell ⟨B, 10, none⟩ u10).setCell ⟨B, 11, none⟩ u11).setCell ⟨B, 12, none⟩ u12)
theorem put13_same (w : World) (B : Nat) (t : TypeId) (x0 x1 x2 x3 x4 x5 x6 x7 x8 x9 x10 x11 x12 : Value) (h : w.heap[B]? = some (.cells #[x0, x1, x2, x3, x4, x5, x6, x7, x8, x9, x10, x11, x12] t (0, 0))) (u0 u1 u2 u3 u4 u5 u6 u7 u8 u9 u10 u11 u12 : Value) : (put13 w B u0 u1 u2 u3 u4 u5 u6 u7 u8 u9 u10 u11 u12).heap[B]? = some (.cells #[u0, u1, u2, u3, u4, u5, u6, u7, u8, u9, u10, u11, u12] t (0, 0)) := by
  have h0 : (w.setCell ⟨B, 0, none⟩ u0).heap[B]? = some (.cells #[u0, x1, x2, x3, x4, x5, x6, x7, x8, x9, x10, x11, x12] t (0, 0)) := (heap_setCell_same _ B 0 _ t u0 h).trans (congrArg (fun c => some (Obj.cells c t (0, 0))) (show (#[x0, x1, x2, x3, x4, x5, x6, x7, x8, x9, x10, x11, x12] : Array Value).setIfInBounds 0 u0 = #[u0, x1, x2, x3, x4, x5, x6, x7, x8, x9, x10, x11, x12] from rfl))
  have h1 : ((w.setCell ⟨B, 0, none⟩ u0).setCell ⟨B, 1, none⟩ u1).heap[B]? = some (.cells #[u0, u1, x2, x3, x4, x5, x6, x7, x8, x9, x10, x11, x12] t (0, 0)) := (heap_setCell_same _ B 1 _ t u1 h0).trans (congrArg (fun c => some (Obj.cells c t (0, 0))) (show (#[u0, x1, x2, x3, x4, x5, x6, x7, x8, x9, x10, x11, x12] : Array Value).setIfInBounds 1 u1 = #[u0, u1, x2, x3, x4, x5, x6, x7, x8, x9, x10, x11, x12] from rfl))
  have h2 : (((w.setCell ⟨B, 0, none⟩ u0).setCell ⟨B, 1, none⟩ u1).setCell ⟨B, 2, none⟩ u2).heap[B]? = some (.cells #[u0, u1, u2, x3, x4, x5, x6, x7, x8, x9, x10, x11, x12] t (0, 0)) := (heap_setCell_same _ B 2 _ t u2 h1).trans (congrArg (fun c => some (Obj.cells c t (0, 0))) (show (#[u0, u1, x2, x3, x4, x5, x6, x7, x8, x9, x10, x11, x12] : Array Value).setIfInBounds 2 u2 = #[u0, u1, u2, x3, x4, x5, x6, x7, x8, x9, x10, x11, x12] from rfl))
  have h3 : ((((w.setCell ⟨B, 0, none⟩ u0).setCell ⟨B, 1, none⟩ u1).setCell ⟨B, 2, none⟩ u2).setCell ⟨B, 3, none⟩ u3).heap[B]? = some (.cells #[u0, u1, u2, u3, x4, x5, x6, x7, x8, x9, x10, x11, x12] t (0, 0)) := (heap_setCell_same _ B 3 _ t u3 h2).trans (congrArg (fun c => some (Obj.cells c t (0, 0))) (show (#[u0, u1, u2, x3, x4, x5, x6, x7, x8, x9, x10, x11, x12] : Array Value).setIfInBounds 3 u3 = #[u0, u1, u2, u3, x4, x5, x6, x7, x8, x9, x10, x11, x12] from rfl))
  have h4 : (((((w.setCell ⟨B, 0, none⟩ u0).setCell ⟨B, 1, none⟩ u1).setCell ⟨B, 2, none⟩ u2).setCell ⟨B, 3, none⟩ u3).setCell ⟨B, 4, none⟩ u4).heap[B]? = some (.cells #[u0, u1, u2, u3, u4, x5, x6, x7, x8, x9, x10, x11, x12] t (0, 0)) := (heap_setCell_same _ B 4 _ t u4 h3).trans (congrArg (fun c => some (Obj.cells c t (0, 0))) (show (#[u0, u1, u2, u3, x4, x5, x6, x7, x8, x9, x10, x11, x12] : Array Value).setIfInBounds 4 u4 = #[u0, u1, u2, u3, u4, x5, x6, x7, x8, x9, x10, x11, x12] from rfl))
  have h5 : ((((((w.setCell ⟨B, 0, none⟩ u0).setCell ⟨B, 1, none⟩ u1).setCell ⟨B, 2, none⟩ u2).setCell ⟨B, 3, none⟩ u3).setCell ⟨B, 4, none⟩ u4).setCell ⟨B, 5, none⟩ u5).heap[B]? = some (.cells #[u0, u1, u2, u3, u4, u5, x6, x7, x8, x9, x10, x11, x12] t (0, 0)) := (heap_setCell_same _ B 5 _ t u5 h4).trans (congrArg (fun c => some (Obj.cells c t (0, 0))) (show (#[u0, u1, u2, u3, u4, x5, x6, x7, x8, x9, x10, x11, x12] : Array Value).setIfInBounds 5 u5 = #[u0, u1, u2, u3, u4, u5, x6, x7, x8, x9, x10, x11, x12] from rfl))
  have h6 : (((((((w.setCell ⟨B, 0, none⟩ u0).setCell ⟨B, 1, none⟩ u1).setCell ⟨B, 2, none⟩ u2).setCell ⟨B, 3, none⟩ u3).setCell ⟨B, 4, none⟩ u4).setCell ⟨B, 5, none⟩ u5).setCell ⟨B, 6, none⟩ u6).heap[B]? = some (.cells #[u0, u1, u2, u3, u4, u5, u6, x7, x8, x9, x10, x11, x12] t (0, 0)) := (heap_setCell_same _ B 6 _ t u6 h5).trans (congrArg (fun c => some (Obj.cells c t (0, 0))) (show (#[u0, u1, u2, u3, u4, u5, x6, x7, x8, x9, x10, x11, x12] : Array Value).setIfInBounds 6 u6 = #[u0, u1, u2, u3, u4, u5, u6, x7, x8, x9, x10, x11, x12] from rfl))
  have h7 : ((((((((w.setCell ⟨B, 0, none⟩ u0).setCell ⟨B, 1, none⟩ u1).setCell ⟨B, 2, none⟩ u2).setCell ⟨B, 3, none⟩ u3).setCell ⟨B, 4, none⟩ u4).setCell ⟨B, 5, none⟩ u5).setCell ⟨B, 6, none⟩ u6).setCell ⟨B, 7, none⟩ u7).heap[B]? = some (.cells #[u0, u1, u2, u3, u4, u5, u6, u7, x8, x9, x10, x11, x12] t (0, 0)) := (heap_setCell_same _ B 7 _ t u7 h6).trans (congrArg (fun c => some (Obj.cells c t (0, 0))) (show (#[u0, u1, u2, u3, u4, u5, u6, x7, x8, x9, x10, x11, x12] : Array Value).setIfInBounds 7 u7 = #[u0, u1, u2, u3, u4, u5, u6, u7, x8, x9, x10, x11, x12] from rfl))
  have h8 : (((((((((w.setCell ⟨B, 0, none⟩ u0).setCell ⟨B, 1, none⟩ u1).setCell ⟨B, 2, none⟩ u2).setCell ⟨B, 3, none⟩ u3).setCell ⟨B, 4, none⟩ u4).setCell ⟨B, 5, none⟩ u5).setCell ⟨B, 6, none⟩ u6).setCell ⟨B, 7, none⟩ u7).setCell ⟨B, 8, none⟩ u8).heap[B]? = some (.cells #[u0, u1, u2, u3, u4, u5, u6, u7, u8, x9, x10, x11, x12] t (0, 0)) := (heap_setCell_same _ B 8 _ t u8 h7).trans (congrArg (fun c => some (Obj.cells c t (0, 0))) (show (#[u0, u1, u2, u3, u4, u5, u6, u7, x8, x9, x10, x11, x12] : Array Value).setIfInBounds 8 u8 = #[u0, u1, u2, u3, u4, u5, u6, u7, u8, x9, x10, x11, x12] from rfl))
  have h9 : ((((((((((w.setCell ⟨B, 0, none⟩ u0).setCell ⟨B, 1, none⟩ u1).setCell ⟨B, 2, none⟩ u2).setCell ⟨B, 3, none⟩ u3).setCell ⟨B, 4, none⟩ u4).setCell ⟨B, 5, none⟩ u5).setCell ⟨B, 6, none⟩ u6).setCell ⟨B, 7, none⟩ u7).setCell ⟨B, 8, none⟩ u8).setCell ⟨B, 9, none⟩ u9).heap[B]? = some (.cells #[u0, u1, u2, u3, u4, u5, u6, u7, u8, u9, x10, x11, x12] t (0, 0)) := (heap_setCell_same _ B 9 _ t u9 h8).trans (congrArg (fun c => some (Obj.cells c t (0, 0))) (show (#[u0, u1, u2, u3, u4, u5, u6, u7, u8, x9, x10, x11, x12] : Array Value).setIfInBounds 9 u9 = #[u0, u1, u2, u3, u4, u5, u6, u7, u8, u9, x10, x11, x12] from rfl))
  have h10 : (((((((((((w.setCell ⟨B, 0, none⟩ u0).setCell ⟨B, 1, none⟩ u1).setCell ⟨B, 2, none⟩ u2).setCell ⟨B, 3, none⟩ u3).setCell ⟨B, 4, none⟩ u4).setCell ⟨B, 5, none⟩ u5).setCell ⟨B, 6, none⟩ u6).setCell ⟨B, 7, none⟩ u7).setCell ⟨B, 8, none⟩ u8).setCell ⟨B, 9, none⟩ u9).setCell ⟨B, 10, none⟩ u10).heap[B]? = some (.cells #[u0, u1, u2, u3, u4, u5, u6, u7, u8, u9, u10, x11, x12] t (0, 0)) := (heap_setCell_same _ B 10 _ t u10 h9).trans (congrArg (fun c => some (Obj.cells c t (0, 0))) (show (#[u0, u1, u2, u3, u4, u5, u6, u7, u8, u9, x10, x11, x12] : Array Value).setIfInBounds 10 u10 = #[u0, u1, u2, u3, u4, u5, u6, u7, u8, u9, u10, x11, x12] from rfl))
  have h11 : ((((((((((((w.setCell ⟨B, 0, none⟩ u0).setCell ⟨B, 1, none⟩ u1).setCell ⟨B, 2, none⟩ u2).setCell ⟨B, 3, none⟩ u3).setCell ⟨B, 4, none⟩ u4).setCell ⟨B, 5, none⟩ u5).setCell ⟨B, 6, none⟩ u6).setCell ⟨B, 7, none⟩ u7).setCell ⟨B, 8, none⟩ u8).setCell ⟨B, 9, none⟩ u9).setCell ⟨B, 10, none⟩ u10).setCell ⟨B, 11, none⟩ u11).heap[B]? = some (.cells #[u0, u1, u2, u3, u4, u5, u6, u7, u8, u9, u10, u11, x12] t (0, 0)) := (heap_setCell_same _ B 11 _ t u11 h10).trans (congrArg (fun c => some (Obj.cells c t (0, 0))) (show (#[u0, u1, u2, u3, u4, u5, u6, u7, u8, u9, u10, x11, x12] : Array Value).setIfInBounds 11 u11 = #[u0, u1, u2, u3, u4, u5, u6, u7, u8, u9, u10, u11, x12] from rfl))
  have h12 : (((((((((((((w.setCell ⟨B, 0, none⟩ u0).setCell ⟨B, 1, none⟩ u1).setCell ⟨B, 2, none⟩ u2).setCell ⟨B, 3, none⟩ u3).setCell ⟨B, 4, none⟩ u4).setCell ⟨B, 5, none⟩ u5).setCell ⟨B, 6, none⟩ u6).setCell ⟨B, 7, none⟩ u7).setCell ⟨B, 8, none⟩ u8).setCell ⟨B, 9, none⟩ u9).setCell ⟨B, 10, none⟩ u10).setCell ⟨B, 11, none⟩ u11).setCell ⟨B, 12, none⟩ u12).heap[B]? = some (.cells #[u0, u1, u2, u3, u4, u5, u6, u7, u8, u9, u10, u11, u12] t (0, 0)) := (heap_setCell_same _ B 12 _ t u12 h11).trans (congrArg (fun c => some (Obj.cells c t (0, 0))) (show (#[u0, u1, u2, u3, u4, u5, u6, u7, u8, u9, u10, u11, x12] : Array Value).setIfInBounds 12 u12 = #[u0, u1, u2, u3, u4, u5, u6, u7, u8, u9, u10, u11, u12] from rfl))
  exact h12
abbrev put8o (w : World) (B : Nat) (u0 u1 u2 u3 u4 u5 u6 u7 : Value) : World := ((((((((w.setCell ⟨B, 5, none⟩ u0).setCell ⟨B, 6, none⟩ u1).setCell ⟨B, 7, none⟩ u2).setCell ⟨B, 8, none⟩ u3).setCell ⟨B, 9, none⟩ u4).setCell ⟨B, 10, none⟩ u5).setCell ⟨B, 11, none⟩ u6).setCell ⟨B, 12, none⟩ u7)
theorem put8o_same (w : World) (B : Nat) (t : TypeId) (x0 x1 x2 x3 x4 x5 x6 x7 x8 x9 x10 x11 x12 : Value) (h : w.heap[B]? = some (.cells #[x0, x1, x2, x3, x4, x5, x6, x7, x8, x9, x10, x11, x12] t (0, 0))) (u0 u1 u2 u3 u4 u5 u6 u7 : Value) : (put8o w B u0 u1 u2 u3 u4 u5 u6 u7).heap[B]? = some (.cells #[x0, x1, x2, x3, x4, u0, u1, u2, u3, u4, u5, u6, u7] t (0, 0)) := by
  have h0 : (w.setCell ⟨B, 5, none⟩ u0).heap[B]? = some (.cells #[x0, x1, x2, x3, x4, u0, x6, x7, x8, x9, x10, x11, x12] t (0, 0)) := (heap_setCell_same _ B 5 _ t u0 h).trans (congrArg (fun c => some (Obj.cells c t (0, 0))) (show (#[x0, x1, x2, x3, x4, x5, x6, x7, x8, x9, x10, x11, x12] : Array Value).setIfInBounds 5 u0 = #[x0, x1, x2, x3, x4, u0, x6, x7, x8, x9, x10, x11, x12] from rfl))
  have h1 : ((w.setCell ⟨B, 5, none⟩ u0).setCell ⟨B, 6, none⟩ u1).heap[B]? = some (.cells #[x0, x1, x2, x3, x4, u0, u1, x7, x8, x9, x10, x11, x12] t (0, 0)) := (heap_setCell_same _ B 6 _ t u1 h0).trans (congrArg (fun c => some (Obj.cells c t (0, 0))) (show (#[x0, x1, x2, x3, x4, u0, x6, x7, x8, x9, x10, x11, x12] : Array Value).setIfInBounds 6 u1 = #[x0, x1, x2, x3, x4, u0, u1, x7, x8, x9, x10, x11, x12] from rfl))
  have h2 : (((w.setCell ⟨B, 5, none⟩ u0).setCell ⟨B, 6, none⟩ u1).setCell ⟨B, 7, none⟩ u2).heap[B]? = some (.cells #[x0, x1, x2, x3, x4, u0, u1, u2, x8, x9, x10, x11, x12] t (0, 0)) := (heap_setCell_same _ B 7 _ t u2 h1).trans (congrArg (fun c => some (Obj.cells c t (0, 0))) (show (#[x0, x1, x2, x3, x4, u0, u1, x7, x8, x9, x10, x11, x12] : Array Value).setIfInBounds 7 u2 = #[x0, x1, x2, x3, x4, u0, u1, u2, x8, x9, x10, x11, x12] from rfl))
  have h3 : ((((w.setCell ⟨B, 5, none⟩ u0).setCell ⟨B, 6, none⟩ u1).setCell ⟨B, 7, none⟩ u2).setCell ⟨B, 8, none⟩ u3).heap[B]? = some (.cells #[x0, x1, x2, x3, x4, u0, u1, u2, u3, x9, x10, x11, x12] t (0, 0)) := (heap_setCell_same _ B 8 _ t u3 h2).trans (congrArg (fun c => some (Obj.cells c t (0, 0))) (show (#[x0, x1, x2, x3, x4, u0, u1, u2, x8, x9, x10, x11, x12] : Array Value).setIfInBounds 8 u3 = #[x0, x1, x2, x3, x4, u0, u1, u2, u3, x9, x10, x11, x12] from rfl))
  have h4 : (((((w.setCell ⟨B, 5, none⟩ u0).setCell ⟨B, 6, none⟩ u1).setCell ⟨B, 7, none⟩ u2).setCell ⟨B, 8, none⟩ u3).setCell ⟨B, 9, none⟩ u4).heap[B]? = some (.cells #[x0, x1, x2, x3, x4, u0, u1, u2, u3, u4, x10, x11, x12] t (0, 0)) := (heap_setCell_same _ B 9 _ t u4 h3).trans (congrArg (fun c => some (Obj.cells c t (0, 0))) (show (#[x0, x1, x2, x3, x4, u0, u1, u2, u3, x9, x10, x11, x12] : Array Value).setIfInBounds 9 u4 = #[x0, x1, x2, x3, x4, u0, u1, u2, u3, u4, x10, x11, x12] from rfl))
  have h5 : ((((((w.setCell ⟨B, 5, none⟩ u0).setCell ⟨B, 6, none⟩ u1).setCell ⟨B, 7, none⟩ u2).setCell ⟨B, 8, none⟩ u3).setCell ⟨B, 9, none⟩ u4).setCell ⟨B, 10, none⟩ u5).heap[B]? = some (.cells #[x0, x1, x2, x3, x4, u0, u1, u2, u3, u4, u5, x11, x12] t (0, 0)) := (heap_setCell_same _ B 10 _ t u5 h4).trans (congrArg (fun c => some (Obj.cells c t (0, 0))) (show (#[x0, x1, x2, x3, x4, u0, u1, u2, u3, u4, x10, x11, x12] : Array Value).setIfInBounds 10 u5 = #[x0, x1, x2, x3, x4, u0, u1, u2, u3, u4, u5, x11, x12] from rfl))
  have h6 : (((((((w.setCell ⟨B, 5, none⟩ u0).setCell ⟨B, 6, none⟩ u1).setCell ⟨B, 7, none⟩ u2).setCell ⟨B, 8, none⟩ u3).setCell ⟨B, 9, none⟩ u4).setCell ⟨B, 10, none⟩ u5).setCell ⟨B, 11, none⟩ u6).heap[B]? = some (.cells #[x0, x1, x2, x3, x4, u0, u1, u2, u3, u4, u5, u6, x12] t (0, 0)) := (heap_setCell_same _ B 11 _ t u6 h5).trans (congrArg (fun c => some (Obj.cells c t (0, 0))) (show (#[x0, x1, x2, x3, x4, u0, u1, u2, u3, u4, u5, x11, x12] : Array Value).setIfInBounds 11 u6 = #[x0, x1, x2, x3, x4, u0, u1, u2, u3, u4, u5, u6, x12] from rfl))
  have h7 : ((((((((w.setCell ⟨B, 5, none⟩ u0).setCell ⟨B, 6, none⟩ u1).setCell ⟨B, 7, none⟩ u2).setCell ⟨B, 8, none⟩ u3).setCell ⟨B, 9, none⟩ u4).setCell ⟨B, 10, none⟩ u5).setCell ⟨B, 11, none⟩ u6).setCell ⟨B, 12, none⟩ u7).heap[B]? = some (.cells #[x0, x1, x2, x3, x4, u0, u1, u2, u3, u4, u5, u6, u7] t (0, 0)) := (heap_setCell_same _ B 12 _ t u7 h6).trans (congrArg (fun c => some (Obj.cells c t (0, 0))) (show (#[x0, x1, x2, x3, x4, u0, u1, u2, u3, u4, u5, u6, x12] : Array Value).setIfInBounds 12 u7 = #[x0, x1, x2, x3, x4, u0, u1, u2, u3, u4, u5, u6, u7] from rfl))
  exact h7
theorem put13_upd (w : World) (B : Nat) (u0 u1 u2 u3 u4 u5 u6 u7 u8 u9 u10 u11 u12 : Value) : Upd B B w (put13 w B u0 u1 u2 u3 u4 u5 u6 u7 u8 u9 u10 u11 u12) := by
  have u := fun (w : World) (i : Nat) (v : Value) => (show Upd B B w (w.setCell ⟨B, i, none⟩ v) from ⟨rfl, rfl, rfl, by simp, fun k hk h1 _ => heap_setCell_other w ⟨B, i, none⟩ k v h1⟩)
  exact (((((((((((((u _ _ _).trans (u _ _ _)).trans (u _ _ _)).trans (u _ _ _)).trans (u _ _ _)).trans (u _ _ _)).trans (u _ _ _)).trans (u _ _ _)).trans (u _ _ _)).trans (u _ _ _)).trans (u _ _ _)).trans (u _ _ _)).trans (u _ _ _))
theorem put8o_upd (w : World) (B : Nat) (u0 u1 u2 u3 u4 u5 u6 u7 : Value) : Upd B B w (put8o w B u0 u1 u2 u3 u4 u5 u6 u7) := by
  have u := fun (w : World) (i : Nat) (v : Value) => (show Upd B B w (w.setCell ⟨B, i, none⟩ v) from ⟨rfl, rfl, rfl, by simp, fun k hk h1 _ => heap_setCell_other w ⟨B, i, none⟩ k v h1⟩)
  exact ((((((((u _ _ _).trans (u _ _ _)).trans (u _ _ _)).trans (u _ _ _)).trans (u _ _ _)).trans (u _ _ _)).trans (u _ _ _)).trans (u _ _ _))
theorem row13_cells {w : World} {B : Nat} {t : TypeId} {x0 x1 x2 x3 x4 x5 x6 x7 x8 x9 x10 x11 x12 : Value} (h : w.heap[B]? = some (.cells #[x0, x1, x2, x3, x4, x5, x6, x7, x8, x9, x10, x11, x12] t (0, 0))) : w.cell? ⟨B, 0, none⟩ = some x0 ∧ w.cell? ⟨B, 1, none⟩ = some x1 ∧ w.cell? ⟨B, 2, none⟩ = some x2 ∧ w.cell? ⟨B, 3, none⟩ = some x3 ∧ w.cell? ⟨B, 4, none⟩ = some x4 ∧ w.cell? ⟨B, 5, none⟩ = some x5 ∧ w.cell? ⟨B, 6, none⟩ = some x6 ∧ w.cell? ⟨B, 7, none⟩ = some x7 ∧ w.cell? ⟨B, 8, none⟩ = some x8 ∧ w.cell? ⟨B, 9, none⟩ = some x9 ∧ w.cell? ⟨B, 10, none⟩ = some x10 ∧ w.cell? ⟨B, 11, none⟩ = some x11 ∧ w.cell? ⟨B, 12, none⟩ = some x12 := by
  refine ⟨?_, ?_, ?_, ?_, ?_, ?_, ?_, ?_, ?_, ?_, ?_, ?_, ?_⟩ <;> simp [World.cell?, h]
end Go.Proofs.YtpocihddecemfaaGreat

namespace Go.Proofs.YtpocihddecemfaaGreat
open Go.RowKit
set_option linter.unusedVariables false
set_option linter.unusedSimpArgs false
open Lay (plcc plc shOf packN nodesN OkC Cfg Norm firstV Rep lenL things)
abbrev pmV (kd pc : Int) (T : Option Addr) (tn tc : Nat) (j p : Int) (kx px hd : Int) (A : Option Addr) (n cap : Nat) (it h li tr : Int) : Value := .agg #[.int .i64 kd, .int .i64 pc, .slice T tn tc, .int .i64 j, .int .i64 p, .int .i64 kx, .int .i64 px, .int .i64 hd, .slice A n cap, .int .u32 it, .int .u64 h, .int .u32 li, .int .i64 tr]
abbrev pmVm (m : Pm) (T : Option Addr) (tn tc : Nat) (A : Option Addr) (n cap : Nat) : Value := pmV m.kind m.pc T tn tc m.j m.p m.x.kind m.x.pc m.x.k.head A n cap m.x.item m.x.h m.x.link m.x.tries
def RPm (Q : Nat → Prop) (w : World) (m : Pm) (v : Value) : Prop := ∃ T tn tc A n cap, v = pmVm m T tn tc A n cap ∧ tn = m.ts.length ∧ Reads .u64 w T m.ts ∧ n = m.x.k.links.length ∧ Reads .i64 w A m.x.k.links ∧ (0 < m.ts.length → ∀ a, T = some a → Q a.block) ∧ (0 < m.x.k.links.length → ∀ a, A = some a → Q a.block)
theorem RPm.below {Q : Nat → Prop} {w w' : World} {m : Pm} {v : Value} (h : RPm Q w m v) (hb : Below w.heap.size w w') : RPm Q w' m v := by
  obtain ⟨T, tn, tc, A, n, cap, e, h1, h2, h3, h4, h5, h6⟩ := h
  exact ⟨T, tn, tc, A, n, cap, e, h1, h2.below hb (Nat.le_refl _), h3, h4.below hb (Nat.le_refl _), h5, h6⟩
def SomePm (Q : Nat → Prop) (m : Pm) (w : World) (e : Ending) (w' : World) : Prop := ∃ v, e = .returned v ∧ RPm Q w' m v ∧ Below w.heap.size w w'
theorem reads_nil (k : IntKind) (w : World) (A : Option Addr) : Reads k w A [] := fun h => absurd h (by simp)
theorem Reads.put {k : IntKind} {w w' : World} {A : Option Addr} {zs : List Int} {B : Nat} (h : Reads k w A zs) (u : Upd B B w w') (hB : ∀ a, A = some a → a.block ≠ B) : Reads k w' A zs := fun h0 => by
  obtain ⟨b, off, e, hlt, hc⟩ := h h0
  have hb := hB _ e
  exact ⟨b, off, e, Nat.lt_of_lt_of_le hlt u.size, fun j hj => (World.cell?_of_block (w := w) (a := ⟨b, off + j, none⟩) (u.block b hlt hb hb)).trans (hc j hj)⟩
structure PB (w w' : World) (A : Option Addr) (n cap : Nat) (P : Int) : Prop where
  bel : Below w.heap.size w w'
  ba : w'.heap[w.heap.size]? = some (.cells #[.slice A n cap, .int .i64 P] 36 (0, 0))
  br : w'.heap[w.heap.size + 1]? = some (.cells #[.int .i64 0, .int .i64 0, .slice none 0 0, .int .i64 0, .int .i64 0, .int .i64 0, .int .i64 0, .int .i64 0, .slice none 0 0, .int .u32 0, .int .u64 0, .int .u32 0, .int .i64 0] 58 (0, 0))
section
variable {w w' w2 : World} {A : Option Addr} {n cap : Nat} {P : Int} {u0 u1 u2 u3 u4 u5 u6 u7 u8 u9 u10 u11 u12 : Value}
theorem PB.step (k : PB w w' A n cap P) (hb : Below w'.heap.size w' w2) : PB w w2 A n cap P :=
  ⟨below_step k.bel k.bel.size hb, (hb.block _ (Array.getElem?_eq_some_iff.1 k.ba).1).trans k.ba, (hb.block _ (Array.getElem?_eq_some_iff.1 k.br).1).trans k.br⟩
theorem PB.lt (k : PB w w' A n cap P) : w.heap.size + 1 < w'.heap.size := (Array.getElem?_eq_some_iff.1 k.br).1
theorem PB.cells (k : PB w w' A n cap P) : w'.cell? ⟨w.heap.size, 0, none⟩ = some (.slice A n cap) ∧ w'.cell? ⟨w.heap.size, 1, none⟩ = some (.int .i64 P) := by
  have := k.ba
  constructor <;> simp [World.cell?, this]
theorem PB.hiK (k : PB w w' A n cap P) {K : Option Addr} (h : ∀ a, K = some a → w'.heap.size < a.block) : ∀ a, K = some a → a.block ≠ w.heap.size + 1 := fun a e => by
  have := h a e; have := k.lt; omega
theorem PB.fro (k : PB w w' A n cap P) (j : Nat) : w'.frozen? ⟨w.heap.size + 1, j, none⟩ = false := frozen_of_row w' _ j _ _ k.br
theorem PB.new (w : World) (A : Option Addr) (n cap : Nat) (P : Int) : PB w ((w.alloc (.cells #[.slice A n cap, .int .i64 P] 36)).alloc (.cells #[.int .i64 0, .int .i64 0, .slice none 0 0, .int .i64 0, .int .i64 0, .int .i64 0, .int .i64 0, .int .i64 0, .slice none 0 0, .int .u32 0, .int .u64 0, .int .u32 0, .int .i64 0] 58)) A n cap P := by
  obtain ⟨W, hW⟩ : ∃ W, W = w.alloc (.cells #[.slice A n cap, .int .i64 P] 36) := ⟨_, rfl⟩
  have e1 : W.heap.size = w.heap.size + 1 := by rw [hW]; simp
  have h0 : W.heap[w.heap.size]? = some (.cells #[.slice A n cap, .int .i64 P] 36 (0, 0)) := by
    rw [hW]; show (w.heap.push _)[w.heap.size]? = _
    exact Array.getElem?_push_size
  have hb0 : Below w.heap.size w W := by rw [hW]; exact below_alloc0 (Below.refl _ _) _
  rw [← hW]
  have hb : Below W.heap.size W (W.alloc (.cells #[.int .i64 0, .int .i64 0, .slice none 0 0, .int .i64 0, .int .i64 0, .int .i64 0, .int .i64 0, .int .i64 0, .slice none 0 0, .int .u32 0, .int .u64 0, .int .u32 0, .int .i64 0] 58)) := below_alloc0 (Below.refl _ _) _
  have h1 : (W.alloc (.cells #[.int .i64 0, .int .i64 0, .slice none 0 0, .int .i64 0, .int .i64 0, .int .i64 0, .int .i64 0, .int .i64 0, .slice none 0 0, .int .u32 0, .int .u64 0, .int .u32 0, .int .i64 0] 58)).heap[W.heap.size]? = some (.cells #[.int .i64 0, .int .i64 0, .slice none 0 0, .int .i64 0, .int .i64 0, .int .i64 0, .int .i64 0, .int .i64 0, .slice none 0 0, .int .u32 0, .int .u64 0, .int .u32 0, .int .i64 0] 58 (0, 0)) := by
    show (W.heap.push _)[W.heap.size]? = _
    exact Array.getElem?_push_size
  rw [e1] at h1
  exact ⟨below_step hb0 hb0.size hb, (hb.block _ (by rw [e1]; omega)).trans h0, h1⟩
theorem PB.res (k : PB w w' A n cap P) : w'.cell? ⟨w.heap.size + 1, 0, none⟩ = some (.int .i64 0) ∧ w'.cell? ⟨w.heap.size + 1, 1, none⟩ = some (.int .i64 0) ∧ w'.cell? ⟨w.heap.size + 1, 2, none⟩ = some (.slice none 0 0) ∧ w'.cell? ⟨w.heap.size + 1, 3, none⟩ = some (.int .i64 0) ∧ w'.cell? ⟨w.heap.size + 1, 4, none⟩ = some (.int .i64 0) ∧ w'.cell? ⟨w.heap.size + 1, 5, none⟩ = some (.int .i64 0) ∧ w'.cell? ⟨w.heap.size + 1, 6, none⟩ = some (.int .i64 0) ∧ w'.cell? ⟨w.heap.size + 1, 7, none⟩ = some (.int .i64 0) ∧ w'.cell? ⟨w.heap.size + 1, 8, none⟩ = some (.slice none 0 0) ∧ w'.cell? ⟨w.heap.size + 1, 9, none⟩ = some (.int .u32 0) ∧ w'.cell? ⟨w.heap.size + 1, 10, none⟩ = some (.int .u64 0) ∧ w'.cell? ⟨w.heap.size + 1, 11, none⟩ = some (.int .u32 0) ∧ w'.cell? ⟨w.heap.size + 1, 12, none⟩ = some (.int .i64 0) := row13_cells k.br
theorem PB.putr (k : PB w w' A n cap P) : (put13 w' (w.heap.size + 1) u0 u1 u2 u3 u4 u5 u6 u7 u8 u9 u10 u11 u12).cell? ⟨w.heap.size + 1, 0, none⟩ = some (u0) ∧ (put13 w' (w.heap.size + 1) u0 u1 u2 u3 u4 u5 u6 u7 u8 u9 u10 u11 u12).cell? ⟨w.heap.size + 1, 1, none⟩ = some (u1) ∧ (put13 w' (w.heap.size + 1) u0 u1 u2 u3 u4 u5 u6 u7 u8 u9 u10 u11 u12).cell? ⟨w.heap.size + 1, 2, none⟩ = some (u2) ∧ (put13 w' (w.heap.size + 1) u0 u1 u2 u3 u4 u5 u6 u7 u8 u9 u10 u11 u12).cell? ⟨w.heap.size + 1, 3, none⟩ = some (u3) ∧ (put13 w' (w.heap.size + 1) u0 u1 u2 u3 u4 u5 u6 u7 u8 u9 u10 u11 u12).cell? ⟨w.heap.size + 1, 4, none⟩ = some (u4) ∧ (put13 w' (w.heap.size + 1) u0 u1 u2 u3 u4 u5 u6 u7 u8 u9 u10 u11 u12).cell? ⟨w.heap.size + 1, 5, none⟩ = some (u5) ∧ (put13 w' (w.heap.size + 1) u0 u1 u2 u3 u4 u5 u6 u7 u8 u9 u10 u11 u12).cell? ⟨w.heap.size + 1, 6, none⟩ = some (u6) ∧ (put13 w' (w.heap.size + 1) u0 u1 u2 u3 u4 u5 u6 u7 u8 u9 u10 u11 u12).cell? ⟨w.heap.size + 1, 7, none⟩ = some (u7) ∧ (put13 w' (w.heap.size + 1) u0 u1 u2 u3 u4 u5 u6 u7 u8 u9 u10 u11 u12).cell? ⟨w.heap.size + 1, 8, none⟩ = some (u8) ∧ (put13 w' (w.heap.size + 1) u0 u1 u2 u3 u4 u5 u6 u7 u8 u9 u10 u11 u12).cell? ⟨w.heap.size + 1, 9, none⟩ = some (u9) ∧ (put13 w' (w.heap.size + 1) u0 u1 u2 u3 u4 u5 u6 u7 u8 u9 u10 u11 u12).cell? ⟨w.heap.size + 1, 10, none⟩ = some (u10) ∧ (put13 w' (w.heap.size + 1) u0 u1 u2 u3 u4 u5 u6 u7 u8 u9 u10 u11 u12).cell? ⟨w.heap.size + 1, 11, none⟩ = some (u11) ∧ (put13 w' (w.heap.size + 1) u0 u1 u2 u3 u4 u5 u6 u7 u8 u9 u10 u11 u12).cell? ⟨w.heap.size + 1, 12, none⟩ = some (u12) :=
  row13_cells (put13_same w' (w.heap.size + 1) 58 _ _ _ _ _ _ _ _ _ _ _ _ _ k.br u0 u1 u2 u3 u4 u5 u6 u7 u8 u9 u10 u11 u12)
theorem PB.putb (k : PB w w' A n cap P) : Below w.heap.size w (put13 w' (w.heap.size + 1) u0 u1 u2 u3 u4 u5 u6 u7 u8 u9 u10 u11 u12) := below_upd k.bel (Nat.le_refl _) (put13_upd w' (w.heap.size + 1) u0 u1 u2 u3 u4 u5 u6 u7 u8 u9 u10 u11 u12) (by omega) (by omega)
end
set_option maxHeartbeats 4000000 in
set_option maxRecDepth 100000 in
theorem rpput_any {c : Cfg} (hc : OkC c) (Q : Nat → Prop) (A : Option Addr) (n cap : Nat) (T : Option Addr) (tn tc : Nat) (ts : List Int) (w : World) (h : IsA w c A n) (htn : tn = ts.length) (hT : Reads .u64 w T ts) (h4 : tn ≤ tc) (h5 : tc ≤ maxLen) (hQ : ∀ b, w.heap.size ≤ b → Q b) (hTQ : 0 < ts.length → ∀ a, T = some a → Q a.block) :
    Calls Tryz.prog 88 #[aVal A n cap (packN c), .slice T tn tc] w (SomePm Q (pPut (gOf c) ts) w) := by
  have HQ := Lib.hid hQ
  have HTQ := Lib.hid hTQ
  clear hQ hTQ
  have HPB := Lib.hid (PB.new w A n cap (packN c))
  have HA := Lib.hid h
  have hz := (PB.new w A n cap (packN c)).bel
  clear h
  by_cases h0 : tn = 0
  · subst h0
    obtain rfl : ts = [] := by cases ts with | nil => rfl | cons a l => simp at htn
    rw [show pPut (gOf c) [] = ⟨1, 0, [], 0, 0, mnone⟩ from rfl]
    clear hT htn HA HPB
    go_enter Tryz.func88, Tryz.ntmps88
    go_wp2_with (fail)
    exact bodyPost_ret (v := pmV 1 0 none 0 0 0 0 0 0 0 none 0 0 0 0 0 0) (by simp [results, Tryz.results88, go_sem]) rfl ⟨_, rfl, ⟨none, 0, 0, none, 0, 0, rfl, rfl, reads_nil _ _ _, rfl, reads_nil _ _ _, (fun _ a e => by cases e), (fun _ a e => by cases e)⟩, below_alloc0 (below_alloc0 (Below.refl _ _) _) _⟩
  have ht : ts ≠ [] := fun e => by rw [e] at htn; exact h0 htn
  have e : pPut (gOf c) ts = ⟨1, 1, ts.take 4, 0, 0, mPop (spK c)⟩ := by unfold pPut; rw [if_neg ht]; rfl
  rw [e]
  obtain ⟨b, off, rfl, hbl, hcl⟩ := hT (by omega)
  have d0 : ((tn : Int) == 0) = false := by simp; omega
  have HT : Hid (∀ w', Below w.heap.size w w' → Reads .u64 w' (some ⟨b, off, none⟩) (ts.take 4)) := Lib.hid (fun w' hb h0 => ⟨b, off, rfl, Nat.lt_of_lt_of_le hbl hb.size, fun j hj => by
    simp at hj
    rw [hb.cell (p := ⟨b, off + j, none⟩) hbl, hcl j (by omega), List.getD, List.getD, List.getElem?_take_of_lt (by omega)]⟩)
  have HLN := Lib.hid htn
  clear hT hcl ht e hz htn
  by_cases h6 : 4 < tn
  · have d1 : decide ((tn : Int) > 4) = true := by simp; omega
    have d2 : 4 ≤ tc := by omega
    go_enter Tryz.func88, Tryz.ntmps88
    go_wp2_with (first
      | (go_at_call 112; (with_reducible refine (rstack_hi hc A n cap 5 _ (HA.out.below HPB.out.bel) (by decide)).mono ?_); rintro r w1 ⟨K, kn, kc, rfl, hn, hr, hb, hk⟩; have HP1 := Lib.hid (HPB.out.step hb); have HN := Lib.hid hn; have HR := Lib.hid hr; have HKB := Lib.hid (HPB.out.hiK hk); have HKQ : Hid (∀ a, K = some a → Q a.block) := Lib.hid (fun a e => HQ.out _ (by have := hk a e; have := HPB.out.bel.size; omega)); clear hb hn hr hk; obtain ⟨y0, y1⟩ := HP1.out.cells)
      | (go_at_call 111; (with_reducible refine (rpop_any _ K kn kc _).mono ?_); rintro r w2 ⟨rfl, hb⟩; have HP2 := Lib.hid (HP1.out.step hb); have HR2 := Lib.hid (HR.out.below hb (Nat.le_refl _)); clear hb; obtain ⟨r0, r1, r2, r3, r4, r5, r6, r7, r8, r9, r10, r11, r12⟩ := HP2.out.res; have hfr := HP2.out.fro)
      | fail)
    obtain ⟨e0, e1, e2, e3, e4, e5, e6, e7, e8, e9, e10, e11, e12⟩ := HP2.out.putr (u0 := .int .i64 1) (u1 := .int .i64 1) (u2 := .slice (some ⟨b, off, none⟩) 4 tc) (u3 := .int .i64 0) (u4 := .int .i64 0) (u5 := .int .i64 2) (u6 := .int .i64 1) (u7 := .int .i64 (plcc c 5 0 0)) (u8 := .slice K kn kc) (u9 := .int .u32 0) (u10 := .int .u64 0) (u11 := .int .u32 0) (u12 := .int .i64 0)
    exact bodyPost_ret (v := pmV 1 1 (some ⟨b, off, none⟩) 4 tc 0 0 2 1 (plcc c 5 0 0) K kn kc 0 0 0 0) (by simp [results, Tryz.results88, go_sem, e0, e1, e2, e3, e4, e5, e6, e7, e8, e9, e10, e11, e12]) rfl ⟨_, rfl, ⟨(some ⟨b, off, none⟩), 4, tc, K, kn, kc, rfl, (by simp; have := HLN.out; omega), HT.out _ HP2.out.putb, HN.out, HR2.out.put (put13_upd ..) HKB.out, (fun _ => HTQ.out (by have := HLN.out; omega)), fun _ => HKQ.out⟩, HP2.out.putb⟩
  · have d1 : decide ((tn : Int) > 4) = false := by simp; omega
    go_enter Tryz.func88, Tryz.ntmps88
    go_wp2_with (first
      | (go_at_call 112; (with_reducible refine (rstack_hi hc A n cap 5 _ (HA.out.below HPB.out.bel) (by decide)).mono ?_); rintro r w1 ⟨K, kn, kc, rfl, hn, hr, hb, hk⟩; have HP1 := Lib.hid (HPB.out.step hb); have HN := Lib.hid hn; have HR := Lib.hid hr; have HKB := Lib.hid (HPB.out.hiK hk); have HKQ : Hid (∀ a, K = some a → Q a.block) := Lib.hid (fun a e => HQ.out _ (by have := hk a e; have := HPB.out.bel.size; omega)); clear hb hn hr hk; obtain ⟨y0, y1⟩ := HP1.out.cells)
      | (go_at_call 111; (with_reducible refine (rpop_any _ K kn kc _).mono ?_); rintro r w2 ⟨rfl, hb⟩; have HP2 := Lib.hid (HP1.out.step hb); have HR2 := Lib.hid (HR.out.below hb (Nat.le_refl _)); clear hb; obtain ⟨r0, r1, r2, r3, r4, r5, r6, r7, r8, r9, r10, r11, r12⟩ := HP2.out.res; have hfr := HP2.out.fro)
      | fail)
    obtain ⟨e0, e1, e2, e3, e4, e5, e6, e7, e8, e9, e10, e11, e12⟩ := HP2.out.putr (u0 := .int .i64 1) (u1 := .int .i64 1) (u2 := .slice (some ⟨b, off, none⟩) tn tc) (u3 := .int .i64 0) (u4 := .int .i64 0) (u5 := .int .i64 2) (u6 := .int .i64 1) (u7 := .int .i64 (plcc c 5 0 0)) (u8 := .slice K kn kc) (u9 := .int .u32 0) (u10 := .int .u64 0) (u11 := .int .u32 0) (u12 := .int .i64 0)
    exact bodyPost_ret (v := pmV 1 1 (some ⟨b, off, none⟩) tn tc 0 0 2 1 (plcc c 5 0 0) K kn kc 0 0 0 0) (by simp [results, Tryz.results88, go_sem, e0, e1, e2, e3, e4, e5, e6, e7, e8, e9, e10, e11, e12]) rfl ⟨_, rfl, ⟨(some ⟨b, off, none⟩), tn, tc, K, kn, kc, rfl, (by simp; have := HLN.out; omega), HT.out _ HP2.out.putb, HN.out, HR2.out.put (put13_upd ..) HKB.out, (fun _ => HTQ.out (by have := HLN.out; omega)), fun _ => HKQ.out⟩, HP2.out.putb⟩
end Go.Proofs.YtpocihddecemfaaGreat
