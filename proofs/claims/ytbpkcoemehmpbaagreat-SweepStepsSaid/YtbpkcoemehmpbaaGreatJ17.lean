/- A store of an aggregate of 8 cells. The document's machine in a box, and its result's place. -/
import Derived.Test.YtbpkcoemehmpbaaGreatJ1
import Derived.Test.YtbpkcoemehmpbaaGreatJ15
namespace Go.Proofs.YtbpkcoemehmpbaaGreat
open Go.RowKit
set_option linter.unusedVariables false

abbrev put8 (w : World) (B : Nat) (u0 u1 u2 u3 u4 u5 u6 u7 : Value) : World := ((((((((w.setCell ⟨B, 0, none⟩ u0).setCell ⟨B, 1, none⟩ u1).setCell ⟨B, 2, none⟩ u2).setCell ⟨B, 3, none⟩ u3).setCell ⟨B, 4, none⟩ u4).setCell ⟨B, 5, none⟩ u5).setCell ⟨B, 6, none⟩ u6).setCell ⟨B, 7, none⟩ u7)
theorem put8_same (w : World) (B : Nat) (t : TypeId) (x0 x1 x2 x3 x4 x5 x6 x7 : Value) (h : w.heap[B]? = some (.cells #[x0, x1, x2, x3, x4, x5, x6, x7] t (0, 0))) (u0 u1 u2 u3 u4 u5 u6 u7 : Value) : (put8 w B u0 u1 u2 u3 u4 u5 u6 u7).heap[B]? = some (.cells #[u0, u1, u2, u3, u4, u5, u6, u7] t (0, 0)) := by
  have h0 : (w.setCell ⟨B, 0, none⟩ u0).heap[B]? = some (.cells #[u0, x1, x2, x3, x4, x5, x6, x7] t (0, 0)) := (heap_setCell_same _ B 0 _ t u0 h).trans (congrArg (fun c => some (Obj.cells c t (0, 0))) (show (#[x0, x1, x2, x3, x4, x5, x6, x7] : Array Value).setIfInBounds 0 u0 = #[u0, x1, x2, x3, x4, x5, x6, x7] from rfl))
  have h1 : ((w.setCell ⟨B, 0, none⟩ u0).setCell ⟨B, 1, none⟩ u1).heap[B]? = some (.cells #[u0, u1, x2, x3, x4, x5, x6, x7] t (0, 0)) := (heap_setCell_same _ B 1 _ t u1 h0).trans (congrArg (fun c => some (Obj.cells c t (0, 0))) (show (#[u0, x1, x2, x3, x4, x5, x6, x7] : Array Value).setIfInBounds 1 u1 = #[u0, u1, x2, x3, x4, x5, x6, x7] from rfl))
  have h2 : (((w.setCell ⟨B, 0, none⟩ u0).setCell ⟨B, 1, none⟩ u1).setCell ⟨B, 2, none⟩ u2).heap[B]? = some (.cells #[u0, u1, u2, x3, x4, x5, x6, x7] t (0, 0)) := (heap_setCell_same _ B 2 _ t u2 h1).trans (congrArg (fun c => some (Obj.cells c t (0, 0))) (show (#[u0, u1, x2, x3, x4, x5, x6, x7] : Array Value).setIfInBounds 2 u2 = #[u0, u1, u2, x3, x4, x5, x6, x7] from rfl))
  have h3 : ((((w.setCell ⟨B, 0, none⟩ u0).setCell ⟨B, 1, none⟩ u1).setCell ⟨B, 2, none⟩ u2).setCell ⟨B, 3, none⟩ u3).heap[B]? = some (.cells #[u0, u1, u2, u3, x4, x5, x6, x7] t (0, 0)) := (heap_setCell_same _ B 3 _ t u3 h2).trans (congrArg (fun c => some (Obj.cells c t (0, 0))) (show (#[u0, u1, u2, x3, x4, x5, x6, x7] : Array Value).setIfInBounds 3 u3 = #[u0, u1, u2, u3, x4, x5, x6, x7] from rfl))
  have h4 : (((((w.setCell ⟨B, 0, none⟩ u0).setCell ⟨B, 1, none⟩ u1).setCell ⟨B, 2, none⟩ u2).setCell ⟨B, 3, none⟩ u3).setCell ⟨B, 4, none⟩ u4).heap[B]? = some (.cells #[u0, u1, u2, u3, u4, x5, x6, x7] t (0, 0)) := (heap_setCell_same _ B 4 _ t u4 h3).trans (congrArg (fun c => some (Obj.cells c t (0, 0))) (show (#[u0, u1, u2, u3, x4, x5, x6, x7] : Array Value).setIfInBounds 4 u4 = #[u0, u1, u2, u3, u4, x5, x6, x7] from rfl))
  have h5 : ((((((w.setCell ⟨B, 0, none⟩ u0).setCell ⟨B, 1, none⟩ u1).setCell ⟨B, 2, none⟩ u2).setCell ⟨B, 3, none⟩ u3).setCell ⟨B, 4, none⟩ u4).setCell ⟨B, 5, none⟩ u5).heap[B]? = some (.cells #[u0, u1, u2, u3, u4, u5, x6, x7] t (0, 0)) := (heap_setCell_same _ B 5 _ t u5 h4).trans (congrArg (fun c => some (Obj.cells c t (0, 0))) (show (#[u0, u1, u2, u3, u4, x5, x6, x7] : Array Value).setIfInBounds 5 u5 = #[u0, u1, u2, u3, u4, u5, x6, x7] from rfl))
  have h6 : (((((((w.setCell ⟨B, 0, none⟩ u0).setCell ⟨B, 1, none⟩ u1).setCell ⟨B, 2, none⟩ u2).setCell ⟨B, 3, none⟩ u3).setCell ⟨B, 4, none⟩ u4).setCell ⟨B, 5, none⟩ u5).setCell ⟨B, 6, none⟩ u6).heap[B]? = some (.cells #[u0, u1, u2, u3, u4, u5, u6, x7] t (0, 0)) := (heap_setCell_same _ B 6 _ t u6 h5).trans (congrArg (fun c => some (Obj.cells c t (0, 0))) (show (#[u0, u1, u2, u3, u4, u5, x6, x7] : Array Value).setIfInBounds 6 u6 = #[u0, u1, u2, u3, u4, u5, u6, x7] from rfl))
  have h7 : ((((((((w.setCell ⟨B, 0, none⟩ u0).setCell ⟨B, 1, none⟩ u1).setCell ⟨B, 2, none⟩ u2).setCell ⟨B, 3, none⟩ u3).setCell ⟨B, 4, none⟩ u4).setCell ⟨B, 5, none⟩ u5).setCell ⟨B, 6, none⟩ u6).setCell ⟨B, 7, none⟩ u7).heap[B]? = some (.cells #[u0, u1, u2, u3, u4, u5, u6, u7] t (0, 0)) := (heap_setCell_same _ B 7 _ t u7 h6).trans (congrArg (fun c => some (Obj.cells c t (0, 0))) (show (#[u0, u1, u2, u3, u4, u5, u6, x7] : Array Value).setIfInBounds 7 u7 = #[u0, u1, u2, u3, u4, u5, u6, u7] from rfl))
  exact h7
theorem put8_upd (w : World) (B : Nat) (u0 u1 u2 u3 u4 u5 u6 u7 : Value) : Upd B B w (put8 w B u0 u1 u2 u3 u4 u5 u6 u7) := by
  have u := fun (w : World) (i : Nat) (v : Value) => (show Upd B B w (w.setCell ⟨B, i, none⟩ v) from ⟨rfl, rfl, rfl, by simp, fun k hk h1 _ => heap_setCell_other w ⟨B, i, none⟩ k v h1⟩)
  exact ((((((((u _ _ _).trans (u _ _ _)).trans (u _ _ _)).trans (u _ _ _)).trans (u _ _ _)).trans (u _ _ _)).trans (u _ _ _)).trans (u _ _ _))
end Go.Proofs.YtbpkcoemehmpbaaGreat

namespace Go.Proofs.YtbpkcoemehmpbaaGreat
open Go.RowKit
set_option linter.unusedVariables false
set_option linter.unusedSimpArgs false

/-- The box, and the result's place. -/
structure KM (w w' : World) (kd pc hd : Int) (A : Option Addr) (n cap : Nat) (it h li tr : Int) : Prop where
  bel : Below w.heap.size w w'
  b0 : w'.heap[w.heap.size]? = some (.cells #[.int .i64 kd, .int .i64 pc, .int .i64 hd, .slice A n cap, .int .u32 it, .int .u64 h, .int .u32 li, .int .i64 tr] 51 (0, 0))
  b1 : w'.heap[w.heap.size + 1]? = some (.cells #[.int .i64 0, .int .i64 0, .int .i64 0, .slice none 0 0, .int .u32 0, .int .u64 0, .int .u32 0, .int .i64 0] 51 (0, 0))
section
variable {w w' w2 : World} {kd pc hd : Int} {A : Option Addr} {n cap : Nat} {it h li tr : Int} {U : Value}
theorem KM.step (k : KM w w' kd pc hd A n cap it h li tr) (hb : Below w'.heap.size w' w2) : KM w w2 kd pc hd A n cap it h li tr :=
  ⟨below_step k.bel k.bel.size hb, (hb.block _ (Array.getElem?_eq_some_iff.1 k.b0).1).trans k.b0, (hb.block _ (Array.getElem?_eq_some_iff.1 k.b1).1).trans k.b1⟩
theorem KM.lt (k : KM w w' kd pc hd A n cap it h li tr) : w.heap.size + 1 < w'.heap.size := (Array.getElem?_eq_some_iff.1 k.b1).1
theorem KM.cells (k : KM w w' kd pc hd A n cap it h li tr) : w'.cell? ⟨w.heap.size, 0, none⟩ = some (.int .i64 kd) ∧ w'.cell? ⟨w.heap.size, 1, none⟩ = some (.int .i64 pc) ∧ w'.cell? ⟨w.heap.size, 2, none⟩ = some (.int .i64 hd) ∧ w'.cell? ⟨w.heap.size, 3, none⟩ = some (.slice A n cap) ∧ w'.cell? ⟨w.heap.size, 4, none⟩ = some (.int .u32 it) ∧ w'.cell? ⟨w.heap.size, 5, none⟩ = some (.int .u64 h) ∧ w'.cell? ⟨w.heap.size, 6, none⟩ = some (.int .u32 li) ∧ w'.cell? ⟨w.heap.size, 7, none⟩ = some (.int .i64 tr) := by
  have b0 := k.b0
  refine ⟨?_, ?_, ?_, ?_, ?_, ?_, ?_, ?_⟩ <;> simp [World.cell?, b0]
theorem KM.res (k : KM w w' kd pc hd A n cap it h li tr) : w'.cell? ⟨w.heap.size + 1, 0, none⟩ = some (.int .i64 0) ∧ w'.cell? ⟨w.heap.size + 1, 1, none⟩ = some (.int .i64 0) ∧ w'.cell? ⟨w.heap.size + 1, 2, none⟩ = some (.int .i64 0) ∧ w'.cell? ⟨w.heap.size + 1, 3, none⟩ = some (.slice none 0 0) ∧ w'.cell? ⟨w.heap.size + 1, 4, none⟩ = some (.int .u32 0) ∧ w'.cell? ⟨w.heap.size + 1, 5, none⟩ = some (.int .u64 0) ∧ w'.cell? ⟨w.heap.size + 1, 6, none⟩ = some (.int .u32 0) ∧ w'.cell? ⟨w.heap.size + 1, 7, none⟩ = some (.int .i64 0) := by
  have b1 := k.b1
  refine ⟨?_, ?_, ?_, ?_, ?_, ?_, ?_, ?_⟩ <;> simp [World.cell?, b1]
theorem KM.fro (k : KM w w' kd pc hd A n cap it h li tr) (j : Nat) : w'.frozen? ⟨w.heap.size + 1, j, none⟩ = false := frozen_of_row w' _ j _ _ k.b1
theorem KM.fro0 (k : KM w w' kd pc hd A n cap it h li tr) (j : Nat) : w'.frozen? ⟨w.heap.size, j, none⟩ = false := frozen_of_row w' _ j _ _ k.b0
theorem KM.new (w : World) (kd pc hd : Int) (A : Option Addr) (n cap : Nat) (it h li tr : Int) : KM w ((w.alloc (.cells #[.int .i64 kd, .int .i64 pc, .int .i64 hd, .slice A n cap, .int .u32 it, .int .u64 h, .int .u32 li, .int .i64 tr] 51)).alloc (.cells #[.int .i64 0, .int .i64 0, .int .i64 0, .slice none 0 0, .int .u32 0, .int .u64 0, .int .u32 0, .int .i64 0] 51)) kd pc hd A n cap it h li tr := by
  have e1 : (w.alloc (.cells #[.int .i64 kd, .int .i64 pc, .int .i64 hd, .slice A n cap, .int .u32 it, .int .u64 h, .int .u32 li, .int .i64 tr] 51)).heap.size = w.heap.size + 1 := by simp
  have h0 : (w.alloc (.cells #[.int .i64 kd, .int .i64 pc, .int .i64 hd, .slice A n cap, .int .u32 it, .int .u64 h, .int .u32 li, .int .i64 tr] 51)).heap[w.heap.size]? = some (.cells #[.int .i64 kd, .int .i64 pc, .int .i64 hd, .slice A n cap, .int .u32 it, .int .u64 h, .int .u32 li, .int .i64 tr] 51 (0, 0)) := by
    show (w.heap.push _)[w.heap.size]? = _
    exact Array.getElem?_push_size
  have h1 : ((w.alloc (.cells #[.int .i64 kd, .int .i64 pc, .int .i64 hd, .slice A n cap, .int .u32 it, .int .u64 h, .int .u32 li, .int .i64 tr] 51)).alloc (.cells #[.int .i64 0, .int .i64 0, .int .i64 0, .slice none 0 0, .int .u32 0, .int .u64 0, .int .u32 0, .int .i64 0] 51)).heap[(w.alloc (.cells #[.int .i64 kd, .int .i64 pc, .int .i64 hd, .slice A n cap, .int .u32 it, .int .u64 h, .int .u32 li, .int .i64 tr] 51)).heap.size]? = some (.cells #[.int .i64 0, .int .i64 0, .int .i64 0, .slice none 0 0, .int .u32 0, .int .u64 0, .int .u32 0, .int .i64 0] 51 (0, 0)) := by
    show ((w.alloc (.cells #[.int .i64 kd, .int .i64 pc, .int .i64 hd, .slice A n cap, .int .u32 it, .int .u64 h, .int .u32 li, .int .i64 tr] 51)).heap.push _)[(w.alloc (.cells #[.int .i64 kd, .int .i64 pc, .int .i64 hd, .slice A n cap, .int .u32 it, .int .u64 h, .int .u32 li, .int .i64 tr] 51)).heap.size]? = _
    exact Array.getElem?_push_size
  rw [e1] at h1
  have hb : Below (w.alloc (.cells #[.int .i64 kd, .int .i64 pc, .int .i64 hd, .slice A n cap, .int .u32 it, .int .u64 h, .int .u32 li, .int .i64 tr] 51)).heap.size (w.alloc (.cells #[.int .i64 kd, .int .i64 pc, .int .i64 hd, .slice A n cap, .int .u32 it, .int .u64 h, .int .u32 li, .int .i64 tr] 51)) ((w.alloc (.cells #[.int .i64 kd, .int .i64 pc, .int .i64 hd, .slice A n cap, .int .u32 it, .int .u64 h, .int .u32 li, .int .i64 tr] 51)).alloc (.cells #[.int .i64 0, .int .i64 0, .int .i64 0, .slice none 0 0, .int .u32 0, .int .u64 0, .int .u32 0, .int .i64 0] 51)) := below_alloc0 (Below.refl _ _) _
  exact ⟨below_two w _ _, (hb.block _ (by rw [e1]; omega)).trans h0, h1⟩
theorem KM.pcS (k : KM w w' kd pc hd A n cap it h li tr) (y : Int) : KM w (w'.setCell ⟨w.heap.size, 1, none⟩ (.int .i64 y)) kd y hd A n cap it h li tr := by
  refine ⟨k.bel.setCell (Nat.le_refl _) _, ?_, ?_⟩
  · exact (heap_setCell_same _ _ 1 _ 51 _ k.b0).trans (congrArg (fun c => some (Obj.cells c 51 (0, 0))) (show (#[.int .i64 kd, .int .i64 pc, .int .i64 hd, .slice A n cap, .int .u32 it, .int .u64 h, .int .u32 li, .int .i64 tr] : Array Value).setIfInBounds 1 (.int .i64 y) = #[.int .i64 kd, .int .i64 y, .int .i64 hd, .slice A n cap, .int .u32 it, .int .u64 h, .int .u32 li, .int .i64 tr] from rfl))
  · exact (heap_setCell_other w' ⟨w.heap.size, 1, none⟩ _ _ (Nat.succ_ne_self _)).trans k.b1
theorem KM.liS (k : KM w w' kd pc hd A n cap it h li tr) (y : Int) : KM w (w'.setCell ⟨w.heap.size, 6, none⟩ (.int .u32 y)) kd pc hd A n cap it h y tr := by
  refine ⟨k.bel.setCell (Nat.le_refl _) _, ?_, ?_⟩
  · exact (heap_setCell_same _ _ 6 _ 51 _ k.b0).trans (congrArg (fun c => some (Obj.cells c 51 (0, 0))) (show (#[.int .i64 kd, .int .i64 pc, .int .i64 hd, .slice A n cap, .int .u32 it, .int .u64 h, .int .u32 li, .int .i64 tr] : Array Value).setIfInBounds 6 (.int .u32 y) = #[.int .i64 kd, .int .i64 pc, .int .i64 hd, .slice A n cap, .int .u32 it, .int .u64 h, .int .u32 y, .int .i64 tr] from rfl))
  · exact (heap_setCell_other w' ⟨w.heap.size, 6, none⟩ _ _ (Nat.succ_ne_self _)).trans k.b1
end
section
variable {w w' : World} {kd pc hd : Int} {A : Option Addr} {n cap : Nat} {it h li tr : Int} {u0 u1 u2 u3 u4 u5 u6 u7 : Value}
theorem KM.putc (k : KM w w' kd pc hd A n cap it h li tr) : (put8 w' (w.heap.size + 1) u0 u1 u2 u3 u4 u5 u6 u7).cell? ⟨w.heap.size, 0, none⟩ = some (.int .i64 kd) ∧ (put8 w' (w.heap.size + 1) u0 u1 u2 u3 u4 u5 u6 u7).cell? ⟨w.heap.size, 1, none⟩ = some (.int .i64 pc) ∧ (put8 w' (w.heap.size + 1) u0 u1 u2 u3 u4 u5 u6 u7).cell? ⟨w.heap.size, 2, none⟩ = some (.int .i64 hd) ∧ (put8 w' (w.heap.size + 1) u0 u1 u2 u3 u4 u5 u6 u7).cell? ⟨w.heap.size, 3, none⟩ = some (.slice A n cap) ∧ (put8 w' (w.heap.size + 1) u0 u1 u2 u3 u4 u5 u6 u7).cell? ⟨w.heap.size, 4, none⟩ = some (.int .u32 it) ∧ (put8 w' (w.heap.size + 1) u0 u1 u2 u3 u4 u5 u6 u7).cell? ⟨w.heap.size, 5, none⟩ = some (.int .u64 h) ∧ (put8 w' (w.heap.size + 1) u0 u1 u2 u3 u4 u5 u6 u7).cell? ⟨w.heap.size, 6, none⟩ = some (.int .u32 li) ∧ (put8 w' (w.heap.size + 1) u0 u1 u2 u3 u4 u5 u6 u7).cell? ⟨w.heap.size, 7, none⟩ = some (.int .i64 tr) := by
  have u := put8_upd w' (w.heap.size + 1) u0 u1 u2 u3 u4 u5 u6 u7
  have b0 := (u.block _ (Array.getElem?_eq_some_iff.1 k.b0).1 (by omega) (by omega)).trans k.b0
  generalize (put8 w' (w.heap.size + 1) u0 u1 u2 u3 u4 u5 u6 u7) = W at b0 ⊢
  refine ⟨?_, ?_, ?_, ?_, ?_, ?_, ?_, ?_⟩ <;> simp [World.cell?, b0]
theorem KM.putr (k : KM w w' kd pc hd A n cap it h li tr) : (put8 w' (w.heap.size + 1) u0 u1 u2 u3 u4 u5 u6 u7).cell? ⟨w.heap.size + 1, 0, none⟩ = some (u0) ∧ (put8 w' (w.heap.size + 1) u0 u1 u2 u3 u4 u5 u6 u7).cell? ⟨w.heap.size + 1, 1, none⟩ = some (u1) ∧ (put8 w' (w.heap.size + 1) u0 u1 u2 u3 u4 u5 u6 u7).cell? ⟨w.heap.size + 1, 2, none⟩ = some (u2) ∧ (put8 w' (w.heap.size + 1) u0 u1 u2 u3 u4 u5 u6 u7).cell? ⟨w.heap.size + 1, 3, none⟩ = some (u3) ∧ (put8 w' (w.heap.size + 1) u0 u1 u2 u3 u4 u5 u6 u7).cell? ⟨w.heap.size + 1, 4, none⟩ = some (u4) ∧ (put8 w' (w.heap.size + 1) u0 u1 u2 u3 u4 u5 u6 u7).cell? ⟨w.heap.size + 1, 5, none⟩ = some (u5) ∧ (put8 w' (w.heap.size + 1) u0 u1 u2 u3 u4 u5 u6 u7).cell? ⟨w.heap.size + 1, 6, none⟩ = some (u6) ∧ (put8 w' (w.heap.size + 1) u0 u1 u2 u3 u4 u5 u6 u7).cell? ⟨w.heap.size + 1, 7, none⟩ = some (u7) := by
  have b := put8_same w' (w.heap.size + 1) 51 _ _ _ _ _ _ _ _ k.b1 u0 u1 u2 u3 u4 u5 u6 u7
  generalize (put8 w' (w.heap.size + 1) u0 u1 u2 u3 u4 u5 u6 u7) = W at b ⊢
  refine ⟨?_, ?_, ?_, ?_, ?_, ?_, ?_, ?_⟩ <;> simp [World.cell?, b]
theorem KM.putb (k : KM w w' kd pc hd A n cap it h li tr) : Below w.heap.size w (put8 w' (w.heap.size + 1) u0 u1 u2 u3 u4 u5 u6 u7) := below_upd k.bel (Nat.le_refl _) (put8_upd w' (w.heap.size + 1) u0 u1 u2 u3 u4 u5 u6 u7) (by omega) (by omega)
theorem KM.putd {P : Nat → Prop} {R : Option Addr} {L : List Int} (hr : ReadsW (fun b => P b ∧ b ≠ w.heap.size + 1) w' R L) : ReadsW P (put8 w' (w.heap.size + 1) u0 u1 u2 u3 u4 u5 u6 u7) R L :=
  hr.upd (put8_upd w' (w.heap.size + 1) u0 u1 u2 u3 u4 u5 u6 u7) fun b hb _ => ⟨hb.2, hb.2, hb.1⟩
end
end Go.Proofs.YtbpkcoemehmpbaaGreat
