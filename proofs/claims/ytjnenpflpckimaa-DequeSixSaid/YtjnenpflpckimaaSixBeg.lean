/- A machine of a kind, and the document's, begun; walked. -/
import Derived.Test.YtjnenpflpckimaaUp
namespace Go.Proofs.Ytjnenpflpckimaa
open Go.RowKit
set_option linter.unusedVariables false
set_option linter.unusedSimpArgs false
attribute [local irreducible] runs

/-- The document's own machine. -/
abbrev modV (kd : Int) (e : En) (v : Int) : Value := .agg #[.int .i64 kd, .int .i64 1, .int .i64 e.top, .int .i64 e.bot, .int .i64 e.ent, .int .i64 e.room, .int .u64 0, .int .u64 0, .int .u64 v, .bool false, .int .i64 0]

set_option maxHeartbeats 2000000 in
theorem rpush_any (e : En) (v : Int) (w : World) : Calls Try.prog 26 #[enV e, .int .u64 v] w fun a w' => a = .returned (modV 1 e v) ∧ Below w.heap.size w w' := by
  go_enter Try.func26, Try.ntmps26
  go_wp2
  exact bodyPost_ret (v := modV 1 e v) (by simp [results, Try.results26, go_sem]) rfl ⟨rfl, below_alloc0 (below_al w _) _⟩
set_option maxHeartbeats 2000000 in
theorem rpop_any (e : En) (w : World) : Calls Try.prog 27 #[enV e] w fun a w' => a = .returned (modV 2 e 0) ∧ Below w.heap.size w w' := by
  go_enter Try.func27, Try.ntmps27
  go_wp2
  exact bodyPost_ret (v := modV 2 e 0) (by simp [results, Try.results27, go_sem]) rfl ⟨rfl, below_alloc0 (below_al w _) _⟩
set_option maxHeartbeats 2000000 in
theorem rsteal_any (e : En) (w : World) : Calls Try.prog 28 #[enV e] w fun a w' => a = .returned (modV 3 e 0) ∧ Below w.heap.size w w' := by
  go_enter Try.func28, Try.ntmps28
  go_wp2
  exact bodyPost_ret (v := modV 3 e 0) (by simp [results, Try.results28, go_sem]) rfl ⟨rfl, below_alloc0 (below_al w _) _⟩

/-- A machine of a kind, in new memory; the document's beside it. -/
def NewK (w : World) (m : Mc) (a : Ending) (w' : World) : Prop := ∃ M kd e v, a = .returned (.tuple #[ptr M, modV kd e v]) ∧ w.heap.size ≤ M ∧ MM w' M m ∧ Below w.heap.size w w'

/-- The boxes, and the result's place. -/
structure KB (w w' : World) (e : En) : Prop where
  bel : Below w.heap.size w w'
  b0 : w'.heap[w.heap.size]? = some (.cells #[.int .i64 e.top, .int .i64 e.bot, .int .i64 e.ent, .int .i64 e.room] 25 (0, 0))
  b1 : w'.heap[w.heap.size + 1]? = some (.cells #[.int .i64 0, .int .i64 0, .int .i64 0, .int .i64 0, .int .i64 0, .int .i64 0, .int .u64 0, .int .u64 0, .int .u64 0, .bool false, .int .i64 0] 45 (0, 0))
  b2 : w'.heap[w.heap.size + 1 + 1]? = some (.cells #[.int .i64 e.top, .int .i64 e.bot, .int .i64 e.ent, .int .i64 e.room] 43 (0, 0))
section
variable {w w' w2 : World} {e : En}
theorem KB.step (h : KB w w' e) (hb : Below w'.heap.size w' w2) : KB w w2 e :=
  ⟨below_step h.bel h.bel.size hb, box_kept h.b0 hb, box_kept h.b1 hb, box_kept h.b2 hb⟩
theorem KB.cells (h : KB w w' e) : w'.cell? ⟨w.heap.size, 0, none⟩ = some (.int .i64 e.top) ∧ w'.cell? ⟨w.heap.size, 1, none⟩ = some (.int .i64 e.bot) ∧ w'.cell? ⟨w.heap.size, 2, none⟩ = some (.int .i64 e.ent) ∧ w'.cell? ⟨w.heap.size, 3, none⟩ = some (.int .i64 e.room) ∧
    w'.cell? ⟨w.heap.size + 1 + 1, 0, none⟩ = some (.int .i64 e.top) ∧ w'.cell? ⟨w.heap.size + 1 + 1, 1, none⟩ = some (.int .i64 e.bot) ∧ w'.cell? ⟨w.heap.size + 1 + 1, 2, none⟩ = some (.int .i64 e.ent) ∧ w'.cell? ⟨w.heap.size + 1 + 1, 3, none⟩ = some (.int .i64 e.room) := by
  refine ⟨?_, ?_, ?_, ?_, ?_, ?_, ?_, ?_⟩ <;> simp [World.cell?, h.b0, h.b2]
theorem KB.res (h : KB w w' e) : w'.cell? ⟨w.heap.size + 1, 0, none⟩ = some (.int .i64 0) ∧ w'.cell? ⟨w.heap.size + 1, 1, none⟩ = some (.int .i64 0) ∧ w'.cell? ⟨w.heap.size + 1, 2, none⟩ = some (.int .i64 0) ∧ w'.cell? ⟨w.heap.size + 1, 3, none⟩ = some (.int .i64 0) ∧ w'.cell? ⟨w.heap.size + 1, 4, none⟩ = some (.int .i64 0) ∧ w'.cell? ⟨w.heap.size + 1, 5, none⟩ = some (.int .i64 0) ∧ w'.cell? ⟨w.heap.size + 1, 6, none⟩ = some (.int .u64 0) ∧ w'.cell? ⟨w.heap.size + 1, 7, none⟩ = some (.int .u64 0) ∧ w'.cell? ⟨w.heap.size + 1, 8, none⟩ = some (.int .u64 0) ∧ w'.cell? ⟨w.heap.size + 1, 9, none⟩ = some (.bool false) ∧ w'.cell? ⟨w.heap.size + 1, 10, none⟩ = some (.int .i64 0) := by
  refine ⟨?_, ?_, ?_, ?_, ?_, ?_, ?_, ?_, ?_, ?_, ?_⟩ <;> simp [World.cell?, h.b1]
theorem KB.fro (h : KB w w' e) (j : Nat) : w'.frozen? ⟨w.heap.size + 1, j, none⟩ = false := frozen_of_row w' _ j _ _ h.b1
theorem KB.new (w : World) (e : En) (cs : Array Value) : KB w (((w.alloc (.cells #[.int .i64 e.top, .int .i64 e.bot, .int .i64 e.ent, .int .i64 e.room] 25)).alloc (.cells #[.int .i64 0, .int .i64 0, .int .i64 0, .int .i64 0, .int .i64 0, .int .i64 0, .int .u64 0, .int .u64 0, .int .u64 0, .bool false, .int .i64 0] 45)).alloc (.cells #[.int .i64 e.top, .int .i64 e.bot, .int .i64 e.ent, .int .i64 e.room] 43)) e := by
  have e1 : (w.alloc (.cells #[.int .i64 e.top, .int .i64 e.bot, .int .i64 e.ent, .int .i64 e.room] 25)).heap.size = w.heap.size + 1 := by simp
  have h0 := box_new w #[.int .i64 e.top, .int .i64 e.bot, .int .i64 e.ent, .int .i64 e.room] 25
  have h1 := box_new (w.alloc (.cells #[.int .i64 e.top, .int .i64 e.bot, .int .i64 e.ent, .int .i64 e.room] 25)) #[.int .i64 0, .int .i64 0, .int .i64 0, .int .i64 0, .int .i64 0, .int .i64 0, .int .u64 0, .int .u64 0, .int .u64 0, .bool false, .int .i64 0] 45
  have h2 := box_new ((w.alloc (.cells #[.int .i64 e.top, .int .i64 e.bot, .int .i64 e.ent, .int .i64 e.room] 25)).alloc (.cells #[.int .i64 0, .int .i64 0, .int .i64 0, .int .i64 0, .int .i64 0, .int .i64 0, .int .u64 0, .int .u64 0, .int .u64 0, .bool false, .int .i64 0] 45)) #[.int .i64 e.top, .int .i64 e.bot, .int .i64 e.ent, .int .i64 e.room] 43
  rw [e1] at h1
  have e2 : ((w.alloc (.cells #[.int .i64 e.top, .int .i64 e.bot, .int .i64 e.ent, .int .i64 e.room] 25)).alloc (.cells #[.int .i64 0, .int .i64 0, .int .i64 0, .int .i64 0, .int .i64 0, .int .i64 0, .int .u64 0, .int .u64 0, .int .u64 0, .bool false, .int .i64 0] 45)).heap.size = w.heap.size + 1 + 1 := by simp
  rw [e2] at h2
  exact ⟨below_alloc0 (below_alloc0 (below_al w _) _) _, box_kept (box_kept h0 (below_al _ _)) (below_al _ _), box_kept h1 (below_al _ _), h2⟩
end

/-- A store of eleven cells. -/
abbrev put11 (w : World) (B : Nat) (u0 u1 u2 u3 u4 u5 u6 u7 u8 u9 u10 : Value) : World := (((((((((((w.setCell ⟨B, 0, none⟩ u0).setCell ⟨B, 1, none⟩ u1).setCell ⟨B, 2, none⟩ u2).setCell ⟨B, 3, none⟩ u3).setCell ⟨B, 4, none⟩ u4).setCell ⟨B, 5, none⟩ u5).setCell ⟨B, 6, none⟩ u6).setCell ⟨B, 7, none⟩ u7).setCell ⟨B, 8, none⟩ u8).setCell ⟨B, 9, none⟩ u9).setCell ⟨B, 10, none⟩ u10)
theorem put11_same (w : World) (B : Nat) (t : TypeId) (x0 x1 x2 x3 x4 x5 x6 x7 x8 x9 x10 : Value) (h : w.heap[B]? = some (.cells #[x0, x1, x2, x3, x4, x5, x6, x7, x8, x9, x10] t (0, 0))) (u0 u1 u2 u3 u4 u5 u6 u7 u8 u9 u10 : Value) : (put11 w B u0 u1 u2 u3 u4 u5 u6 u7 u8 u9 u10).heap[B]? = some (.cells #[u0, u1, u2, u3, u4, u5, u6, u7, u8, u9, u10] t (0, 0)) := by
  have h0 : (w.setCell ⟨B, 0, none⟩ u0).heap[B]? = some (.cells #[u0, x1, x2, x3, x4, x5, x6, x7, x8, x9, x10] t (0, 0)) := (heap_setCell_same _ B 0 _ t u0 h).trans (congrArg (fun c => some (Obj.cells c t (0, 0))) (show (#[x0, x1, x2, x3, x4, x5, x6, x7, x8, x9, x10] : Array Value).setIfInBounds 0 u0 = #[u0, x1, x2, x3, x4, x5, x6, x7, x8, x9, x10] from rfl))
  have h1 : ((w.setCell ⟨B, 0, none⟩ u0).setCell ⟨B, 1, none⟩ u1).heap[B]? = some (.cells #[u0, u1, x2, x3, x4, x5, x6, x7, x8, x9, x10] t (0, 0)) := (heap_setCell_same _ B 1 _ t u1 h0).trans (congrArg (fun c => some (Obj.cells c t (0, 0))) (show (#[u0, x1, x2, x3, x4, x5, x6, x7, x8, x9, x10] : Array Value).setIfInBounds 1 u1 = #[u0, u1, x2, x3, x4, x5, x6, x7, x8, x9, x10] from rfl))
  have h2 : (((w.setCell ⟨B, 0, none⟩ u0).setCell ⟨B, 1, none⟩ u1).setCell ⟨B, 2, none⟩ u2).heap[B]? = some (.cells #[u0, u1, u2, x3, x4, x5, x6, x7, x8, x9, x10] t (0, 0)) := (heap_setCell_same _ B 2 _ t u2 h1).trans (congrArg (fun c => some (Obj.cells c t (0, 0))) (show (#[u0, u1, x2, x3, x4, x5, x6, x7, x8, x9, x10] : Array Value).setIfInBounds 2 u2 = #[u0, u1, u2, x3, x4, x5, x6, x7, x8, x9, x10] from rfl))
  have h3 : ((((w.setCell ⟨B, 0, none⟩ u0).setCell ⟨B, 1, none⟩ u1).setCell ⟨B, 2, none⟩ u2).setCell ⟨B, 3, none⟩ u3).heap[B]? = some (.cells #[u0, u1, u2, u3, x4, x5, x6, x7, x8, x9, x10] t (0, 0)) := (heap_setCell_same _ B 3 _ t u3 h2).trans (congrArg (fun c => some (Obj.cells c t (0, 0))) (show (#[u0, u1, u2, x3, x4, x5, x6, x7, x8, x9, x10] : Array Value).setIfInBounds 3 u3 = #[u0, u1, u2, u3, x4, x5, x6, x7, x8, x9, x10] from rfl))
  have h4 : (((((w.setCell ⟨B, 0, none⟩ u0).setCell ⟨B, 1, none⟩ u1).setCell ⟨B, 2, none⟩ u2).setCell ⟨B, 3, none⟩ u3).setCell ⟨B, 4, none⟩ u4).heap[B]? = some (.cells #[u0, u1, u2, u3, u4, x5, x6, x7, x8, x9, x10] t (0, 0)) := (heap_setCell_same _ B 4 _ t u4 h3).trans (congrArg (fun c => some (Obj.cells c t (0, 0))) (show (#[u0, u1, u2, u3, x4, x5, x6, x7, x8, x9, x10] : Array Value).setIfInBounds 4 u4 = #[u0, u1, u2, u3, u4, x5, x6, x7, x8, x9, x10] from rfl))
  have h5 : ((((((w.setCell ⟨B, 0, none⟩ u0).setCell ⟨B, 1, none⟩ u1).setCell ⟨B, 2, none⟩ u2).setCell ⟨B, 3, none⟩ u3).setCell ⟨B, 4, none⟩ u4).setCell ⟨B, 5, none⟩ u5).heap[B]? = some (.cells #[u0, u1, u2, u3, u4, u5, x6, x7, x8, x9, x10] t (0, 0)) := (heap_setCell_same _ B 5 _ t u5 h4).trans (congrArg (fun c => some (Obj.cells c t (0, 0))) (show (#[u0, u1, u2, u3, u4, x5, x6, x7, x8, x9, x10] : Array Value).setIfInBounds 5 u5 = #[u0, u1, u2, u3, u4, u5, x6, x7, x8, x9, x10] from rfl))
  have h6 : (((((((w.setCell ⟨B, 0, none⟩ u0).setCell ⟨B, 1, none⟩ u1).setCell ⟨B, 2, none⟩ u2).setCell ⟨B, 3, none⟩ u3).setCell ⟨B, 4, none⟩ u4).setCell ⟨B, 5, none⟩ u5).setCell ⟨B, 6, none⟩ u6).heap[B]? = some (.cells #[u0, u1, u2, u3, u4, u5, u6, x7, x8, x9, x10] t (0, 0)) := (heap_setCell_same _ B 6 _ t u6 h5).trans (congrArg (fun c => some (Obj.cells c t (0, 0))) (show (#[u0, u1, u2, u3, u4, u5, x6, x7, x8, x9, x10] : Array Value).setIfInBounds 6 u6 = #[u0, u1, u2, u3, u4, u5, u6, x7, x8, x9, x10] from rfl))
  have h7 : ((((((((w.setCell ⟨B, 0, none⟩ u0).setCell ⟨B, 1, none⟩ u1).setCell ⟨B, 2, none⟩ u2).setCell ⟨B, 3, none⟩ u3).setCell ⟨B, 4, none⟩ u4).setCell ⟨B, 5, none⟩ u5).setCell ⟨B, 6, none⟩ u6).setCell ⟨B, 7, none⟩ u7).heap[B]? = some (.cells #[u0, u1, u2, u3, u4, u5, u6, u7, x8, x9, x10] t (0, 0)) := (heap_setCell_same _ B 7 _ t u7 h6).trans (congrArg (fun c => some (Obj.cells c t (0, 0))) (show (#[u0, u1, u2, u3, u4, u5, u6, x7, x8, x9, x10] : Array Value).setIfInBounds 7 u7 = #[u0, u1, u2, u3, u4, u5, u6, u7, x8, x9, x10] from rfl))
  have h8 : (((((((((w.setCell ⟨B, 0, none⟩ u0).setCell ⟨B, 1, none⟩ u1).setCell ⟨B, 2, none⟩ u2).setCell ⟨B, 3, none⟩ u3).setCell ⟨B, 4, none⟩ u4).setCell ⟨B, 5, none⟩ u5).setCell ⟨B, 6, none⟩ u6).setCell ⟨B, 7, none⟩ u7).setCell ⟨B, 8, none⟩ u8).heap[B]? = some (.cells #[u0, u1, u2, u3, u4, u5, u6, u7, u8, x9, x10] t (0, 0)) := (heap_setCell_same _ B 8 _ t u8 h7).trans (congrArg (fun c => some (Obj.cells c t (0, 0))) (show (#[u0, u1, u2, u3, u4, u5, u6, u7, x8, x9, x10] : Array Value).setIfInBounds 8 u8 = #[u0, u1, u2, u3, u4, u5, u6, u7, u8, x9, x10] from rfl))
  have h9 : ((((((((((w.setCell ⟨B, 0, none⟩ u0).setCell ⟨B, 1, none⟩ u1).setCell ⟨B, 2, none⟩ u2).setCell ⟨B, 3, none⟩ u3).setCell ⟨B, 4, none⟩ u4).setCell ⟨B, 5, none⟩ u5).setCell ⟨B, 6, none⟩ u6).setCell ⟨B, 7, none⟩ u7).setCell ⟨B, 8, none⟩ u8).setCell ⟨B, 9, none⟩ u9).heap[B]? = some (.cells #[u0, u1, u2, u3, u4, u5, u6, u7, u8, u9, x10] t (0, 0)) := (heap_setCell_same _ B 9 _ t u9 h8).trans (congrArg (fun c => some (Obj.cells c t (0, 0))) (show (#[u0, u1, u2, u3, u4, u5, u6, u7, u8, x9, x10] : Array Value).setIfInBounds 9 u9 = #[u0, u1, u2, u3, u4, u5, u6, u7, u8, u9, x10] from rfl))
  have h10 : (((((((((((w.setCell ⟨B, 0, none⟩ u0).setCell ⟨B, 1, none⟩ u1).setCell ⟨B, 2, none⟩ u2).setCell ⟨B, 3, none⟩ u3).setCell ⟨B, 4, none⟩ u4).setCell ⟨B, 5, none⟩ u5).setCell ⟨B, 6, none⟩ u6).setCell ⟨B, 7, none⟩ u7).setCell ⟨B, 8, none⟩ u8).setCell ⟨B, 9, none⟩ u9).setCell ⟨B, 10, none⟩ u10).heap[B]? = some (.cells #[u0, u1, u2, u3, u4, u5, u6, u7, u8, u9, u10] t (0, 0)) := (heap_setCell_same _ B 10 _ t u10 h9).trans (congrArg (fun c => some (Obj.cells c t (0, 0))) (show (#[u0, u1, u2, u3, u4, u5, u6, u7, u8, u9, x10] : Array Value).setIfInBounds 10 u10 = #[u0, u1, u2, u3, u4, u5, u6, u7, u8, u9, u10] from rfl))
  exact h10
theorem put11_upd (w : World) (B : Nat) (u0 u1 u2 u3 u4 u5 u6 u7 u8 u9 u10 : Value) : Upd B B w (put11 w B u0 u1 u2 u3 u4 u5 u6 u7 u8 u9 u10) := by
  have u := fun (w : World) (i : Nat) (v : Value) => (show Upd B B w (w.setCell ⟨B, i, none⟩ v) from ⟨rfl, rfl, rfl, by simp, fun k hk h1 _ => heap_setCell_other w ⟨B, i, none⟩ k v h1⟩)
  exact (((((((((((u _ _ _).trans (u _ _ _)).trans (u _ _ _)).trans (u _ _ _)).trans (u _ _ _)).trans (u _ _ _)).trans (u _ _ _)).trans (u _ _ _)).trans (u _ _ _)).trans (u _ _ _)).trans (u _ _ _))
section
variable {w w' : World} {e : En} {u0 u1 u2 u3 u4 u5 u6 u7 u8 u9 u10 : Value}
theorem KB.putc (h : KB w w' e) : (put11 w' (w.heap.size + 1) u0 u1 u2 u3 u4 u5 u6 u7 u8 u9 u10).cell? ⟨w.heap.size, 0, none⟩ = some (.int .i64 e.top) ∧ (put11 w' (w.heap.size + 1) u0 u1 u2 u3 u4 u5 u6 u7 u8 u9 u10).cell? ⟨w.heap.size, 1, none⟩ = some (.int .i64 e.bot) ∧ (put11 w' (w.heap.size + 1) u0 u1 u2 u3 u4 u5 u6 u7 u8 u9 u10).cell? ⟨w.heap.size, 2, none⟩ = some (.int .i64 e.ent) ∧ (put11 w' (w.heap.size + 1) u0 u1 u2 u3 u4 u5 u6 u7 u8 u9 u10).cell? ⟨w.heap.size, 3, none⟩ = some (.int .i64 e.room) ∧ (put11 w' (w.heap.size + 1) u0 u1 u2 u3 u4 u5 u6 u7 u8 u9 u10).cell? ⟨w.heap.size + 1 + 1, 0, none⟩ = some (.int .i64 e.top) ∧ (put11 w' (w.heap.size + 1) u0 u1 u2 u3 u4 u5 u6 u7 u8 u9 u10).cell? ⟨w.heap.size + 1 + 1, 1, none⟩ = some (.int .i64 e.bot) ∧ (put11 w' (w.heap.size + 1) u0 u1 u2 u3 u4 u5 u6 u7 u8 u9 u10).cell? ⟨w.heap.size + 1 + 1, 2, none⟩ = some (.int .i64 e.ent) ∧ (put11 w' (w.heap.size + 1) u0 u1 u2 u3 u4 u5 u6 u7 u8 u9 u10).cell? ⟨w.heap.size + 1 + 1, 3, none⟩ = some (.int .i64 e.room) := by
  have u := put11_upd w' (w.heap.size + 1) u0 u1 u2 u3 u4 u5 u6 u7 u8 u9 u10
  have l0 := (Array.getElem?_eq_some_iff.1 h.b0).1
  have l2 := (Array.getElem?_eq_some_iff.1 h.b2).1
  have b0 := (u.block _ l0 (by omega) (by omega)).trans h.b0
  have b2 := (u.block _ l2 (by omega) (by omega)).trans h.b2
  generalize (put11 w' (w.heap.size + 1) u0 u1 u2 u3 u4 u5 u6 u7 u8 u9 u10) = W at b0 b2 ⊢
  refine ⟨?_, ?_, ?_, ?_, ?_, ?_, ?_, ?_⟩ <;> simp [World.cell?, b0, b2]
theorem KB.putr (h : KB w w' e) : (put11 w' (w.heap.size + 1) u0 u1 u2 u3 u4 u5 u6 u7 u8 u9 u10).cell? ⟨w.heap.size + 1, 0, none⟩ = some u0 ∧ (put11 w' (w.heap.size + 1) u0 u1 u2 u3 u4 u5 u6 u7 u8 u9 u10).cell? ⟨w.heap.size + 1, 1, none⟩ = some u1 ∧ (put11 w' (w.heap.size + 1) u0 u1 u2 u3 u4 u5 u6 u7 u8 u9 u10).cell? ⟨w.heap.size + 1, 2, none⟩ = some u2 ∧ (put11 w' (w.heap.size + 1) u0 u1 u2 u3 u4 u5 u6 u7 u8 u9 u10).cell? ⟨w.heap.size + 1, 3, none⟩ = some u3 ∧ (put11 w' (w.heap.size + 1) u0 u1 u2 u3 u4 u5 u6 u7 u8 u9 u10).cell? ⟨w.heap.size + 1, 4, none⟩ = some u4 ∧ (put11 w' (w.heap.size + 1) u0 u1 u2 u3 u4 u5 u6 u7 u8 u9 u10).cell? ⟨w.heap.size + 1, 5, none⟩ = some u5 ∧ (put11 w' (w.heap.size + 1) u0 u1 u2 u3 u4 u5 u6 u7 u8 u9 u10).cell? ⟨w.heap.size + 1, 6, none⟩ = some u6 ∧ (put11 w' (w.heap.size + 1) u0 u1 u2 u3 u4 u5 u6 u7 u8 u9 u10).cell? ⟨w.heap.size + 1, 7, none⟩ = some u7 ∧ (put11 w' (w.heap.size + 1) u0 u1 u2 u3 u4 u5 u6 u7 u8 u9 u10).cell? ⟨w.heap.size + 1, 8, none⟩ = some u8 ∧ (put11 w' (w.heap.size + 1) u0 u1 u2 u3 u4 u5 u6 u7 u8 u9 u10).cell? ⟨w.heap.size + 1, 9, none⟩ = some u9 ∧ (put11 w' (w.heap.size + 1) u0 u1 u2 u3 u4 u5 u6 u7 u8 u9 u10).cell? ⟨w.heap.size + 1, 10, none⟩ = some u10 := by
  have b := put11_same w' (w.heap.size + 1) 45 _ _ _ _ _ _ _ _ _ _ _ h.b1 u0 u1 u2 u3 u4 u5 u6 u7 u8 u9 u10
  generalize (put11 w' (w.heap.size + 1) u0 u1 u2 u3 u4 u5 u6 u7 u8 u9 u10) = W at b ⊢
  refine ⟨?_, ?_, ?_, ?_, ?_, ?_, ?_, ?_, ?_, ?_, ?_⟩ <;> simp [World.cell?, b]
theorem KB.fin (h : KB w w' e) {M kd v : _} {m : Mc} (hM : w.heap.size + 1 + 1 < M) (hm : MM w' M m) : NewK w m (.returned (.tuple #[ptr M, modV kd e v])) (put11 w' (w.heap.size + 1) u0 u1 u2 u3 u4 u5 u6 u7 u8 u9 u10) := by
  have u := put11_upd w' (w.heap.size + 1) u0 u1 u2 u3 u4 u5 u6 u7 u8 u9 u10
  have u3 : U3 (w.heap.size + 1) (w.heap.size + 1) (w.heap.size + 1) w' (put11 w' (w.heap.size + 1) u0 u1 u2 u3 u4 u5 u6 u7 u8 u9 u10) := .of_upd u
  exact ⟨M, kd, e, v, rfl, by omega, hm.u3 u3 (by omega) (by omega) (by omega), below_upd h.bel (Nat.le_refl _) u (by omega) (by omega)⟩
end

set_option maxHeartbeats 4000000 in
theorem kpush_any (z : Int) (hz : z.tmod 3 = 0) (hz2 : z % 3 = 0) (e : En) (v : Int) (w : World) : Calls Try.prog 16 #[.int .u8 z, enV e, .int .u64 v] w (NewK w (mPush e v)) := by
  have hkb := KB.new w e #[]
  go_enter Try.func16, Try.ntmps16
  go_wp2
  obtain ⟨W, hW⟩ : ∃ W, W = (((w.alloc (.cells #[.int .i64 e.top, .int .i64 e.bot, .int .i64 e.ent, .int .i64 e.room] 25)).alloc (.cells #[.int .i64 0, .int .i64 0, .int .i64 0, .int .i64 0, .int .i64 0, .int .i64 0, .int .u64 0, .int .u64 0, .int .u64 0, .bool false, .int .i64 0] 45)).alloc (.cells #[.int .i64 e.top, .int .i64 e.bot, .int .i64 e.ent, .int .i64 e.room] 43)) := ⟨_, rfl⟩
  rw [← hW] at hkb
  rw [← hW]
  obtain ⟨x0, x1, x2, x3, y0, y1, y2, y3⟩ := hkb.cells
  have HKD := Lib.hid (hkb.step ((Below.refl W.heap.size W).drew))
  have HSZ := Lib.hid (show w.heap.size + 1 + 1 < W.drew.heap.size from by have := (Array.getElem?_eq_some_iff.1 hkb.b2).1; simpa using this)
  clear hkb hW
  go_region_held3 (fun w' => w'.cell? ⟨w.heap.size, 0, none⟩ = some (.int .i64 e.top) ∧ w'.cell? ⟨w.heap.size, 1, none⟩ = some (.int .i64 e.bot) ∧ w'.cell? ⟨w.heap.size, 2, none⟩ = some (.int .i64 e.ent) ∧ w'.cell? ⟨w.heap.size, 3, none⟩ = some (.int .i64 e.room) ∧ w'.cell? ⟨w.heap.size + 1 + 1, 0, none⟩ = some (.int .i64 e.top) ∧ w'.cell? ⟨w.heap.size + 1 + 1, 1, none⟩ = some (.int .i64 e.bot) ∧ w'.cell? ⟨w.heap.size + 1 + 1, 2, none⟩ = some (.int .i64 e.ent) ∧ w'.cell? ⟨w.heap.size + 1 + 1, 3, none⟩ = some (.int .i64 e.room))
    (first | (with_reducible exact HK2.out.putc) | (with_reducible exact HK2.out.cells) | (with_reducible exact HK1.out.cells) | (with_reducible exact HKD.out.cells) | fail)
    (first
      | (go_at_call 11; (with_reducible refine (push_any e v _).mono ?_); intro a w3 hk; obtain ⟨M, rfl, hM, hm, hb⟩ := hk; have HK1 := Lib.hid (HKD.out.step hb); have HM1 := Lib.hid hm; have HM := Lib.hid (show w.heap.size + 1 + 1 < M from Nat.lt_of_lt_of_le HSZ.out hM); clear hm hb hM)
      | (go_at_call 26; (with_reducible refine (rpush_any e v _).mono ?_); rintro a w4 ⟨rfl, hb⟩; have HK2 := Lib.hid (HK1.out.step hb); have HM2 := Lib.hid (HM1.out.below hb); clear hb; obtain ⟨r0, r1, r2, r3, r4, r5, r6, r7, r8, r9, r10⟩ := HK2.out.res; have hfr := HK2.out.fro)
      | fail)
  go_wp2
  obtain ⟨e0, e1, e2, e3, e4, e5, e6, e7, e8, e9, e10⟩ := HK2.out.putr (u0 := .int .i64 1) (u1 := .int .i64 1) (u2 := .int .i64 e.top) (u3 := .int .i64 e.bot) (u4 := .int .i64 e.ent) (u5 := .int .i64 e.room) (u6 := .int .u64 0) (u7 := .int .u64 0) (u8 := .int .u64 v) (u9 := .bool false) (u10 := .int .i64 0)
  exact bodyPost_ret (v := .tuple #[ptr M, modV 1 e v]) (by simp [results, Try.results16, go_sem, e0, e1, e2, e3, e4, e5, e6, e7, e8, e9, e10]) rfl (HK2.out.fin HM.out HM2.out)

set_option maxHeartbeats 4000000 in
theorem kpop_any (z : Int) (hz : z.tmod 3 = 1) (hz2 : z % 3 = 1) (e : En) (v : Int) (w : World) : Calls Try.prog 16 #[.int .u8 z, enV e, .int .u64 v] w (NewK w (mPop e)) := by
  have hkb := KB.new w e #[]
  go_enter Try.func16, Try.ntmps16
  go_wp2
  obtain ⟨W, hW⟩ : ∃ W, W = (((w.alloc (.cells #[.int .i64 e.top, .int .i64 e.bot, .int .i64 e.ent, .int .i64 e.room] 25)).alloc (.cells #[.int .i64 0, .int .i64 0, .int .i64 0, .int .i64 0, .int .i64 0, .int .i64 0, .int .u64 0, .int .u64 0, .int .u64 0, .bool false, .int .i64 0] 45)).alloc (.cells #[.int .i64 e.top, .int .i64 e.bot, .int .i64 e.ent, .int .i64 e.room] 43)) := ⟨_, rfl⟩
  rw [← hW] at hkb
  rw [← hW]
  obtain ⟨x0, x1, x2, x3, y0, y1, y2, y3⟩ := hkb.cells
  have HKD := Lib.hid (hkb.step ((Below.refl W.heap.size W).drew))
  have HSZ := Lib.hid (show w.heap.size + 1 + 1 < W.drew.heap.size from by have := (Array.getElem?_eq_some_iff.1 hkb.b2).1; simpa using this)
  clear hkb hW
  go_region_held3 (fun w' => w'.cell? ⟨w.heap.size, 0, none⟩ = some (.int .i64 e.top) ∧ w'.cell? ⟨w.heap.size, 1, none⟩ = some (.int .i64 e.bot) ∧ w'.cell? ⟨w.heap.size, 2, none⟩ = some (.int .i64 e.ent) ∧ w'.cell? ⟨w.heap.size, 3, none⟩ = some (.int .i64 e.room) ∧ w'.cell? ⟨w.heap.size + 1 + 1, 0, none⟩ = some (.int .i64 e.top) ∧ w'.cell? ⟨w.heap.size + 1 + 1, 1, none⟩ = some (.int .i64 e.bot) ∧ w'.cell? ⟨w.heap.size + 1 + 1, 2, none⟩ = some (.int .i64 e.ent) ∧ w'.cell? ⟨w.heap.size + 1 + 1, 3, none⟩ = some (.int .i64 e.room))
    (first | (with_reducible exact HK2.out.putc) | (with_reducible exact HK2.out.cells) | (with_reducible exact HK1.out.cells) | (with_reducible exact HKD.out.cells) | fail)
    (first
      | (go_at_call 12; (with_reducible refine (pop_any e _).mono ?_); intro a w3 hk; obtain ⟨M, rfl, hM, hm, hb⟩ := hk; have HK1 := Lib.hid (HKD.out.step hb); have HM1 := Lib.hid hm; have HM := Lib.hid (show w.heap.size + 1 + 1 < M from Nat.lt_of_lt_of_le HSZ.out hM); clear hm hb hM)
      | (go_at_call 27; (with_reducible refine (rpop_any e _).mono ?_); rintro a w4 ⟨rfl, hb⟩; have HK2 := Lib.hid (HK1.out.step hb); have HM2 := Lib.hid (HM1.out.below hb); clear hb; obtain ⟨r0, r1, r2, r3, r4, r5, r6, r7, r8, r9, r10⟩ := HK2.out.res; have hfr := HK2.out.fro)
      | fail)
  go_wp2
  obtain ⟨e0, e1, e2, e3, e4, e5, e6, e7, e8, e9, e10⟩ := HK2.out.putr (u0 := .int .i64 2) (u1 := .int .i64 1) (u2 := .int .i64 e.top) (u3 := .int .i64 e.bot) (u4 := .int .i64 e.ent) (u5 := .int .i64 e.room) (u6 := .int .u64 0) (u7 := .int .u64 0) (u8 := .int .u64 0) (u9 := .bool false) (u10 := .int .i64 0)
  exact bodyPost_ret (v := .tuple #[ptr M, modV 2 e 0]) (by simp [results, Try.results16, go_sem, e0, e1, e2, e3, e4, e5, e6, e7, e8, e9, e10]) rfl (HK2.out.fin HM.out HM2.out)

set_option maxHeartbeats 4000000 in
theorem ksteal_any (z : Int) (hz : z.tmod 3 = 2) (hz2 : z % 3 = 2) (e : En) (v : Int) (w : World) : Calls Try.prog 16 #[.int .u8 z, enV e, .int .u64 v] w (NewK w (mSteal e)) := by
  have hkb := KB.new w e #[]
  go_enter Try.func16, Try.ntmps16
  go_wp2
  obtain ⟨W, hW⟩ : ∃ W, W = (((w.alloc (.cells #[.int .i64 e.top, .int .i64 e.bot, .int .i64 e.ent, .int .i64 e.room] 25)).alloc (.cells #[.int .i64 0, .int .i64 0, .int .i64 0, .int .i64 0, .int .i64 0, .int .i64 0, .int .u64 0, .int .u64 0, .int .u64 0, .bool false, .int .i64 0] 45)).alloc (.cells #[.int .i64 e.top, .int .i64 e.bot, .int .i64 e.ent, .int .i64 e.room] 43)) := ⟨_, rfl⟩
  rw [← hW] at hkb
  rw [← hW]
  obtain ⟨x0, x1, x2, x3, y0, y1, y2, y3⟩ := hkb.cells
  have HKD := Lib.hid (hkb.step ((Below.refl W.heap.size W).drew))
  have HSZ := Lib.hid (show w.heap.size + 1 + 1 < W.drew.heap.size from by have := (Array.getElem?_eq_some_iff.1 hkb.b2).1; simpa using this)
  clear hkb hW
  go_region_held3 (fun w' => w'.cell? ⟨w.heap.size, 0, none⟩ = some (.int .i64 e.top) ∧ w'.cell? ⟨w.heap.size, 1, none⟩ = some (.int .i64 e.bot) ∧ w'.cell? ⟨w.heap.size, 2, none⟩ = some (.int .i64 e.ent) ∧ w'.cell? ⟨w.heap.size, 3, none⟩ = some (.int .i64 e.room) ∧ w'.cell? ⟨w.heap.size + 1 + 1, 0, none⟩ = some (.int .i64 e.top) ∧ w'.cell? ⟨w.heap.size + 1 + 1, 1, none⟩ = some (.int .i64 e.bot) ∧ w'.cell? ⟨w.heap.size + 1 + 1, 2, none⟩ = some (.int .i64 e.ent) ∧ w'.cell? ⟨w.heap.size + 1 + 1, 3, none⟩ = some (.int .i64 e.room))
    (first | (with_reducible exact HK2.out.putc) | (with_reducible exact HK2.out.cells) | (with_reducible exact HK1.out.cells) | (with_reducible exact HKD.out.cells) | fail)
    (first
      | (go_at_call 13; (with_reducible refine (steal_any e _).mono ?_); intro a w3 hk; obtain ⟨M, rfl, hM, hm, hb⟩ := hk; have HK1 := Lib.hid (HKD.out.step hb); have HM1 := Lib.hid hm; have HM := Lib.hid (show w.heap.size + 1 + 1 < M from Nat.lt_of_lt_of_le HSZ.out hM); clear hm hb hM)
      | (go_at_call 28; (with_reducible refine (rsteal_any e _).mono ?_); rintro a w4 ⟨rfl, hb⟩; have HK2 := Lib.hid (HK1.out.step hb); have HM2 := Lib.hid (HM1.out.below hb); clear hb; obtain ⟨r0, r1, r2, r3, r4, r5, r6, r7, r8, r9, r10⟩ := HK2.out.res; have hfr := HK2.out.fro)
      | fail)
  go_wp2
  obtain ⟨e0, e1, e2, e3, e4, e5, e6, e7, e8, e9, e10⟩ := HK2.out.putr (u0 := .int .i64 3) (u1 := .int .i64 1) (u2 := .int .i64 e.top) (u3 := .int .i64 e.bot) (u4 := .int .i64 e.ent) (u5 := .int .i64 e.room) (u6 := .int .u64 0) (u7 := .int .u64 0) (u8 := .int .u64 0) (u9 := .bool false) (u10 := .int .i64 0)
  exact bodyPost_ret (v := .tuple #[ptr M, modV 3 e 0]) (by simp [results, Try.results16, go_sem, e0, e1, e2, e3, e4, e5, e6, e7, e8, e9, e10]) rfl (HK2.out.fin HM.out HM2.out)
end Go.Proofs.Ytjnenpflpckimaa
