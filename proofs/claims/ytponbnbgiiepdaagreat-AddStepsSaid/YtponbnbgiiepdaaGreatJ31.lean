/- The document's own machine, begun, and what it tells; walked. A store of an aggregate of 8 cells. The document's machine in a box, and its result's place. The document's own machine's steps, walked. Stores to a box of 13 cells: all, and the last eight. -/
import Derived.Test.YtponbnbgiiepdaaGreatJ11
import Derived.Test.YtponbnbgiiepdaaGreatJ2
import Derived.Test.YtponbnbgiiepdaaGreatJ1
namespace Go.Proofs.YtponbnbgiiepdaaGreat
open Go.RowKit
set_option linter.unusedVariables false
set_option linter.unusedSimpArgs false

/-- The document's own machine, as a value: its links are a slice. -/
abbrev mV (kd pc hd : Int) (A : Option Addr) (n cap : Nat) (it h li tr : Int) : Value := .agg #[.int .i64 kd, .int .i64 pc, .int .i64 hd, .slice A n cap, .int .u32 it, .int .u64 h, .int .u32 li, .int .i64 tr]
/-- It stands for one over words. -/
abbrev smV (m : Sm) (A : Option Addr) (n cap : Nat) : Value := mV m.kind m.pc m.k.head A n cap m.item m.h m.link m.tries

set_option maxHeartbeats 2000000 in
theorem rpush_any (hd : Int) (A : Option Addr) (n cap : Nat) (x : Int) (w : World) (hx : -9223372036854775808 ≤ x ∧ x ≤ 9223372036854775807) : Calls Tryz.prog 93 #[kval hd A n cap, .int .i64 x] w fun a w' => a = .returned (mV 1 1 hd A n cap (itemOf x) 0 0 0) ∧ Below w.heap.size w w' := by
  by_cases h1 : x < 0
  · have e : itemOf x = 0 := by unfold itemOf; rw [if_pos (.inl (by omega))]
    have d1 : decide (x < 0) = true := by simpa using h1
    rw [e]; clear e
    go_enter Tryz.func93, Tryz.ntmps93
    go_wp2_with (fail)
    exact bodyPost_ret (v := mV 1 1 hd A n cap 0 0 0 0) (by simp [results, Tryz.results93, go_sem]) rfl ⟨rfl, below_alloc0 (below_alloc0 (Below.refl _ _) _) _⟩
  have d1 : decide (x < 0) = false := by simpa using h1
  by_cases h2 : x > 4294967295
  · have e : itemOf x = 0 := by unfold itemOf; rw [if_pos (.inr (by omega))]
    have d2 : decide (x > 4294967295) = true := by simpa using h2
    rw [e]; clear e
    go_enter Tryz.func93, Tryz.ntmps93
    go_wp2_with (fail)
    exact bodyPost_ret (v := mV 1 1 hd A n cap 0 0 0 0) (by simp [results, Tryz.results93, go_sem]) rfl ⟨rfl, below_alloc0 (below_alloc0 (Below.refl _ _) _) _⟩
  have d2 : decide (x > 4294967295) = false := by simpa using h2
  have e : itemOf x = x := by unfold itemOf; split <;> omega
  rw [e]; clear e
  go_enter Tryz.func93, Tryz.ntmps93
  go_wp2_with (fail)
  exact bodyPost_ret (v := mV 1 1 hd A n cap x 0 0 0) (by simp [results, Tryz.results93, go_sem]) rfl ⟨rfl, below_alloc0 (below_alloc0 (Below.refl _ _) _) _⟩
set_option maxHeartbeats 2000000 in
theorem rpop_any (hd : Int) (A : Option Addr) (n cap : Nat) (w : World) : Calls Tryz.prog 90 #[kval hd A n cap] w fun a w' => a = .returned (mV 2 1 hd A n cap 0 0 0 0) ∧ Below w.heap.size w w' := by
  go_enter Tryz.func90, Tryz.ntmps90
  go_wp2_with (fail)
  exact bodyPost_ret (v := mV 2 1 hd A n cap 0 0 0 0) (by simp [results, Tryz.results90, go_sem]) rfl ⟨rfl, below_alloc0 (below_alloc0 (Below.refl _ _) _) _⟩
set_option maxHeartbeats 2000000 in
theorem rstep0_any (R : Option Addr) (n' capR : Nat) (kd hd : Int) (A : Option Addr) (n cap : Nat) (it h li tr : Int) (w : World) :
    Calls Tryz.prog 92 #[.slice R n' capR, mV kd 0 hd A n cap it h li tr] w fun a w' => a = .returned (.tuple #[.slice R n' capR, mV kd 0 hd A n cap it h li tr]) ∧ Below w.heap.size w w' := by
  go_enter Tryz.func92, Tryz.ntmps92
  go_wp2_with (fail)
  go_region_with (fail)
  go_wp2
  exact bodyPost_ret (v := .tuple #[.slice R n' capR, mV kd 0 hd A n cap it h li tr]) (by simp [results, Tryz.results92, go_sem]) rfl ⟨rfl, (below_alloc0 (below_alloc0 (Below.refl _ _) _) _).drew⟩

/-- Two blocks that have just been made. -/
theorem below_two (w : World) (o o' : Obj) : Below w.heap.size w ((w.alloc o).alloc o') := below_alloc0 (below_alloc0 (Below.refl _ _) _) _

set_option maxHeartbeats 4000000 in
theorem rstep1_push (R : Option Addr) (n' capR : Nat) (L : List Int) (hd : Int) (A : Option Addr) (n cap : Nat) (it h li tr : Int) (w : World) (hn : n' = L.length) (hR : Reads .u64 w R L) (ww : WW L) (t0 : 0 ≤ tr) (t1 : tr ≤ 1000000000) :
    Calls Tryz.prog 92 #[.slice R n' capR, mV 1 1 hd A n cap it h li tr] w fun a w' => a = .returned (.tuple #[.slice R n' capR, mV 1 2 hd A n cap it (ldq L hd) (low (ldq L hd)) (tr + 1)]) ∧ Below w.heap.size w w' := by
  obtain ⟨g, hg⟩ : ∃ g, g = ldq L hd := ⟨_, rfl⟩
  have hgr := ww.ldq hd
  rw [← hg] at hgr
  obtain ⟨g0, g1⟩ := hgr
  have hg2 : g = ldv L hd := by rw [hg, ldv_eq]
  rw [← hg]
  obtain ⟨x, hx⟩ : ∃ x, x = low g := ⟨_, rfl⟩
  rw [← hx]
  have hx2 : x = g % 4294967296 := hx
  have HG := Lib.hid hg2; have HX := Lib.hid hx2; have HN := Lib.hid hn; have HR := Lib.hid hR
  clear hg hx hg2 hx2 hn hR ww
  go_enter Tryz.func92, Tryz.ntmps92
  go_wp2_with (first
    | (go_at_call 110; (with_reducible refine (rload_any R n' capR L hd _ HN.out (HR.out.below (below_two _ _ _) (Nat.le_refl _))).mono ?_); rintro r w1 ⟨rfl, hw⟩; cases hw; rw [← HG.out])
    | (go_at_call 116; (with_reducible refine (refLow_any g g0 g1 _).mono ?_); rintro r w1 ⟨rfl, hw⟩; cases hw; rw [← HX.out])
    | fail)
  go_region
  go_wp2
  exact bodyPost_ret (v := .tuple #[.slice R n' capR, mV 1 2 hd A n cap it g x (tr + 1)]) (by simp [results, Tryz.results92, go_sem]) rfl ⟨rfl, (below_two _ _ _).drew⟩
end Go.Proofs.YtponbnbgiiepdaaGreat

namespace Go.Proofs.YtponbnbgiiepdaaGreat
open Go.RowKit
set_option linter.unusedVariables false

abbrev put8 (w : World) (B : Nat) (u0 u1 u2 u3 u4 u5 u6 u7 : Value) : World := ((((((((w.setCell ⟨B, 0, none⟩ u0).setCell ⟨B, 1, none⟩ u1).setCell ⟨B, 2, none⟩ u2).setCell ⟨B, 3, none⟩ u3).setCell ⟨B, 4, none⟩ u4).setCell ⟨B, 5, none⟩ u5).setCell ⟨B, 6, none⟩ u6).setCell ⟨B, 7, none⟩ u7)
theorem put8_same (w : World) (B : Nat) (t : TypeId) (x0 x1 x2 x3 x4 x5 x6 x7 : Value) (h : w.heap[B]? = some (.cells #[x0, x1, x2, x3, x4, x5, x6, x7] t (0, 0))) (u0 u1 u2 u3 u4 u5 u6 u7 : Value) : (put8 w B u0 u1 u2 u3 u4 u5 u6 u7).heap[B]? = some (.cells #[u0, u1, u2, u3, u4, u5, u6, u7] t (0, 0)) := by
  have h0 : (w.setCell ⟨B, 0, none⟩ u0).heap[B]? = some (.cells #[u0, x1, x2, x3, x4, x5, x6, x7] t (0, 0)) := (heap_setCell_same _ B 0 _ t u0 h).trans (congrArg (fun c => some (Obj.cells c t (0, 0))) (show (#[x0, x1, x2, x3, x4, x5, x6, x7] : Array Value).setIfInBounds 0 u0 = #[u0, x1, x2, x3, x4, x5, x6, x7] from rfl))
  have h1 : ((w.setCell ⟨B, 0, none⟩ u0).setCell ⟨B, 1, none⟩ u1).heap[B]? = some (.cells #[u0, u1, x2, x3, x4, x5, x6, x7] t (0, 0)) := (heap_setCell_same _ B 1 _ t u1 h0).trans (congrArg (fun c => some (Obj.cells c t (0, 0))) (show (#[u0, x1, x2, x3, x4, x5, x6, x7] : Array Value).setIfInBounds 1 u1 = #[u0, u1, x2, x3, x4, x5, x6, x7] from rfl))
  have h2 : (((w.setCell ⟨B, 0, none⟩ u0).setCell ⟨B, 1, none⟩ u1).setCell ⟨B, 2, none⟩ u2).heap[B]? = some (.cells #[u0, u1, u2, x3, x4, x5, x6, x7] t (0, 0)) := (heap_setCell_same _ B 2 _ t u2 h1).trans (congrArg (fun c => some (Obj.cells c t (0, 0))) (show (#[u0, u1, x2, x3, x4, x5, x6, x7] : Array Value).setIfInBounds 2 u2 = #[u0, u1, u2, x3, x4, x5, x6, x7] from rfl))
  have h3 : ((((w.setCell ⟨B, 0, none⟩ u0).setCell ⟨B, 1, none⟩ u1).setCell ⟨B, 2, none⟩ u2).setCell ⟨B, 3, none⟩ u3).heap[B]? = some (.cells #[u0, u1, u2, u3, x4, x5, x6, x7] t (0, 0)) := (heap_setCell_same _ B 3 _ t u3 h2).trans (congrArg (fun c => some (Obj.cells c t (0, 0))) (show (#[u0, u1, u2, x3, x4, x5, x6, x7] : Array Value).setIfInBounds 3 u3 = #[u0, u1, u2, u3, x4, x5, x6, x7] from rfl))
  have h4 : (((((w.setCell ⟨B, 0, none⟩ u0).setCell ⟨B, 1, none⟩ u1).setCell ⟨B, 2, none⟩ u2).setCell ⟨B, 3, none⟩ u3).setCell ⟨B, 4, none⟩ u4).heap[B]? = some (.cells #[u0, u1, u2, u3, u4, x5, x6, x7] t (0, 0)) := (heap_setCell_same _ B 4 _ t u4 h3).trans (congrArg (fun c => some (Obj.cells c t (0, 0))) (show (#[u0, u1, u2, u3, x4, x5, x6, x7] : Array Value).setIfInBounds 4 u4 = #[u0, u1, u2, u3, u4, x5, x6, x7] from rfl))
  have h5 : ((((((w.setCell ⟨B, 0, none⟩ u0).setCell ⟨B, 1, none⟩ u1).setCell ⟨B, 2, none⟩ u2).setCell ⟨B, 3, none⟩ u3).setCell ⟨B, 4, none⟩ u4).setCell ⟨B, 5, none⟩ u5).heap[B]? = some (.cells #[u0, u1, u2, u3, u4, u5, x6, x7] t (0, 0)) := (heap_setCell_same _ B 5 _ t u5 h4).trans (congrArg (fun c => some (Obj.cells c t (0, 0))) (show (#[u0, u1, u2, u3, u4, x5, x6, x7] : Array Value).setIfInBounds 5 u5 = #[u0, u1, u2, u3, u4, u5, x6, x7] from rfl))
  have h6 : (((((((w.setCell ⟨B, 0, none⟩ u0).setCell ⟨B, 1, none⟩ u1).setCell ⟨B, 2, none⟩ u2).setCell ⟨B, 3, none⟩ u3).setCell ⟨B, 4, none⟩ u4).setCell ⟨B, 5, none⟩ u5).setCell ⟨B, 6, none⟩ u6).heap[B]? = some (.cells #[u0, u1, u2, u3, u4, u5, u6, x7] t (0, 0)) := (heap_setCell_same _ B 6 _ t u6 h5).trans (congrArg (fun c => some (Obj.cells c t (0, 0))) (show (#[u0, u1, u2, u3, u4, u5, x6, x7] : Array Value).setIfInBounds 6 u6 = #[u0, u1, u2, u3, u4, u5, u6, x7] from rfl))
  have h7 : ((((((((w.setCell ⟨B, 0, none⟩ u0).setCell ⟨B, 1, none⟩ u1).setCell ⟨B, 2, none⟩ u2).setCell ⟨B, 3, none⟩ u3).setCell ⟨B, 4, none⟩ u4).setCell ⟨B, 5, none⟩ u5).setCell ⟨B, 6, none⟩ u6).setCell ⟨B, 7, none⟩ u7).heap[B]? = some (.cells #[u0, u1, u2, u3, u4, u5, u6, u7] t (0, 0)) := (heap_setCell_same _ B 7 _ t u7 h6).trans (congrArg (fun c => some (Obj.cells c t (0, 0))) (show (#[u0, u1, u2, u3, u4, u5, u6, x7] : Array Value).setIfInBounds 7 u7 = #[u0, u1, u2, u3, u4, u5, u6, u7] from rfl))
  exact h7
theorem put8_upd (w : World) (B : Nat) (u0 u1 u2 u3 u4 u5 u6 u7 : Value) : Upd B B w (put8 w B u0 u1 u2 u3 u4 u5 u6 u7) := by
  have u := fun (w : World) (i : Nat) (v : Value) => (show Upd B B w (w.setCell ⟨B, i, none⟩ v) from ⟨rfl, rfl, rfl, by simp, fun k hk h1 _ => heap_setCell_other w ⟨B, i, none⟩ k v h1⟩)
  exact ((((((((u _ _ _).trans (u _ _ _)).trans (u _ _ _)).trans (u _ _ _)).trans (u _ _ _)).trans (u _ _ _)).trans (u _ _ _)).trans (u _ _ _))
end Go.Proofs.YtponbnbgiiepdaaGreat

namespace Go.Proofs.YtponbnbgiiepdaaGreat
open Go.RowKit
set_option linter.unusedVariables false
set_option linter.unusedSimpArgs false

/-- The box, and the result's place. -/
structure KM (w w' : World) (kd pc hd : Int) (A : Option Addr) (n cap : Nat) (it h li tr : Int) : Prop where
  bel : Below w.heap.size w w'
  b0 : w'.heap[w.heap.size]? = some (.cells #[.int .i64 kd, .int .i64 pc, .int .i64 hd, .slice A n cap, .int .u32 it, .int .u64 h, .int .u32 li, .int .i64 tr] 55 (0, 0))
  b1 : w'.heap[w.heap.size + 1]? = some (.cells #[.int .i64 0, .int .i64 0, .int .i64 0, .slice none 0 0, .int .u32 0, .int .u64 0, .int .u32 0, .int .i64 0] 55 (0, 0))
section
variable {w w' w2 : World} {kd pc hd : Int} {A : Option Addr} {n cap : Nat} {it h li tr : Int} {U : Value}
theorem KM.step (k : KM w w' kd pc hd A n cap it h li tr) (hb : Below w'.heap.size w' w2) : KM w w2 kd pc hd A n cap it h li tr :=
  ⟨below_step k.bel k.bel.size hb, (hb.block _ (Array.getElem?_eq_some_iff.1 k.b0).1).trans k.b0, (hb.block _ (Array.getElem?_eq_some_iff.1 k.b1).1).trans k.b1⟩
theorem KM.lt (k : KM w w' kd pc hd A n cap it h li tr) : w.heap.size + 1 < w'.heap.size := (Array.getElem?_eq_some_iff.1 k.b1).1
theorem KM.cells (k : KM w w' kd pc hd A n cap it h li tr) : w'.cell? ⟨w.heap.size, 0, none⟩ = some (.int .i64 kd) ∧ w'.cell? ⟨w.heap.size, 1, none⟩ = some (.int .i64 pc) ∧ w'.cell? ⟨w.heap.size, 2, none⟩ = some (.int .i64 hd) ∧ w'.cell? ⟨w.heap.size, 3, none⟩ = some (.slice A n cap) ∧ w'.cell? ⟨w.heap.size, 4, none⟩ = some (.int .u32 it) ∧ w'.cell? ⟨w.heap.size, 5, none⟩ = some (.int .u64 h) ∧ w'.cell? ⟨w.heap.size, 6, none⟩ = some (.int .u32 li) ∧ w'.cell? ⟨w.heap.size, 7, none⟩ = some (.int .i64 tr) := by
  have b0 := k.b0
  refine ⟨?_, ?_, ?_, ?_, ?_, ?_, ?_, ?_⟩ <;> simp [World.cell?, b0]
theorem KM.res (k : KM w w' kd pc hd A n cap it h li tr) : w'.cell? ⟨w.heap.size + 1, 0, none⟩ = some (.int .i64 0) ∧ w'.cell? ⟨w.heap.size + 1, 1, none⟩ = some (.int .i64 0) ∧ w'.cell? ⟨w.heap.size + 1, 2, none⟩ = some (.int .i64 0) ∧ w'.cell? ⟨w.heap.size + 1, 3, none⟩ = some (.slice none 0 0) ∧ w'.cell? ⟨w.heap.size + 1, 4, none⟩ = some (.int .u32 0) ∧ w'.cell? ⟨w.heap.size + 1, 5, none⟩ = some (.int .u64 0) ∧ w'.cell? ⟨w.heap.size + 1, 6, none⟩ = some (.int .u32 0) ∧ w'.cell? ⟨w.heap.size + 1, 7, none⟩ = some (.int .i64 0) := by
  have b1 := k.b1
  refine ⟨?_, ?_, ?_, ?_, ?_, ?_, ?_, ?_⟩ <;> simp [World.cell?, b1]
theorem KM.fro (k : KM w w' kd pc hd A n cap it h li tr) (j : Nat) : w'.frozen? ⟨w.heap.size + 1, j, none⟩ = false := frozen_of_row w' _ j _ _ k.b1
theorem KM.fro0 (k : KM w w' kd pc hd A n cap it h li tr) (j : Nat) : w'.frozen? ⟨w.heap.size, j, none⟩ = false := frozen_of_row w' _ j _ _ k.b0
theorem KM.new (w : World) (kd pc hd : Int) (A : Option Addr) (n cap : Nat) (it h li tr : Int) : KM w ((w.alloc (.cells #[.int .i64 kd, .int .i64 pc, .int .i64 hd, .slice A n cap, .int .u32 it, .int .u64 h, .int .u32 li, .int .i64 tr] 55)).alloc (.cells #[.int .i64 0, .int .i64 0, .int .i64 0, .slice none 0 0, .int .u32 0, .int .u64 0, .int .u32 0, .int .i64 0] 55)) kd pc hd A n cap it h li tr := by
  have e1 : (w.alloc (.cells #[.int .i64 kd, .int .i64 pc, .int .i64 hd, .slice A n cap, .int .u32 it, .int .u64 h, .int .u32 li, .int .i64 tr] 55)).heap.size = w.heap.size + 1 := by simp
  have h0 : (w.alloc (.cells #[.int .i64 kd, .int .i64 pc, .int .i64 hd, .slice A n cap, .int .u32 it, .int .u64 h, .int .u32 li, .int .i64 tr] 55)).heap[w.heap.size]? = some (.cells #[.int .i64 kd, .int .i64 pc, .int .i64 hd, .slice A n cap, .int .u32 it, .int .u64 h, .int .u32 li, .int .i64 tr] 55 (0, 0)) := by
    show (w.heap.push _)[w.heap.size]? = _
    exact Array.getElem?_push_size
  have h1 : ((w.alloc (.cells #[.int .i64 kd, .int .i64 pc, .int .i64 hd, .slice A n cap, .int .u32 it, .int .u64 h, .int .u32 li, .int .i64 tr] 55)).alloc (.cells #[.int .i64 0, .int .i64 0, .int .i64 0, .slice none 0 0, .int .u32 0, .int .u64 0, .int .u32 0, .int .i64 0] 55)).heap[(w.alloc (.cells #[.int .i64 kd, .int .i64 pc, .int .i64 hd, .slice A n cap, .int .u32 it, .int .u64 h, .int .u32 li, .int .i64 tr] 55)).heap.size]? = some (.cells #[.int .i64 0, .int .i64 0, .int .i64 0, .slice none 0 0, .int .u32 0, .int .u64 0, .int .u32 0, .int .i64 0] 55 (0, 0)) := by
    show ((w.alloc (.cells #[.int .i64 kd, .int .i64 pc, .int .i64 hd, .slice A n cap, .int .u32 it, .int .u64 h, .int .u32 li, .int .i64 tr] 55)).heap.push _)[(w.alloc (.cells #[.int .i64 kd, .int .i64 pc, .int .i64 hd, .slice A n cap, .int .u32 it, .int .u64 h, .int .u32 li, .int .i64 tr] 55)).heap.size]? = _
    exact Array.getElem?_push_size
  rw [e1] at h1
  have hb : Below (w.alloc (.cells #[.int .i64 kd, .int .i64 pc, .int .i64 hd, .slice A n cap, .int .u32 it, .int .u64 h, .int .u32 li, .int .i64 tr] 55)).heap.size (w.alloc (.cells #[.int .i64 kd, .int .i64 pc, .int .i64 hd, .slice A n cap, .int .u32 it, .int .u64 h, .int .u32 li, .int .i64 tr] 55)) ((w.alloc (.cells #[.int .i64 kd, .int .i64 pc, .int .i64 hd, .slice A n cap, .int .u32 it, .int .u64 h, .int .u32 li, .int .i64 tr] 55)).alloc (.cells #[.int .i64 0, .int .i64 0, .int .i64 0, .slice none 0 0, .int .u32 0, .int .u64 0, .int .u32 0, .int .i64 0] 55)) := below_alloc0 (Below.refl _ _) _
  exact ⟨below_two w _ _, (hb.block _ (by rw [e1]; omega)).trans h0, h1⟩
theorem KM.pcS (k : KM w w' kd pc hd A n cap it h li tr) (y : Int) : KM w (w'.setCell ⟨w.heap.size, 1, none⟩ (.int .i64 y)) kd y hd A n cap it h li tr := by
  refine ⟨k.bel.setCell (Nat.le_refl _) _, ?_, ?_⟩
  · exact (heap_setCell_same _ _ 1 _ 55 _ k.b0).trans (congrArg (fun c => some (Obj.cells c 55 (0, 0))) (show (#[.int .i64 kd, .int .i64 pc, .int .i64 hd, .slice A n cap, .int .u32 it, .int .u64 h, .int .u32 li, .int .i64 tr] : Array Value).setIfInBounds 1 (.int .i64 y) = #[.int .i64 kd, .int .i64 y, .int .i64 hd, .slice A n cap, .int .u32 it, .int .u64 h, .int .u32 li, .int .i64 tr] from rfl))
  · exact (heap_setCell_other w' ⟨w.heap.size, 1, none⟩ _ _ (Nat.succ_ne_self _)).trans k.b1
theorem KM.liS (k : KM w w' kd pc hd A n cap it h li tr) (y : Int) : KM w (w'.setCell ⟨w.heap.size, 6, none⟩ (.int .u32 y)) kd pc hd A n cap it h y tr := by
  refine ⟨k.bel.setCell (Nat.le_refl _) _, ?_, ?_⟩
  · exact (heap_setCell_same _ _ 6 _ 55 _ k.b0).trans (congrArg (fun c => some (Obj.cells c 55 (0, 0))) (show (#[.int .i64 kd, .int .i64 pc, .int .i64 hd, .slice A n cap, .int .u32 it, .int .u64 h, .int .u32 li, .int .i64 tr] : Array Value).setIfInBounds 6 (.int .u32 y) = #[.int .i64 kd, .int .i64 pc, .int .i64 hd, .slice A n cap, .int .u32 it, .int .u64 h, .int .u32 y, .int .i64 tr] from rfl))
  · exact (heap_setCell_other w' ⟨w.heap.size, 6, none⟩ _ _ (Nat.succ_ne_self _)).trans k.b1
end
section
variable {w w' : World} {kd pc hd : Int} {A : Option Addr} {n cap : Nat} {it h li tr : Int} {u0 u1 u2 u3 u4 u5 u6 u7 : Value}
theorem KM.putc (k : KM w w' kd pc hd A n cap it h li tr) : (put8 w' (w.heap.size + 1) u0 u1 u2 u3 u4 u5 u6 u7).cell? ⟨w.heap.size, 0, none⟩ = some (.int .i64 kd) ∧ (put8 w' (w.heap.size + 1) u0 u1 u2 u3 u4 u5 u6 u7).cell? ⟨w.heap.size, 1, none⟩ = some (.int .i64 pc) ∧ (put8 w' (w.heap.size + 1) u0 u1 u2 u3 u4 u5 u6 u7).cell? ⟨w.heap.size, 2, none⟩ = some (.int .i64 hd) ∧ (put8 w' (w.heap.size + 1) u0 u1 u2 u3 u4 u5 u6 u7).cell? ⟨w.heap.size, 3, none⟩ = some (.slice A n cap) ∧ (put8 w' (w.heap.size + 1) u0 u1 u2 u3 u4 u5 u6 u7).cell? ⟨w.heap.size, 4, none⟩ = some (.int .u32 it) ∧ (put8 w' (w.heap.size + 1) u0 u1 u2 u3 u4 u5 u6 u7).cell? ⟨w.heap.size, 5, none⟩ = some (.int .u64 h) ∧ (put8 w' (w.heap.size + 1) u0 u1 u2 u3 u4 u5 u6 u7).cell? ⟨w.heap.size, 6, none⟩ = some (.int .u32 li) ∧ (put8 w' (w.heap.size + 1) u0 u1 u2 u3 u4 u5 u6 u7).cell? ⟨w.heap.size, 7, none⟩ = some (.int .i64 tr) := by
  have u := put8_upd w' (w.heap.size + 1) u0 u1 u2 u3 u4 u5 u6 u7
  have b0 := (u.block _ (Array.getElem?_eq_some_iff.1 k.b0).1 (by omega) (by omega)).trans k.b0
  generalize (put8 w' (w.heap.size + 1) u0 u1 u2 u3 u4 u5 u6 u7) = W at b0 ⊢
  refine ⟨?_, ?_, ?_, ?_, ?_, ?_, ?_, ?_⟩ <;> simp [World.cell?, b0]
theorem KM.putr (k : KM w w' kd pc hd A n cap it h li tr) : (put8 w' (w.heap.size + 1) u0 u1 u2 u3 u4 u5 u6 u7).cell? ⟨w.heap.size + 1, 0, none⟩ = some (u0) ∧ (put8 w' (w.heap.size + 1) u0 u1 u2 u3 u4 u5 u6 u7).cell? ⟨w.heap.size + 1, 1, none⟩ = some (u1) ∧ (put8 w' (w.heap.size + 1) u0 u1 u2 u3 u4 u5 u6 u7).cell? ⟨w.heap.size + 1, 2, none⟩ = some (u2) ∧ (put8 w' (w.heap.size + 1) u0 u1 u2 u3 u4 u5 u6 u7).cell? ⟨w.heap.size + 1, 3, none⟩ = some (u3) ∧ (put8 w' (w.heap.size + 1) u0 u1 u2 u3 u4 u5 u6 u7).cell? ⟨w.heap.size + 1, 4, none⟩ = some (u4) ∧ (put8 w' (w.heap.size + 1) u0 u1 u2 u3 u4 u5 u6 u7).cell? ⟨w.heap.size + 1, 5, none⟩ = some (u5) ∧ (put8 w' (w.heap.size + 1) u0 u1 u2 u3 u4 u5 u6 u7).cell? ⟨w.heap.size + 1, 6, none⟩ = some (u6) ∧ (put8 w' (w.heap.size + 1) u0 u1 u2 u3 u4 u5 u6 u7).cell? ⟨w.heap.size + 1, 7, none⟩ = some (u7) := by
  have b := put8_same w' (w.heap.size + 1) 55 _ _ _ _ _ _ _ _ k.b1 u0 u1 u2 u3 u4 u5 u6 u7
  generalize (put8 w' (w.heap.size + 1) u0 u1 u2 u3 u4 u5 u6 u7) = W at b ⊢
  refine ⟨?_, ?_, ?_, ?_, ?_, ?_, ?_, ?_⟩ <;> simp [World.cell?, b]
theorem KM.putb (k : KM w w' kd pc hd A n cap it h li tr) : Below w.heap.size w (put8 w' (w.heap.size + 1) u0 u1 u2 u3 u4 u5 u6 u7) := below_upd k.bel (Nat.le_refl _) (put8_upd w' (w.heap.size + 1) u0 u1 u2 u3 u4 u5 u6 u7) (by omega) (by omega)
theorem KM.putd {P : Nat → Prop} {R : Option Addr} {L : List Int} (hr : ReadsW (fun b => P b ∧ b ≠ w.heap.size + 1) w' R L) : ReadsW P (put8 w' (w.heap.size + 1) u0 u1 u2 u3 u4 u5 u6 u7) R L :=
  hr.upd (put8_upd w' (w.heap.size + 1) u0 u1 u2 u3 u4 u5 u6 u7) fun b hb _ => ⟨hb.2, hb.2, hb.1⟩
end
end Go.Proofs.YtponbnbgiiepdaaGreat

namespace Go.Proofs.YtponbnbgiiepdaaGreat
open Go.RowKit
set_option linter.unusedVariables false
set_option linter.unusedSimpArgs false

/-- A step's answer. -/
def SomeStep (P : Nat → Prop) (w : World) (n' : Nat) (L : List Int) (v : Value) (e : Ending) (w' : World) : Prop :=
  ∃ R cap, e = .returned (.tuple #[.slice R n' cap, v]) ∧ ReadsW P w' R L ∧ Below w.heap.size w w'

set_option maxHeartbeats 4000000 in
theorem rstep1_pop (R : Option Addr) (n' capR : Nat) (L : List Int) (hd : Int) (A : Option Addr) (n cap : Nat) (it h li tr : Int) (w : World) (hn : n' = L.length) (hR : Reads .u64 w R L) (ww : WW L) (t0 : 0 ≤ tr) (t1 : tr ≤ 1000000000) :
    Calls Tryz.prog 92 #[.slice R n' capR, mV 2 1 hd A n cap it h li tr] w fun a w' => a = .returned (.tuple #[.slice R n' capR, mV 2 (if low (ldq L hd) = 0 then 0 else 2) hd A n cap (low (ldq L hd)) (ldq L hd) li (tr + 1)]) ∧ Below w.heap.size w w' := by
  obtain ⟨g, hg⟩ : ∃ g, g = ldq L hd := ⟨_, rfl⟩
  have hgr := ww.ldq hd
  rw [← hg] at hgr
  obtain ⟨g0, g1⟩ := hgr
  have hg2 : g = ldv L hd := by rw [hg, ldv_eq]
  rw [← hg]
  obtain ⟨x, hx⟩ : ∃ x, x = low g := ⟨_, rfl⟩
  rw [← hx]
  have hx2 : x = g % 4294967296 := hx
  have HG := Lib.hid hg2; have HX := Lib.hid hx2; have HN := Lib.hid hn; have HR := Lib.hid hR
  clear hg hx hg2 hx2 hn hR ww
  by_cases hz : x = 0
  · rw [if_pos hz]
    subst hz
    go_enter Tryz.func92, Tryz.ntmps92
    go_wp2_with (first
      | (go_at_call 110; (with_reducible refine (rload_any R n' capR L hd _ HN.out (HR.out.below (below_two _ _ _) (Nat.le_refl _))).mono ?_); rintro r w1 ⟨rfl, hw⟩; cases hw; rw [← HG.out])
      | (go_at_call 116; (with_reducible refine (refLow_any g g0 g1 _).mono ?_); rintro r w1 ⟨rfl, hw⟩; cases hw; rw [← HX.out])
      | fail)
    go_region
    go_wp2
    exact bodyPost_ret (v := .tuple #[.slice R n' capR, mV 2 0 hd A n cap 0 g li (tr + 1)]) (by simp [results, Tryz.results92, go_sem]) rfl ⟨rfl, (below_two _ _ _).drew⟩
  · rw [if_neg hz]
    have hz2 : (x == 0) = false := by simpa using hz
    go_enter Tryz.func92, Tryz.ntmps92
    go_wp2_with (first
      | (go_at_call 110; (with_reducible refine (rload_any R n' capR L hd _ HN.out (HR.out.below (below_two _ _ _) (Nat.le_refl _))).mono ?_); rintro r w1 ⟨rfl, hw⟩; cases hw; rw [← HG.out])
      | (go_at_call 116; (with_reducible refine (refLow_any g g0 g1 _).mono ?_); rintro r w1 ⟨rfl, hw⟩; cases hw; rw [← HX.out])
      | fail)
    go_region
    go_wp2
    exact bodyPost_ret (v := .tuple #[.slice R n' capR, mV 2 2 hd A n cap x g li (tr + 1)]) (by simp [results, Tryz.results92, go_sem]) rfl ⟨rfl, (below_two _ _ _).drew⟩

set_option maxHeartbeats 4000000 in
theorem rstep2_push (P : Nat → Prop) (R : Option Addr) (n' capR : Nat) (L : List Int) (hd : Int) (A : Option Addr) (n cap : Nat) (zs : List Int) (it h li tr : Int) (w : World) (hn : n' = L.length) (hn2 : n' ≤ 1000000) (hR : ReadsW P w R L) (hP : ∀ b, w.heap.size ≤ b → P b)
    (hz : n = zs.length) (hK : Reads .i64 w A zs) (hl : n ≤ 1000000) (i0 : 0 ≤ it) (i1 : it ≤ 4294967295) (l0 : 0 ≤ li) (l1 : li ≤ 4294967295) :
    Calls Tryz.prog 92 #[.slice R n' capR, mV 1 2 hd A n cap it h li tr] w (SomeStep P w n' (ptq L (atOf zs it) li) (mV 1 3 hd A n cap it h li tr)) := by
  have hkm := KM.new w 1 3 hd A n cap it h li tr
  have hb0 := hkm.bel
  have hlt := hkm.lt
  have HN := Lib.hid hn; have HZ := Lib.hid hz; have HP := Lib.hid hP
  have HR0 : Hid (ReadsW (fun b => P b ∧ b ≠ w.heap.size + 1) w R L) := Lib.hid (fun h0 => by
    obtain ⟨b, off, e, hb, hp, hc⟩ := hR h0
    exact ⟨b, off, e, hb, ⟨hp, by omega⟩, hc⟩)
  have HK0 := Lib.hid hK
  have ew : IntKind.u64.wrap li = li := by rw [IntKind.wrap_u64]; omega
  have e1 : ptq L (atOf zs it) li = ptv L (atOf zs it) li := (ptv_eq ..).symm
  rw [e1]
  clear hn hz hR hK hP e1
  go_enter Tryz.func92, Tryz.ntmps92
  go_wp2_with (fail)
  obtain ⟨W, hW⟩ : ∃ W, W = ((w.alloc (.cells #[.int .i64 1, .int .i64 3, .int .i64 hd, .slice A n cap, .int .u32 it, .int .u64 h, .int .u32 li, .int .i64 tr] 55)).alloc (.cells #[.int .i64 0, .int .i64 0, .int .i64 0, .slice none 0 0, .int .u32 0, .int .u64 0, .int .u32 0, .int .i64 0] 55)) := ⟨_, rfl⟩
  rw [← hW] at hkm hb0 hlt ⊢
  clear hW
  obtain ⟨x0, x1, x2, x3, x4, x5, x6, x7⟩ := hkm.cells
  have HKD := Lib.hid (hkm.step ((Below.refl W.heap.size W).drew))
  have HRD := Lib.hid (HR0.out.below (hb0.drew))
  have HAD := Lib.hid (HK0.out.below (hb0.drew) (Nat.le_refl _))
  clear hkm hb0
  go_region_held3 (fun w' => w'.cell? ⟨w.heap.size, 0, none⟩ = some (.int .i64 1) ∧ w'.cell? ⟨w.heap.size, 1, none⟩ = some (.int .i64 3) ∧ w'.cell? ⟨w.heap.size, 2, none⟩ = some (.int .i64 hd) ∧ w'.cell? ⟨w.heap.size, 3, none⟩ = some (.slice A n cap) ∧ w'.cell? ⟨w.heap.size, 4, none⟩ = some (.int .u32 it) ∧ w'.cell? ⟨w.heap.size, 5, none⟩ = some (.int .u64 h) ∧ w'.cell? ⟨w.heap.size, 6, none⟩ = some (.int .u32 li) ∧ w'.cell? ⟨w.heap.size, 7, none⟩ = some (.int .i64 tr))
    (first | (with_reducible exact HK2.out.putc) | (with_reducible exact HK2.out.cells) | (with_reducible exact HK1.out.cells) | (with_reducible exact HKD.out.cells) | fail)
    (first
      | (go_at_call 117; (with_reducible refine (refAt_any hd A n cap zs it _ HZ.out HAD.out hl i0 i1).mono ?_); rintro r w3 ⟨rfl, hb⟩; have HK1 := Lib.hid (HKD.out.step hb); have HR1 := Lib.hid (HRD.out.below hb); clear hb)
      | (go_at_call 26; (with_reducible refine (rput_any (fun b => P b ∧ b ≠ w.heap.size + 1) R n' capR L (atOf zs it) li _ HN.out hn2 HR1.out (fun b hb => ⟨HP.out b (Nat.le_trans HK1.out.bel.size hb), Nat.ne_of_gt (Nat.lt_of_lt_of_le HK1.out.lt hb)⟩)).mono ?_); rintro r w4 ⟨R2, cap2, rfl, hx, hb⟩; have HK2 := Lib.hid (HK1.out.step hb); have HR2 := Lib.hid hx; clear hb hx; obtain ⟨r0, r1, r2, r3, r4, r5, r6, r7⟩ := HK2.out.res; have hfr := HK2.out.fro)
      | fail)
  go_wp2
  obtain ⟨e0, e1, e2, e3, e4, e5, e6, e7⟩ := HK2.out.putr (u0 := .int .i64 1) (u1 := .int .i64 3) (u2 := .int .i64 hd) (u3 := .slice A n cap) (u4 := .int .u32 it) (u5 := .int .u64 h) (u6 := .int .u32 li) (u7 := .int .i64 tr)
  exact bodyPost_ret (v := .tuple #[.slice R2 n' cap2, mV 1 3 hd A n cap it h li tr]) (by simp [results, Tryz.results92, go_sem, e0, e1, e2, e3, e4, e5, e6, e7]) rfl ⟨R2, cap2, rfl, KM.putd HR2.out, HK2.out.putb⟩

set_option maxHeartbeats 4000000 in
theorem rstep2_pop (P : Nat → Prop) (R : Option Addr) (n' capR : Nat) (L : List Int) (hd : Int) (A : Option Addr) (n cap : Nat) (zs : List Int) (it h li tr : Int) (w : World) (hn : n' = L.length) (hR : ReadsW P w R L) (ww : WW L)
    (hz : n = zs.length) (hK : Reads .i64 w A zs) (hl : n ≤ 1000000) (i0 : 0 ≤ it) (i1 : it ≤ 4294967295) :
    Calls Tryz.prog 92 #[.slice R n' capR, mV 2 2 hd A n cap it h li tr] w (SomeStep P w n' L (mV 2 3 hd A n cap it h (low (ldq L (atOf zs it))) tr)) := by
  have hkm := KM.new w 2 3 hd A n cap it h li tr
  have hb0 := hkm.bel
  have hlt := hkm.lt
  obtain ⟨g, hg⟩ : ∃ g, g = ldq L (atOf zs it) := ⟨_, rfl⟩
  have hgr := ww.ldq (atOf zs it)
  rw [← hg] at hgr
  obtain ⟨g0, g1⟩ := hgr
  have hg2 : g = ldv L (atOf zs it) := by rw [hg, ldv_eq]
  rw [← hg]
  obtain ⟨x, hx⟩ : ∃ x, x = low g := ⟨_, rfl⟩
  rw [← hx]
  have hx2 : x = g % 4294967296 := hx
  have HG := Lib.hid hg2; have HX := Lib.hid hx2
  have HN := Lib.hid hn; have HZ := Lib.hid hz
  have HR0 : Hid (ReadsW (fun b => P b ∧ b ≠ w.heap.size + 1) w R L) := Lib.hid (fun h0 => by
    obtain ⟨b, off, e, hb, hp, hc⟩ := hR h0
    exact ⟨b, off, e, hb, ⟨hp, by omega⟩, hc⟩)
  have HK0 := Lib.hid hK
  clear hn hz hR hK hg hg2 hx hx2 ww
  go_enter Tryz.func92, Tryz.ntmps92
  obtain ⟨W, hW⟩ : ∃ W, W = ((w.alloc (.cells #[.int .i64 2, .int .i64 3, .int .i64 hd, .slice A n cap, .int .u32 it, .int .u64 h, .int .u32 li, .int .i64 tr] 55)).alloc (.cells #[.int .i64 0, .int .i64 0, .int .i64 0, .slice none 0 0, .int .u32 0, .int .u64 0, .int .u32 0, .int .i64 0] 55)) := ⟨_, rfl⟩
  rw [← hW] at hkm hb0 hlt
  have HKM := Lib.hid hkm; have HB0 := Lib.hid hb0; have HW := Lib.hid hW
  clear hkm hb0 hW
  go_wp2_with (first
    | (go_at_call 117; rw [← HW.out]; (with_reducible refine (refAt_any hd A n cap zs it _ HZ.out (HK0.out.below HB0.out (Nat.le_refl _)) hl i0 i1).mono ?_); rintro r w3 ⟨rfl, hb⟩; have HK1 := Lib.hid (HKM.out.step hb); have HR1 := Lib.hid (HR0.out.below HK1.out.bel); clear hb; obtain ⟨x0, x1, x2, x3, x4, x5, x6, x7⟩ := HK1.out.cells; have hfr0 := HK1.out.fro0)
    | (go_at_call 110; (with_reducible refine (rload_any R n' capR L _ _ HN.out HR1.out.reads).mono ?_); rintro r w4 ⟨rfl, hw⟩; cases hw; rw [← HG.out])
    | (go_at_call 116; (with_reducible refine (refLow_any g g0 g1 _).mono ?_); rintro r w5 ⟨rfl, hw⟩; cases hw; rw [← HX.out])
    | fail)
  have hkl := HK1.out.liS x
  obtain ⟨W2, hW2⟩ : ∃ W2, W2 = (w3.setCell ⟨w.heap.size, 6, none⟩ (.int .u32 x)) := ⟨_, rfl⟩
  have hrl : ReadsW (fun b => P b ∧ b ≠ w.heap.size + 1) W2 R L := HR0.out.below (by rw [hW2]; exact hkl.bel)
  rw [← hW2] at hkl ⊢
  clear hW2 x0 x1 x2 x3 x4 x5 x6 x7 hfr0
  obtain ⟨x0, x1, x2, x3, x4, x5, x6, x7⟩ := hkl.cells
  obtain ⟨r0, r1, r2, r3, r4, r5, r6, r7⟩ := hkl.res
  have hfr := hkl.fro
  have HKL := Lib.hid hkl
  have HRL := Lib.hid hrl
  clear hkl hrl
  go_region
  go_wp2
  obtain ⟨e0, e1, e2, e3, e4, e5, e6, e7⟩ := HKL.out.putr (u0 := .int .i64 2) (u1 := .int .i64 3) (u2 := .int .i64 hd) (u3 := .slice A n cap) (u4 := .int .u32 it) (u5 := .int .u64 h) (u6 := .int .u32 x) (u7 := .int .i64 tr)
  exact bodyPost_ret (v := .tuple #[.slice R n' capR, mV 2 3 hd A n cap it h x tr]) (by simp [results, Tryz.results92, go_sem, e0, e1, e2, e3, e4, e5, e6, e7]) rfl ⟨R, capR, rfl, (KM.putd HRL.out).below (Below.refl _ _).drew, HKL.out.putb.drew⟩

theorem KM.far {P : Nat → Prop} {w w' : World} {kd pc hd : Int} {A : Option Addr} {n cap : Nat} {it h li tr : Int} (k : KM w w' kd pc hd A n cap it h li tr) (hP : ∀ b, w.heap.size ≤ b → P b) {b : Nat} (hb : w'.heap.size ≤ b) : P b ∧ b ≠ w.heap.size ∧ b ≠ w.heap.size + 1 := by
  have := k.lt
  exact ⟨hP b (by omega), by omega, by omega⟩
theorem ReadsW.off {P Q : Nat → Prop} {w w' : World} {A : Option Addr} {zs : List Int} (h : ReadsW P w A zs) (b : Nat) (u : Upd b b w w') (hP : ∀ c, P c → c ≠ b ∧ Q c) : ReadsW Q w' A zs := h.upd u fun c hc _ => ⟨(hP c hc).1, (hP c hc).1, (hP c hc).2⟩
theorem upd_one (w : World) (b i : Nat) (v : Value) : Upd b b w (w.setCell ⟨b, i, none⟩ v) := ⟨rfl, rfl, rfl, by simp, fun k hk h1 _ => heap_setCell_other w ⟨b, i, none⟩ k v h1⟩

set_option maxHeartbeats 8000000 in
theorem rturn_any (P : Nat → Prop) (R : Option Addr) (n' capR : Nat) (L : List Int) (kd pc hd : Int) (A : Option Addr) (n cap : Nat) (it h li tr x : Int) (w : World) (hn : n' = L.length) (hn2 : n' ≤ 1000000) (hR : ReadsW P w R L) (hP : ∀ b, w.heap.size ≤ b → P b)
    (h0 : 0 ≤ h) (h1 : h ≤ 18446744073709551615) (x0' : 0 ≤ x) (x1' : x ≤ 4294967295) :
    Calls Tryz.prog 118 #[.slice R n' capR, mV kd pc hd A n cap it h li tr, .int .u32 x] w (SomeStep P w n' (swv L hd h (turnw h x)) (mV kd (if swB L hd h = true then 0 else 1) hd A n cap it h li tr)) := by
  have hkm := KM.new w kd pc hd A n cap it h li tr
  have hb0 := hkm.bel
  have hlt := hkm.lt
  have HN := Lib.hid hn; have HP := Lib.hid hP
  have HR0 : Hid (ReadsW (fun b => P b ∧ b ≠ w.heap.size ∧ b ≠ w.heap.size + 1) w R L) := Lib.hid (fun h0 => by
    obtain ⟨b, off, e, hb, hp, hc⟩ := hR h0
    exact ⟨b, off, e, hb, ⟨hp, by omega, by omega⟩, hc⟩)
  obtain ⟨y, hy⟩ : ∃ y, y = (hiw h + 1) % 4294967296 := ⟨_, rfl⟩
  have y0 : 0 ≤ y := by omega
  have y1 : y ≤ 4294967295 := by omega
  have ew : IntKind.u32.wrap (h / 4294967296 + 1) = y := by rw [IntKind.wrap_u32, hy]; rfl
  obtain ⟨N, hN⟩ : ∃ N, N = turnw h x := ⟨_, rfl⟩
  have hNN : N = y * 4294967296 + x := by rw [hN, hy]; rfl
  obtain ⟨b, hb⟩ : ∃ b, b = swB L hd h := ⟨_, rfl⟩
  obtain ⟨L', hL'⟩ : ∃ L', L' = swv L hd h N := ⟨_, rfl⟩
  rw [← hN, ← hb, ← hL']
  have HNN := Lib.hid hNN; have HB := Lib.hid hb; have HW := Lib.hid hL'
  clear hn hR hP hy hN hNN hb hL'
  cases b
  · simp only [Bool.false_eq_true, if_false]
    go_enter Tryz.func118, Tryz.ntmps118
    go_wp2_with (fail)
    obtain ⟨W, hW⟩ : ∃ W, W = ((w.alloc (.cells #[.int .i64 kd, .int .i64 pc, .int .i64 hd, .slice A n cap, .int .u32 it, .int .u64 h, .int .u32 li, .int .i64 tr] 55)).alloc (.cells #[.int .i64 0, .int .i64 0, .int .i64 0, .slice none 0 0, .int .u32 0, .int .u64 0, .int .u32 0, .int .i64 0] 55)) := ⟨_, rfl⟩
    rw [← hW] at hkm hb0 hlt ⊢
    clear hW
    obtain ⟨x0, x1, x2, x3, x4, x5, x6, x7⟩ := hkm.cells
    have HKD := Lib.hid (hkm.step ((Below.refl W.heap.size W).drew))
    have HRD := Lib.hid (HR0.out.below (hb0.drew))
    clear hkm hb0
    go_region_held3 (fun w' => w'.cell? ⟨w.heap.size, 0, none⟩ = some (.int .i64 kd) ∧ w'.cell? ⟨w.heap.size, 1, none⟩ = some (.int .i64 pc) ∧ w'.cell? ⟨w.heap.size, 2, none⟩ = some (.int .i64 hd) ∧ w'.cell? ⟨w.heap.size, 3, none⟩ = some (.slice A n cap) ∧ w'.cell? ⟨w.heap.size, 4, none⟩ = some (.int .u32 it) ∧ w'.cell? ⟨w.heap.size, 5, none⟩ = some (.int .u64 h) ∧ w'.cell? ⟨w.heap.size, 6, none⟩ = some (.int .u32 li) ∧ w'.cell? ⟨w.heap.size, 7, none⟩ = some (.int .i64 tr))
      (first | (with_reducible exact HK1.out.cells) | (with_reducible exact HKD.out.cells) | fail)
      (first
        | (go_at_call 128; (with_reducible refine (refHigh_any h h0 h1 _).mono ?_); rintro r w3 ⟨rfl, hw⟩; cases hw)
        | (go_at_call 127; (with_reducible refine (refPair_any y x y0 y1 x0' x1' _).mono ?_); rintro r w3 ⟨rfl, hw⟩; cases hw; rw [← HNN.out])
        | (go_at_call 115; (with_reducible refine (rswap_any (fun b => P b ∧ b ≠ w.heap.size ∧ b ≠ w.heap.size + 1) R n' capR L hd h N _ HN.out hn2 HRD.out (fun b hb => HKD.out.far HP.out hb)).mono ?_); rintro r w4 ⟨R2, cap2, rfl, hx, hb⟩; rw [← HB.out]; rw [← HW.out] at hx; have HK1 := Lib.hid (HKD.out.step hb); have HR2 := Lib.hid hx; clear hb hx; have hfr0 := HK1.out.fro0)
        | fail)
    clear x0 x1 x2 x3 x4 x5 x6 x7
    obtain ⟨x0, x1, x2, x3, x4, x5, x6, x7⟩ := HK1.out.cells
    go_wp2_with (fail)
    have hkl := (HK1.out.pcS 1)
    obtain ⟨W2, hW2⟩ : ∃ W2, W2 = (w4.setCell ⟨w.heap.size, 1, none⟩ (.int .i64 1)) := ⟨_, rfl⟩
    have hrl : ReadsW (fun b => P b ∧ b ≠ w.heap.size + 1) W2 R2 L' := by
      rw [hW2]; exact HR2.out.off _ (upd_one _ _ _ _) (fun c hc => ⟨hc.2.1, hc.1, hc.2.2⟩)
    rw [← hW2] at hkl ⊢
    clear hW2 x0 x1 x2 x3 x4 x5 x6 x7 hfr0
    obtain ⟨x0, x1, x2, x3, x4, x5, x6, x7⟩ := hkl.cells
    obtain ⟨r0, r1, r2, r3, r4, r5, r6, r7⟩ := hkl.res
    have hfr := hkl.fro
    have HKL := Lib.hid hkl
    have HRL := Lib.hid hrl
    clear hkl hrl
    go_region
    go_wp2
    obtain ⟨e0, e1, e2, e3, e4, e5, e6, e7⟩ := HKL.out.putr (u0 := .int .i64 kd) (u1 := .int .i64 1) (u2 := .int .i64 hd) (u3 := .slice A n cap) (u4 := .int .u32 it) (u5 := .int .u64 h) (u6 := .int .u32 li) (u7 := .int .i64 tr)
    exact bodyPost_ret (v := .tuple #[.slice R2 n' cap2, mV kd 1 hd A n cap it h li tr]) (by simp [results, Tryz.results118, go_sem, e0, e1, e2, e3, e4, e5, e6, e7]) rfl ⟨R2, cap2, rfl, (KM.putd HRL.out).below (Below.refl _ _).drew, HKL.out.putb.drew⟩
  · simp only [if_true]
    go_enter Tryz.func118, Tryz.ntmps118
    go_wp2_with (fail)
    obtain ⟨W, hW⟩ : ∃ W, W = ((w.alloc (.cells #[.int .i64 kd, .int .i64 pc, .int .i64 hd, .slice A n cap, .int .u32 it, .int .u64 h, .int .u32 li, .int .i64 tr] 55)).alloc (.cells #[.int .i64 0, .int .i64 0, .int .i64 0, .slice none 0 0, .int .u32 0, .int .u64 0, .int .u32 0, .int .i64 0] 55)) := ⟨_, rfl⟩
    rw [← hW] at hkm hb0 hlt ⊢
    clear hW
    obtain ⟨x0, x1, x2, x3, x4, x5, x6, x7⟩ := hkm.cells
    have HKD := Lib.hid (hkm.step ((Below.refl W.heap.size W).drew))
    have HRD := Lib.hid (HR0.out.below (hb0.drew))
    clear hkm hb0
    go_region_held3 (fun w' => w'.cell? ⟨w.heap.size, 0, none⟩ = some (.int .i64 kd) ∧ w'.cell? ⟨w.heap.size, 1, none⟩ = some (.int .i64 pc) ∧ w'.cell? ⟨w.heap.size, 2, none⟩ = some (.int .i64 hd) ∧ w'.cell? ⟨w.heap.size, 3, none⟩ = some (.slice A n cap) ∧ w'.cell? ⟨w.heap.size, 4, none⟩ = some (.int .u32 it) ∧ w'.cell? ⟨w.heap.size, 5, none⟩ = some (.int .u64 h) ∧ w'.cell? ⟨w.heap.size, 6, none⟩ = some (.int .u32 li) ∧ w'.cell? ⟨w.heap.size, 7, none⟩ = some (.int .i64 tr))
      (first | (with_reducible exact HK1.out.cells) | (with_reducible exact HKD.out.cells) | fail)
      (first
        | (go_at_call 128; (with_reducible refine (refHigh_any h h0 h1 _).mono ?_); rintro r w3 ⟨rfl, hw⟩; cases hw)
        | (go_at_call 127; (with_reducible refine (refPair_any y x y0 y1 x0' x1' _).mono ?_); rintro r w3 ⟨rfl, hw⟩; cases hw; rw [← HNN.out])
        | (go_at_call 115; (with_reducible refine (rswap_any (fun b => P b ∧ b ≠ w.heap.size ∧ b ≠ w.heap.size + 1) R n' capR L hd h N _ HN.out hn2 HRD.out (fun b hb => HKD.out.far HP.out hb)).mono ?_); rintro r w4 ⟨R2, cap2, rfl, hx, hb⟩; rw [← HB.out]; rw [← HW.out] at hx; have HK1 := Lib.hid (HKD.out.step hb); have HR2 := Lib.hid hx; clear hb hx; have hfr0 := HK1.out.fro0)
        | fail)
    clear x0 x1 x2 x3 x4 x5 x6 x7
    obtain ⟨x0, x1, x2, x3, x4, x5, x6, x7⟩ := HK1.out.cells
    go_wp2_with (fail)
    have hkl := (HK1.out.pcS 1).pcS 0
    obtain ⟨W2, hW2⟩ : ∃ W2, W2 = ((w4.setCell ⟨w.heap.size, 1, none⟩ (.int .i64 1)).setCell ⟨w.heap.size, 1, none⟩ (.int .i64 0)) := ⟨_, rfl⟩
    have hrl : ReadsW (fun b => P b ∧ b ≠ w.heap.size + 1) W2 R2 L' := by
      rw [hW2]; exact HR2.out.off _ ((upd_one _ _ _ _).trans (upd_one _ _ _ _)) (fun c hc => ⟨hc.2.1, hc.1, hc.2.2⟩)
    rw [← hW2] at hkl ⊢
    clear hW2 x0 x1 x2 x3 x4 x5 x6 x7 hfr0
    obtain ⟨x0, x1, x2, x3, x4, x5, x6, x7⟩ := hkl.cells
    obtain ⟨r0, r1, r2, r3, r4, r5, r6, r7⟩ := hkl.res
    have hfr := hkl.fro
    have HKL := Lib.hid hkl
    have HRL := Lib.hid hrl
    clear hkl hrl
    go_region
    go_wp2
    obtain ⟨e0, e1, e2, e3, e4, e5, e6, e7⟩ := HKL.out.putr (u0 := .int .i64 kd) (u1 := .int .i64 0) (u2 := .int .i64 hd) (u3 := .slice A n cap) (u4 := .int .u32 it) (u5 := .int .u64 h) (u6 := .int .u32 li) (u7 := .int .i64 tr)
    exact bodyPost_ret (v := .tuple #[.slice R2 n' cap2, mV kd 0 hd A n cap it h li tr]) (by simp [results, Tryz.results118, go_sem, e0, e1, e2, e3, e4, e5, e6, e7]) rfl ⟨R2, cap2, rfl, (KM.putd HRL.out).below (Below.refl _ _).drew, HKL.out.putb.drew⟩

set_option maxHeartbeats 8000000 in
theorem rstep3_push (P : Nat → Prop) (R : Option Addr) (n' capR : Nat) (L : List Int) (hd : Int) (A : Option Addr) (n cap : Nat) (it h li tr : Int) (w : World) (hn : n' = L.length) (hn2 : n' ≤ 1000000) (hR : ReadsW P w R L) (hP : ∀ b, w.heap.size ≤ b → P b)
    (h0 : 0 ≤ h) (h1 : h ≤ 18446744073709551615) (x0' : 0 ≤ it) (x1' : it ≤ 4294967295) :
    Calls Tryz.prog 92 #[.slice R n' capR, mV 1 3 hd A n cap it h li tr] w (SomeStep P w n' (swv L hd h (turnw h it)) (mV 1 (if swB L hd h = true then 0 else 1) hd A n cap it h li tr)) := by
  have hkm := KM.new w 1 3 hd A n cap it h li tr
  have hb0 := hkm.bel
  have HN := Lib.hid hn; have HP := Lib.hid hP
  have HR0 : Hid (ReadsW (fun b => P b ∧ b ≠ w.heap.size + 1) w R L) := Lib.hid (fun h0 => by
    obtain ⟨b, off, e, hb, hp, hc⟩ := hR h0
    exact ⟨b, off, e, hb, ⟨hp, by omega⟩, hc⟩)
  obtain ⟨q, hq⟩ : ∃ q : Int, q = if swB L hd h = true then 0 else 1 := ⟨_, rfl⟩
  obtain ⟨L', hL'⟩ : ∃ L', L' = swv L hd h (turnw h it) := ⟨_, rfl⟩
  rw [← hq, ← hL']
  have HQ := Lib.hid hq; have HL := Lib.hid hL'
  clear hn hR hP hq hL'
  go_enter Tryz.func92, Tryz.ntmps92
  obtain ⟨W, hW⟩ : ∃ W, W = ((w.alloc (.cells #[.int .i64 1, .int .i64 3, .int .i64 hd, .slice A n cap, .int .u32 it, .int .u64 h, .int .u32 li, .int .i64 tr] 55)).alloc (.cells #[.int .i64 0, .int .i64 0, .int .i64 0, .slice none 0 0, .int .u32 0, .int .u64 0, .int .u32 0, .int .i64 0] 55)) := ⟨_, rfl⟩
  rw [← hW] at hkm hb0
  have HKM := Lib.hid hkm; have HB0 := Lib.hid hb0; have HW := Lib.hid hW
  clear hkm hb0 hW
  go_wp2_with (first
    | (go_at_call 118; rw [← HW.out]; (with_reducible refine (rturn_any (fun b => P b ∧ b ≠ w.heap.size + 1) R n' capR L 1 3 hd A n cap it h li tr it _ HN.out hn2 (HR0.out.below HB0.out) (fun b hb => ⟨(HKM.out.far HP.out hb).1, (HKM.out.far HP.out hb).2.2⟩) h0 h1 x0' x1').mono ?_); rintro r w3 ⟨R2, cap2, rfl, hx, hb⟩; rw [← HQ.out]; rw [← HL.out] at hx; have HK1 := Lib.hid (HKM.out.step hb); have HR2 := Lib.hid hx; clear hb hx; obtain ⟨r0, r1, r2, r3, r4, r5, r6, r7⟩ := HK1.out.res; have hfr := HK1.out.fro)
    | fail)
  obtain ⟨e0, e1, e2, e3, e4, e5, e6, e7⟩ := HK1.out.putr (u0 := .int .i64 1) (u1 := .int .i64 q) (u2 := .int .i64 hd) (u3 := .slice A n cap) (u4 := .int .u32 it) (u5 := .int .u64 h) (u6 := .int .u32 li) (u7 := .int .i64 tr)
  exact bodyPost_ret (v := .tuple #[.slice R2 n' cap2, mV 1 q hd A n cap it h li tr]) (by simp [results, Tryz.results92, go_sem, e0, e1, e2, e3, e4, e5, e6, e7]) rfl ⟨R2, cap2, rfl, KM.putd HR2.out, HK1.out.putb⟩

set_option maxHeartbeats 8000000 in
theorem rstep3_pop (P : Nat → Prop) (R : Option Addr) (n' capR : Nat) (L : List Int) (hd : Int) (A : Option Addr) (n cap : Nat) (it h li tr : Int) (w : World) (hn : n' = L.length) (hn2 : n' ≤ 1000000) (hR : ReadsW P w R L) (hP : ∀ b, w.heap.size ≤ b → P b)
    (h0 : 0 ≤ h) (h1 : h ≤ 18446744073709551615) (x0' : 0 ≤ li) (x1' : li ≤ 4294967295) :
    Calls Tryz.prog 92 #[.slice R n' capR, mV 2 3 hd A n cap it h li tr] w (SomeStep P w n' (swv L hd h (turnw h li)) (mV 2 (if swB L hd h = true then 0 else 1) hd A n cap it h li tr)) := by
  have hkm := KM.new w 2 3 hd A n cap it h li tr
  have hb0 := hkm.bel
  have HN := Lib.hid hn; have HP := Lib.hid hP
  have HR0 : Hid (ReadsW (fun b => P b ∧ b ≠ w.heap.size + 1) w R L) := Lib.hid (fun h0 => by
    obtain ⟨b, off, e, hb, hp, hc⟩ := hR h0
    exact ⟨b, off, e, hb, ⟨hp, by omega⟩, hc⟩)
  obtain ⟨q, hq⟩ : ∃ q : Int, q = if swB L hd h = true then 0 else 1 := ⟨_, rfl⟩
  obtain ⟨L', hL'⟩ : ∃ L', L' = swv L hd h (turnw h li) := ⟨_, rfl⟩
  rw [← hq, ← hL']
  have HQ := Lib.hid hq; have HL := Lib.hid hL'
  clear hn hR hP hq hL'
  go_enter Tryz.func92, Tryz.ntmps92
  obtain ⟨W, hW⟩ : ∃ W, W = ((w.alloc (.cells #[.int .i64 2, .int .i64 3, .int .i64 hd, .slice A n cap, .int .u32 it, .int .u64 h, .int .u32 li, .int .i64 tr] 55)).alloc (.cells #[.int .i64 0, .int .i64 0, .int .i64 0, .slice none 0 0, .int .u32 0, .int .u64 0, .int .u32 0, .int .i64 0] 55)) := ⟨_, rfl⟩
  rw [← hW] at hkm hb0
  have HKM := Lib.hid hkm; have HB0 := Lib.hid hb0; have HW := Lib.hid hW
  clear hkm hb0 hW
  go_wp2_with (first
    | (go_at_call 118; rw [← HW.out]; (with_reducible refine (rturn_any (fun b => P b ∧ b ≠ w.heap.size + 1) R n' capR L 2 3 hd A n cap it h li tr li _ HN.out hn2 (HR0.out.below HB0.out) (fun b hb => ⟨(HKM.out.far HP.out hb).1, (HKM.out.far HP.out hb).2.2⟩) h0 h1 x0' x1').mono ?_); rintro r w3 ⟨R2, cap2, rfl, hx, hb⟩; rw [← HQ.out]; rw [← HL.out] at hx; have HK1 := Lib.hid (HKM.out.step hb); have HR2 := Lib.hid hx; clear hb hx; obtain ⟨r0, r1, r2, r3, r4, r5, r6, r7⟩ := HK1.out.res; have hfr := HK1.out.fro)
    | fail)
  obtain ⟨e0, e1, e2, e3, e4, e5, e6, e7⟩ := HK1.out.putr (u0 := .int .i64 2) (u1 := .int .i64 q) (u2 := .int .i64 hd) (u3 := .slice A n cap) (u4 := .int .u32 it) (u5 := .int .u64 h) (u6 := .int .u32 li) (u7 := .int .i64 tr)
  exact bodyPost_ret (v := .tuple #[.slice R2 n' cap2, mV 2 q hd A n cap it h li tr]) (by simp [results, Tryz.results92, go_sem, e0, e1, e2, e3, e4, e5, e6, e7]) rfl ⟨R2, cap2, rfl, KM.putd HR2.out, HK1.out.putb⟩

/-- A step of the document's machine is that of the one over words. -/
theorem rstep_any {t : Int} (P : Nat → Prop) (R : Option Addr) (n' capR : Nat) (L : List Int) (m : Sm) (A : Option Addr) (n cap : Nat) (w : World) (hn : n' = L.length) (hn2 : n' ≤ 1000000) (hR : ReadsW P w R L) (hP : ∀ b, w.heap.size ≤ b → P b)
    (hz : n = m.k.links.length) (hK : Reads .i64 w A m.k.links) (hl : n ≤ 1000000) (wm : Wm t m) (ww : WW L) (ht : t ≤ 1000000000) :
    Calls Tryz.prog 92 #[.slice R n' capR, smV m A n cap] w (SomeStep P w n' (sstp L m).1 (smV (sstp L m).2 A n cap)) := by
  obtain ⟨kd, pc, k, it, h, li, tr⟩ := m
  have hpc : pc ≤ 3 := wm.pc
  have hkd : kd = 1 ∨ kd = 2 := wm.kd
  have hi := wm.i; have hh := wm.h; have hli := wm.l; have htr := wm.t
  simp only at hi hh hli htr hz hK
  by_cases p0 : pc = 0
  · subst p0
    rw [sstp_no rfl]
    refine (rstep0_any R n' capR kd k.head A n cap it h li tr w).mono ?_
    rintro e w' ⟨rfl, hb⟩
    exact ⟨R, capR, rfl, hR.below hb, hb⟩
  by_cases p1 : pc = 1
  · subst p1
    rcases hkd with rfl | rfl
    · rw [push_first (m := ⟨1, 1, k, it, h, li, tr⟩) rfl rfl rfl]
      refine (rstep1_push R n' capR L k.head A n cap it h li tr w hn hR.reads ww htr.1 (by omega)).mono ?_
      rintro e w' ⟨rfl, hb⟩
      exact ⟨R, capR, rfl, hR.below hb, hb⟩
    · rw [pop_first (m := ⟨2, 1, k, it, h, li, tr⟩) rfl rfl rfl]
      refine (rstep1_pop R n' capR L k.head A n cap it h li tr w hn hR.reads ww htr.1 (by omega)).mono ?_
      rintro e w' ⟨rfl, hb⟩
      by_cases hz0 : low (ldq L k.head) = 0
      · simp only [hz0, if_true]
        exact ⟨R, capR, rfl, hR.below hb, hb⟩
      · simp only [hz0, if_false]
        exact ⟨R, capR, rfl, hR.below hb, hb⟩
  by_cases p2 : pc = 2
  · subst p2
    rcases hkd with rfl | rfl
    · rw [push_link (m := ⟨1, 2, k, it, h, li, tr⟩) rfl rfl]
      exact rstep2_push P R n' capR L k.head A n cap k.links it h li tr w hn hn2 hR hP hz hK hl hi.1 hi.2 hli.1 hli.2
    · rw [pop_link (m := ⟨2, 2, k, it, h, li, tr⟩) rfl rfl]
      exact rstep2_pop P R n' capR L k.head A n cap k.links it h li tr w hn hR ww hz hK hl hi.1 hi.2
  have p3 : pc = 3 := by omega
  subst p3
  have key : ∀ x kd', SomeStep P w n' (swv L k.head h (turnw h x)) (mV kd' (if swB L k.head h = true then 0 else 1) k.head A n cap it h li tr) = SomeStep P w n' (swapS L ⟨kd, 3, k, it, h, li, tr⟩ x).1 (mV kd' ((swapS L ⟨kd, 3, k, it, h, li, tr⟩ x).2.pc : Int) k.head A n cap it h li tr) := by
    intro x kd'
    rw [swv_eq]
    unfold swapS
    by_cases hc : (0 ≤ k.head ∧ k.head < L.length) ∧ L.getD k.head.toNat 0 = h
    · rw [if_pos hc, if_pos hc, if_pos ((swB_iff ..).2 hc)]; rfl
    · rw [if_neg hc, if_neg hc, if_neg (fun h2 => hc ((swB_iff ..).1 h2))]; rfl
  have key2 : ∀ x, (swapS L ⟨kd, 3, k, it, h, li, tr⟩ x).2 = ⟨kd, (swapS L ⟨kd, 3, k, it, h, li, tr⟩ x).2.pc, k, it, h, li, tr⟩ := by
    intro x
    unfold swapS
    exact ite_ind (P := fun z : List Int × Sm => z.2 = ⟨kd, z.2.pc, k, it, h, li, tr⟩) rfl rfl
  rcases hkd with rfl | rfl
  · rw [push_swap (m := ⟨1, 3, k, it, h, li, tr⟩) rfl rfl]
    have := rstep3_push P R n' capR L k.head A n cap it h li tr w hn hn2 hR hP hh.1 hh.2 hi.1 hi.2
    rw [key] at this
    rw [key2 it]
    exact this
  · rw [pop_swap (m := ⟨2, 3, k, it, h, li, tr⟩) rfl rfl]
    have := rstep3_pop P R n' capR L k.head A n cap it h li tr w hn hn2 hR hP hh.1 hh.2 hli.1 hli.2
    rw [key] at this
    rw [key2 li]
    exact this
end Go.Proofs.YtponbnbgiiepdaaGreat

namespace Go.Proofs.YtponbnbgiiepdaaGreat
open Go.RowKit
set_option linter.unusedVariables false
set_option maxRecDepth 100000

abbrev put13 (w : World) (B : Nat) (u0 u1 u2 u3 u4 u5 u6 u7 u8 u9 u10 u11 u12 : Value) : World := (((((((((((((w.setCell ⟨B, 0, none⟩ u0).setCell ⟨B, 1, none⟩ u1).setCell ⟨B, 2, none⟩ u2).setCell ⟨B, 3, none⟩ u3).setCell ⟨B, 4, none⟩ u4).setCell ⟨B, 5, none⟩ u5).setCell ⟨B, 6, none⟩ u6).setCell ⟨B, 7, none⟩ u7).setCell ⟨B, 8, none⟩ u8).setCell ⟨B, 9, none⟩ u9).setCell ⟨B, 10, none⟩ u10).setCell ⟨B, 11, none⟩ u11).setCell ⟨B, 12, none⟩ u12)
theorem put13_same (w : World) (B : Nat) (t : TypeId) (x0 x1 x2 x3 x4 x5 x6 x7 x8 x9 x10 x11 x12 : Value) (h : w.heap[B]? = some (.cells #[x0, x1, x2, x3, x4, x5, x6, x7, x8, x9, x10, x11, x12] t (0, 0))) (u0 u1 u2 u3 u4 u5 u6 u7 u8 u9 u10 u11 u12 : Value) : (put13 w B u0 u1 u2 u3 u4 u5 u6 u7 u8 u9 u10 u11 u12).heap[B]? = some (.cells #[u0, u1, u2, u3, u4, u5, u6, u7, u8, u9, u10, u11, u12] t (0, 0)) := by
  have h0 : (w.setCell ⟨B, 0, none⟩ u0).heap[B]? = some (.cells #[u0, x1, x2, x3, x4, x5, x6, x7, x8, x9, x10, x11, x12] t (0, 0)) := (heap_setCell_same _ B 0 _ t u0 h).trans (congrArg (fun c => some (Obj.cells c t (0, 0))) (show (#[x0, x1, x2, x3, x4, x5, x6, x7, x8, x9, x10, x11, x12] : Array Value).setIfInBounds 0 u0 = #[u0, x1, x2, x3, x4, x5, x6, x7, x8, x9, x10, x11, x12] from rfl))
  have h1 : ((w.setCell ⟨B, 0, none⟩ u0).setCell ⟨B, 1, none⟩ u1).heap[B]? = some (.cells #[u0, u1, x2, x3, x4, x5, x6, x7, x8, x9, x10, x11, x12] t (0, 0)) := (heap_setCell_same _ B 1 _ t u1 h0).trans (congrArg (fun c => some (Obj.cells c t (0, 0))) (show (#[u0, x1, x2, x3, x4, x5, x6, x7, x8, x9, x10, x11, x12] : Array Value).setIfInBounds 1 u1 = #[u0, u1, x2, x3, x4, x5, x6, x7, x8, x9, x10, x11, x12] from rfl))
  have h2 : (((w.setCell ⟨B, 0, none⟩ u0).setCell ⟨B, 1, none⟩ u1).setCell ⟨B, 2, none⟩ u2).heap[B]? = some (.cells #[u0, u1, u2, x3, x4, x5, x6, x7, x8, x9, x10, x11, x12] t (0, 0)) := (heap_setCell_same _ B 2 _ t u2 h1).trans (congrArg (fun c => some (Obj.cells c t (0, 0))) (show (#[u0, u1, x2, x3, x4, x5, x6, x7, x8, x9, x10, x11, x12] : Array Value).setIfInBounds 2 u2 = #[u0, u1, u2, x3, x4, x5, x6, x7, x8, x9, x10, x11, x12] from rfl))
  have h3 : ((((w.setCell ⟨B, 0, none⟩ u0).setCell ⟨B, 1, none⟩ u1).setCell ⟨B, 2, none⟩ u2).setCell ⟨B, 3, none⟩ u3).heap[B]? = some (.cells #[u0, u1, u2, u3, x4, x5, x6, x7, x8, x9, x10, x11, x12] t (0, 0)) := (heap_setCell_same _ B 3 _ t u3 h2).trans (congrArg (fun c => some (Obj.cells c t (0, 0))) (show (#[u0, u1, u2, x3, x4, x5, x6, x7, x8, x9, x10, x11, x12] : Array Value).setIfInBounds 3 u3 = #[u0, u1, u2, u3, x4, x5, x6, x7, x8, x9, x10, x11, x12] from rfl))
  have h4 : (((((w.setCell ⟨B, 0, none⟩ u0).setCell ⟨B, 1, none⟩ u1).setCell ⟨B, 2, none⟩ u2).setCell ⟨B, 3, none⟩ u3).setCell ⟨B, 4, none⟩ u4).heap[B]? = some (.cells #[u0, u1, u2, u3, u4, x5, x6, x7, x8, x9, x10, x11, x12] t (0, 0)) := (heap_setCell_same _ B 4 _ t u4 h3).trans (congrArg (fun c => some (Obj.cells c t (0, 0))) (show (#[u0, u1, u2, u3, x4, x5, x6, x7, x8, x9, x10, x11, x12] : Array Value).setIfInBounds 4 u4 = #[u0, u1, u2, u3, u4, x5, x6, x7, x8, x9, x10, x11, x12] from rfl))
  have h5 : ((((((w.setCell ⟨B, 0, none⟩ u0).setCell ⟨B, 1, none⟩ u1).setCell ⟨B, 2, none⟩ u2).setCell ⟨B, 3, none⟩ u3).setCell ⟨B, 4, none⟩ u4).setCell ⟨B, 5, none⟩ u5).heap[B]? = some (.cells #[u0, u1, u2, u3, u4, u5, x6, x7, x8, x9, x10, x11, x12] t (0, 0)) := (heap_setCell_same _ B 5 _ t u5 h4).trans (congrArg (fun c => some (Obj.cells c t (0, 0))) (show (#[u0, u1, u2, u3, u4, x5, x6, x7, x8, x9, x10, x11, x12] : Array Value).setIfInBounds 5 u5 = #[u0, u1, u2, u3, u4, u5, x6, x7, x8, x9, x10, x11, x12] from rfl))
  have h6 : (((((((w.setCell ⟨B, 0, none⟩ u0).setCell ⟨B, 1, none⟩ u1).setCell ⟨B, 2, none⟩ u2).setCell ⟨B, 3, none⟩ u3).setCell ⟨B, 4, none⟩ u4).setCell ⟨B, 5, none⟩ u5).setCell ⟨B, 6, none⟩ u6).heap[B]? = some (.cells #[u0, u1, u2, u3, u4, u5, u6, x7, x8, x9, x10, x11, x12] t (0, 0)) := (heap_setCell_same _ B 6 _ t u6 h5).trans (congrArg (fun c => some (Obj.cells c t (0, 0))) (show (#[u0, u1, u2, u3, u4, u5, x6, x7, x8, x9, x10, x11, x12] : Array Value).setIfInBounds 6 u6 = #[u0, u1, u2, u3, u4, u5, u6, x7, x8, x9, x10, x11, x12] from rfl))
  have h7 : ((((((((w.setCell ⟨B, 0, none⟩ u0).setCell ⟨B, 1, none⟩ u1).setCell ⟨B, 2, none⟩ u2).setCell ⟨B, 3, none⟩ u3).setCell ⟨B, 4, none⟩ u4).setCell ⟨B, 5, none⟩ u5).setCell ⟨B, 6, none⟩ u6).setCell ⟨B, 7, none⟩ u7).heap[B]? = some (.cells #[u0, u1, u2, u3, u4, u5, u6, u7, x8, x9, x10, x11, x12] t (0, 0)) := (heap_setCell_same _ B 7 _ t u7 h6).trans (congrArg (fun c => some (Obj.cells c t (0, 0))) (show (#[u0, u1, u2, u3, u4, u5, u6, x7, x8, x9, x10, x11, x12] : Array Value).setIfInBounds 7 u7 = #[u0, u1, u2, u3, u4, u5, u6, u7, x8, x9, x10, x11, x12] from rfl))
  have h8 : (((((((((w.setCell ⟨B, 0, none⟩ u0).setCell ⟨B, 1, none⟩ u1).setCell ⟨B, 2, none⟩ u2).setCell ⟨B, 3, none⟩ u3).setCell ⟨B, 4, none⟩ u4).setCell ⟨B, 5, none⟩ u5).setCell ⟨B, 6, none⟩ u6).setCell ⟨B, 7, none⟩ u7).setCell ⟨B, 8, none⟩ u8).heap[B]? = some (.cells #[u0, u1, u2, u3, u4, u5, u6, u7, u8, x9, x10, x11, x12] t (0, 0)) := (heap_setCell_same _ B 8 _ t u8 h7).trans (congrArg (fun c => some (Obj.cells c t (0, 0))) (show (#[u0, u1, u2, u3, u4, u5, u6, u7, x8, x9, x10, x11, x12] : Array Value).setIfInBounds 8 u8 = #[u0, u1, u2, u3, u4, u5, u6, u7, u8, x9, x10, x11, x12] from rfl))
  have h9 : ((((((((((w.setCell ⟨B, 0, none⟩ u0).setCell ⟨B, 1, none⟩ u1).setCell ⟨B, 2, none⟩ u2).setCell ⟨B, 3, none⟩ u3).setCell ⟨B, 4, none⟩ u4).setCell ⟨B, 5, none⟩ u5).setCell ⟨B, 6, none⟩ u6).setCell ⟨B, 7, none⟩ u7).setCell ⟨B, 8, none⟩ u8).setCell ⟨B, 9, none⟩ u9).heap[B]? = some (.cells #[u0, u1, u2, u3, u4, u5, u6, u7, u8, u9, x10, x11, x12] t (0, 0)) := (heap_setCell_same _ B 9 _ t u9 h8).trans (congrArg (fun c => some (Obj.cells c t (0, 0))) (show (#[u0, u1, u2, u3, u4, u5, u6, u7, u8, x9, x10, x11, x12] : Array Value).setIfInBounds 9 u9 = #[u0, u1, u2, u3, u4, u5, u6, u7, u8, u9, x10, x11, x12] from rfl))
  have h10 : (((((((((((w.setCell ⟨B, 0, none⟩ u0).setCell ⟨B, 1, none⟩ u1).setCell ⟨B, 2, none⟩ u2).setCell ⟨B, 3, none⟩ u3).setCell ⟨B, 4, none⟩ u4).setCell ⟨B, 5, none⟩ u5).setCell ⟨B, 6, none⟩ u6).setCell ⟨B, 7, none⟩ u7).setCell ⟨B, 8, none⟩ u8).setCell ⟨B, 9, none⟩ u9).setCell ⟨B, 10, none⟩ u10).heap[B]? = some (.cells #[u0, u1, u2, u3, u4, u5, u6, u7, u8, u9, u10, x11, x12] t (0, 0)) := (heap_setCell_same _ B 10 _ t u10 h9).trans (congrArg (fun c => some (Obj.cells c t (0, 0))) (show (#[u0, u1, u2, u3, u4, u5, u6, u7, u8, u9, x10, x11, x12] : Array Value).setIfInBounds 10 u10 = #[u0, u1, u2, u3, u4, u5, u6, u7, u8, u9, u10, x11, x12] from rfl))
  have h11 : ((((((((((((w.setCell ⟨B, 0, none⟩ u0).setCell ⟨B, 1, none⟩ u1).setCell ⟨B, 2, none⟩ u2).setCell ⟨B, 3, none⟩ u3).setCell ⟨B, 4, none⟩ u4).setCell ⟨B, 5, none⟩ u5).setCell ⟨B, 6, none⟩ u6).setCell ⟨B, 7, none⟩ u7).setCell ⟨B, 8, none⟩ u8).setCell ⟨B, 9, none⟩ u9).setCell ⟨B, 10, none⟩ u10).setCell ⟨B, 11, none⟩ u11).heap[B]? = some (.cells #[u0, u1, u2, u3, u4, u5, u6, u7, u8, u9, u10, u11, x12] t (0, 0)) := (heap_setCell_same _ B 11 _ t u11 h10).trans (congrArg (fun c => some (Obj.cells c t (0, 0))) (show (#[u0, u1, u2, u3, u4, u5, u6, u7, u8, u9, u10, x11, x12] : Array Value).setIfInBounds 11 u11 = #[u0, u1, u2, u3, u4, u5, u6, u7, u8, u9, u10, u11, x12] from rfl))
  have h12 : (((((((((((((w.setCell ⟨B, 0, none⟩ u0).setCell ⟨B, 1, none⟩ u1).setCell ⟨B, 2, none⟩ u2).setCell ⟨B, 3, none⟩ u3).setCell ⟨B, 4, none⟩ u4).setCell ⟨B, 5, none⟩ u5).setCell ⟨B, 6, none⟩ u6).setCell ⟨B, 7, none⟩ u7).setCell ⟨B, 8, none⟩ u8).setCell ⟨B, 9, none⟩ u9).setCell ⟨B, 10, none⟩ u10).setCell ⟨B, 11, none⟩ u11).setCell ⟨B, 12, none⟩ u12).heap[B]? = some (.cells #[u0, u1, u2, u3, u4, u5, u6, u7, u8, u9, u10, u11, u12] t (0, 0)) := (heap_setCell_same _ B 12 _ t u12 h11).trans (congrArg (fun c => some (Obj.cells c t (0, 0))) (show (#[u0, u1, u2, u3, u4, u5, u6, u7, u8, u9, u10, u11, x12] : Array Value).setIfInBounds 12 u12 = #[u0, u1, u2, u3, u4, u5, u6, u7, u8, u9, u10, u11, u12] from rfl))
  exact h12
abbrev put8o (w : World) (B : Nat) (u0 u1 u2 u3 u4 u5 u6 u7 : Value) : World := ((((((((w.setCell ⟨B, 5, none⟩ u0).setCell ⟨B, 6, none⟩ u1).setCell ⟨B, 7, none⟩ u2).setCell ⟨B, 8, none⟩ u3).setCell ⟨B, 9, none⟩ u4).setCell ⟨B, 10, none⟩ u5).setCell ⟨B, 11, none⟩ u6).setCell ⟨B, 12, none⟩ u7)
theorem put8o_same (w : World) (B : Nat) (t : TypeId) (x0 x1 x2 x3 x4 x5 x6 x7 x8 x9 x10 x11 x12 : Value) (h : w.heap[B]? = some (.cells #[x0, x1, x2, x3, x4, x5, x6, x7, x8, x9, x10, x11, x12] t (0, 0))) (u0 u1 u2 u3 u4 u5 u6 u7 : Value) : (put8o w B u0 u1 u2 u3 u4 u5 u6 u7).heap[B]? = some (.cells #[x0, x1, x2, x3, x4, u0, u1, u2, u3, u4, u5, u6, u7] t (0, 0)) := by
  have h0 : (w.setCell ⟨B, 5, none⟩ u0).heap[B]? = some (.cells #[x0, x1, x2, x3, x4, u0, x6, x7, x8, x9, x10, x11, x12] t (0, 0)) := (heap_setCell_same _ B 5 _ t u0 h).trans (congrArg (fun c => some (Obj.cells c t (0, 0))) (show (#[x0, x1, x2, x3, x4, x5, x6, x7, x8, x9, x10, x11, x12] : Array Value).setIfInBounds 5 u0 = #[x0, x1, x2, x3, x4, u0, x6, x7, x8, x9, x10, x11, x12] from rfl))
  have h1 : ((w.setCell ⟨B, 5, none⟩ u0).setCell ⟨B, 6, none⟩ u1).heap[B]? = some (.cells #[x0, x1, x2, x3, x4, u0, u1, x7, x8, x9, x10, x11, x12] t (0, 0)) := (heap_setCell_same _ B 6 _ t u1 h0).trans (congrArg (fun c => some (Obj.cells c t (0, 0))) (show (#[x0, x1, x2, x3, x4, u0, x6, x7, x8, x9, x10, x11, x12] : Array Value).setIfInBounds 6 u1 = #[x0, x1, x2, x3, x4, u0, u1, x7, x8, x9, x10, x11, x12] from rfl))
  have h2 : (((w.setCell ⟨B, 5, none⟩ u0).setCell ⟨B, 6, none⟩ u1).setCell ⟨B, 7, none⟩ u2).heap[B]? = some (.cells #[x0, x1, x2, x3, x4, u0, u1, u2, x8, x9, x10, x11, x12] t (0, 0)) := (heap_setCell_same _ B 7 _ t u2 h1).trans (congrArg (fun c => some (Obj.cells c t (0, 0))) (show (#[x0, x1, x2, x3, x4, u0, u1, x7, x8, x9, x10, x11, x12] : Array Value).setIfInBounds 7 u2 = #[x0, x1, x2, x3, x4, u0, u1, u2, x8, x9, x10, x11, x12] from rfl))
  have h3 : ((((w.setCell ⟨B, 5, none⟩ u0).setCell ⟨B, 6, none⟩ u1).setCell ⟨B, 7, none⟩ u2).setCell ⟨B, 8, none⟩ u3).heap[B]? = some (.cells #[x0, x1, x2, x3, x4, u0, u1, u2, u3, x9, x10, x11, x12] t (0, 0)) := (heap_setCell_same _ B 8 _ t u3 h2).trans (congrArg (fun c => some (Obj.cells c t (0, 0))) (show (#[x0, x1, x2, x3, x4, u0, u1, u2, x8, x9, x10, x11, x12] : Array Value).setIfInBounds 8 u3 = #[x0, x1, x2, x3, x4, u0, u1, u2, u3, x9, x10, x11, x12] from rfl))
  have h4 : (((((w.setCell ⟨B, 5, none⟩ u0).setCell ⟨B, 6, none⟩ u1).setCell ⟨B, 7, none⟩ u2).setCell ⟨B, 8, none⟩ u3).setCell ⟨B, 9, none⟩ u4).heap[B]? = some (.cells #[x0, x1, x2, x3, x4, u0, u1, u2, u3, u4, x10, x11, x12] t (0, 0)) := (heap_setCell_same _ B 9 _ t u4 h3).trans (congrArg (fun c => some (Obj.cells c t (0, 0))) (show (#[x0, x1, x2, x3, x4, u0, u1, u2, u3, x9, x10, x11, x12] : Array Value).setIfInBounds 9 u4 = #[x0, x1, x2, x3, x4, u0, u1, u2, u3, u4, x10, x11, x12] from rfl))
  have h5 : ((((((w.setCell ⟨B, 5, none⟩ u0).setCell ⟨B, 6, none⟩ u1).setCell ⟨B, 7, none⟩ u2).setCell ⟨B, 8, none⟩ u3).setCell ⟨B, 9, none⟩ u4).setCell ⟨B, 10, none⟩ u5).heap[B]? = some (.cells #[x0, x1, x2, x3, x4, u0, u1, u2, u3, u4, u5, x11, x12] t (0, 0)) := (heap_setCell_same _ B 10 _ t u5 h4).trans (congrArg (fun c => some (Obj.cells c t (0, 0))) (show (#[x0, x1, x2, x3, x4, u0, u1, u2, u3, u4, x10, x11, x12] : Array Value).setIfInBounds 10 u5 = #[x0, x1, x2, x3, x4, u0, u1, u2, u3, u4, u5, x11, x12] from rfl))
  have h6 : (((((((w.setCell ⟨B, 5, none⟩ u0).setCell ⟨B, 6, none⟩ u1).setCell ⟨B, 7, none⟩ u2).setCell ⟨B, 8, none⟩ u3).setCell ⟨B, 9, none⟩ u4).setCell ⟨B, 10, none⟩ u5).setCell ⟨B, 11, none⟩ u6).heap[B]? = some (.cells #[x0, x1, x2, x3, x4, u0, u1, u2, u3, u4, u5, u6, x12] t (0, 0)) := (heap_setCell_same _ B 11 _ t u6 h5).trans (congrArg (fun c => some (Obj.cells c t (0, 0))) (show (#[x0, x1, x2, x3, x4, u0, u1, u2, u3, u4, u5, x11, x12] : Array Value).setIfInBounds 11 u6 = #[x0, x1, x2, x3, x4, u0, u1, u2, u3, u4, u5, u6, x12] from rfl))
  have h7 : ((((((((w.setCell ⟨B, 5, none⟩ u0).setCell ⟨B, 6, none⟩ u1).setCell ⟨B, 7, none⟩ u2).setCell ⟨B, 8, none⟩ u3).setCell ⟨B, 9, none⟩ u4).setCell ⟨B, 10, none⟩ u5).setCell ⟨B, 11, none⟩ u6).setCell ⟨B, 12, none⟩ u7).heap[B]? = some (.cells #[x0, x1, x2, x3, x4, u0, u1, u2, u3, u4, u5, u6, u7] t (0, 0)) := (heap_setCell_same _ B 12 _ t u7 h6).trans (congrArg (fun c => some (Obj.cells c t (0, 0))) (show (#[x0, x1, x2, x3, x4, u0, u1, u2, u3, u4, u5, u6, x12] : Array Value).setIfInBounds 12 u7 = #[x0, x1, x2, x3, x4, u0, u1, u2, u3, u4, u5, u6, u7] from rfl))
  exact h7
theorem put13_upd (w : World) (B : Nat) (u0 u1 u2 u3 u4 u5 u6 u7 u8 u9 u10 u11 u12 : Value) : Upd B B w (put13 w B u0 u1 u2 u3 u4 u5 u6 u7 u8 u9 u10 u11 u12) := by
  have u := fun (w : World) (i : Nat) (v : Value) => (show Upd B B w (w.setCell ⟨B, i, none⟩ v) from ⟨rfl, rfl, rfl, by simp, fun k hk h1 _ => heap_setCell_other w ⟨B, i, none⟩ k v h1⟩)
  exact (((((((((((((u _ _ _).trans (u _ _ _)).trans (u _ _ _)).trans (u _ _ _)).trans (u _ _ _)).trans (u _ _ _)).trans (u _ _ _)).trans (u _ _ _)).trans (u _ _ _)).trans (u _ _ _)).trans (u _ _ _)).trans (u _ _ _)).trans (u _ _ _))
theorem put8o_upd (w : World) (B : Nat) (u0 u1 u2 u3 u4 u5 u6 u7 : Value) : Upd B B w (put8o w B u0 u1 u2 u3 u4 u5 u6 u7) := by
  have u := fun (w : World) (i : Nat) (v : Value) => (show Upd B B w (w.setCell ⟨B, i, none⟩ v) from ⟨rfl, rfl, rfl, by simp, fun k hk h1 _ => heap_setCell_other w ⟨B, i, none⟩ k v h1⟩)
  exact ((((((((u _ _ _).trans (u _ _ _)).trans (u _ _ _)).trans (u _ _ _)).trans (u _ _ _)).trans (u _ _ _)).trans (u _ _ _)).trans (u _ _ _))
theorem row13_cells {w : World} {B : Nat} {t : TypeId} {x0 x1 x2 x3 x4 x5 x6 x7 x8 x9 x10 x11 x12 : Value} (h : w.heap[B]? = some (.cells #[x0, x1, x2, x3, x4, x5, x6, x7, x8, x9, x10, x11, x12] t (0, 0))) : w.cell? ⟨B, 0, none⟩ = some x0 ∧ w.cell? ⟨B, 1, none⟩ = some x1 ∧ w.cell? ⟨B, 2, none⟩ = some x2 ∧ w.cell? ⟨B, 3, none⟩ = some x3 ∧ w.cell? ⟨B, 4, none⟩ = some x4 ∧ w.cell? ⟨B, 5, none⟩ = some x5 ∧ w.cell? ⟨B, 6, none⟩ = some x6 ∧ w.cell? ⟨B, 7, none⟩ = some x7 ∧ w.cell? ⟨B, 8, none⟩ = some x8 ∧ w.cell? ⟨B, 9, none⟩ = some x9 ∧ w.cell? ⟨B, 10, none⟩ = some x10 ∧ w.cell? ⟨B, 11, none⟩ = some x11 ∧ w.cell? ⟨B, 12, none⟩ = some x12 := by
  refine ⟨?_, ?_, ?_, ?_, ?_, ?_, ?_, ?_, ?_, ?_, ?_, ?_, ?_⟩ <;> simp [World.cell?, h]
end Go.Proofs.YtponbnbgiiepdaaGreat
