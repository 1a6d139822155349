
import Derived.Test.YtpocihddecemfaaGreatJ19
import Derived.Test.YtpocihddecemfaaGreatJ14
namespace Go.Proofs.YtpocihddecemfaaGreat
open Go.RowKit
set_option linter.unusedVariables false
set_option linter.unusedSimpArgs false
set_option maxRecDepth 100000
open Lay (plcc plc shOf packN nodesN OkC Cfg Norm firstV Rep lenL things)
structure PS (w w' : World) (A : Option Addr) (n cap : Nat) (P : Int) (x0 x1 x2 x3 x4 x5 x6 x7 x8 x9 x10 x11 x12 : Value) : Prop where
  bel : Below w.heap.size w w'
  ba : w'.heap[w.heap.size]? = some (.cells #[.slice A n cap, .int .i64 P] 36 (0, 0))
  bm : w'.heap[w.heap.size + 1]? = some (.cells #[x0, x1, x2, x3, x4, x5, x6, x7, x8, x9, x10, x11, x12] 58 (0, 0))
  br : w'.heap[w.heap.size + 1 + 1]? = some (.cells #[.int .i64 0, .int .i64 0, .slice none 0 0, .int .i64 0, .int .i64 0, .int .i64 0, .int .i64 0, .int .i64 0, .slice none 0 0, .int .u32 0, .int .u64 0, .int .u32 0, .int .i64 0] 58 (0, 0))
section
variable {w w' w2 : World} {A : Option Addr} {n cap : Nat} {P : Int} {x0 x1 x2 x3 x4 x5 x6 x7 x8 x9 x10 x11 x12 u0 u1 u2 u3 u4 u5 u6 u7 u8 u9 u10 u11 u12 y0 y1 y2 y3 y4 y5 y6 y7 : Value}
theorem PS.step (k : PS w w' A n cap P x0 x1 x2 x3 x4 x5 x6 x7 x8 x9 x10 x11 x12) (hb : Below w'.heap.size w' w2) : PS w w2 A n cap P x0 x1 x2 x3 x4 x5 x6 x7 x8 x9 x10 x11 x12 :=
  ⟨below_step k.bel k.bel.size hb, (hb.block _ (Array.getElem?_eq_some_iff.1 k.ba).1).trans k.ba, (hb.block _ (Array.getElem?_eq_some_iff.1 k.bm).1).trans k.bm, (hb.block _ (Array.getElem?_eq_some_iff.1 k.br).1).trans k.br⟩
theorem PS.lt (k : PS w w' A n cap P x0 x1 x2 x3 x4 x5 x6 x7 x8 x9 x10 x11 x12) : w.heap.size + 2 < w'.heap.size := (Array.getElem?_eq_some_iff.1 k.br).1
theorem PS.cells (k : PS w w' A n cap P x0 x1 x2 x3 x4 x5 x6 x7 x8 x9 x10 x11 x12) : w'.cell? ⟨w.heap.size, 0, none⟩ = some (.slice A n cap) ∧ w'.cell? ⟨w.heap.size, 1, none⟩ = some (.int .i64 P) := by
  have := k.ba
  constructor <;> simp [World.cell?, this]
theorem PS.hiK (k : PS w w' A n cap P x0 x1 x2 x3 x4 x5 x6 x7 x8 x9 x10 x11 x12) {K : Option Addr} (h : ∀ a, K = some a → w'.heap.size < a.block) : ∀ a, K = some a → a.block ≠ w.heap.size + 1 ∧ a.block ≠ w.heap.size + 1 + 1 := fun a e => by
  have := h a e; have := k.lt; constructor <;> omega
theorem PS.frr (k : PS w w' A n cap P x0 x1 x2 x3 x4 x5 x6 x7 x8 x9 x10 x11 x12) (j : Nat) : w'.frozen? ⟨w.heap.size + 1 + 1, j, none⟩ = false := frozen_of_row w' _ j _ _ k.br
theorem PS.frm (k : PS w w' A n cap P x0 x1 x2 x3 x4 x5 x6 x7 x8 x9 x10 x11 x12) (j : Nat) : w'.frozen? ⟨w.heap.size + 1, j, none⟩ = false := frozen_of_row w' _ j _ _ k.bm
theorem PS.mc (k : PS w w' A n cap P x0 x1 x2 x3 x4 x5 x6 x7 x8 x9 x10 x11 x12) : w'.cell? ⟨w.heap.size + 1, 0, none⟩ = some (x0) ∧ w'.cell? ⟨w.heap.size + 1, 1, none⟩ = some (x1) ∧ w'.cell? ⟨w.heap.size + 1, 2, none⟩ = some (x2) ∧ w'.cell? ⟨w.heap.size + 1, 3, none⟩ = some (x3) ∧ w'.cell? ⟨w.heap.size + 1, 4, none⟩ = some (x4) ∧ w'.cell? ⟨w.heap.size + 1, 5, none⟩ = some (x5) ∧ w'.cell? ⟨w.heap.size + 1, 6, none⟩ = some (x6) ∧ w'.cell? ⟨w.heap.size + 1, 7, none⟩ = some (x7) ∧ w'.cell? ⟨w.heap.size + 1, 8, none⟩ = some (x8) ∧ w'.cell? ⟨w.heap.size + 1, 9, none⟩ = some (x9) ∧ w'.cell? ⟨w.heap.size + 1, 10, none⟩ = some (x10) ∧ w'.cell? ⟨w.heap.size + 1, 11, none⟩ = some (x11) ∧ w'.cell? ⟨w.heap.size + 1, 12, none⟩ = some (x12) := row13_cells k.bm
theorem PS.res (k : PS w w' A n cap P x0 x1 x2 x3 x4 x5 x6 x7 x8 x9 x10 x11 x12) : w'.cell? ⟨w.heap.size + 1 + 1, 0, none⟩ = some (.int .i64 0) ∧ w'.cell? ⟨w.heap.size + 1 + 1, 1, none⟩ = some (.int .i64 0) ∧ w'.cell? ⟨w.heap.size + 1 + 1, 2, none⟩ = some (.slice none 0 0) ∧ w'.cell? ⟨w.heap.size + 1 + 1, 3, none⟩ = some (.int .i64 0) ∧ w'.cell? ⟨w.heap.size + 1 + 1, 4, none⟩ = some (.int .i64 0) ∧ w'.cell? ⟨w.heap.size + 1 + 1, 5, none⟩ = some (.int .i64 0) ∧ w'.cell? ⟨w.heap.size + 1 + 1, 6, none⟩ = some (.int .i64 0) ∧ w'.cell? ⟨w.heap.size + 1 + 1, 7, none⟩ = some (.int .i64 0) ∧ w'.cell? ⟨w.heap.size + 1 + 1, 8, none⟩ = some (.slice none 0 0) ∧ w'.cell? ⟨w.heap.size + 1 + 1, 9, none⟩ = some (.int .u32 0) ∧ w'.cell? ⟨w.heap.size + 1 + 1, 10, none⟩ = some (.int .u64 0) ∧ w'.cell? ⟨w.heap.size + 1 + 1, 11, none⟩ = some (.int .u32 0) ∧ w'.cell? ⟨w.heap.size + 1 + 1, 12, none⟩ = some (.int .i64 0) := row13_cells k.br
theorem PS.upd (k : PS w w' A n cap P x0 x1 x2 x3 x4 x5 x6 x7 x8 x9 x10 x11 x12) (u : Upd (w.heap.size + 1) (w.heap.size + 1) w' w2) (h : w2.heap[w.heap.size + 1]? = some (.cells #[u0, u1, u2, u3, u4, u5, u6, u7, u8, u9, u10, u11, u12] 58 (0, 0))) : PS w w2 A n cap P u0 u1 u2 u3 u4 u5 u6 u7 u8 u9 u10 u11 u12 :=
  ⟨below_upd k.bel (Nat.le_refl _) u (by omega) (by omega), (u.block _ (Array.getElem?_eq_some_iff.1 k.ba).1 (by omega) (by omega)).trans k.ba, h, (u.block _ (Array.getElem?_eq_some_iff.1 k.br).1 (by omega) (by omega)).trans k.br⟩
theorem PS.set8 (k : PS w w' A n cap P x0 x1 x2 x3 x4 x5 x6 x7 x8 x9 x10 x11 x12) (y0 y1 y2 y3 y4 y5 y6 y7 : Value) : PS w (put8o w' (w.heap.size + 1) y0 y1 y2 y3 y4 y5 y6 y7) A n cap P x0 x1 x2 x3 x4 y0 y1 y2 y3 y4 y5 y6 y7 :=
  k.upd (put8o_upd w' (w.heap.size + 1) y0 y1 y2 y3 y4 y5 y6 y7) (put8o_same w' (w.heap.size + 1) 58 _ _ _ _ _ _ _ _ _ _ _ _ _ k.bm y0 y1 y2 y3 y4 y5 y6 y7)
theorem PS.set1 (k : PS w w' A n cap P x0 x1 x2 x3 x4 x5 x6 x7 x8 x9 x10 x11 x12) (v : Value) : PS w (w'.setCell ⟨w.heap.size + 1, 1, none⟩ v) A n cap P x0 v x2 x3 x4 x5 x6 x7 x8 x9 x10 x11 x12 :=
  k.upd ⟨rfl, rfl, rfl, by simp, fun k hk h1 _ => heap_setCell_other w' ⟨w.heap.size + 1, 1, none⟩ k v h1⟩ ((heap_setCell_same _ (w.heap.size + 1) 1 _ 58 v k.bm).trans (congrArg (fun c => some (Obj.cells c 58 (0, 0))) (show (#[x0, x1, x2, x3, x4, x5, x6, x7, x8, x9, x10, x11, x12] : Array Value).setIfInBounds 1 v = #[x0, v, x2, x3, x4, x5, x6, x7, x8, x9, x10, x11, x12] from rfl)))
theorem PS.set3 (k : PS w w' A n cap P x0 x1 x2 x3 x4 x5 x6 x7 x8 x9 x10 x11 x12) (v : Value) : PS w (w'.setCell ⟨w.heap.size + 1, 3, none⟩ v) A n cap P x0 x1 x2 v x4 x5 x6 x7 x8 x9 x10 x11 x12 :=
  k.upd ⟨rfl, rfl, rfl, by simp, fun k hk h1 _ => heap_setCell_other w' ⟨w.heap.size + 1, 3, none⟩ k v h1⟩ ((heap_setCell_same _ (w.heap.size + 1) 3 _ 58 v k.bm).trans (congrArg (fun c => some (Obj.cells c 58 (0, 0))) (show (#[x0, x1, x2, x3, x4, x5, x6, x7, x8, x9, x10, x11, x12] : Array Value).setIfInBounds 3 v = #[x0, x1, x2, v, x4, x5, x6, x7, x8, x9, x10, x11, x12] from rfl)))
theorem PS.set4 (k : PS w w' A n cap P x0 x1 x2 x3 x4 x5 x6 x7 x8 x9 x10 x11 x12) (v : Value) : PS w (w'.setCell ⟨w.heap.size + 1, 4, none⟩ v) A n cap P x0 x1 x2 x3 v x5 x6 x7 x8 x9 x10 x11 x12 :=
  k.upd ⟨rfl, rfl, rfl, by simp, fun k hk h1 _ => heap_setCell_other w' ⟨w.heap.size + 1, 4, none⟩ k v h1⟩ ((heap_setCell_same _ (w.heap.size + 1) 4 _ 58 v k.bm).trans (congrArg (fun c => some (Obj.cells c 58 (0, 0))) (show (#[x0, x1, x2, x3, x4, x5, x6, x7, x8, x9, x10, x11, x12] : Array Value).setIfInBounds 4 v = #[x0, x1, x2, x3, v, x5, x6, x7, x8, x9, x10, x11, x12] from rfl)))
theorem PS.putr (k : PS w w' A n cap P x0 x1 x2 x3 x4 x5 x6 x7 x8 x9 x10 x11 x12) : (put13 w' (w.heap.size + 1 + 1) u0 u1 u2 u3 u4 u5 u6 u7 u8 u9 u10 u11 u12).cell? ⟨w.heap.size + 1 + 1, 0, none⟩ = some (u0) ∧ (put13 w' (w.heap.size + 1 + 1) u0 u1 u2 u3 u4 u5 u6 u7 u8 u9 u10 u11 u12).cell? ⟨w.heap.size + 1 + 1, 1, none⟩ = some (u1) ∧ (put13 w' (w.heap.size + 1 + 1) u0 u1 u2 u3 u4 u5 u6 u7 u8 u9 u10 u11 u12).cell? ⟨w.heap.size + 1 + 1, 2, none⟩ = some (u2) ∧ (put13 w' (w.heap.size + 1 + 1) u0 u1 u2 u3 u4 u5 u6 u7 u8 u9 u10 u11 u12).cell? ⟨w.heap.size + 1 + 1, 3, none⟩ = some (u3) ∧ (put13 w' (w.heap.size + 1 + 1) u0 u1 u2 u3 u4 u5 u6 u7 u8 u9 u10 u11 u12).cell? ⟨w.heap.size + 1 + 1, 4, none⟩ = some (u4) ∧ (put13 w' (w.heap.size + 1 + 1) u0 u1 u2 u3 u4 u5 u6 u7 u8 u9 u10 u11 u12).cell? ⟨w.heap.size + 1 + 1, 5, none⟩ = some (u5) ∧ (put13 w' (w.heap.size + 1 + 1) u0 u1 u2 u3 u4 u5 u6 u7 u8 u9 u10 u11 u12).cell? ⟨w.heap.size + 1 + 1, 6, none⟩ = some (u6) ∧ (put13 w' (w.heap.size + 1 + 1) u0 u1 u2 u3 u4 u5 u6 u7 u8 u9 u10 u11 u12).cell? ⟨w.heap.size + 1 + 1, 7, none⟩ = some (u7) ∧ (put13 w' (w.heap.size + 1 + 1) u0 u1 u2 u3 u4 u5 u6 u7 u8 u9 u10 u11 u12).cell? ⟨w.heap.size + 1 + 1, 8, none⟩ = some (u8) ∧ (put13 w' (w.heap.size + 1 + 1) u0 u1 u2 u3 u4 u5 u6 u7 u8 u9 u10 u11 u12).cell? ⟨w.heap.size + 1 + 1, 9, none⟩ = some (u9) ∧ (put13 w' (w.heap.size + 1 + 1) u0 u1 u2 u3 u4 u5 u6 u7 u8 u9 u10 u11 u12).cell? ⟨w.heap.size + 1 + 1, 10, none⟩ = some (u10) ∧ (put13 w' (w.heap.size + 1 + 1) u0 u1 u2 u3 u4 u5 u6 u7 u8 u9 u10 u11 u12).cell? ⟨w.heap.size + 1 + 1, 11, none⟩ = some (u11) ∧ (put13 w' (w.heap.size + 1 + 1) u0 u1 u2 u3 u4 u5 u6 u7 u8 u9 u10 u11 u12).cell? ⟨w.heap.size + 1 + 1, 12, none⟩ = some (u12) :=
  row13_cells (put13_same w' (w.heap.size + 1 + 1) 58 _ _ _ _ _ _ _ _ _ _ _ _ _ k.br u0 u1 u2 u3 u4 u5 u6 u7 u8 u9 u10 u11 u12)
theorem PS.putb (k : PS w w' A n cap P x0 x1 x2 x3 x4 x5 x6 x7 x8 x9 x10 x11 x12) : Below w.heap.size w (put13 w' (w.heap.size + 1 + 1) u0 u1 u2 u3 u4 u5 u6 u7 u8 u9 u10 u11 u12) := below_upd k.bel (Nat.le_refl _) (put13_upd w' (w.heap.size + 1 + 1) u0 u1 u2 u3 u4 u5 u6 u7 u8 u9 u10 u11 u12) (by omega) (by omega)
theorem PS.new (w : World) (A : Option Addr) (n cap : Nat) (P : Int) (x0 x1 x2 x3 x4 x5 x6 x7 x8 x9 x10 x11 x12 : Value) : PS w (((w.alloc (.cells #[.slice A n cap, .int .i64 P] 36)).alloc (.cells #[x0, x1, x2, x3, x4, x5, x6, x7, x8, x9, x10, x11, x12] 58)).alloc (.cells #[.int .i64 0, .int .i64 0, .slice none 0 0, .int .i64 0, .int .i64 0, .int .i64 0, .int .i64 0, .int .i64 0, .slice none 0 0, .int .u32 0, .int .u64 0, .int .u32 0, .int .i64 0] 58)) A n cap P x0 x1 x2 x3 x4 x5 x6 x7 x8 x9 x10 x11 x12 := by
  obtain ⟨W, hW⟩ : ∃ W, W = w.alloc (.cells #[.slice A n cap, .int .i64 P] 36) := ⟨_, rfl⟩
  have e1 : W.heap.size = w.heap.size + 1 := by rw [hW]; simp
  have h0 : W.heap[w.heap.size]? = some (.cells #[.slice A n cap, .int .i64 P] 36 (0, 0)) := by
    rw [hW]; exact Go.heap_alloc_new _ _
  have hb0 : Below w.heap.size w W := by rw [hW]; exact below_alloc0 (Below.refl _ _) _
  rw [← hW]
  obtain ⟨V, hV⟩ : ∃ V, V = W.alloc (.cells #[x0, x1, x2, x3, x4, x5, x6, x7, x8, x9, x10, x11, x12] 58) := ⟨_, rfl⟩
  have e2 : V.heap.size = w.heap.size + 2 := by rw [hV]; simp [e1]
  have h1 : V.heap[w.heap.size + 1]? = some (.cells #[x0, x1, x2, x3, x4, x5, x6, x7, x8, x9, x10, x11, x12] 58 (0, 0)) := by
    rw [hV, ← e1]; exact Go.heap_alloc_new _ _
  have hb1 : Below W.heap.size W V := by rw [hV]; exact below_alloc0 (Below.refl _ _) _
  rw [← hV]
  have h2 : (V.alloc (.cells #[.int .i64 0, .int .i64 0, .slice none 0 0, .int .i64 0, .int .i64 0, .int .i64 0, .int .i64 0, .int .i64 0, .slice none 0 0, .int .u32 0, .int .u64 0, .int .u32 0, .int .i64 0] 58)).heap[w.heap.size + 1 + 1]? = some (.cells #[.int .i64 0, .int .i64 0, .slice none 0 0, .int .i64 0, .int .i64 0, .int .i64 0, .int .i64 0, .int .i64 0, .slice none 0 0, .int .u32 0, .int .u64 0, .int .u32 0, .int .i64 0] 58 (0, 0)) := by
    rw [show w.heap.size + 1 + 1 = V.heap.size from e2.symm]; exact Go.heap_alloc_new _ _
  have hb2 : Below V.heap.size V (V.alloc (.cells #[.int .i64 0, .int .i64 0, .slice none 0 0, .int .i64 0, .int .i64 0, .int .i64 0, .int .i64 0, .int .i64 0, .slice none 0 0, .int .u32 0, .int .u64 0, .int .u32 0, .int .i64 0] 58)) := below_alloc0 (Below.refl _ _) _
  exact ⟨below_step (below_step hb0 hb0.size hb1) (by rw [e2]; omega) hb2, (hb2.block _ (by rw [e2]; omega)).trans ((hb1.block _ (by rw [e1]; omega)).trans h0), (hb2.block _ (by rw [e2]; omega)).trans h1, h2⟩
end
theorem ReadsW.two {Q : Nat → Prop} {w w' : World} {R : Option Addr} {L : List Int} {b : Nat} (h : ReadsW (fun k => Q k ∧ k ≠ b + 1 ∧ k ≠ b + 1 + 1) w R L) {j : Nat} (hj : j = b + 1 ∨ j = b + 1 + 1) (u : Upd j j w w') : ReadsW (fun k => Q k ∧ k ≠ b + 1 ∧ k ≠ b + 1 + 1) w' R L :=
  h.upd u fun k hk _ => ⟨by have h1 := hk.2.1; have h2 := hk.2.2; omega, by have h1 := hk.2.1; have h2 := hk.2.2; omega, hk⟩
def SomePs (Q : Nat → Prop) (w : World) (n' : Nat) (L : List Int) (m : Pm) (e : Ending) (w' : World) : Prop :=
  ∃ R cap v, e = .returned (.tuple #[.slice R n' cap, v]) ∧ ReadsW Q w' R L ∧ RPm Q w' m v ∧ Below w.heap.size w w'
theorem rstep_as {t : Int} {L L' : List Int} {x y : Sm} (hy : sstp L x = (L', y)) (Q : Nat → Prop) (R : Option Addr) (n' capR : Nat) (A : Option Addr) (n cap : Nat) (w : World) (hn : n' = L.length) (hn2 : n' ≤ 1000000) (hR : ReadsW Q w R L) (hP : ∀ b, w.heap.size ≤ b → Q b)
    (hz : n = x.k.links.length) (hK : Reads .i64 w A x.k.links) (hl : n ≤ 1000000) (wm : Wm t x) (ww : WW L) (ht : t ≤ 1000000000) :
    Calls Tryz.prog 113 #[.slice R n' capR, mV x.kind x.pc x.k.head A n cap x.item x.h x.link x.tries] w (SomeStep Q w n' L' (mV y.kind y.pc y.k.head A n cap y.item y.h y.link y.tries)) := by
  have h := rstep_any Q R n' capR L x A n cap w hn hn2 hR hP hz hK hl wm ww ht
  rw [hy] at h; exact h
theorem upd_set1 (w : World) (B i : Nat) (v : Value) : Upd B B w (w.setCell ⟨B, i, none⟩ v) := ⟨rfl, rfl, rfl, by simp, fun k hk h1 _ => heap_setCell_other w ⟨B, i, none⟩ k v h1⟩
set_option maxHeartbeats 8000000 in
theorem rps_on1 {c : Cfg} (hc : OkC c) {t : Int} (Q : Nat → Prop) (A : Option Addr) (n cap : Nat) (R : Option Addr) (n' capR : Nat) (L L' : List Int) (kd : Nat) (ts : List Int) (j p : Int) (x y : Sm) (T : Option Addr) (tn tc : Nat) (LA : Option Addr) (ln lc : Nat) (w : World)
    (hA : IsA w c A n) (hn : n' = L.length) (hn2 : n' ≤ 1000000) (hR : ReadsW Q w R L) (hQ : ∀ b, w.heap.size ≤ b → Q b) (ht1 : tn = ts.length) (ht2 : Reads .u64 w T ts) (hz : ln = x.k.links.length) (hK : Reads .i64 w LA x.k.links) (hl : ln ≤ 1000000) (wm : Wm t x) (ww : WW L) (ht : t ≤ 1000000000)
    (hy : sstp L x = (L', y)) (hk : y.k = x.k) (yi : 0 ≤ y.item ∧ y.item ≤ 4294967295) (hp : y.pc ≠ 0) (hTQ : 0 < ts.length → ∀ a, T = some a → Q a.block) (hLQ : 0 < x.k.links.length → ∀ a, LA = some a → Q a.block) :
    Calls Tryz.prog 89 #[aVal A n cap (packN c), .slice R n' capR, pmV kd 1 T tn tc j p x.kind x.pc x.k.head LA ln lc x.item x.h x.link x.tries] w (SomePs Q w n' L' ⟨kd, 1, ts, j, p, y⟩) := by
  have HTQ := Lib.hid hTQ; have HLQ := Lib.hid hLQ
  clear hTQ hLQ
  have HPS := Lib.hid (PS.new w A n cap (packN c) (.int .i64 kd) (.int .i64 1) (.slice T tn tc) (.int .i64 j) (.int .i64 p) (.int .i64 x.kind) (.int .i64 x.pc) (.int .i64 x.k.head) (.slice LA ln lc) (.int .u32 x.item) (.int .u64 x.h) (.int .u32 x.link) (.int .i64 x.tries))
  have hlt0 := HPS.out.lt
  have HA := Lib.hid hA; have HN := Lib.hid hn; have HZ := Lib.hid hz; have HY := Lib.hid hy; have WM := Lib.hid wm; have HW := Lib.hid ww; have HT1 := Lib.hid ht1; have HT2 := Lib.hid ht2; have HK0 := Lib.hid hK; have HKK := Lib.hid hk
  have HQ := Lib.hid hQ
  have HR0 : Hid (ReadsW (fun b => Q b ∧ b ≠ w.heap.size + 1 ∧ b ≠ w.heap.size + 1 + 1) w R L) := Lib.hid (fun h0 => by
    obtain ⟨b, off, e, hb, hp, hc⟩ := hR h0
    exact ⟨b, off, e, hb, ⟨hp, by omega, by omega⟩, hc⟩)
  obtain ⟨yi0, yi1⟩ := yi
  have d1 : ((y.pc : Int) == 0) = false := by simpa using hp
  clear hA hn hz hy wm ww ht1 ht2 hK hR hQ hk hp
  go_enter Tryz.func89, Tryz.ntmps89
  go_wp2_with (first
    | (go_at_call 113; (with_reducible refine (rstep_as HY.out (fun b => Q b ∧ b ≠ w.heap.size + 1 ∧ b ≠ w.heap.size + 1 + 1) R n' capR LA ln lc _ HN.out hn2 (HR0.out.below HPS.out.bel) (fun b hb => ⟨HQ.out b (by omega), by omega, by omega⟩) HZ.out (HK0.out.below HPS.out.bel (Nat.le_refl _)) hl WM.out HW.out ht).mono ?_); rintro r w3 ⟨R2, cap2, rfl, hr, hb⟩; have HP3 := Lib.hid (HPS.out.step hb); have HR3 := Lib.hid hr; clear hb hr; have HP4 := Lib.hid (HP3.out.step (below_alloc0 (Below.refl _ _) (.cells #[.int .i64 y.kind, .int .i64 y.pc, .int .i64 y.k.head, .slice LA ln lc, .int .u32 y.item, .int .u64 y.h, .int .u32 y.link, .int .i64 y.tries] 56))); obtain ⟨z0, z1, z2, z3, z4, z5, z6, z7, z8, z9, z10, z11, z12⟩ := HP4.out.mc; have hfm := HP4.out.frm; have hfr := HP4.out.frr; have hlt := HP3.out.lt)
    | fail)
  have hk : PS w (((((((((w3.alloc (.cells #[.int .i64 y.kind, .int .i64 y.pc, .int .i64 y.k.head, .slice LA ln lc, .int .u32 y.item, .int .u64 y.h, .int .u32 y.link, .int .i64 y.tries] 56)).setCell ⟨w.heap.size + 1, 5, none⟩ (.int .i64 y.kind)).setCell ⟨w.heap.size + 1, 6, none⟩ (.int .i64 y.pc)).setCell ⟨w.heap.size + 1, 7, none⟩ (.int .i64 y.k.head)).setCell ⟨w.heap.size + 1, 8, none⟩ (.slice LA ln lc)).setCell ⟨w.heap.size + 1, 9, none⟩ (.int .u32 y.item)).setCell ⟨w.heap.size + 1, 10, none⟩ (.int .u64 y.h)).setCell ⟨w.heap.size + 1, 11, none⟩ (.int .u32 y.link)).setCell ⟨w.heap.size + 1, 12, none⟩ (.int .i64 y.tries)) A n cap (packN c) (.int .i64 kd) (.int .i64 1) (.slice T tn tc) (.int .i64 j) (.int .i64 p) (.int .i64 y.kind) (.int .i64 y.pc) (.int .i64 y.k.head) (.slice LA ln lc) (.int .u32 y.item) (.int .u64 y.h) (.int .u32 y.link) (.int .i64 y.tries) := (HP4.out.set8 (.int .i64 y.kind) (.int .i64 y.pc) (.int .i64 y.k.head) (.slice LA ln lc) (.int .u32 y.item) (.int .u64 y.h) (.int .u32 y.link) (.int .i64 y.tries))
  have hr4 : ReadsW (fun b => Q b ∧ b ≠ w.heap.size + 1 ∧ b ≠ w.heap.size + 1 + 1) (((((((((w3.alloc (.cells #[.int .i64 y.kind, .int .i64 y.pc, .int .i64 y.k.head, .slice LA ln lc, .int .u32 y.item, .int .u64 y.h, .int .u32 y.link, .int .i64 y.tries] 56)).setCell ⟨w.heap.size + 1, 5, none⟩ (.int .i64 y.kind)).setCell ⟨w.heap.size + 1, 6, none⟩ (.int .i64 y.pc)).setCell ⟨w.heap.size + 1, 7, none⟩ (.int .i64 y.k.head)).setCell ⟨w.heap.size + 1, 8, none⟩ (.slice LA ln lc)).setCell ⟨w.heap.size + 1, 9, none⟩ (.int .u32 y.item)).setCell ⟨w.heap.size + 1, 10, none⟩ (.int .u64 y.h)).setCell ⟨w.heap.size + 1, 11, none⟩ (.int .u32 y.link)).setCell ⟨w.heap.size + 1, 12, none⟩ (.int .i64 y.tries)) R2 L' := ((HR3.out.below (below_alloc0 (Below.refl _ _) (.cells #[.int .i64 y.kind, .int .i64 y.pc, .int .i64 y.k.head, .slice LA ln lc, .int .u32 y.item, .int .u64 y.h, .int .u32 y.link, .int .i64 y.tries] 56))).two (.inl rfl) (put8o_upd _ _ (.int .i64 y.kind) (.int .i64 y.pc) (.int .i64 y.k.head) (.slice LA ln lc) (.int .u32 y.item) (.int .u64 y.h) (.int .u32 y.link) (.int .i64 y.tries)))
  obtain ⟨W2, hW2⟩ : ∃ W2, W2 = (((((((((w3.alloc (.cells #[.int .i64 y.kind, .int .i64 y.pc, .int .i64 y.k.head, .slice LA ln lc, .int .u32 y.item, .int .u64 y.h, .int .u32 y.link, .int .i64 y.tries] 56)).setCell ⟨w.heap.size + 1, 5, none⟩ (.int .i64 y.kind)).setCell ⟨w.heap.size + 1, 6, none⟩ (.int .i64 y.pc)).setCell ⟨w.heap.size + 1, 7, none⟩ (.int .i64 y.k.head)).setCell ⟨w.heap.size + 1, 8, none⟩ (.slice LA ln lc)).setCell ⟨w.heap.size + 1, 9, none⟩ (.int .u32 y.item)).setCell ⟨w.heap.size + 1, 10, none⟩ (.int .u64 y.h)).setCell ⟨w.heap.size + 1, 11, none⟩ (.int .u32 y.link)).setCell ⟨w.heap.size + 1, 12, none⟩ (.int .i64 y.tries)) := ⟨_, rfl⟩
  rw [← hW2] at hk hr4 ⊢
  clear hW2 z0 z1 z2 z3 z4 z5 z6 z7 z8 z9 z10 z11 z12 hfm hfr HP4
  obtain ⟨z0, z1, z2, z3, z4, z5, z6, z7, z8, z9, z10, z11, z12⟩ := hk.mc
  obtain ⟨r0, r1, r2, r3, r4, r5, r6, r7, r8, r9, r10, r11, r12⟩ := hk.res
  have hfr := hk.frr
  have HK4 := Lib.hid hk; have HR4 := Lib.hid hr4
  clear hk hr4
  go_region
  go_wp2
  obtain ⟨e0, e1, e2, e3, e4, e5, e6, e7, e8, e9, e10, e11, e12⟩ := HK4.out.putr (u0 := .int .i64 kd) (u1 := .int .i64 1) (u2 := .slice T tn tc) (u3 := .int .i64 j) (u4 := .int .i64 p) (u5 := .int .i64 y.kind) (u6 := .int .i64 y.pc) (u7 := .int .i64 y.k.head) (u8 := .slice LA ln lc) (u9 := .int .u32 y.item) (u10 := .int .u64 y.h) (u11 := .int .u32 y.link) (u12 := .int .i64 y.tries)
  exact bodyPost_ret (v := .tuple #[.slice R2 n' cap2, .agg #[.int .i64 kd, .int .i64 1, .slice T tn tc, .int .i64 j, .int .i64 p, .int .i64 y.kind, .int .i64 y.pc, .int .i64 y.k.head, .slice LA ln lc, .int .u32 y.item, .int .u64 y.h, .int .u32 y.link, .int .i64 y.tries]]) (by simp [results, Tryz.results89, go_sem, e0, e1, e2, e3, e4, e5, e6, e7, e8, e9, e10, e11, e12]) rfl ⟨R2, cap2, _, rfl, (HR4.out.upd (put13_upd ..) fun b hb _ => ⟨hb.2.2, hb.2.2, hb.1⟩).below (Below.refl _ _).drew, ⟨T, tn, tc, LA, ln, lc, rfl, HT1.out, HT2.out.below HK4.out.putb.drew (Nat.le_refl _), by show ln = y.k.links.length; rw [HKK.out]; exact HZ.out, by show Reads _ _ _ y.k.links; rw [HKK.out]; exact HK0.out.below HK4.out.putb.drew (Nat.le_refl _), HTQ.out, by show 0 < y.k.links.length → _; rw [HKK.out]; exact HLQ.out⟩, HK4.out.putb.drew⟩
set_option maxHeartbeats 8000000 in
theorem rps_end1 {c : Cfg} (hc : OkC c) {t : Int} (Q : Nat → Prop) (A : Option Addr) (n cap : Nat) (R : Option Addr) (n' capR : Nat) (L L' : List Int) (kd : Nat) (ts : List Int) (j p : Int) (x y : Sm) (T : Option Addr) (tn tc : Nat) (LA : Option Addr) (ln lc : Nat) (w : World)
    (hA : IsA w c A n) (hn : n' = L.length) (hn2 : n' ≤ 1000000) (hR : ReadsW Q w R L) (hQ : ∀ b, w.heap.size ≤ b → Q b) (ht1 : tn = ts.length) (ht2 : Reads .u64 w T ts) (hz : ln = x.k.links.length) (hK : Reads .i64 w LA x.k.links) (hl : ln ≤ 1000000) (wm : Wm t x) (ww : WW L) (ht : t ≤ 1000000000)
    (hy : sstp L x = (L', y)) (hk : y.k = x.k) (yi : 0 ≤ y.item ∧ y.item ≤ 4294967295) (hp : y.pc = 0) (hi : y.item ≠ 0) (hTQ : 0 < ts.length → ∀ a, T = some a → Q a.block) (hLQ : 0 < x.k.links.length → ∀ a, LA = some a → Q a.block) :
    Calls Tryz.prog 89 #[aVal A n cap (packN c), .slice R n' capR, pmV kd 1 T tn tc j p x.kind x.pc x.k.head LA ln lc x.item x.h x.link x.tries] w (SomePs Q w n' L' ⟨kd, 2, ts, j, y.item, y⟩) := by
  have HTQ := Lib.hid hTQ; have HLQ := Lib.hid hLQ
  clear hTQ hLQ
  have HPS := Lib.hid (PS.new w A n cap (packN c) (.int .i64 kd) (.int .i64 1) (.slice T tn tc) (.int .i64 j) (.int .i64 p) (.int .i64 x.kind) (.int .i64 x.pc) (.int .i64 x.k.head) (.slice LA ln lc) (.int .u32 x.item) (.int .u64 x.h) (.int .u32 x.link) (.int .i64 x.tries))
  have hlt0 := HPS.out.lt
  have HA := Lib.hid hA; have HN := Lib.hid hn; have HZ := Lib.hid hz; have HY := Lib.hid hy; have WM := Lib.hid wm; have HW := Lib.hid ww; have HT1 := Lib.hid ht1; have HT2 := Lib.hid ht2; have HK0 := Lib.hid hK; have HKK := Lib.hid hk
  have HQ := Lib.hid hQ
  have HR0 : Hid (ReadsW (fun b => Q b ∧ b ≠ w.heap.size + 1 ∧ b ≠ w.heap.size + 1 + 1) w R L) := Lib.hid (fun h0 => by
    obtain ⟨b, off, e, hb, hp, hc⟩ := hR h0
    exact ⟨b, off, e, hb, ⟨hp, by omega, by omega⟩, hc⟩)
  obtain ⟨yi0, yi1⟩ := yi
  have HP0 : Hid ((y.pc : Int) = 0) := Lib.hid (by omega)
  have d2 : ((y.item : Int) == 0) = false := by simpa using hi
  have e2 : IntKind.i64.wrap y.item = y.item := by rw [IntKind.wrap_i64]; omega
  clear hA hn hz hy wm ww ht1 ht2 hK hR hQ hk hp
  go_enter Tryz.func89, Tryz.ntmps89
  go_wp2_with (first
    | (go_at_call 113; (with_reducible refine (rstep_as HY.out (fun b => Q b ∧ b ≠ w.heap.size + 1 ∧ b ≠ w.heap.size + 1 + 1) R n' capR LA ln lc _ HN.out hn2 (HR0.out.below HPS.out.bel) (fun b hb => ⟨HQ.out b (by omega), by omega, by omega⟩) HZ.out (HK0.out.below HPS.out.bel (Nat.le_refl _)) hl WM.out HW.out ht).mono ?_); rintro r w3 ⟨R2, cap2, rfl, hr, hb⟩; have HP3 := Lib.hid (HPS.out.step hb); have HR3 := Lib.hid hr; clear hb hr; rw [HP0.out]; have HP4 := Lib.hid (HP3.out.step (below_alloc0 (Below.refl _ _) (.cells #[.int .i64 y.kind, .int .i64 0, .int .i64 y.k.head, .slice LA ln lc, .int .u32 y.item, .int .u64 y.h, .int .u32 y.link, .int .i64 y.tries] 56))); obtain ⟨z0, z1, z2, z3, z4, z5, z6, z7, z8, z9, z10, z11, z12⟩ := HP4.out.mc; have hfm := HP4.out.frm; have hfr := HP4.out.frr; have hlt := HP3.out.lt)
    | fail)
  have hk : PS w (((((((((((w3.alloc (.cells #[.int .i64 y.kind, .int .i64 0, .int .i64 y.k.head, .slice LA ln lc, .int .u32 y.item, .int .u64 y.h, .int .u32 y.link, .int .i64 y.tries] 56)).setCell ⟨w.heap.size + 1, 5, none⟩ (.int .i64 y.kind)).setCell ⟨w.heap.size + 1, 6, none⟩ (.int .i64 0)).setCell ⟨w.heap.size + 1, 7, none⟩ (.int .i64 y.k.head)).setCell ⟨w.heap.size + 1, 8, none⟩ (.slice LA ln lc)).setCell ⟨w.heap.size + 1, 9, none⟩ (.int .u32 y.item)).setCell ⟨w.heap.size + 1, 10, none⟩ (.int .u64 y.h)).setCell ⟨w.heap.size + 1, 11, none⟩ (.int .u32 y.link)).setCell ⟨w.heap.size + 1, 12, none⟩ (.int .i64 y.tries)).setCell ⟨w.heap.size + 1, 4, none⟩ (.int .i64 y.item)).setCell ⟨w.heap.size + 1, 1, none⟩ (.int .i64 2)) A n cap (packN c) (.int .i64 kd) (.int .i64 2) (.slice T tn tc) (.int .i64 j) (.int .i64 y.item) (.int .i64 y.kind) (.int .i64 0) (.int .i64 y.k.head) (.slice LA ln lc) (.int .u32 y.item) (.int .u64 y.h) (.int .u32 y.link) (.int .i64 y.tries) := (((HP4.out.set8 (.int .i64 y.kind) (.int .i64 0) (.int .i64 y.k.head) (.slice LA ln lc) (.int .u32 y.item) (.int .u64 y.h) (.int .u32 y.link) (.int .i64 y.tries)).set4 (.int .i64 y.item)).set1 (.int .i64 2))
  have hr4 : ReadsW (fun b => Q b ∧ b ≠ w.heap.size + 1 ∧ b ≠ w.heap.size + 1 + 1) (((((((((((w3.alloc (.cells #[.int .i64 y.kind, .int .i64 0, .int .i64 y.k.head, .slice LA ln lc, .int .u32 y.item, .int .u64 y.h, .int .u32 y.link, .int .i64 y.tries] 56)).setCell ⟨w.heap.size + 1, 5, none⟩ (.int .i64 y.kind)).setCell ⟨w.heap.size + 1, 6, none⟩ (.int .i64 0)).setCell ⟨w.heap.size + 1, 7, none⟩ (.int .i64 y.k.head)).setCell ⟨w.heap.size + 1, 8, none⟩ (.slice LA ln lc)).setCell ⟨w.heap.size + 1, 9, none⟩ (.int .u32 y.item)).setCell ⟨w.heap.size + 1, 10, none⟩ (.int .u64 y.h)).setCell ⟨w.heap.size + 1, 11, none⟩ (.int .u32 y.link)).setCell ⟨w.heap.size + 1, 12, none⟩ (.int .i64 y.tries)).setCell ⟨w.heap.size + 1, 4, none⟩ (.int .i64 y.item)).setCell ⟨w.heap.size + 1, 1, none⟩ (.int .i64 2)) R2 L' := ((((HR3.out.below (below_alloc0 (Below.refl _ _) (.cells #[.int .i64 y.kind, .int .i64 0, .int .i64 y.k.head, .slice LA ln lc, .int .u32 y.item, .int .u64 y.h, .int .u32 y.link, .int .i64 y.tries] 56))).two (.inl rfl) (put8o_upd _ _ (.int .i64 y.kind) (.int .i64 0) (.int .i64 y.k.head) (.slice LA ln lc) (.int .u32 y.item) (.int .u64 y.h) (.int .u32 y.link) (.int .i64 y.tries))).two (.inl rfl) (upd_set1 _ (w.heap.size + 1) 4 _)).two (.inl rfl) (upd_set1 _ (w.heap.size + 1) 1 _))
  obtain ⟨W2, hW2⟩ : ∃ W2, W2 = (((((((((((w3.alloc (.cells #[.int .i64 y.kind, .int .i64 0, .int .i64 y.k.head, .slice LA ln lc, .int .u32 y.item, .int .u64 y.h, .int .u32 y.link, .int .i64 y.tries] 56)).setCell ⟨w.heap.size + 1, 5, none⟩ (.int .i64 y.kind)).setCell ⟨w.heap.size + 1, 6, none⟩ (.int .i64 0)).setCell ⟨w.heap.size + 1, 7, none⟩ (.int .i64 y.k.head)).setCell ⟨w.heap.size + 1, 8, none⟩ (.slice LA ln lc)).setCell ⟨w.heap.size + 1, 9, none⟩ (.int .u32 y.item)).setCell ⟨w.heap.size + 1, 10, none⟩ (.int .u64 y.h)).setCell ⟨w.heap.size + 1, 11, none⟩ (.int .u32 y.link)).setCell ⟨w.heap.size + 1, 12, none⟩ (.int .i64 y.tries)).setCell ⟨w.heap.size + 1, 4, none⟩ (.int .i64 y.item)).setCell ⟨w.heap.size + 1, 1, none⟩ (.int .i64 2)) := ⟨_, rfl⟩
  rw [← hW2] at hk hr4 ⊢
  clear hW2 z0 z1 z2 z3 z4 z5 z6 z7 z8 z9 z10 z11 z12 hfm hfr HP4
  obtain ⟨z0, z1, z2, z3, z4, z5, z6, z7, z8, z9, z10, z11, z12⟩ := hk.mc
  obtain ⟨r0, r1, r2, r3, r4, r5, r6, r7, r8, r9, r10, r11, r12⟩ := hk.res
  have hfr := hk.frr
  have HK4 := Lib.hid hk; have HR4 := Lib.hid hr4
  clear hk hr4
  go_region
  go_wp2
  obtain ⟨e0, e1, e2, e3, e4, e5, e6, e7, e8, e9, e10, e11, e12⟩ := HK4.out.putr (u0 := .int .i64 kd) (u1 := .int .i64 2) (u2 := .slice T tn tc) (u3 := .int .i64 j) (u4 := .int .i64 y.item) (u5 := .int .i64 y.kind) (u6 := .int .i64 0) (u7 := .int .i64 y.k.head) (u8 := .slice LA ln lc) (u9 := .int .u32 y.item) (u10 := .int .u64 y.h) (u11 := .int .u32 y.link) (u12 := .int .i64 y.tries)
  exact bodyPost_ret (v := .tuple #[.slice R2 n' cap2, .agg #[.int .i64 kd, .int .i64 2, .slice T tn tc, .int .i64 j, .int .i64 y.item, .int .i64 y.kind, .int .i64 0, .int .i64 y.k.head, .slice LA ln lc, .int .u32 y.item, .int .u64 y.h, .int .u32 y.link, .int .i64 y.tries]]) (by simp [results, Tryz.results89, go_sem, e0, e1, e2, e3, e4, e5, e6, e7, e8, e9, e10, e11, e12]) rfl ⟨R2, cap2, _, rfl, (HR4.out.upd (put13_upd ..) fun b hb _ => ⟨hb.2.2, hb.2.2, hb.1⟩).below (Below.refl _ _).drew, ⟨T, tn, tc, LA, ln, lc, by simp [pmVm, HP0.out], HT1.out, HT2.out.below HK4.out.putb.drew (Nat.le_refl _), by show ln = y.k.links.length; rw [HKK.out]; exact HZ.out, by show Reads _ _ _ y.k.links; rw [HKK.out]; exact HK0.out.below HK4.out.putb.drew (Nat.le_refl _), HTQ.out, by show 0 < y.k.links.length → _; rw [HKK.out]; exact HLQ.out⟩, HK4.out.putb.drew⟩
set_option maxHeartbeats 8000000 in
theorem rps_on4 {c : Cfg} (hc : OkC c) {t : Int} (Q : Nat → Prop) (A : Option Addr) (n cap : Nat) (R : Option Addr) (n' capR : Nat) (L L' : List Int) (kd : Nat) (ts : List Int) (j p : Int) (x y : Sm) (T : Option Addr) (tn tc : Nat) (LA : Option Addr) (ln lc : Nat) (w : World)
    (hA : IsA w c A n) (hn : n' = L.length) (hn2 : n' ≤ 1000000) (hR : ReadsW Q w R L) (hQ : ∀ b, w.heap.size ≤ b → Q b) (ht1 : tn = ts.length) (ht2 : Reads .u64 w T ts) (hz : ln = x.k.links.length) (hK : Reads .i64 w LA x.k.links) (hl : ln ≤ 1000000) (wm : Wm t x) (ww : WW L) (ht : t ≤ 1000000000)
    (hy : sstp L x = (L', y)) (hk : y.k = x.k) (yi : 0 ≤ y.item ∧ y.item ≤ 4294967295) (hp : y.pc ≠ 0) (hTQ : 0 < ts.length → ∀ a, T = some a → Q a.block) (hLQ : 0 < x.k.links.length → ∀ a, LA = some a → Q a.block) :
    Calls Tryz.prog 89 #[aVal A n cap (packN c), .slice R n' capR, pmV kd 4 T tn tc j p x.kind x.pc x.k.head LA ln lc x.item x.h x.link x.tries] w (SomePs Q w n' L' ⟨kd, 4, ts, j, p, y⟩) := by
  have HTQ := Lib.hid hTQ; have HLQ := Lib.hid hLQ
  clear hTQ hLQ
  have HPS := Lib.hid (PS.new w A n cap (packN c) (.int .i64 kd) (.int .i64 4) (.slice T tn tc) (.int .i64 j) (.int .i64 p) (.int .i64 x.kind) (.int .i64 x.pc) (.int .i64 x.k.head) (.slice LA ln lc) (.int .u32 x.item) (.int .u64 x.h) (.int .u32 x.link) (.int .i64 x.tries))
  have hlt0 := HPS.out.lt
  have HA := Lib.hid hA; have HN := Lib.hid hn; have HZ := Lib.hid hz; have HY := Lib.hid hy; have WM := Lib.hid wm; have HW := Lib.hid ww; have HT1 := Lib.hid ht1; have HT2 := Lib.hid ht2; have HK0 := Lib.hid hK; have HKK := Lib.hid hk
  have HQ := Lib.hid hQ
  have HR0 : Hid (ReadsW (fun b => Q b ∧ b ≠ w.heap.size + 1 ∧ b ≠ w.heap.size + 1 + 1) w R L) := Lib.hid (fun h0 => by
    obtain ⟨b, off, e, hb, hp, hc⟩ := hR h0
    exact ⟨b, off, e, hb, ⟨hp, by omega, by omega⟩, hc⟩)
  obtain ⟨yi0, yi1⟩ := yi
  have d1 : ((y.pc : Int) == 0) = false := by simpa using hp
  clear hA hn hz hy wm ww ht1 ht2 hK hR hQ hk hp
  go_enter Tryz.func89, Tryz.ntmps89
  go_wp2_with (first
    | (go_at_call 113; (with_reducible refine (rstep_as HY.out (fun b => Q b ∧ b ≠ w.heap.size + 1 ∧ b ≠ w.heap.size + 1 + 1) R n' capR LA ln lc _ HN.out hn2 (HR0.out.below HPS.out.bel) (fun b hb => ⟨HQ.out b (by omega), by omega, by omega⟩) HZ.out (HK0.out.below HPS.out.bel (Nat.le_refl _)) hl WM.out HW.out ht).mono ?_); rintro r w3 ⟨R2, cap2, rfl, hr, hb⟩; have HP3 := Lib.hid (HPS.out.step hb); have HR3 := Lib.hid hr; clear hb hr; have HP4 := Lib.hid (HP3.out.step (below_alloc0 (Below.refl _ _) (.cells #[.int .i64 y.kind, .int .i64 y.pc, .int .i64 y.k.head, .slice LA ln lc, .int .u32 y.item, .int .u64 y.h, .int .u32 y.link, .int .i64 y.tries] 56))); obtain ⟨z0, z1, z2, z3, z4, z5, z6, z7, z8, z9, z10, z11, z12⟩ := HP4.out.mc; have hfm := HP4.out.frm; have hfr := HP4.out.frr; have hlt := HP3.out.lt)
    | fail)
  have hk : PS w (((((((((w3.alloc (.cells #[.int .i64 y.kind, .int .i64 y.pc, .int .i64 y.k.head, .slice LA ln lc, .int .u32 y.item, .int .u64 y.h, .int .u32 y.link, .int .i64 y.tries] 56)).setCell ⟨w.heap.size + 1, 5, none⟩ (.int .i64 y.kind)).setCell ⟨w.heap.size + 1, 6, none⟩ (.int .i64 y.pc)).setCell ⟨w.heap.size + 1, 7, none⟩ (.int .i64 y.k.head)).setCell ⟨w.heap.size + 1, 8, none⟩ (.slice LA ln lc)).setCell ⟨w.heap.size + 1, 9, none⟩ (.int .u32 y.item)).setCell ⟨w.heap.size + 1, 10, none⟩ (.int .u64 y.h)).setCell ⟨w.heap.size + 1, 11, none⟩ (.int .u32 y.link)).setCell ⟨w.heap.size + 1, 12, none⟩ (.int .i64 y.tries)) A n cap (packN c) (.int .i64 kd) (.int .i64 4) (.slice T tn tc) (.int .i64 j) (.int .i64 p) (.int .i64 y.kind) (.int .i64 y.pc) (.int .i64 y.k.head) (.slice LA ln lc) (.int .u32 y.item) (.int .u64 y.h) (.int .u32 y.link) (.int .i64 y.tries) := (HP4.out.set8 (.int .i64 y.kind) (.int .i64 y.pc) (.int .i64 y.k.head) (.slice LA ln lc) (.int .u32 y.item) (.int .u64 y.h) (.int .u32 y.link) (.int .i64 y.tries))
  have hr4 : ReadsW (fun b => Q b ∧ b ≠ w.heap.size + 1 ∧ b ≠ w.heap.size + 1 + 1) (((((((((w3.alloc (.cells #[.int .i64 y.kind, .int .i64 y.pc, .int .i64 y.k.head, .slice LA ln lc, .int .u32 y.item, .int .u64 y.h, .int .u32 y.link, .int .i64 y.tries] 56)).setCell ⟨w.heap.size + 1, 5, none⟩ (.int .i64 y.kind)).setCell ⟨w.heap.size + 1, 6, none⟩ (.int .i64 y.pc)).setCell ⟨w.heap.size + 1, 7, none⟩ (.int .i64 y.k.head)).setCell ⟨w.heap.size + 1, 8, none⟩ (.slice LA ln lc)).setCell ⟨w.heap.size + 1, 9, none⟩ (.int .u32 y.item)).setCell ⟨w.heap.size + 1, 10, none⟩ (.int .u64 y.h)).setCell ⟨w.heap.size + 1, 11, none⟩ (.int .u32 y.link)).setCell ⟨w.heap.size + 1, 12, none⟩ (.int .i64 y.tries)) R2 L' := ((HR3.out.below (below_alloc0 (Below.refl _ _) (.cells #[.int .i64 y.kind, .int .i64 y.pc, .int .i64 y.k.head, .slice LA ln lc, .int .u32 y.item, .int .u64 y.h, .int .u32 y.link, .int .i64 y.tries] 56))).two (.inl rfl) (put8o_upd _ _ (.int .i64 y.kind) (.int .i64 y.pc) (.int .i64 y.k.head) (.slice LA ln lc) (.int .u32 y.item) (.int .u64 y.h) (.int .u32 y.link) (.int .i64 y.tries)))
  obtain ⟨W2, hW2⟩ : ∃ W2, W2 = (((((((((w3.alloc (.cells #[.int .i64 y.kind, .int .i64 y.pc, .int .i64 y.k.head, .slice LA ln lc, .int .u32 y.item, .int .u64 y.h, .int .u32 y.link, .int .i64 y.tries] 56)).setCell ⟨w.heap.size + 1, 5, none⟩ (.int .i64 y.kind)).setCell ⟨w.heap.size + 1, 6, none⟩ (.int .i64 y.pc)).setCell ⟨w.heap.size + 1, 7, none⟩ (.int .i64 y.k.head)).setCell ⟨w.heap.size + 1, 8, none⟩ (.slice LA ln lc)).setCell ⟨w.heap.size + 1, 9, none⟩ (.int .u32 y.item)).setCell ⟨w.heap.size + 1, 10, none⟩ (.int .u64 y.h)).setCell ⟨w.heap.size + 1, 11, none⟩ (.int .u32 y.link)).setCell ⟨w.heap.size + 1, 12, none⟩ (.int .i64 y.tries)) := ⟨_, rfl⟩
  rw [← hW2] at hk hr4 ⊢
  clear hW2 z0 z1 z2 z3 z4 z5 z6 z7 z8 z9 z10 z11 z12 hfm hfr HP4
  obtain ⟨z0, z1, z2, z3, z4, z5, z6, z7, z8, z9, z10, z11, z12⟩ := hk.mc
  obtain ⟨r0, r1, r2, r3, r4, r5, r6, r7, r8, r9, r10, r11, r12⟩ := hk.res
  have hfr := hk.frr
  have HK4 := Lib.hid hk; have HR4 := Lib.hid hr4
  clear hk hr4
  go_region
  go_wp2
  obtain ⟨e0, e1, e2, e3, e4, e5, e6, e7, e8, e9, e10, e11, e12⟩ := HK4.out.putr (u0 := .int .i64 kd) (u1 := .int .i64 4) (u2 := .slice T tn tc) (u3 := .int .i64 j) (u4 := .int .i64 p) (u5 := .int .i64 y.kind) (u6 := .int .i64 y.pc) (u7 := .int .i64 y.k.head) (u8 := .slice LA ln lc) (u9 := .int .u32 y.item) (u10 := .int .u64 y.h) (u11 := .int .u32 y.link) (u12 := .int .i64 y.tries)
  exact bodyPost_ret (v := .tuple #[.slice R2 n' cap2, .agg #[.int .i64 kd, .int .i64 4, .slice T tn tc, .int .i64 j, .int .i64 p, .int .i64 y.kind, .int .i64 y.pc, .int .i64 y.k.head, .slice LA ln lc, .int .u32 y.item, .int .u64 y.h, .int .u32 y.link, .int .i64 y.tries]]) (by simp [results, Tryz.results89, go_sem, e0, e1, e2, e3, e4, e5, e6, e7, e8, e9, e10, e11, e12]) rfl ⟨R2, cap2, _, rfl, (HR4.out.upd (put13_upd ..) fun b hb _ => ⟨hb.2.2, hb.2.2, hb.1⟩).below (Below.refl _ _).drew, ⟨T, tn, tc, LA, ln, lc, rfl, HT1.out, HT2.out.below HK4.out.putb.drew (Nat.le_refl _), by show ln = y.k.links.length; rw [HKK.out]; exact HZ.out, by show Reads _ _ _ y.k.links; rw [HKK.out]; exact HK0.out.below HK4.out.putb.drew (Nat.le_refl _), HTQ.out, by show 0 < y.k.links.length → _; rw [HKK.out]; exact HLQ.out⟩, HK4.out.putb.drew⟩
set_option maxHeartbeats 8000000 in
theorem rps_end4 {c : Cfg} (hc : OkC c) {t : Int} (Q : Nat → Prop) (A : Option Addr) (n cap : Nat) (R : Option Addr) (n' capR : Nat) (L L' : List Int) (kd : Nat) (ts : List Int) (j p : Int) (x y : Sm) (T : Option Addr) (tn tc : Nat) (LA : Option Addr) (ln lc : Nat) (w : World)
    (hA : IsA w c A n) (hn : n' = L.length) (hn2 : n' ≤ 1000000) (hR : ReadsW Q w R L) (hQ : ∀ b, w.heap.size ≤ b → Q b) (ht1 : tn = ts.length) (ht2 : Reads .u64 w T ts) (hz : ln = x.k.links.length) (hK : Reads .i64 w LA x.k.links) (hl : ln ≤ 1000000) (wm : Wm t x) (ww : WW L) (ht : t ≤ 1000000000)
    (hy : sstp L x = (L', y)) (hk : y.k = x.k) (yi : 0 ≤ y.item ∧ y.item ≤ 4294967295) (hp : y.pc = 0) (hTQ : 0 < ts.length → ∀ a, T = some a → Q a.block) (hLQ : 0 < x.k.links.length → ∀ a, LA = some a → Q a.block) :
    Calls Tryz.prog 89 #[aVal A n cap (packN c), .slice R n' capR, pmV kd 4 T tn tc j p x.kind x.pc x.k.head LA ln lc x.item x.h x.link x.tries] w (SomePs Q w n' L' ⟨kd, 0, ts, j, y.item, y⟩) := by
  have HTQ := Lib.hid hTQ; have HLQ := Lib.hid hLQ
  clear hTQ hLQ
  have HPS := Lib.hid (PS.new w A n cap (packN c) (.int .i64 kd) (.int .i64 4) (.slice T tn tc) (.int .i64 j) (.int .i64 p) (.int .i64 x.kind) (.int .i64 x.pc) (.int .i64 x.k.head) (.slice LA ln lc) (.int .u32 x.item) (.int .u64 x.h) (.int .u32 x.link) (.int .i64 x.tries))
  have hlt0 := HPS.out.lt
  have HA := Lib.hid hA; have HN := Lib.hid hn; have HZ := Lib.hid hz; have HY := Lib.hid hy; have WM := Lib.hid wm; have HW := Lib.hid ww; have HT1 := Lib.hid ht1; have HT2 := Lib.hid ht2; have HK0 := Lib.hid hK; have HKK := Lib.hid hk
  have HQ := Lib.hid hQ
  have HR0 : Hid (ReadsW (fun b => Q b ∧ b ≠ w.heap.size + 1 ∧ b ≠ w.heap.size + 1 + 1) w R L) := Lib.hid (fun h0 => by
    obtain ⟨b, off, e, hb, hp, hc⟩ := hR h0
    exact ⟨b, off, e, hb, ⟨hp, by omega, by omega⟩, hc⟩)
  obtain ⟨yi0, yi1⟩ := yi
  have HP0 : Hid ((y.pc : Int) = 0) := Lib.hid (by omega)
  clear hA hn hz hy wm ww ht1 ht2 hK hR hQ hk hp
  go_enter Tryz.func89, Tryz.ntmps89
  go_wp2_with (first
    | (go_at_call 113; (with_reducible refine (rstep_as HY.out (fun b => Q b ∧ b ≠ w.heap.size + 1 ∧ b ≠ w.heap.size + 1 + 1) R n' capR LA ln lc _ HN.out hn2 (HR0.out.below HPS.out.bel) (fun b hb => ⟨HQ.out b (by omega), by omega, by omega⟩) HZ.out (HK0.out.below HPS.out.bel (Nat.le_refl _)) hl WM.out HW.out ht).mono ?_); rintro r w3 ⟨R2, cap2, rfl, hr, hb⟩; have HP3 := Lib.hid (HPS.out.step hb); have HR3 := Lib.hid hr; clear hb hr; rw [HP0.out]; have HP4 := Lib.hid (HP3.out.step (below_alloc0 (Below.refl _ _) (.cells #[.int .i64 y.kind, .int .i64 0, .int .i64 y.k.head, .slice LA ln lc, .int .u32 y.item, .int .u64 y.h, .int .u32 y.link, .int .i64 y.tries] 56))); obtain ⟨z0, z1, z2, z3, z4, z5, z6, z7, z8, z9, z10, z11, z12⟩ := HP4.out.mc; have hfm := HP4.out.frm; have hfr := HP4.out.frr; have hlt := HP3.out.lt)
    | fail)
  have hk : PS w (((((((((((w3.alloc (.cells #[.int .i64 y.kind, .int .i64 0, .int .i64 y.k.head, .slice LA ln lc, .int .u32 y.item, .int .u64 y.h, .int .u32 y.link, .int .i64 y.tries] 56)).setCell ⟨w.heap.size + 1, 5, none⟩ (.int .i64 y.kind)).setCell ⟨w.heap.size + 1, 6, none⟩ (.int .i64 0)).setCell ⟨w.heap.size + 1, 7, none⟩ (.int .i64 y.k.head)).setCell ⟨w.heap.size + 1, 8, none⟩ (.slice LA ln lc)).setCell ⟨w.heap.size + 1, 9, none⟩ (.int .u32 y.item)).setCell ⟨w.heap.size + 1, 10, none⟩ (.int .u64 y.h)).setCell ⟨w.heap.size + 1, 11, none⟩ (.int .u32 y.link)).setCell ⟨w.heap.size + 1, 12, none⟩ (.int .i64 y.tries)).setCell ⟨w.heap.size + 1, 4, none⟩ (.int .i64 y.item)).setCell ⟨w.heap.size + 1, 1, none⟩ (.int .i64 0)) A n cap (packN c) (.int .i64 kd) (.int .i64 0) (.slice T tn tc) (.int .i64 j) (.int .i64 y.item) (.int .i64 y.kind) (.int .i64 0) (.int .i64 y.k.head) (.slice LA ln lc) (.int .u32 y.item) (.int .u64 y.h) (.int .u32 y.link) (.int .i64 y.tries) := (((HP4.out.set8 (.int .i64 y.kind) (.int .i64 0) (.int .i64 y.k.head) (.slice LA ln lc) (.int .u32 y.item) (.int .u64 y.h) (.int .u32 y.link) (.int .i64 y.tries)).set4 (.int .i64 y.item)).set1 (.int .i64 0))
  have hr4 : ReadsW (fun b => Q b ∧ b ≠ w.heap.size + 1 ∧ b ≠ w.heap.size + 1 + 1) (((((((((((w3.alloc (.cells #[.int .i64 y.kind, .int .i64 0, .int .i64 y.k.head, .slice LA ln lc, .int .u32 y.item, .int .u64 y.h, .int .u32 y.link, .int .i64 y.tries] 56)).setCell ⟨w.heap.size + 1, 5, none⟩ (.int .i64 y.kind)).setCell ⟨w.heap.size + 1, 6, none⟩ (.int .i64 0)).setCell ⟨w.heap.size + 1, 7, none⟩ (.int .i64 y.k.head)).setCell ⟨w.heap.size + 1, 8, none⟩ (.slice LA ln lc)).setCell ⟨w.heap.size + 1, 9, none⟩ (.int .u32 y.item)).setCell ⟨w.heap.size + 1, 10, none⟩ (.int .u64 y.h)).setCell ⟨w.heap.size + 1, 11, none⟩ (.int .u32 y.link)).setCell ⟨w.heap.size + 1, 12, none⟩ (.int .i64 y.tries)).setCell ⟨w.heap.size + 1, 4, none⟩ (.int .i64 y.item)).setCell ⟨w.heap.size + 1, 1, none⟩ (.int .i64 0)) R2 L' := ((((HR3.out.below (below_alloc0 (Below.refl _ _) (.cells #[.int .i64 y.kind, .int .i64 0, .int .i64 y.k.head, .slice LA ln lc, .int .u32 y.item, .int .u64 y.h, .int .u32 y.link, .int .i64 y.tries] 56))).two (.inl rfl) (put8o_upd _ _ (.int .i64 y.kind) (.int .i64 0) (.int .i64 y.k.head) (.slice LA ln lc) (.int .u32 y.item) (.int .u64 y.h) (.int .u32 y.link) (.int .i64 y.tries))).two (.inl rfl) (upd_set1 _ (w.heap.size + 1) 4 _)).two (.inl rfl) (upd_set1 _ (w.heap.size + 1) 1 _))
  obtain ⟨W2, hW2⟩ : ∃ W2, W2 = (((((((((((w3.alloc (.cells #[.int .i64 y.kind, .int .i64 0, .int .i64 y.k.head, .slice LA ln lc, .int .u32 y.item, .int .u64 y.h, .int .u32 y.link, .int .i64 y.tries] 56)).setCell ⟨w.heap.size + 1, 5, none⟩ (.int .i64 y.kind)).setCell ⟨w.heap.size + 1, 6, none⟩ (.int .i64 0)).setCell ⟨w.heap.size + 1, 7, none⟩ (.int .i64 y.k.head)).setCell ⟨w.heap.size + 1, 8, none⟩ (.slice LA ln lc)).setCell ⟨w.heap.size + 1, 9, none⟩ (.int .u32 y.item)).setCell ⟨w.heap.size + 1, 10, none⟩ (.int .u64 y.h)).setCell ⟨w.heap.size + 1, 11, none⟩ (.int .u32 y.link)).setCell ⟨w.heap.size + 1, 12, none⟩ (.int .i64 y.tries)).setCell ⟨w.heap.size + 1, 4, none⟩ (.int .i64 y.item)).setCell ⟨w.heap.size + 1, 1, none⟩ (.int .i64 0)) := ⟨_, rfl⟩
  rw [← hW2] at hk hr4 ⊢
  clear hW2 z0 z1 z2 z3 z4 z5 z6 z7 z8 z9 z10 z11 z12 hfm hfr HP4
  obtain ⟨z0, z1, z2, z3, z4, z5, z6, z7, z8, z9, z10, z11, z12⟩ := hk.mc
  obtain ⟨r0, r1, r2, r3, r4, r5, r6, r7, r8, r9, r10, r11, r12⟩ := hk.res
  have hfr := hk.frr
  have HK4 := Lib.hid hk; have HR4 := Lib.hid hr4
  clear hk hr4
  go_region
  go_wp2
  obtain ⟨e0, e1, e2, e3, e4, e5, e6, e7, e8, e9, e10, e11, e12⟩ := HK4.out.putr (u0 := .int .i64 kd) (u1 := .int .i64 0) (u2 := .slice T tn tc) (u3 := .int .i64 j) (u4 := .int .i64 y.item) (u5 := .int .i64 y.kind) (u6 := .int .i64 0) (u7 := .int .i64 y.k.head) (u8 := .slice LA ln lc) (u9 := .int .u32 y.item) (u10 := .int .u64 y.h) (u11 := .int .u32 y.link) (u12 := .int .i64 y.tries)
  exact bodyPost_ret (v := .tuple #[.slice R2 n' cap2, .agg #[.int .i64 kd, .int .i64 0, .slice T tn tc, .int .i64 j, .int .i64 y.item, .int .i64 y.kind, .int .i64 0, .int .i64 y.k.head, .slice LA ln lc, .int .u32 y.item, .int .u64 y.h, .int .u32 y.link, .int .i64 y.tries]]) (by simp [results, Tryz.results89, go_sem, e0, e1, e2, e3, e4, e5, e6, e7, e8, e9, e10, e11, e12]) rfl ⟨R2, cap2, _, rfl, (HR4.out.upd (put13_upd ..) fun b hb _ => ⟨hb.2.2, hb.2.2, hb.1⟩).below (Below.refl _ _).drew, ⟨T, tn, tc, LA, ln, lc, by simp [pmVm, HP0.out], HT1.out, HT2.out.below HK4.out.putb.drew (Nat.le_refl _), by show ln = y.k.links.length; rw [HKK.out]; exact HZ.out, by show Reads _ _ _ y.k.links; rw [HKK.out]; exact HK0.out.below HK4.out.putb.drew (Nat.le_refl _), HTQ.out, by show 0 < y.k.links.length → _; rw [HKK.out]; exact HLQ.out⟩, HK4.out.putb.drew⟩
set_option maxHeartbeats 8000000 in
theorem rps_no1 {c : Cfg} (hc : OkC c) {t : Int} (Q : Nat → Prop) (A : Option Addr) (n cap : Nat) (R : Option Addr) (n' capR : Nat) (L L' : List Int) (kd : Nat) (ts : List Int) (j p : Int) (x y : Sm) (T : Option Addr) (tn tc : Nat) (LA : Option Addr) (ln lc : Nat) (w : World)
    (hA : IsA w c A n) (hn : n' = L.length) (hn2 : n' ≤ 1000000) (hR : ReadsW Q w R L) (hQ : ∀ b, w.heap.size ≤ b → Q b) (ht1 : tn = ts.length) (ht2 : Reads .u64 w T ts) (hz : ln = x.k.links.length) (hK : Reads .i64 w LA x.k.links) (hl : ln ≤ 1000000) (wm : Wm t x) (ww : WW L) (ht : t ≤ 1000000000)
    (hy : sstp L x = (L', y)) (hk : y.k = x.k) (yi : 0 ≤ y.item ∧ y.item ≤ 4294967295) (hp : y.pc = 0) (hi : y.item = 0) (hTQ : 0 < ts.length → ∀ a, T = some a → Q a.block) (hLQ : 0 < x.k.links.length → ∀ a, LA = some a → Q a.block) :
    Calls Tryz.prog 89 #[aVal A n cap (packN c), .slice R n' capR, pmV kd 1 T tn tc j p x.kind x.pc x.k.head LA ln lc x.item x.h x.link x.tries] w (SomePs Q w n' L' ⟨kd, 1, ts, j, 0, mPop (spK c)⟩) := by
  have HTQ := Lib.hid hTQ; have HLQ := Lib.hid hLQ
  clear hTQ hLQ
  have HPS := Lib.hid (PS.new w A n cap (packN c) (.int .i64 kd) (.int .i64 1) (.slice T tn tc) (.int .i64 j) (.int .i64 p) (.int .i64 x.kind) (.int .i64 x.pc) (.int .i64 x.k.head) (.slice LA ln lc) (.int .u32 x.item) (.int .u64 x.h) (.int .u32 x.link) (.int .i64 x.tries))
  have hlt0 := HPS.out.lt
  have HA := Lib.hid hA; have HN := Lib.hid hn; have HZ := Lib.hid hz; have HY := Lib.hid hy; have WM := Lib.hid wm; have HW := Lib.hid ww; have HT1 := Lib.hid ht1; have HT2 := Lib.hid ht2; have HK0 := Lib.hid hK; have HKK := Lib.hid hk
  have HQ := Lib.hid hQ
  have HR0 : Hid (ReadsW (fun b => Q b ∧ b ≠ w.heap.size + 1 ∧ b ≠ w.heap.size + 1 + 1) w R L) := Lib.hid (fun h0 => by
    obtain ⟨b, off, e, hb, hp, hc⟩ := hR h0
    exact ⟨b, off, e, hb, ⟨hp, by omega, by omega⟩, hc⟩)
  clear yi
  have HP0 : Hid ((y.pc : Int) = 0) := Lib.hid (by omega)
  have HI := Lib.hid hi
  clear hA hn hz hy wm ww ht1 ht2 hK hR hQ hk hp hi
  go_enter Tryz.func89, Tryz.ntmps89
  go_wp2_with (first
    | (go_at_call 113; (with_reducible refine (rstep_as HY.out (fun b => Q b ∧ b ≠ w.heap.size + 1 ∧ b ≠ w.heap.size + 1 + 1) R n' capR LA ln lc _ HN.out hn2 (HR0.out.below HPS.out.bel) (fun b hb => ⟨HQ.out b (by omega), by omega, by omega⟩) HZ.out (HK0.out.below HPS.out.bel (Nat.le_refl _)) hl WM.out HW.out ht).mono ?_); rintro r w3 ⟨R2, cap2, rfl, hr, hb⟩; have HP3 := Lib.hid (HPS.out.step hb); have HR3 := Lib.hid hr; clear hb hr; rw [HP0.out]; rw [HI.out]; have HP4 := Lib.hid (HP3.out.step (below_alloc0 (Below.refl _ _) (.cells #[.int .i64 y.kind, .int .i64 0, .int .i64 y.k.head, .slice LA ln lc, .int .u32 0, .int .u64 y.h, .int .u32 y.link, .int .i64 y.tries] 56))); obtain ⟨z0, z1, z2, z3, z4, z5, z6, z7, z8, z9, z10, z11, z12⟩ := HP4.out.mc; have hfm := HP4.out.frm; have hlt := HP3.out.lt; have HP5 := Lib.hid (((HP4.out.set8 (.int .i64 y.kind) (.int .i64 0) (.int .i64 y.k.head) (.slice LA ln lc) (.int .u32 0) (.int .u64 y.h) (.int .u32 y.link) (.int .i64 y.tries)).set4 (.int .i64 0)).set1 (.int .i64 2)); obtain ⟨a0, a1⟩ := HP4.out.cells; have HR5 := Lib.hid ((((HR3.out.below (below_alloc0 (Below.refl _ _) (.cells #[.int .i64 y.kind, .int .i64 0, .int .i64 y.k.head, .slice LA ln lc, .int .u32 0, .int .u64 y.h, .int .u32 y.link, .int .i64 y.tries] 56))).two (b := w.heap.size) (j := w.heap.size + 1) (.inl rfl) (put8o_upd _ (w.heap.size + 1) (.int .i64 y.kind) (.int .i64 0) (.int .i64 y.k.head) (.slice LA ln lc) (.int .u32 0) (.int .u64 y.h) (.int .u32 y.link) (.int .i64 y.tries))).two (b := w.heap.size) (j := w.heap.size + 1) (.inl rfl) (upd_set1 _ (w.heap.size + 1) 4 (.int .i64 0))).two (b := w.heap.size) (j := w.heap.size + 1) (.inl rfl) (upd_set1 _ (w.heap.size + 1) 1 (.int .i64 2))))
    | (go_at_call 112; (with_reducible refine (rstack_hi hc A n cap 5 _ (HA.out.below HP5.out.bel) (by decide)).mono ?_); rintro r w5 ⟨K, kn, kc, rfl, hn, hr, hb, hk⟩; have HP6 := Lib.hid (HP5.out.step hb); have HR6 := Lib.hid (HR5.out.below hb); have HKN := Lib.hid hn; have HKR := Lib.hid hr; have HKB := Lib.hid (HP5.out.hiK hk); have HKQ : Hid (∀ a, K = some a → Q a.block) := Lib.hid (fun a e => HQ.out _ (by have := hk a e; have := HP5.out.bel.size; omega)); clear hb hr hn hk z0 z1 z2 z3 z4 z5 z6 z7 z8 z9 z10 z11 z12 hfm a0 a1)
    | (go_at_call 111; (with_reducible refine (rpop_any _ K kn kc _).mono ?_); rintro r w6 ⟨rfl, hb⟩; have HP7 := Lib.hid (HP6.out.step hb); have HR7 := Lib.hid (HR6.out.below hb); have HKR7 := Lib.hid (HKR.out.below hb (Nat.le_refl _)); clear hb; obtain ⟨z0, z1, z2, z3, z4, z5, z6, z7, z8, z9, z10, z11, z12⟩ := HP7.out.mc; have hfm := HP7.out.frm)
    | fail)
  have hk : PS w (((((((((w6.setCell ⟨w.heap.size + 1, 5, none⟩ (.int .i64 2)).setCell ⟨w.heap.size + 1, 6, none⟩ (.int .i64 1)).setCell ⟨w.heap.size + 1, 7, none⟩ (.int .i64 (plcc c 5 0 0))).setCell ⟨w.heap.size + 1, 8, none⟩ (.slice K kn kc)).setCell ⟨w.heap.size + 1, 9, none⟩ (.int .u32 0)).setCell ⟨w.heap.size + 1, 10, none⟩ (.int .u64 0)).setCell ⟨w.heap.size + 1, 11, none⟩ (.int .u32 0)).setCell ⟨w.heap.size + 1, 12, none⟩ (.int .i64 0)).setCell ⟨w.heap.size + 1, 1, none⟩ (.int .i64 1)) A n cap (packN c) (.int .i64 kd) (.int .i64 1) (.slice T tn tc) (.int .i64 j) (.int .i64 0) (.int .i64 2) (.int .i64 1) (.int .i64 (plcc c 5 0 0)) (.slice K kn kc) (.int .u32 0) (.int .u64 0) (.int .u32 0) (.int .i64 0) := (HP7.out.set8 (.int .i64 2) (.int .i64 1) (.int .i64 (plcc c 5 0 0)) (.slice K kn kc) (.int .u32 0) (.int .u64 0) (.int .u32 0) (.int .i64 0)).set1 (.int .i64 1)
  have hr4 : ReadsW (fun b => Q b ∧ b ≠ w.heap.size + 1 ∧ b ≠ w.heap.size + 1 + 1) (((((((((w6.setCell ⟨w.heap.size + 1, 5, none⟩ (.int .i64 2)).setCell ⟨w.heap.size + 1, 6, none⟩ (.int .i64 1)).setCell ⟨w.heap.size + 1, 7, none⟩ (.int .i64 (plcc c 5 0 0))).setCell ⟨w.heap.size + 1, 8, none⟩ (.slice K kn kc)).setCell ⟨w.heap.size + 1, 9, none⟩ (.int .u32 0)).setCell ⟨w.heap.size + 1, 10, none⟩ (.int .u64 0)).setCell ⟨w.heap.size + 1, 11, none⟩ (.int .u32 0)).setCell ⟨w.heap.size + 1, 12, none⟩ (.int .i64 0)).setCell ⟨w.heap.size + 1, 1, none⟩ (.int .i64 1)) R2 L' := (HR7.out.two (.inl rfl) (put8o_upd _ _ (.int .i64 2) (.int .i64 1) (.int .i64 (plcc c 5 0 0)) (.slice K kn kc) (.int .u32 0) (.int .u64 0) (.int .u32 0) (.int .i64 0))).two (.inl rfl) (upd_set1 _ (w.heap.size + 1) 1 _)
  have hkr : Reads .i64 (((((((((w6.setCell ⟨w.heap.size + 1, 5, none⟩ (.int .i64 2)).setCell ⟨w.heap.size + 1, 6, none⟩ (.int .i64 1)).setCell ⟨w.heap.size + 1, 7, none⟩ (.int .i64 (plcc c 5 0 0))).setCell ⟨w.heap.size + 1, 8, none⟩ (.slice K kn kc)).setCell ⟨w.heap.size + 1, 9, none⟩ (.int .u32 0)).setCell ⟨w.heap.size + 1, 10, none⟩ (.int .u64 0)).setCell ⟨w.heap.size + 1, 11, none⟩ (.int .u32 0)).setCell ⟨w.heap.size + 1, 12, none⟩ (.int .i64 0)).setCell ⟨w.heap.size + 1, 1, none⟩ (.int .i64 1)) K (lnkL c) := (HKR7.out.put (put8o_upd _ (w.heap.size + 1) (.int .i64 2) (.int .i64 1) (.int .i64 (plcc c 5 0 0)) (.slice K kn kc) (.int .u32 0) (.int .u64 0) (.int .u32 0) (.int .i64 0)) fun a e => (HKB.out a e).1).put (upd_set1 _ (w.heap.size + 1) 1 _) fun a e => (HKB.out a e).1
  obtain ⟨W2, hW2⟩ : ∃ W2, W2 = (((((((((w6.setCell ⟨w.heap.size + 1, 5, none⟩ (.int .i64 2)).setCell ⟨w.heap.size + 1, 6, none⟩ (.int .i64 1)).setCell ⟨w.heap.size + 1, 7, none⟩ (.int .i64 (plcc c 5 0 0))).setCell ⟨w.heap.size + 1, 8, none⟩ (.slice K kn kc)).setCell ⟨w.heap.size + 1, 9, none⟩ (.int .u32 0)).setCell ⟨w.heap.size + 1, 10, none⟩ (.int .u64 0)).setCell ⟨w.heap.size + 1, 11, none⟩ (.int .u32 0)).setCell ⟨w.heap.size + 1, 12, none⟩ (.int .i64 0)).setCell ⟨w.heap.size + 1, 1, none⟩ (.int .i64 1)) := ⟨_, rfl⟩
  rw [← hW2] at hk hr4 hkr ⊢
  clear hW2 z0 z1 z2 z3 z4 z5 z6 z7 z8 z9 z10 z11 z12 hfm
  obtain ⟨z0, z1, z2, z3, z4, z5, z6, z7, z8, z9, z10, z11, z12⟩ := hk.mc
  obtain ⟨r0, r1, r2, r3, r4, r5, r6, r7, r8, r9, r10, r11, r12⟩ := hk.res
  have hfr := hk.frr
  have HK4 := Lib.hid hk; have HR4 := Lib.hid hr4; have HKR4 := Lib.hid hkr
  clear hk hr4 hkr
  go_region
  go_wp2
  obtain ⟨e0, e1, e2, e3, e4, e5, e6, e7, e8, e9, e10, e11, e12⟩ := HK4.out.putr (u0 := .int .i64 kd) (u1 := .int .i64 1) (u2 := .slice T tn tc) (u3 := .int .i64 j) (u4 := .int .i64 0) (u5 := .int .i64 2) (u6 := .int .i64 1) (u7 := .int .i64 (plcc c 5 0 0)) (u8 := .slice K kn kc) (u9 := .int .u32 0) (u10 := .int .u64 0) (u11 := .int .u32 0) (u12 := .int .i64 0)
  exact bodyPost_ret (v := .tuple #[.slice R2 n' cap2, .agg #[.int .i64 kd, .int .i64 1, .slice T tn tc, .int .i64 j, .int .i64 0, .int .i64 2, .int .i64 1, .int .i64 (plcc c 5 0 0), .slice K kn kc, .int .u32 0, .int .u64 0, .int .u32 0, .int .i64 0]]) (by simp [results, Tryz.results89, go_sem, e0, e1, e2, e3, e4, e5, e6, e7, e8, e9, e10, e11, e12]) rfl ⟨R2, cap2, _, rfl, (HR4.out.upd (put13_upd ..) fun b hb _ => ⟨hb.2.2, hb.2.2, hb.1⟩).below (Below.refl _ _).drew, ⟨T, tn, tc, K, kn, kc, rfl, HT1.out, HT2.out.below HK4.out.putb.drew (Nat.le_refl _), HKN.out, (HKR4.out.put (put13_upd ..) fun a e => (HKB.out a e).2).below (Below.refl _ _).drew (Nat.le_refl _), HTQ.out, fun _ => HKQ.out⟩, HK4.out.putb.drew⟩
set_option maxHeartbeats 8000000 in
theorem rps_put_on {c : Cfg} (Q : Nat → Prop) (A : Option Addr) (n cap : Nat) (R : Option Addr) (n' capR : Nat) (L : List Int) (kd : Nat) (ts : List Int) (jn : Nat) (p : Int) (x : Sm) (T : Option Addr) (tn tc : Nat) (LA : Option Addr) (ln lc : Nat) (w : World)
    (hA : IsA w c A n) (hn : n' = L.length) (hn2 : n' ≤ 1000000) (hR : ReadsW Q w R L) (hQ : ∀ b, w.heap.size ≤ b → Q b) (ht1 : tn = ts.length) (ht2 : Reads .u64 w T ts) (hz : ln = x.k.links.length) (hK : Reads .i64 w LA x.k.links) (h4 : tn ≤ 4) (hj : jn < tn) (he : jn + 1 ≠ tn) (hTQ : 0 < ts.length → ∀ a, T = some a → Q a.block) (hLQ : 0 < x.k.links.length → ∀ a, LA = some a → Q a.block) :
    Calls Tryz.prog 89 #[aVal A n cap (packN c), .slice R n' capR, pmV kd 2 T tn tc (jn : Int) p x.kind x.pc x.k.head LA ln lc x.item x.h x.link x.tries] w (SomePs Q w n' (ptq L (plcc c 13 p (jn : Int)) (ts.getD jn 0)) ⟨kd, 2, ts, (jn : Int) + 1, p, x⟩) := by
  have HTQ := Lib.hid hTQ; have HLQ := Lib.hid hLQ
  clear hTQ hLQ
  obtain ⟨b, off, rfl, hbl, hcl⟩ := ht2 (by omega)
  have HT2 : Hid (Reads .u64 w (some ⟨b, off, none⟩) ts) := Lib.hid (fun _ => ⟨b, off, rfl, hbl, hcl⟩)
  have hc1 := hcl jn (by omega)
  obtain ⟨v, hv⟩ : ∃ v, v = ts.getD jn 0 := ⟨_, rfl⟩
  rw [← hv] at hc1 ⊢
  have HTC : Hid (∀ w', Below w.heap.size w w' → w'.cell? ⟨b, off + jn, none⟩ = some (.int .u64 v)) := Lib.hid (fun w' hb => (hb.cell (p := ⟨b, off + jn, none⟩) hbl).trans hc1)
  have hps := PS.new w A n cap (packN c) (.int .i64 kd) (.int .i64 2) (.slice (some ⟨b, off, none⟩) tn tc) (.int .i64 (jn : Int)) (.int .i64 p) (.int .i64 x.kind) (.int .i64 x.pc) (.int .i64 x.k.head) (.slice LA ln lc) (.int .u32 x.item) (.int .u64 x.h) (.int .u32 x.link) (.int .i64 x.tries)
  have HS : Hid (∀ w', PS w w' A n cap (packN c) (.int .i64 kd) (.int .i64 2) (.slice (some ⟨b, off, none⟩) tn tc) (.int .i64 (jn : Int)) (.int .i64 p) (.int .i64 x.kind) (.int .i64 x.pc) (.int .i64 x.k.head) (.slice LA ln lc) (.int .u32 x.item) (.int .u64 x.h) (.int .u32 x.link) (.int .i64 x.tries) → (w'.cell? ⟨w.heap.size, 0, none⟩ = some (.slice A n cap) ∧ w'.cell? ⟨w.heap.size, 1, none⟩ = some (.int .i64 (packN c)) ∧ w'.cell? ⟨w.heap.size + 1, 2, none⟩ = some (.slice (some ⟨b, off, none⟩) tn tc) ∧ w'.cell? ⟨w.heap.size + 1, 3, none⟩ = some (.int .i64 (jn : Int)) ∧ w'.cell? ⟨w.heap.size + 1, 4, none⟩ = some (.int .i64 p) ∧ w'.cell? ⟨b, off + jn, none⟩ = some (.int .u64 v))) := Lib.hid (fun w' k => ⟨k.cells.1, k.cells.2, k.mc.2.2.1, k.mc.2.2.2.1, k.mc.2.2.2.2.1, HTC.out _ k.bel⟩)
  have HA := Lib.hid hA; have HN := Lib.hid hn; have HZ := Lib.hid hz; have HT1 := Lib.hid ht1; have HK0 := Lib.hid hK
  have HQ := Lib.hid hQ
  have HR0 : Hid (ReadsW (fun b => Q b ∧ b ≠ w.heap.size + 1 ∧ b ≠ w.heap.size + 1 + 1) w R L) := Lib.hid (fun h0 => by
    obtain ⟨b, off, e, hb, hp, hc⟩ := hR h0
    exact ⟨b, off, e, hb, ⟨hp, by omega, by omega⟩, hc⟩)
  have HNM : Hid (Norm ⟨13, p, (jn : Int)⟩) := Lib.hid (nrm 13 p _ (by omega) (by omega) (fun h => by omega) (fun _ h _ => absurd rfl h))
  have hj0 : (0 : Int) ≤ (jn : Int) := by omega
  have hj1 : (jn : Int) < (tn : Int) := by omega
  have d1 : ((jn : Int) + 1 == (tn : Int)) = false := by simp; omega
  obtain ⟨at', hat⟩ : ∃ a, a = plcc c 13 p (jn : Int) := ⟨_, rfl⟩
  have HAT := Lib.hid hat
  rw [← hat]
  clear hA hn hz ht1 ht2 hK hR hQ hcl hc1 hv he hat
  go_enter Tryz.func89, Tryz.ntmps89
  go_wp2_with (fail)
  obtain ⟨W, hW⟩ : ∃ W, W = ((w.alloc (.cells #[.slice A n cap, .int .i64 (packN c)] 36)).alloc (.cells #[.int .i64 kd, .int .i64 2, .slice (some ⟨b, off, none⟩) tn tc, .int .i64 (jn : Int), .int .i64 p, .int .i64 x.kind, .int .i64 x.pc, .int .i64 x.k.head, .slice LA ln lc, .int .u32 x.item, .int .u64 x.h, .int .u32 x.link, .int .i64 x.tries] 58)).alloc (.cells #[.int .i64 0, .int .i64 0, .slice none 0 0, .int .i64 0, .int .i64 0, .int .i64 0, .int .i64 0, .int .i64 0, .slice none 0 0, .int .u32 0, .int .u64 0, .int .u32 0, .int .i64 0] 58) := ⟨_, rfl⟩
  rw [← hW] at hps ⊢
  clear hW
  have hlt := hps.lt
  obtain ⟨a0, a1, z2, z3, z4, tc0⟩ := HS.out _ hps
  have HPD := Lib.hid (hps.step (Below.refl W.heap.size W).drew)
  clear hps
  go_region_held3 (fun w' => w'.cell? ⟨w.heap.size, 0, none⟩ = some (.slice A n cap) ∧ w'.cell? ⟨w.heap.size, 1, none⟩ = some (.int .i64 (packN c)) ∧ w'.cell? ⟨w.heap.size + 1, 2, none⟩ = some (.slice (some ⟨b, off, none⟩) tn tc) ∧ w'.cell? ⟨w.heap.size + 1, 3, none⟩ = some (.int .i64 (jn : Int)) ∧ w'.cell? ⟨w.heap.size + 1, 4, none⟩ = some (.int .i64 p) ∧ w'.cell? ⟨b, off + jn, none⟩ = some (.int .u64 v))
    (first | (with_reducible exact HS.out _ HP5.out) | (with_reducible exact HS.out _ HP4.out) | (with_reducible exact HS.out _ HPD.out) | go_keep)
    (first
      | (go_at_call 54; (with_reducible refine (rat_any c A n cap _ 13 p (jn : Int) _ (HA.out.below HPD.out.bel) HNM.out).mono ?_); rintro r w3 ⟨rfl, hb⟩; rw [← HAT.out]; have HP4 := Lib.hid (HPD.out.step hb); have HR4 := Lib.hid (HR0.out.below HP4.out.bel); clear hb)
      | (go_at_call 22; (with_reducible refine (rput_any (fun b => Q b ∧ b ≠ w.heap.size + 1 ∧ b ≠ w.heap.size + 1 + 1) R n' capR L at' v _ HN.out hn2 HR4.out (fun b hb => by have := HP4.out.lt; exact ⟨HQ.out b (by omega), by omega, by omega⟩)).mono ?_); rintro r w4 ⟨R2, cap2, rfl, hx, hb⟩; rw [ptv_eq] at hx; have HP5 := Lib.hid (HP4.out.step hb); have HR5 := Lib.hid hx; clear hb hx; obtain ⟨z0, z1, z2, z3, z4, z5, z6, z7, z8, z9, z10, z11, z12⟩ := HP5.out.mc; have hfm := HP5.out.frm)
      | fail)
  go_wp2_with (fail)
  have hk : PS w (w4.setCell ⟨w.heap.size + 1, 3, none⟩ (.int .i64 ((jn : Int) + 1))) A n cap (packN c) (.int .i64 kd) (.int .i64 2) (.slice (some ⟨b, off, none⟩) tn tc) (.int .i64 ((jn : Int) + 1)) (.int .i64 p) (.int .i64 x.kind) (.int .i64 x.pc) (.int .i64 x.k.head) (.slice LA ln lc) (.int .u32 x.item) (.int .u64 x.h) (.int .u32 x.link) (.int .i64 x.tries) := (HP5.out.set3 (.int .i64 ((jn : Int) + 1)))
  have hr4 : ReadsW (fun b => Q b ∧ b ≠ w.heap.size + 1 ∧ b ≠ w.heap.size + 1 + 1) (w4.setCell ⟨w.heap.size + 1, 3, none⟩ (.int .i64 ((jn : Int) + 1))) R2 (ptq L at' v) := (HR5.out.two (.inl rfl) (upd_set1 _ (w.heap.size + 1) 3 _))
  obtain ⟨W2, hW2⟩ : ∃ W2, W2 = (w4.setCell ⟨w.heap.size + 1, 3, none⟩ (.int .i64 ((jn : Int) + 1))) := ⟨_, rfl⟩
  rw [← hW2] at hk hr4 ⊢
  clear hW2 z0 z1 z2 z3 z4 z5 z6 z7 z8 z9 z10 z11 z12 hfm
  obtain ⟨z0, z1, z2, z3, z4, z5, z6, z7, z8, z9, z10, z11, z12⟩ := hk.mc
  obtain ⟨r0, r1, r2, r3, r4, r5, r6, r7, r8, r9, r10, r11, r12⟩ := hk.res
  have hfr := hk.frr
  have HK4 := Lib.hid hk; have HR6 := Lib.hid hr4
  clear hk hr4
  go_region
  go_wp2
  obtain ⟨e0, e1, e2, e3, e4, e5, e6, e7, e8, e9, e10, e11, e12⟩ := HK4.out.putr (u0 := .int .i64 kd) (u1 := .int .i64 2) (u2 := .slice (some ⟨b, off, none⟩) tn tc) (u3 := .int .i64 ((jn : Int) + 1)) (u4 := .int .i64 p) (u5 := .int .i64 x.kind) (u6 := .int .i64 x.pc) (u7 := .int .i64 x.k.head) (u8 := .slice LA ln lc) (u9 := .int .u32 x.item) (u10 := .int .u64 x.h) (u11 := .int .u32 x.link) (u12 := .int .i64 x.tries)
  exact bodyPost_ret (v := .tuple #[.slice R2 n' cap2, .agg #[.int .i64 kd, .int .i64 2, .slice (some ⟨b, off, none⟩) tn tc, .int .i64 ((jn : Int) + 1), .int .i64 p, .int .i64 x.kind, .int .i64 x.pc, .int .i64 x.k.head, .slice LA ln lc, .int .u32 x.item, .int .u64 x.h, .int .u32 x.link, .int .i64 x.tries]]) (by simp [results, Tryz.results89, go_sem, e0, e1, e2, e3, e4, e5, e6, e7, e8, e9, e10, e11, e12]) rfl ⟨R2, cap2, _, rfl, (HR6.out.upd (put13_upd ..) fun b hb _ => ⟨hb.2.2, hb.2.2, hb.1⟩).below (Below.refl _ _).drew, ⟨some ⟨b, off, none⟩, tn, tc, LA, ln, lc, rfl, HT1.out, HT2.out.below HK4.out.putb.drew (Nat.le_refl _), HZ.out, HK0.out.below HK4.out.putb.drew (Nat.le_refl _), HTQ.out, HLQ.out⟩, HK4.out.putb.drew⟩
set_option maxHeartbeats 8000000 in
theorem rps_put_end {c : Cfg} (Q : Nat → Prop) (A : Option Addr) (n cap : Nat) (R : Option Addr) (n' capR : Nat) (L : List Int) (kd : Nat) (ts : List Int) (jn : Nat) (p : Int) (x : Sm) (T : Option Addr) (tn tc : Nat) (LA : Option Addr) (ln lc : Nat) (w : World)
    (hA : IsA w c A n) (hn : n' = L.length) (hn2 : n' ≤ 1000000) (hR : ReadsW Q w R L) (hQ : ∀ b, w.heap.size ≤ b → Q b) (ht1 : tn = ts.length) (ht2 : Reads .u64 w T ts) (hz : ln = x.k.links.length) (hK : Reads .i64 w LA x.k.links) (h4 : tn ≤ 4) (hj : jn < tn) (he : jn + 1 = tn) (hTQ : 0 < ts.length → ∀ a, T = some a → Q a.block) (hLQ : 0 < x.k.links.length → ∀ a, LA = some a → Q a.block) :
    Calls Tryz.prog 89 #[aVal A n cap (packN c), .slice R n' capR, pmV kd 2 T tn tc (jn : Int) p x.kind x.pc x.k.head LA ln lc x.item x.h x.link x.tries] w (SomePs Q w n' (ptq L (plcc c 13 p (jn : Int)) (ts.getD jn 0)) ⟨kd, 3, ts, (jn : Int) + 1, p, x⟩) := by
  have HTQ := Lib.hid hTQ; have HLQ := Lib.hid hLQ
  clear hTQ hLQ
  obtain ⟨b, off, rfl, hbl, hcl⟩ := ht2 (by omega)
  have HT2 : Hid (Reads .u64 w (some ⟨b, off, none⟩) ts) := Lib.hid (fun _ => ⟨b, off, rfl, hbl, hcl⟩)
  have hc1 := hcl jn (by omega)
  obtain ⟨v, hv⟩ : ∃ v, v = ts.getD jn 0 := ⟨_, rfl⟩
  rw [← hv] at hc1 ⊢
  have HTC : Hid (∀ w', Below w.heap.size w w' → w'.cell? ⟨b, off + jn, none⟩ = some (.int .u64 v)) := Lib.hid (fun w' hb => (hb.cell (p := ⟨b, off + jn, none⟩) hbl).trans hc1)
  have hps := PS.new w A n cap (packN c) (.int .i64 kd) (.int .i64 2) (.slice (some ⟨b, off, none⟩) tn tc) (.int .i64 (jn : Int)) (.int .i64 p) (.int .i64 x.kind) (.int .i64 x.pc) (.int .i64 x.k.head) (.slice LA ln lc) (.int .u32 x.item) (.int .u64 x.h) (.int .u32 x.link) (.int .i64 x.tries)
  have HS : Hid (∀ w', PS w w' A n cap (packN c) (.int .i64 kd) (.int .i64 2) (.slice (some ⟨b, off, none⟩) tn tc) (.int .i64 (jn : Int)) (.int .i64 p) (.int .i64 x.kind) (.int .i64 x.pc) (.int .i64 x.k.head) (.slice LA ln lc) (.int .u32 x.item) (.int .u64 x.h) (.int .u32 x.link) (.int .i64 x.tries) → (w'.cell? ⟨w.heap.size, 0, none⟩ = some (.slice A n cap) ∧ w'.cell? ⟨w.heap.size, 1, none⟩ = some (.int .i64 (packN c)) ∧ w'.cell? ⟨w.heap.size + 1, 2, none⟩ = some (.slice (some ⟨b, off, none⟩) tn tc) ∧ w'.cell? ⟨w.heap.size + 1, 3, none⟩ = some (.int .i64 (jn : Int)) ∧ w'.cell? ⟨w.heap.size + 1, 4, none⟩ = some (.int .i64 p) ∧ w'.cell? ⟨b, off + jn, none⟩ = some (.int .u64 v))) := Lib.hid (fun w' k => ⟨k.cells.1, k.cells.2, k.mc.2.2.1, k.mc.2.2.2.1, k.mc.2.2.2.2.1, HTC.out _ k.bel⟩)
  have HA := Lib.hid hA; have HN := Lib.hid hn; have HZ := Lib.hid hz; have HT1 := Lib.hid ht1; have HK0 := Lib.hid hK
  have HQ := Lib.hid hQ
  have HR0 : Hid (ReadsW (fun b => Q b ∧ b ≠ w.heap.size + 1 ∧ b ≠ w.heap.size + 1 + 1) w R L) := Lib.hid (fun h0 => by
    obtain ⟨b, off, e, hb, hp, hc⟩ := hR h0
    exact ⟨b, off, e, hb, ⟨hp, by omega, by omega⟩, hc⟩)
  have HNM : Hid (Norm ⟨13, p, (jn : Int)⟩) := Lib.hid (nrm 13 p _ (by omega) (by omega) (fun h => by omega) (fun _ h _ => absurd rfl h))
  have hj0 : (0 : Int) ≤ (jn : Int) := by omega
  have hj1 : (jn : Int) < (tn : Int) := by omega
  have d1 : ((jn : Int) + 1 == (tn : Int)) = true := by simp; omega
  obtain ⟨at', hat⟩ : ∃ a, a = plcc c 13 p (jn : Int) := ⟨_, rfl⟩
  have HAT := Lib.hid hat
  rw [← hat]
  clear hA hn hz ht1 ht2 hK hR hQ hcl hc1 hv he hat
  go_enter Tryz.func89, Tryz.ntmps89
  go_wp2_with (fail)
  obtain ⟨W, hW⟩ : ∃ W, W = ((w.alloc (.cells #[.slice A n cap, .int .i64 (packN c)] 36)).alloc (.cells #[.int .i64 kd, .int .i64 2, .slice (some ⟨b, off, none⟩) tn tc, .int .i64 (jn : Int), .int .i64 p, .int .i64 x.kind, .int .i64 x.pc, .int .i64 x.k.head, .slice LA ln lc, .int .u32 x.item, .int .u64 x.h, .int .u32 x.link, .int .i64 x.tries] 58)).alloc (.cells #[.int .i64 0, .int .i64 0, .slice none 0 0, .int .i64 0, .int .i64 0, .int .i64 0, .int .i64 0, .int .i64 0, .slice none 0 0, .int .u32 0, .int .u64 0, .int .u32 0, .int .i64 0] 58) := ⟨_, rfl⟩
  rw [← hW] at hps ⊢
  clear hW
  have hlt := hps.lt
  obtain ⟨a0, a1, z2, z3, z4, tc0⟩ := HS.out _ hps
  have HPD := Lib.hid (hps.step (Below.refl W.heap.size W).drew)
  clear hps
  go_region_held3 (fun w' => w'.cell? ⟨w.heap.size, 0, none⟩ = some (.slice A n cap) ∧ w'.cell? ⟨w.heap.size, 1, none⟩ = some (.int .i64 (packN c)) ∧ w'.cell? ⟨w.heap.size + 1, 2, none⟩ = some (.slice (some ⟨b, off, none⟩) tn tc) ∧ w'.cell? ⟨w.heap.size + 1, 3, none⟩ = some (.int .i64 (jn : Int)) ∧ w'.cell? ⟨w.heap.size + 1, 4, none⟩ = some (.int .i64 p) ∧ w'.cell? ⟨b, off + jn, none⟩ = some (.int .u64 v))
    (first | (with_reducible exact HS.out _ HP5.out) | (with_reducible exact HS.out _ HP4.out) | (with_reducible exact HS.out _ HPD.out) | go_keep)
    (first
      | (go_at_call 54; (with_reducible refine (rat_any c A n cap _ 13 p (jn : Int) _ (HA.out.below HPD.out.bel) HNM.out).mono ?_); rintro r w3 ⟨rfl, hb⟩; rw [← HAT.out]; have HP4 := Lib.hid (HPD.out.step hb); have HR4 := Lib.hid (HR0.out.below HP4.out.bel); clear hb)
      | (go_at_call 22; (with_reducible refine (rput_any (fun b => Q b ∧ b ≠ w.heap.size + 1 ∧ b ≠ w.heap.size + 1 + 1) R n' capR L at' v _ HN.out hn2 HR4.out (fun b hb => by have := HP4.out.lt; exact ⟨HQ.out b (by omega), by omega, by omega⟩)).mono ?_); rintro r w4 ⟨R2, cap2, rfl, hx, hb⟩; rw [ptv_eq] at hx; have HP5 := Lib.hid (HP4.out.step hb); have HR5 := Lib.hid hx; clear hb hx; obtain ⟨z0, z1, z2, z3, z4, z5, z6, z7, z8, z9, z10, z11, z12⟩ := HP5.out.mc; have hfm := HP5.out.frm)
      | fail)
  go_wp2_with (fail)
  have hk : PS w ((w4.setCell ⟨w.heap.size + 1, 3, none⟩ (.int .i64 ((jn : Int) + 1))).setCell ⟨w.heap.size + 1, 1, none⟩ (.int .i64 3)) A n cap (packN c) (.int .i64 kd) (.int .i64 3) (.slice (some ⟨b, off, none⟩) tn tc) (.int .i64 ((jn : Int) + 1)) (.int .i64 p) (.int .i64 x.kind) (.int .i64 x.pc) (.int .i64 x.k.head) (.slice LA ln lc) (.int .u32 x.item) (.int .u64 x.h) (.int .u32 x.link) (.int .i64 x.tries) := ((HP5.out.set3 (.int .i64 ((jn : Int) + 1))).set1 (.int .i64 3))
  have hr4 : ReadsW (fun b => Q b ∧ b ≠ w.heap.size + 1 ∧ b ≠ w.heap.size + 1 + 1) ((w4.setCell ⟨w.heap.size + 1, 3, none⟩ (.int .i64 ((jn : Int) + 1))).setCell ⟨w.heap.size + 1, 1, none⟩ (.int .i64 3)) R2 (ptq L at' v) := ((HR5.out.two (.inl rfl) (upd_set1 _ (w.heap.size + 1) 3 _)).two (.inl rfl) (upd_set1 _ (w.heap.size + 1) 1 _))
  obtain ⟨W2, hW2⟩ : ∃ W2, W2 = ((w4.setCell ⟨w.heap.size + 1, 3, none⟩ (.int .i64 ((jn : Int) + 1))).setCell ⟨w.heap.size + 1, 1, none⟩ (.int .i64 3)) := ⟨_, rfl⟩
  rw [← hW2] at hk hr4 ⊢
  clear hW2 z0 z1 z2 z3 z4 z5 z6 z7 z8 z9 z10 z11 z12 hfm
  obtain ⟨z0, z1, z2, z3, z4, z5, z6, z7, z8, z9, z10, z11, z12⟩ := hk.mc
  obtain ⟨r0, r1, r2, r3, r4, r5, r6, r7, r8, r9, r10, r11, r12⟩ := hk.res
  have hfr := hk.frr
  have HK4 := Lib.hid hk; have HR6 := Lib.hid hr4
  clear hk hr4
  go_region
  go_wp2
  obtain ⟨e0, e1, e2, e3, e4, e5, e6, e7, e8, e9, e10, e11, e12⟩ := HK4.out.putr (u0 := .int .i64 kd) (u1 := .int .i64 3) (u2 := .slice (some ⟨b, off, none⟩) tn tc) (u3 := .int .i64 ((jn : Int) + 1)) (u4 := .int .i64 p) (u5 := .int .i64 x.kind) (u6 := .int .i64 x.pc) (u7 := .int .i64 x.k.head) (u8 := .slice LA ln lc) (u9 := .int .u32 x.item) (u10 := .int .u64 x.h) (u11 := .int .u32 x.link) (u12 := .int .i64 x.tries)
  exact bodyPost_ret (v := .tuple #[.slice R2 n' cap2, .agg #[.int .i64 kd, .int .i64 3, .slice (some ⟨b, off, none⟩) tn tc, .int .i64 ((jn : Int) + 1), .int .i64 p, .int .i64 x.kind, .int .i64 x.pc, .int .i64 x.k.head, .slice LA ln lc, .int .u32 x.item, .int .u64 x.h, .int .u32 x.link, .int .i64 x.tries]]) (by simp [results, Tryz.results89, go_sem, e0, e1, e2, e3, e4, e5, e6, e7, e8, e9, e10, e11, e12]) rfl ⟨R2, cap2, _, rfl, (HR6.out.upd (put13_upd ..) fun b hb _ => ⟨hb.2.2, hb.2.2, hb.1⟩).below (Below.refl _ _).drew, ⟨some ⟨b, off, none⟩, tn, tc, LA, ln, lc, rfl, HT1.out, HT2.out.below HK4.out.putb.drew (Nat.le_refl _), HZ.out, HK0.out.below HK4.out.putb.drew (Nat.le_refl _), HTQ.out, HLQ.out⟩, HK4.out.putb.drew⟩
set_option maxHeartbeats 8000000 in
theorem rps_many {c : Cfg} (hc : OkC c) (Q : Nat → Prop) (A : Option Addr) (n cap : Nat) (R : Option Addr) (n' capR : Nat) (L : List Int) (kd : Nat) (ts : List Int) (j p : Int) (x : Sm) (T : Option Addr) (tn tc : Nat) (LA : Option Addr) (ln lc : Nat) (w : World)
    (hA : IsA w c A n) (hn : n' = L.length) (hn2 : n' ≤ 1000000) (hR : ReadsW Q w R L) (hQ : ∀ b, w.heap.size ≤ b → Q b) (ht1 : tn = ts.length) (ht2 : Reads .u64 w T ts) (h4 : tn ≤ 4) (hp : 0 ≤ p ∧ p ≤ 4294967295) (hTQ : 0 < ts.length → ∀ a, T = some a → Q a.block) (hLQ : 0 < x.k.links.length → ∀ a, LA = some a → Q a.block) :
    Calls Tryz.prog 89 #[aVal A n cap (packN c), .slice R n' capR, pmV kd 3 T tn tc j p x.kind x.pc x.k.head LA ln lc x.item x.h x.link x.tries] w (SomePs Q w n' (ptq L (plcc c 11 p 0) (ts.length : Int)) ⟨kd, 4, ts, j, p, mPush (poK c) p⟩) := by
  have HTQ := Lib.hid hTQ; have HLQ := Lib.hid hLQ
  clear hTQ hLQ
  rw [← ht1]
  have hps := PS.new w A n cap (packN c) (.int .i64 kd) (.int .i64 3) (.slice T tn tc) (.int .i64 j) (.int .i64 p) (.int .i64 x.kind) (.int .i64 x.pc) (.int .i64 x.k.head) (.slice LA ln lc) (.int .u32 x.item) (.int .u64 x.h) (.int .u32 x.link) (.int .i64 x.tries)
  have HS : Hid (∀ w', PS w w' A n cap (packN c) (.int .i64 kd) (.int .i64 3) (.slice T tn tc) (.int .i64 j) (.int .i64 p) (.int .i64 x.kind) (.int .i64 x.pc) (.int .i64 x.k.head) (.slice LA ln lc) (.int .u32 x.item) (.int .u64 x.h) (.int .u32 x.link) (.int .i64 x.tries) → (w'.cell? ⟨w.heap.size, 0, none⟩ = some (.slice A n cap) ∧ w'.cell? ⟨w.heap.size, 1, none⟩ = some (.int .i64 (packN c)) ∧ w'.cell? ⟨w.heap.size + 1, 2, none⟩ = some (.slice T tn tc) ∧ w'.cell? ⟨w.heap.size + 1, 4, none⟩ = some (.int .i64 p))) := Lib.hid (fun w' k => ⟨k.cells.1, k.cells.2, k.mc.2.2.1, k.mc.2.2.2.2.1⟩)
  have HS4 : Hid (∀ w', PS w w' A n cap (packN c) (.int .i64 kd) (.int .i64 3) (.slice T tn tc) (.int .i64 j) (.int .i64 p) (.int .i64 x.kind) (.int .i64 x.pc) (.int .i64 x.k.head) (.slice LA ln lc) (.int .u32 x.item) (.int .u64 x.h) (.int .u32 x.link) (.int .i64 x.tries) → (w'.cell? ⟨w.heap.size, 0, none⟩ = some (.slice A n cap) ∧ w'.cell? ⟨w.heap.size, 1, none⟩ = some (.int .i64 (packN c)) ∧ w'.cell? ⟨w.heap.size + 1, 4, none⟩ = some (.int .i64 p))) := Lib.hid (fun w' k => ⟨k.cells.1, k.cells.2, k.mc.2.2.2.2.1⟩)
  have HS5 : Hid (∀ w' K kn kc, PS w w' A n cap (packN c) (.int .i64 kd) (.int .i64 3) (.slice T tn tc) (.int .i64 j) (.int .i64 p) (.int .i64 1) (.int .i64 1) (.int .i64 (plcc c 4 0 0)) (.slice K kn kc) (.int .u32 (itemOf p)) (.int .u64 0) (.int .u32 0) (.int .i64 0) → (w'.cell? ⟨w.heap.size, 0, none⟩ = some (.slice A n cap) ∧ w'.cell? ⟨w.heap.size, 1, none⟩ = some (.int .i64 (packN c)) ∧ w'.cell? ⟨w.heap.size + 1, 4, none⟩ = some (.int .i64 p))) := Lib.hid (fun w' K kn kc k => ⟨k.cells.1, k.cells.2, k.mc.2.2.2.2.1⟩)
  have HA := Lib.hid hA; have HN := Lib.hid hn; have HT1 := Lib.hid ht1; have HT2 := Lib.hid ht2
  have HQ := Lib.hid hQ
  have HPR : Hid (-9223372036854775808 ≤ p ∧ p ≤ 9223372036854775807) := Lib.hid (by omega)
  have HR0 : Hid (ReadsW (fun b => Q b ∧ b ≠ w.heap.size + 1 ∧ b ≠ w.heap.size + 1 + 1) w R L) := Lib.hid (fun h0 => by
    obtain ⟨b, off, e, hb, hp, hc⟩ := hR h0
    exact ⟨b, off, e, hb, ⟨hp, by omega, by omega⟩, hc⟩)
  have HNM : Hid (Norm ⟨11, p, 0⟩) := Lib.hid (nrm 11 p 0 (by omega) (by omega) (fun h => by omega) (fun _ _ _ => rfl))
  have hw : IntKind.u64.wrap (tn : Int) = (tn : Int) := by rw [IntKind.wrap_u64]; omega
  obtain ⟨at', hat⟩ : ∃ a, a = plcc c 11 p 0 := ⟨_, rfl⟩
  have HAT := Lib.hid hat
  rw [← hat]
  clear hA hn ht1 ht2 hR hQ hat
  go_enter Tryz.func89, Tryz.ntmps89
  go_wp2_with (fail)
  obtain ⟨W, hW⟩ : ∃ W, W = ((w.alloc (.cells #[.slice A n cap, .int .i64 (packN c)] 36)).alloc (.cells #[.int .i64 kd, .int .i64 3, .slice T tn tc, .int .i64 j, .int .i64 p, .int .i64 x.kind, .int .i64 x.pc, .int .i64 x.k.head, .slice LA ln lc, .int .u32 x.item, .int .u64 x.h, .int .u32 x.link, .int .i64 x.tries] 58)).alloc (.cells #[.int .i64 0, .int .i64 0, .slice none 0 0, .int .i64 0, .int .i64 0, .int .i64 0, .int .i64 0, .int .i64 0, .slice none 0 0, .int .u32 0, .int .u64 0, .int .u32 0, .int .i64 0] 58) := ⟨_, rfl⟩
  rw [← hW] at hps ⊢
  clear hW
  have hlt := hps.lt
  obtain ⟨a0, a1, z2, z4⟩ := HS.out _ hps
  have HPD := Lib.hid (hps.step (Below.refl W.heap.size W).drew)
  clear hps
  go_region_held3 (fun w' => w'.cell? ⟨w.heap.size, 0, none⟩ = some (.slice A n cap) ∧ w'.cell? ⟨w.heap.size, 1, none⟩ = some (.int .i64 (packN c)) ∧ w'.cell? ⟨w.heap.size + 1, 2, none⟩ = some (.slice T tn tc) ∧ w'.cell? ⟨w.heap.size + 1, 4, none⟩ = some (.int .i64 p))
    (first | (with_reducible exact HS.out _ HP5.out) | (with_reducible exact HS.out _ HP4.out) | (with_reducible exact HS.out _ HPD.out) | go_keep)
    (first
      | (go_at_call 54; (with_reducible refine (rat_any c A n cap _ 11 p 0 _ (HA.out.below HPD.out.bel) HNM.out).mono ?_); rintro r w3 ⟨rfl, hb⟩; rw [← HAT.out]; have HP4 := Lib.hid (HPD.out.step hb); have HR4 := Lib.hid (HR0.out.below HP4.out.bel); clear hb)
      | (go_at_call 22; (with_reducible refine (rput_any (fun b => Q b ∧ b ≠ w.heap.size + 1 ∧ b ≠ w.heap.size + 1 + 1) R n' capR L at' (tn : Int) _ HN.out hn2 HR4.out (fun b hb => by have := HP4.out.lt; exact ⟨HQ.out b (by omega), by omega, by omega⟩)).mono ?_); rintro r w4 ⟨R2, cap2, rfl, hx, hb⟩; rw [ptv_eq] at hx; have HP5 := Lib.hid (HP4.out.step hb); have HR5 := Lib.hid hx; clear hb hx)
      | fail)
  obtain ⟨b0, b1, y4⟩ := HS4.out _ HP5.out
  have HPE := Lib.hid (HP5.out.step (Below.refl _ _).drew)
  have HRE := Lib.hid (HR5.out.below (Below.refl _ _).drew)
  clear a0 a1 z2 z4
  go_wp2_with (fail)
  go_region_held3 (fun w' => w'.cell? ⟨w.heap.size, 0, none⟩ = some (.slice A n cap) ∧ w'.cell? ⟨w.heap.size, 1, none⟩ = some (.int .i64 (packN c)) ∧ w'.cell? ⟨w.heap.size + 1, 4, none⟩ = some (.int .i64 p))
    (first | (with_reducible exact HS5.out _ K kn kc (HP7.out.set8 (.int .i64 1) (.int .i64 1) (.int .i64 (plcc c 4 0 0)) (.slice K kn kc) (.int .u32 (itemOf p)) (.int .u64 0) (.int .u32 0) (.int .i64 0))) | (with_reducible exact HS4.out _ HP7.out) | (with_reducible exact HS4.out _ HP6.out) | (with_reducible exact HS4.out _ HPE.out) | go_keep)
    (first
      | (go_at_call 112; (with_reducible refine (rstack_hi hc A n cap 4 _ (HA.out.below HPE.out.bel) (by decide)).mono ?_); rintro r w5 ⟨K, kn, kc, rfl, hn, hr, hb, hk⟩; have HP6 := Lib.hid (HPE.out.step hb); have HR6 := Lib.hid (HRE.out.below hb); have HKN := Lib.hid hn; have HKR := Lib.hid hr; have HKB := Lib.hid (HPE.out.hiK hk); have HKQ : Hid (∀ a, K = some a → Q a.block) := Lib.hid (fun a e => HQ.out _ (by have := hk a e; have := HPE.out.bel.size; omega)); clear hb hr hn hk)
      | (go_at_call 114; (with_reducible refine (rpush_any _ K kn kc p _ HPR.out).mono ?_); rintro r w6 ⟨rfl, hb⟩; have HP7 := Lib.hid (HP6.out.step hb); have HR7 := Lib.hid (HR6.out.below hb); have HKR7 := Lib.hid (HKR.out.below hb (Nat.le_refl _)); clear hb; obtain ⟨z0, z1, z2, z3, z4, z5, z6, z7, z8, z9, z10, z11, z12⟩ := HP7.out.mc; have hfm := HP7.out.frm)
      | fail)
  go_wp2_with (fail)
  have hk : PS w (((((((((w6.setCell ⟨w.heap.size + 1, 5, none⟩ (.int .i64 1)).setCell ⟨w.heap.size + 1, 6, none⟩ (.int .i64 1)).setCell ⟨w.heap.size + 1, 7, none⟩ (.int .i64 (plcc c 4 0 0))).setCell ⟨w.heap.size + 1, 8, none⟩ (.slice K kn kc)).setCell ⟨w.heap.size + 1, 9, none⟩ (.int .u32 (itemOf p))).setCell ⟨w.heap.size + 1, 10, none⟩ (.int .u64 0)).setCell ⟨w.heap.size + 1, 11, none⟩ (.int .u32 0)).setCell ⟨w.heap.size + 1, 12, none⟩ (.int .i64 0)).setCell ⟨w.heap.size + 1, 1, none⟩ (.int .i64 4)) A n cap (packN c) (.int .i64 kd) (.int .i64 4) (.slice T tn tc) (.int .i64 j) (.int .i64 p) (.int .i64 1) (.int .i64 1) (.int .i64 (plcc c 4 0 0)) (.slice K kn kc) (.int .u32 (itemOf p)) (.int .u64 0) (.int .u32 0) (.int .i64 0) := (HP7.out.set8 (.int .i64 1) (.int .i64 1) (.int .i64 (plcc c 4 0 0)) (.slice K kn kc) (.int .u32 (itemOf p)) (.int .u64 0) (.int .u32 0) (.int .i64 0)).set1 (.int .i64 4)
  have hr4 : ReadsW (fun b => Q b ∧ b ≠ w.heap.size + 1 ∧ b ≠ w.heap.size + 1 + 1) (((((((((w6.setCell ⟨w.heap.size + 1, 5, none⟩ (.int .i64 1)).setCell ⟨w.heap.size + 1, 6, none⟩ (.int .i64 1)).setCell ⟨w.heap.size + 1, 7, none⟩ (.int .i64 (plcc c 4 0 0))).setCell ⟨w.heap.size + 1, 8, none⟩ (.slice K kn kc)).setCell ⟨w.heap.size + 1, 9, none⟩ (.int .u32 (itemOf p))).setCell ⟨w.heap.size + 1, 10, none⟩ (.int .u64 0)).setCell ⟨w.heap.size + 1, 11, none⟩ (.int .u32 0)).setCell ⟨w.heap.size + 1, 12, none⟩ (.int .i64 0)).setCell ⟨w.heap.size + 1, 1, none⟩ (.int .i64 4)) R2 (ptq L at' (tn : Int)) := (HR7.out.two (.inl rfl) (put8o_upd _ _ (.int .i64 1) (.int .i64 1) (.int .i64 (plcc c 4 0 0)) (.slice K kn kc) (.int .u32 (itemOf p)) (.int .u64 0) (.int .u32 0) (.int .i64 0))).two (.inl rfl) (upd_set1 _ (w.heap.size + 1) 1 _)
  have hkr : Reads .i64 (((((((((w6.setCell ⟨w.heap.size + 1, 5, none⟩ (.int .i64 1)).setCell ⟨w.heap.size + 1, 6, none⟩ (.int .i64 1)).setCell ⟨w.heap.size + 1, 7, none⟩ (.int .i64 (plcc c 4 0 0))).setCell ⟨w.heap.size + 1, 8, none⟩ (.slice K kn kc)).setCell ⟨w.heap.size + 1, 9, none⟩ (.int .u32 (itemOf p))).setCell ⟨w.heap.size + 1, 10, none⟩ (.int .u64 0)).setCell ⟨w.heap.size + 1, 11, none⟩ (.int .u32 0)).setCell ⟨w.heap.size + 1, 12, none⟩ (.int .i64 0)).setCell ⟨w.heap.size + 1, 1, none⟩ (.int .i64 4)) K (lnkL c) := (HKR7.out.put (put8o_upd _ (w.heap.size + 1) (.int .i64 1) (.int .i64 1) (.int .i64 (plcc c 4 0 0)) (.slice K kn kc) (.int .u32 (itemOf p)) (.int .u64 0) (.int .u32 0) (.int .i64 0)) fun a e => (HKB.out a e).1).put (upd_set1 _ (w.heap.size + 1) 1 _) fun a e => (HKB.out a e).1
  obtain ⟨W2, hW2⟩ : ∃ W2, W2 = (((((((((w6.setCell ⟨w.heap.size + 1, 5, none⟩ (.int .i64 1)).setCell ⟨w.heap.size + 1, 6, none⟩ (.int .i64 1)).setCell ⟨w.heap.size + 1, 7, none⟩ (.int .i64 (plcc c 4 0 0))).setCell ⟨w.heap.size + 1, 8, none⟩ (.slice K kn kc)).setCell ⟨w.heap.size + 1, 9, none⟩ (.int .u32 (itemOf p))).setCell ⟨w.heap.size + 1, 10, none⟩ (.int .u64 0)).setCell ⟨w.heap.size + 1, 11, none⟩ (.int .u32 0)).setCell ⟨w.heap.size + 1, 12, none⟩ (.int .i64 0)).setCell ⟨w.heap.size + 1, 1, none⟩ (.int .i64 4)) := ⟨_, rfl⟩
  rw [← hW2] at hk hr4 hkr ⊢
  clear hW2 z0 z1 z2 z3 z4 z5 z6 z7 z8 z9 z10 z11 z12 hfm
  obtain ⟨z0, z1, z2, z3, z4, z5, z6, z7, z8, z9, z10, z11, z12⟩ := hk.mc
  obtain ⟨r0, r1, r2, r3, r4, r5, r6, r7, r8, r9, r10, r11, r12⟩ := hk.res
  have hfr := hk.frr
  have HK4 := Lib.hid hk; have HR8 := Lib.hid hr4; have HKR4 := Lib.hid hkr
  clear hk hr4 hkr
  go_region
  go_wp2
  obtain ⟨e0, e1, e2, e3, e4, e5, e6, e7, e8, e9, e10, e11, e12⟩ := HK4.out.putr (u0 := .int .i64 kd) (u1 := .int .i64 4) (u2 := .slice T tn tc) (u3 := .int .i64 j) (u4 := .int .i64 p) (u5 := .int .i64 1) (u6 := .int .i64 1) (u7 := .int .i64 (plcc c 4 0 0)) (u8 := .slice K kn kc) (u9 := .int .u32 (itemOf p)) (u10 := .int .u64 0) (u11 := .int .u32 0) (u12 := .int .i64 0)
  exact bodyPost_ret (v := .tuple #[.slice R2 n' cap2, .agg #[.int .i64 kd, .int .i64 4, .slice T tn tc, .int .i64 j, .int .i64 p, .int .i64 1, .int .i64 1, .int .i64 (plcc c 4 0 0), .slice K kn kc, .int .u32 (itemOf p), .int .u64 0, .int .u32 0, .int .i64 0]]) (by simp [results, Tryz.results89, go_sem, e0, e1, e2, e3, e4, e5, e6, e7, e8, e9, e10, e11, e12]) rfl ⟨R2, cap2, _, rfl, (HR8.out.upd (put13_upd ..) fun b hb _ => ⟨hb.2.2, hb.2.2, hb.1⟩).below (Below.refl _ _).drew, ⟨T, tn, tc, K, kn, kc, rfl, HT1.out, HT2.out.below HK4.out.putb.drew (Nat.le_refl _), HKN.out, (HKR4.out.put (put13_upd ..) fun a e => (HKB.out a e).2).below (Below.refl _ _).drew (Nat.le_refl _), HTQ.out, fun _ => HKQ.out⟩, HK4.out.putb.drew⟩
set_option maxHeartbeats 8000000 in
theorem rps_0 (Q : Nat → Prop) (A : Option Addr) (n cap : Nat) (P : Int) (R : Option Addr) (n' capR : Nat) (L : List Int) (kd : Nat) (ts : List Int) (j p : Int) (x : Sm) (T : Option Addr) (tn tc : Nat) (LA : Option Addr) (ln lc : Nat) (w : World)
    (hR : ReadsW Q w R L) (ht1 : tn = ts.length) (ht2 : Reads .u64 w T ts) (hz : ln = x.k.links.length) (hK : Reads .i64 w LA x.k.links) (hTQ : 0 < ts.length → ∀ a, T = some a → Q a.block) (hLQ : 0 < x.k.links.length → ∀ a, LA = some a → Q a.block) :
    Calls Tryz.prog 89 #[aVal A n cap P, .slice R n' capR, pmV kd 0 T tn tc j p x.kind x.pc x.k.head LA ln lc x.item x.h x.link x.tries] w (SomePs Q w n' L ⟨kd, 0, ts, j, p, x⟩) := by
  have HTQ := Lib.hid hTQ; have HLQ := Lib.hid hLQ
  clear hTQ hLQ
  have hb := (PS.new w A n cap P (.int .i64 kd) (.int .i64 0) (.slice T tn tc) (.int .i64 j) (.int .i64 p) (.int .i64 x.kind) (.int .i64 x.pc) (.int .i64 x.k.head) (.slice LA ln lc) (.int .u32 x.item) (.int .u64 x.h) (.int .u32 x.link) (.int .i64 x.tries)).bel
  have HB := Lib.hid hb; have HR := Lib.hid hR; have HT1 := Lib.hid ht1; have HT2 := Lib.hid ht2; have HZ := Lib.hid hz; have HK := Lib.hid hK
  have HB2 := Lib.hid (below_alloc0 (below_alloc0 (below_alloc0 (Below.refl w.heap.size w) (.cells #[.slice A n cap, .int .i64 P] 36)) (.cells #[.int .i64 kd, .int .i64 0, .slice T tn tc, .int .i64 j, .int .i64 p, .int .i64 x.kind, .int .i64 x.pc, .int .i64 x.k.head, .slice LA ln lc, .int .u32 x.item, .int .u64 x.h, .int .u32 x.link, .int .i64 x.tries] 58)) (.cells #[.int .i64 kd, .int .i64 0, .slice T tn tc, .int .i64 j, .int .i64 p, .int .i64 x.kind, .int .i64 x.pc, .int .i64 x.k.head, .slice LA ln lc, .int .u32 x.item, .int .u64 x.h, .int .u32 x.link, .int .i64 x.tries] 58)).drew
  clear hb hR ht1 ht2 hz hK HB
  go_enter Tryz.func89, Tryz.ntmps89
  go_wp2_with (fail)
  go_region
  go_wp2
  exact bodyPost_ret (v := .tuple #[.slice R n' capR, .agg #[.int .i64 kd, .int .i64 0, .slice T tn tc, .int .i64 j, .int .i64 p, .int .i64 x.kind, .int .i64 x.pc, .int .i64 x.k.head, .slice LA ln lc, .int .u32 x.item, .int .u64 x.h, .int .u32 x.link, .int .i64 x.tries]]) (by simp [results, Tryz.results89, go_sem]) rfl ⟨R, capR, _, rfl, HR.out.below HB2.out, ⟨T, tn, tc, LA, ln, lc, rfl, HT1.out, HT2.out.below HB2.out (Nat.le_refl _), HZ.out, HK.out.below HB2.out (Nat.le_refl _), HTQ.out, HLQ.out⟩, HB2.out⟩
end Go.Proofs.YtpocihddecemfaaGreat
