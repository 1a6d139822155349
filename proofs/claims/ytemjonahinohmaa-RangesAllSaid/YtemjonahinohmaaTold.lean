/- Pieces told one by one: the closure, and where it keeps what it needs. -/
import Derived.Test.YtemjonahinohmaaSmall
namespace Go.Proofs.Ytemjonahinohmaa
open Go.RowKit
set_option linter.unusedVariables false

/-- What the closure keeps: how many slots, the chunk, from where the next piece goes, and whether there is one. -/
structure Tld (w : World) (N : Nat) (s c f : Int) (m : Bool) : Prop where
  bs : w.heap[N]? = some (.cells #[.int .i64 s] 3 (0, 0))
  bc : w.heap[N + 1]? = some (.cells #[.int .i64 c] 3 (0, 0))
  bf : w.heap[N + 2]? = some (.cells #[.int .i64 f] 3 (0, 0))
  bm : w.heap[N + 3]? = some (.cells #[.bool m] 4 (0, 0))
variable {w w' : World} {N : Nat} {s c f : Int} {m : Bool}
theorem Tld.lt (h : Tld w N s c f m) : N + 3 < w.heap.size := (Array.getElem?_eq_some_iff.1 h.bm).1
theorem Tld.below (h : Tld w N s c f m) (hb : Below w.heap.size w w') : Tld w' N s c f m := by
  have := h.lt
  exact ⟨(hb.block _ (by omega)).trans h.bs, (hb.block _ (by omega)).trans h.bc, (hb.block _ (by omega)).trans h.bf, (hb.block _ (by omega)).trans h.bm⟩
theorem Tld.set (h : Tld w N s c f m) (f' : Int) (m' : Bool) : Tld ((w.setCell ⟨N + 3, 0, none⟩ (.bool m')).setCell ⟨N + 2, 0, none⟩ (.int .i64 f')) N s c f' m' := by
  refine ⟨?_, ?_, ?_, ?_⟩
  · rw [heap_setCell_other _ _ _ _ (show N ≠ N + 2 by omega), heap_setCell_other _ _ _ _ (show N ≠ N + 3 by omega)]; exact h.bs
  · rw [heap_setCell_other _ _ _ _ (show N + 1 ≠ N + 2 by omega), heap_setCell_other _ _ _ _ (show N + 1 ≠ N + 3 by omega)]; exact h.bc
  · rw [heap_setCell_same _ (N + 2) 0 #[.int .i64 f] 3 _ (by rw [heap_setCell_other _ _ _ _ (show N + 2 ≠ N + 3 by omega)]; exact h.bf)]; rfl
  · rw [heap_setCell_other _ _ _ _ (show N + 3 ≠ N + 2 by omega), heap_setCell_same _ (N + 3) 0 #[.bool m] 4 _ h.bm]; rfl
theorem Tld.cells (h : Tld w N s c f m) : w.cell? ⟨N, 0, none⟩ = some (.int .i64 s) ∧ w.cell? ⟨N + 1, 0, none⟩ = some (.int .i64 c) ∧ w.cell? ⟨N + 2, 0, none⟩ = some (.int .i64 f) ∧ w.cell? ⟨N + 3, 0, none⟩ = some (.bool m) := by
  obtain ⟨h0, h1, h2, h3⟩ := h
  exact ⟨by simp [World.cell?, h0], by simp [World.cell?, h1], by simp [World.cell?, h2], by simp [World.cell?, h3]⟩
theorem Tld.fro (h : Tld w N s c f m) : w.frozen? ⟨N + 2, 0, none⟩ = false ∧ w.frozen? ⟨N + 3, 0, none⟩ = false := ⟨frozen_of_row w (N + 2) 0 _ _ h.bf, frozen_of_row w (N + 3) 0 _ _ h.bm⟩
theorem Tld.other (h : Tld w N s c f m) {p : Addr} (hp : w.heap.size ≤ p.block ∨ N + 3 < p.block) (v : Value) : Tld (w.setCell p v) N s c f m := by
  have := h.lt
  refine ⟨?_, ?_, ?_, ?_⟩
  · rw [heap_setCell_other _ _ _ _ (by omega)]; exact h.bs
  · rw [heap_setCell_other _ _ _ _ (by omega)]; exact h.bc
  · rw [heap_setCell_other _ _ _ _ (by omega)]; exact h.bf
  · rw [heap_setCell_other _ _ _ _ (by omega)]; exact h.bm

theorem bcell {W w1 : World} (hb : Below W.heap.size W w1) : (∀ b o, b < W.heap.size → w1.cell? ⟨b, o, none⟩ = W.cell? ⟨b, o, none⟩) ∧ (∀ b o, b < W.heap.size → w1.frozen? ⟨b, o, none⟩ = W.frozen? ⟨b, o, none⟩) :=
  ⟨fun b o h => hb.cell (p := ⟨b, o, none⟩) h, fun b o h => hb.frozen (p := ⟨b, o, none⟩) h⟩

theorem adr_ne {b b' o o' : Nat} (h : b ≠ b' ∨ o ≠ o') : (⟨b, o, none⟩ : Addr) ≠ ⟨b', o', none⟩ := by
  intro e; injection e with e1 e2; omega
theorem put2_cells {w : World} {k : Nat} {a0 a1 : Value} (h0 : w.cell? ⟨k, 0, none⟩ = some a0) (h1 : w.cell? ⟨k, 1, none⟩ = some a1) (u0 u1 : Value) :
    ((w.setCell ⟨k, 0, none⟩ u0).setCell ⟨k, 1, none⟩ u1).cell? ⟨k, 0, none⟩ = some u0 ∧ ((w.setCell ⟨k, 0, none⟩ u0).setCell ⟨k, 1, none⟩ u1).cell? ⟨k, 1, none⟩ = some u1 := by
  refine ⟨?_, ?_⟩
  · rw [World.cell?_setCell_other _ _ _ _ (adr_ne (.inr (by omega)))]
    exact World.cell?_setCell_same _ _ _ h0
  · refine World.cell?_setCell_same _ _ _ (u := a1) ?_
    rw [World.cell?_setCell_other _ _ _ _ (adr_ne (.inr (by omega)))]; exact h1
theorem new2 (w : World) (u0 u1 : Value) (T : TypeId) (b : Obj) : ((w.alloc (.cells #[u0, u1] T)).alloc b).cell? ⟨w.heap.size, 0, none⟩ = some u0 ∧ ((w.alloc (.cells #[u0, u1] T)).alloc b).cell? ⟨w.heap.size, 1, none⟩ = some u1 := by
  have h : ∀ o, ((w.alloc (.cells #[u0, u1] T)).alloc b).cell? ⟨w.heap.size, o, none⟩ = (w.alloc (.cells #[u0, u1] T)).cell? ⟨w.heap.size, o, none⟩ := fun o =>
    World.cell?_of_block (a := ⟨w.heap.size, o, none⟩) (heap_alloc_old _ _ (by simp))
  refine ⟨(h 0).trans ?_, (h 1).trans ?_⟩
  · rw [World.cell?_alloc_at _ _ _ _ rfl]; rfl
  · rw [World.cell?_alloc_at _ _ _ _ rfl]; rfl
theorem boxes (w : World) (a b c d : Obj) : ((((w.alloc a).alloc b).alloc c).alloc d).heap[w.heap.size]? = some a ∧ ((((w.alloc a).alloc b).alloc c).alloc d).heap[w.heap.size + 1]? = some b ∧
    ((((w.alloc a).alloc b).alloc c).alloc d).heap[w.heap.size + 2]? = some c ∧ ((((w.alloc a).alloc b).alloc c).alloc d).heap[w.heap.size + 3]? = some d := by
  refine ⟨?_, ?_, ?_, ?_⟩
  · rw [heap_alloc_old _ _ (by simp; omega), heap_alloc_old _ _ (by simp; omega), heap_alloc_old _ _ (by simp)]; exact heap_alloc_new w a
  · rw [heap_alloc_old _ _ (by simp), heap_alloc_old _ _ (by simp), show w.heap.size + 1 = (w.alloc a).heap.size by simp]; exact heap_alloc_new _ b
  · rw [heap_alloc_old _ _ (by simp), show w.heap.size + 2 = ((w.alloc a).alloc b).heap.size by simp]; exact heap_alloc_new _ c
  · rw [show w.heap.size + 3 = (((w.alloc a).alloc b).alloc c).heap.size by simp]; exact heap_alloc_new _ d
theorem Upd.new {S D : Nat} {a w : World} (h : Upd S D a w) {p : Addr} (hp : a.heap.size ≤ p.block) (v : Value) : Upd S D a (w.setCell p v) :=
  ⟨h.os, h.tape, h.output, by simpa using h.size, fun k hk h1 h2 => (heap_setCell_other w p k v (by omega)).trans (h.block k hk h1 h2)⟩

set_option maxHeartbeats 1000000 in
theorem tell_no (w : World) (h : Tld w N s c f false) :
    Calls Try.prog 20 #[ptr (N + 3), ptr N, ptr (N + 2), ptr (N + 1)] w fun e w' => e = .returned (.agg #[.int .i64 (-1), .int .i64 (-1)]) ∧ Below w.heap.size w w' := by
  obtain ⟨c0, c1, c2, c3⟩ := h.cells
  have hlt := h.lt
  clear h
  go_enter Try.func20, Try.ntmps20
  go_wp2_with (first
    | (go_at_call 19; (with_reducible refine (none_any _).mono ?_); rintro e w1 ⟨rfl, hb⟩; obtain ⟨hc, hf⟩ := bcell hb)
    | fail)
  exact bodyPost_ret (v := .agg #[.int .i64 (-1), .int .i64 (-1)]) (by simp [results, Try.results20, go_sem, hc]) rfl ⟨rfl, ((((Below.refl _ _).alloc (Nat.le_refl _) _).trans (hb.mono (by simp))).setCell (by simp) _).setCell (by simp) _⟩

set_option maxHeartbeats 1000000 in
theorem tell_yes (w : World) (h : Tld w N s c f true) {S C F T : Int} {b : Bool} (hx : Nx s f c S C F T) (hb : decide (T < S) = b) :
    Calls Try.prog 20 #[ptr (N + 3), ptr N, ptr (N + 2), ptr (N + 1)] w fun e w' => e = .returned (.agg #[.int .i64 F, .int .i64 T]) ∧ Tld w' N s c T b ∧ Upd (N + 2) (N + 3) w w' := by
  obtain ⟨c0, c1, c2, c3⟩ := h.cells
  have hlt := h.lt
  have l0 : N < w.heap.size := by omega
  have l1 : N + 1 < w.heap.size := by omega
  have l2 : N + 2 < w.heap.size := by omega
  have m0 : N < w.heap.size + 1 := by omega
  have m1 : N + 1 < w.heap.size + 1 := by omega
  have m2 : N + 2 < w.heap.size + 1 := by omega
  have m3 : N + 3 < w.heap.size + 1 := by omega
  have k2 : N + 2 < w.heap.size + 2 := by omega
  have k3 : N + 3 < w.heap.size + 2 := by omega
  have H := Lib.hid h
  clear h
  have n1 : ¬ N + 3 = w.heap.size := by omega
  have n2 : ¬ N + 3 = w.heap.size + 1 := by omega
  have n3 : ¬ N + 2 = w.heap.size := by omega
  have n4 : ¬ N + 2 = w.heap.size + 1 := by omega
  have n5 : ¬ w.heap.size = N + 3 := by omega
  have n6 : ¬ w.heap.size + 1 = N + 3 := by omega
  have n7 : ¬ w.heap.size = N + 2 := by omega
  have n8 : ¬ w.heap.size + 1 = N + 2 := by omega
  obtain ⟨f0, f1⟩ := H.out.fro
  go_enter Try.func20, Try.ntmps20
  go_wp2_with (first
    | (go_at_call 9; (with_reducible refine (next_any _ _ _ _ _ _ _ _ hx hb _).mono ?_); rintro e w1 ⟨rfl, hb⟩; obtain ⟨hc, hf⟩ := bcell hb)
    | fail)
  have hw1 : Below w.heap.size w w1 := ((((Below.refl _ _).alloc (Nat.le_refl _) _).alloc (by simp) _).trans (hb.mono (by simp; omega)))
  have hw2 := (hw1.setCell (p := ⟨w.heap.size + 1, 0, none⟩) (by simp) (.int .i64 F)).setCell (p := ⟨w.heap.size + 1, 1, none⟩) (by simp) (.int .i64 T)
  have k1 := (H.out.below hw2).set T b
  have k2 := (k1.other (p := ⟨w.heap.size, 0, none⟩) (.inr hlt) (.int .i64 F)).other (p := ⟨w.heap.size, 1, none⟩) (.inr hlt) (.int .i64 T)
  have u1 := (((Upd.of_below (S := N + 2) (D := N + 3) hw2).setD 0 (.bool b)).setS 0 (.int .i64 T))
  have u2 := (u1.new (p := ⟨w.heap.size, 0, none⟩) (Nat.le_refl _) (.int .i64 F)).new (p := ⟨w.heap.size, 1, none⟩) (Nat.le_refl _) (.int .i64 T)
  have old : ∀ o, (((((w1.setCell ⟨w.heap.size + 1, 0, none⟩ (.int .i64 F)).setCell ⟨w.heap.size + 1, 1, none⟩ (.int .i64 T)).setCell ⟨N + 3, 0, none⟩ (.bool b)).setCell ⟨N + 2, 0, none⟩ (.int .i64 T))).cell? ⟨w.heap.size, o, none⟩ = w1.cell? ⟨w.heap.size, o, none⟩ := fun o => by
    rw [World.cell?_setCell_other _ _ _ _ (adr_ne (.inl n3)), World.cell?_setCell_other _ _ _ _ (adr_ne (.inl n1)), World.cell?_setCell_other _ _ _ _ (adr_ne (.inl (by omega))), World.cell?_setCell_other _ _ _ _ (adr_ne (.inl (by omega)))]
  obtain ⟨e0, e1⟩ := put2_cells (u0 := .int .i64 F) (u1 := .int .i64 T) ((old 0).trans ((hc w.heap.size 0 (by simp; omega)).trans (new2 w _ _ _ _).1)) ((old 1).trans ((hc w.heap.size 1 (by simp; omega)).trans (new2 w _ _ _ _).2))
  exact bodyPost_ret (v := .agg #[.int .i64 F, .int .i64 T]) (by simp [results, Try.results20, go_sem, e0, e1]) rfl ⟨rfl, k2, u2⟩

set_option maxHeartbeats 1000000 in
theorem told_any (s c : Int) (w : World) :
    Calls Try.prog 18 #[.int .i64 s, .int .i64 c] w fun e w' => e = .returned (.func (.func 20) #[] #[ptr (w.heap.size + 3), ptr w.heap.size, ptr (w.heap.size + 2), ptr (w.heap.size + 1)]) ∧ Tld w' w.heap.size s c 0 true ∧ Below w.heap.size w w' := by
  have hmf : ∀ (fn : Fn) (first cap : Array Value) (w : World), (Instr.makeFunc fn first cap).run Try.prog w = .ok (.func fn first cap) w := fun _ _ _ _ => rfl
  go_enter Try.func18, Try.ntmps18
  go_wp2
  go_ret
  refine ⟨rfl, ?_, by go_grown⟩
  obtain ⟨h0, h1, h2, h3⟩ := boxes w (.cells #[.int .i64 s] 3) (.cells #[.int .i64 c] 3) (.cells #[.int .i64 0] 3) (.cells #[.bool true] 4)
  exact ⟨h0, h1, h2, h3⟩
end Go.Proofs.Ytemjonahinohmaa
