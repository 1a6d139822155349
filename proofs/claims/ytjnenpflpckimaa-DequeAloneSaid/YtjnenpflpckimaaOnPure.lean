/- One that pushes and pops, and two that steal, in memory: machines that may be none, and rows beside them. -/
import Derived.Test.YtjnenpflpckimaaUp
import Derived.Test.YtjnenpflpckimaaAid
namespace Go.Proofs.Ytjnenpflpckimaa
open Go.RowKit
set_option linter.unusedVariables false
set_option linter.unusedSimpArgs false
attribute [local irreducible] runs

/-- Three machines, apart from each other, and rows beside them; one that is finished need not be there any more. -/
structure Q3 (Vs : List Nat) (A B C S D E : Nat) (e : En) (w wr : World) (L : List Int) (k : Int) (a b c : Mc) : Prop where
  ok : Ok w.heap.size S D E w wr e L k
  ma : a.pc ≠ 0 → MM wr A a
  mb : b.pc ≠ 0 → MM wr B b
  mc : c.pc ≠ 0 → MM wr C c
  wa : Ws L a
  wb : Ws L b
  wc : Ws L c
  la : S < A ∧ D < A ∧ A < wr.heap.size
  lb : S < B ∧ D < B ∧ B < wr.heap.size
  lc : S < C ∧ D < C ∧ C < wr.heap.size
  lv : ∀ V ∈ Vs, S < V ∧ D < V ∧ V < wr.heap.size ∧ V ≠ A ∧ V ≠ B ∧ V ≠ C
  n : A ≠ B ∧ A ≠ C ∧ B ≠ C
section
variable {Vs : List Nat} {A B C S D E M V : Nat} {e : En} {w wr w' : World} {L : List Int} {k : Int} {a b c : Mc}
theorem Q3.swap1 (h : Q3 Vs A B C S D E e w wr L k a b c) : Q3 Vs B A C S D E e w wr L k b a c :=
  ⟨h.ok, h.mb, h.ma, h.mc, h.wb, h.wa, h.wc, h.lb, h.la, h.lc, fun V hV => by have := h.lv V hV; omega, ⟨Ne.symm h.n.1, h.n.2.2, h.n.2.1⟩⟩
theorem Q3.swap2 (h : Q3 Vs A B C S D E e w wr L k a b c) : Q3 Vs C B A S D E e w wr L k c b a :=
  ⟨h.ok, h.mc, h.mb, h.ma, h.wc, h.wb, h.wa, h.lc, h.lb, h.la, fun V hV => by have := h.lv V hV; omega, ⟨Ne.symm h.n.2.2, Ne.symm h.n.2.1, Ne.symm h.n.1⟩⟩
theorem Q3.step (h : Q3 Vs A B C S D E e w wr L k a b c) (hb : Below wr.heap.size wr w') : Q3 Vs A B C S D E e w w' L k a b c := by
  have hs := hb.size
  exact ⟨h.ok.step hb, fun hp => (h.ma hp).below hb, fun hp => (h.mb hp).below hb, fun hp => (h.mc hp).below hb, h.wa, h.wb, h.wc, by have := h.la; omega, by have := h.lb; omega, by have := h.lc; omega, fun V hV => by have := h.lv V hV; omega, h.n⟩
theorem q3_step (h : Q3 Vs A B C S D E e w wr L k a b c) (hp : a.pc ≠ 0) (hk : k ≤ 900000000) :
    Calls Try.prog 14 #[ptr A, ptr S] wr fun r w' => r = .returned (.bool (decide ((stp L a).2.pc = 0))) ∧ Q3 Vs A B C S D E e w w' (stp L a).1 (k + 1) (stp L a).2 b c ∧ MM w' A (stp L a).2 ∧ ∀ V ∈ Vs, w'.heap[V]? = wr.heap[V]? := by
  have la := h.la; have lb := h.lb; have lc := h.lc; have n := h.n
  refine (step_ok h.ok (h.ma hp) la.1 la.2.1 h.wa hk).mono ?_
  rintro r w1 ⟨rfl, ho, hm, u⟩
  have hs := u.size
  refine ⟨rfl, ⟨ho, fun _ => hm, fun hp => (h.mb hp).u3 u (by omega) (by omega) (by omega), fun hp => (h.mc hp).u3 u (by omega) (by omega) (by omega), h.wa.stp, h.wa.other h.wb, h.wa.other h.wc, by omega, by omega, by omega, fun V hV => by have := h.lv V hV; omega, n⟩, hm, fun V hV => ?_⟩
  have := h.lv V hV
  exact u.block V (by omega) (by omega) (by omega) (by omega)
/-- A new one comes in its place. -/
theorem Q3.fresh (h : Q3 Vs A B C S D E e w wr L k a b c) {m : Mc} (hM : wr.heap.size ≤ M) (hm : MM w' M m) (hb : Below wr.heap.size wr w') (ws : Ws L m) : Q3 Vs M B C S D E e w w' L k m b c := by
  have hs := hb.size
  have la := h.la; have lb := h.lb; have lc := h.lc; have n := h.n; have := hm.lt
  have h5 := h.ok.ltS
  exact ⟨h.ok.step hb, fun _ => hm, fun hp => (h.mb hp).below hb, fun hp => (h.mc hp).below hb, ws, h.wb, h.wc, by omega, by omega, by omega, fun V hV => by have := h.lv V hV; omega, by omega⟩
/-- A row's store. -/
theorem Q3.put (h : Q3 Vs A B C S D E e w wr L k a b c) (hV : V ∈ Vs) (i : Nat) (v : Value) : Q3 Vs A B C S D E e w (wr.setCell ⟨V, i, none⟩ v) L k a b c := by
  have u : Upd V V wr (wr.setCell ⟨V, i, none⟩ v) := ⟨rfl, rfl, rfl, by simp, fun k hk h1 _ => heap_setCell_other wr ⟨V, i, none⟩ k v h1⟩
  have u3 : U3 V V V wr (wr.setCell ⟨V, i, none⟩ v) := .of_upd u
  have nv := h.lv V hV
  have hs := u.size
  have la := h.la; have lb := h.lb; have lc := h.lc
  exact ⟨h.ok.upd u nv.1 nv.2.1, fun hp => (h.ma hp).u3 u3 (by omega) (by omega) (by omega), fun hp => (h.mb hp).u3 u3 (by omega) (by omega) (by omega), fun hp => (h.mc hp).u3 u3 (by omega) (by omega) (by omega), h.wa, h.wb, h.wc, by omega, by omega, by omega, fun V hV => by have := h.lv V hV; omega, h.n⟩
theorem Q3.more (h : Q3 Vs A B C S D E e w wr L k a b c) {j : Int} (hk : k ≤ j) : Q3 Vs A B C S D E e w wr L j a b c :=
  ⟨h.ok.more hk, h.ma, h.mb, h.mc, h.wa, h.wb, h.wc, h.la, h.lb, h.lc, h.lv, h.n⟩
end

/-- A row of integers, of bools, of two pointers. -/
def IR (wr : World) (T : Nat) (l : List Int) : Prop := wr.heap[T]? = some (.cells (l.map (Value.int .i64)).toArray 3 (0, 0))
def BR (wr : World) (T : Nat) (l : List Bool) : Prop := wr.heap[T]? = some (.cells (l.map Value.bool).toArray 4 (0, 0))
def R2 (wr : World) (T : Nat) (p q : Value) : Prop := wr.heap[T]? = some (.cells #[p, q] 32 (0, 0))
section
variable {wr w' : World} {T : Nat} {l : List Int} {bs : List Bool} {p q : Value}
theorem IR.cell (h : IR wr T l) (j : Nat) (hj : j < l.length) : wr.cell? ⟨T, j, none⟩ = some (.int .i64 (l.getD j 0)) := by
  have e := map_get .i64 l j hj
  unfold IR at h
  simp only [World.cell?, h]
  simpa using e
theorem IR.fro (h : IR wr T l) (j : Nat) : wr.frozen? ⟨T, j, none⟩ = false := frozen_of_row wr T j _ _ h
theorem IR.same (h : IR wr T l) (k : w'.heap[T]? = wr.heap[T]?) : IR w' T l := k.trans h
theorem IR.below (h : IR wr T l) (hb : Below wr.heap.size wr w') : IR w' T l := (hb.block T (Array.getElem?_eq_some_iff.1 h).1).trans h
theorem IR.set (h : IR wr T l) (i : Nat) (x : Int) : IR (wr.setCell ⟨T, i, none⟩ (.int .i64 x)) T (l.set i x) := by
  unfold IR at *; rw [heap_setCell_same wr T i _ 3 _ h, List.map_set]; simp
theorem IR.other (h : IR wr T l) {V : Nat} (hV : T ≠ V) (i : Nat) (v : Value) : IR (wr.setCell ⟨V, i, none⟩ v) T l := (heap_setCell_other wr ⟨V, i, none⟩ T v hV).trans h
theorem BR.cell (h : BR wr T bs) (j : Nat) (hj : j < bs.length) : wr.cell? ⟨T, j, none⟩ = some (.bool (bs.getD j false)) := by
  unfold BR at h
  simp only [World.cell?, h]
  simp [List.getD, List.getElem?_eq_getElem hj]
theorem BR.fro (h : BR wr T bs) (j : Nat) : wr.frozen? ⟨T, j, none⟩ = false := frozen_of_row wr T j _ _ h
theorem BR.same (h : BR wr T bs) (k : w'.heap[T]? = wr.heap[T]?) : BR w' T bs := k.trans h
theorem BR.below (h : BR wr T bs) (hb : Below wr.heap.size wr w') : BR w' T bs := (hb.block T (Array.getElem?_eq_some_iff.1 h).1).trans h
theorem BR.set (h : BR wr T bs) (i : Nat) (x : Bool) : BR (wr.setCell ⟨T, i, none⟩ (.bool x)) T (bs.set i x) := by
  unfold BR at *; rw [heap_setCell_same wr T i _ 4 _ h, List.map_set]; simp
theorem BR.other (h : BR wr T bs) {V : Nat} (hV : T ≠ V) (i : Nat) (v : Value) : BR (wr.setCell ⟨V, i, none⟩ v) T bs := (heap_setCell_other wr ⟨V, i, none⟩ T v hV).trans h
theorem R2.cells (h : R2 wr T p q) : wr.cell? ⟨T, 0, none⟩ = some p ∧ wr.cell? ⟨T, 1, none⟩ = some q := by
  unfold R2 at h; refine ⟨?_, ?_⟩ <;> simp [World.cell?, h]
theorem R2.fro (h : R2 wr T p q) (j : Nat) : wr.frozen? ⟨T, j, none⟩ = false := frozen_of_row wr T j _ _ h
theorem R2.same (h : R2 wr T p q) (k : w'.heap[T]? = wr.heap[T]?) : R2 w' T p q := k.trans h
theorem R2.below (h : R2 wr T p q) (hb : Below wr.heap.size wr w') : R2 w' T p q := (hb.block T (Array.getElem?_eq_some_iff.1 h).1).trans h
theorem R2.p0 (h : R2 wr T p q) (x : Value) : R2 (wr.setCell ⟨T, 0, none⟩ x) T x q := by unfold R2 at *; rw [heap_setCell_same wr T 0 _ 32 _ h]; rfl
theorem R2.p1 (h : R2 wr T p q) (x : Value) : R2 (wr.setCell ⟨T, 1, none⟩ x) T p x := by unfold R2 at *; rw [heap_setCell_same wr T 1 _ 32 _ h]; rfl
theorem R2.other (h : R2 wr T p q) {V : Nat} (hV : T ≠ V) (i : Nat) (v : Value) : R2 (wr.setCell ⟨V, i, none⟩ v) T p q := (heap_setCell_other wr ⟨V, i, none⟩ T v hV).trans h
end
/-- All three rows. -/
structure Rws (wr : World) (TK PU V : Nat) (tk : List Int) (pu : List Bool) (p q : Value) : Prop where
  tk : IR wr TK tk
  pu : BR wr PU pu
  v : R2 wr V p q
section
variable {wr w' : World} {TK PU V : Nat} {tk : List Int} {pu : List Bool} {p q : Value}
theorem Rws.same (h : Rws wr TK PU V tk pu p q) (k : ∀ T ∈ [TK, PU, V], w'.heap[T]? = wr.heap[T]?) : Rws w' TK PU V tk pu p q := ⟨h.tk.same (k _ (by simp)), h.pu.same (k _ (by simp)), h.v.same (k _ (by simp))⟩
theorem Rws.below (h : Rws wr TK PU V tk pu p q) (hb : Below wr.heap.size wr w') : Rws w' TK PU V tk pu p q := ⟨h.tk.below hb, h.pu.below hb, h.v.below hb⟩
theorem Rws.stk (h : Rws wr TK PU V tk pu p q) (n : TK ≠ PU ∧ TK ≠ V ∧ PU ≠ V) (i : Nat) (x : Int) : Rws (wr.setCell ⟨TK, i, none⟩ (.int .i64 x)) TK PU V (tk.set i x) pu p q := ⟨h.tk.set i x, h.pu.other (Ne.symm n.1) _ _, h.v.other (Ne.symm n.2.1) _ _⟩
theorem Rws.spu (h : Rws wr TK PU V tk pu p q) (n : TK ≠ PU ∧ TK ≠ V ∧ PU ≠ V) (i : Nat) (x : Bool) : Rws (wr.setCell ⟨PU, i, none⟩ (.bool x)) TK PU V tk (pu.set i x) p q := ⟨h.tk.other n.1 _ _, h.pu.set i x, h.v.other (Ne.symm n.2.2) _ _⟩
theorem Rws.sv0 (h : Rws wr TK PU V tk pu p q) (n : TK ≠ PU ∧ TK ≠ V ∧ PU ≠ V) (x : Value) : Rws (wr.setCell ⟨V, 0, none⟩ x) TK PU V tk pu x q := ⟨h.tk.other n.2.1 _ _, h.pu.other n.2.2 _ _, h.v.p0 x⟩
theorem Rws.sv1 (h : Rws wr TK PU V tk pu p q) (n : TK ≠ PU ∧ TK ≠ V ∧ PU ≠ V) (x : Value) : Rws (wr.setCell ⟨V, 1, none⟩ x) TK PU V tk pu p x := ⟨h.tk.other n.2.1 _ _, h.pu.other n.2.2 _ _, h.v.p1 x⟩
end

/-! Of a machine that is none. -/
set_option maxHeartbeats 1000000 in
theorem step_nil (S : Nat) (w : World) : Calls Try.prog 14 #[.pointer none, ptr S] w fun a w' => a = .returned (.bool true) ∧ w = w' := by
  go_enter Try.func14, Try.ntmps14
  go_wp2
  go_ret
  exact ⟨rfl, rfl⟩
set_option maxHeartbeats 1000000 in
theorem res_nil (w : World) : Calls Try.prog 15 #[.pointer none] w fun a w' => a = .returned (.tuple #[.int .i64 0, .int .u64 0]) ∧ w = w' := by
  go_enter Try.func15, Try.ntmps15
  go_wp2
  go_ret2
  exact ⟨rfl, rfl⟩
end Go.Proofs.Ytjnenpflpckimaa
