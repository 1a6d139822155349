/- Three machines side by side over a store of the call's own. -/
import Derived.Test.YtjnenpflpckimaaUp
import Derived.Test.YtjnenpflpckimaaAid
namespace Go.Proofs.Ytjnenpflpckimaa
open Go.RowKit
set_option linter.unusedVariables false
set_option linter.unusedSimpArgs false
attribute [local irreducible] runs

/-- Three machines, apart from each other, and from the row that holds them. -/
structure T3 (V A B C S D E : Nat) (e : En) (w wr : World) (L : List Int) (k : Int) (a b c : Mc) : Prop where
  ok : Ok w.heap.size S D E w wr e L k
  ma : MM wr A a
  mb : MM wr B b
  mc : MM wr C c
  wa : Ws L a
  wb : Ws L b
  wc : Ws L c
  la : S < A ∧ D < A
  lb : S < B ∧ D < B
  lc : S < C ∧ D < C
  lv : S < V ∧ D < V
  vlt : V < wr.heap.size
  n : A ≠ B ∧ A ≠ C ∧ B ≠ C
  nv : V ≠ A ∧ V ≠ B ∧ V ≠ C
section
variable {V A B C S D E M : Nat} {e : En} {w wr w' : World} {L : List Int} {k : Int} {a b c : Mc}
theorem T3.swap1 (h : T3 V A B C S D E e w wr L k a b c) : T3 V B A C S D E e w wr L k b a c :=
  ⟨h.ok, h.mb, h.ma, h.mc, h.wb, h.wa, h.wc, h.lb, h.la, h.lc, h.lv, h.vlt, ⟨Ne.symm h.n.1, h.n.2.2, h.n.2.1⟩, ⟨h.nv.2.1, h.nv.1, h.nv.2.2⟩⟩
theorem T3.swap2 (h : T3 V A B C S D E e w wr L k a b c) : T3 V C B A S D E e w wr L k c b a :=
  ⟨h.ok, h.mc, h.mb, h.ma, h.wc, h.wb, h.wa, h.lc, h.lb, h.la, h.lv, h.vlt, ⟨Ne.symm h.n.2.2, Ne.symm h.n.2.1, Ne.symm h.n.1⟩, ⟨h.nv.2.2, h.nv.2.1, h.nv.1⟩⟩
theorem T3.step (h : T3 V A B C S D E e w wr L k a b c) (hb : Below wr.heap.size wr w') : T3 V A B C S D E e w w' L k a b c :=
  ⟨h.ok.step hb, h.ma.below hb, h.mb.below hb, h.mc.below hb, h.wa, h.wb, h.wc, h.la, h.lb, h.lc, h.lv, Nat.lt_of_lt_of_le h.vlt hb.size, h.n, h.nv⟩
/-- The first one goes on by a step. -/
theorem t3_step (h : T3 V A B C S D E e w wr L k a b c) (hk : k ≤ 900000000) :
    Calls Try.prog 14 #[ptr A, ptr S] wr fun r w' => r = .returned (.bool (decide ((stp L a).2.pc = 0))) ∧ T3 V A B C S D E e w w' (stp L a).1 (k + 1) (stp L a).2 b c ∧ w'.heap[V]? = wr.heap[V]? := by
  refine (step_ok h.ok h.ma h.la.1 h.la.2 h.wa hk).mono ?_
  rintro r w1 ⟨rfl, ho, hm, u⟩
  have n := h.n; have nv := h.nv; have lb := h.lb; have lc := h.lc; have lv := h.lv
  refine ⟨rfl, ⟨ho, hm, h.mb.u3 u (by omega) (by omega) (by omega), h.mc.u3 u (by omega) (by omega) (by omega), h.wa.stp, h.wa.other h.wb, h.wa.other h.wc, h.la, h.lb, h.lc, h.lv, Nat.lt_of_lt_of_le h.vlt u.size, n, nv⟩, ?_⟩
  exact u.block V h.vlt (by omega) (by omega) (by omega)
/-- A new one comes in its place. -/
theorem T3.fresh (h : T3 V A B C S D E e w wr L k a b c) {m : Mc} (hM : wr.heap.size ≤ M) (hm : MM w' M m) (hb : Below wr.heap.size wr w') (ws : Ws L m) : T3 V M B C S D E e w w' L k m b c := by
  have h1 := h.ma.lt; have h2 := h.mb.lt; have h3 := h.mc.lt; have h4 := h.vlt
  have h5 := h.ok.ltS
  have n := h.n; have nv := h.nv
  exact ⟨h.ok.step hb, hm, h.mb.below hb, h.mc.below hb, ws, h.wb, h.wc, by omega, h.lb, h.lc, h.lv, Nat.lt_of_lt_of_le h.vlt hb.size, by omega, by omega⟩
/-- The row's store. -/
theorem T3.put (h : T3 V A B C S D E e w wr L k a b c) (i : Nat) (v : Value) : T3 V A B C S D E e w (wr.setCell ⟨V, i, none⟩ v) L k a b c := by
  have u : Upd V V wr (wr.setCell ⟨V, i, none⟩ v) := ⟨rfl, rfl, rfl, by simp, fun k hk h1 _ => heap_setCell_other wr ⟨V, i, none⟩ k v h1⟩
  have u3 : U3 V V V wr (wr.setCell ⟨V, i, none⟩ v) := .of_upd u
  have nv := h.nv
  exact ⟨h.ok.upd u h.lv.1 h.lv.2, h.ma.u3 u3 (by omega) (by omega) (by omega), h.mb.u3 u3 (by omega) (by omega) (by omega), h.mc.u3 u3 (by omega) (by omega) (by omega), h.wa, h.wb, h.wc, h.la, h.lb, h.lc, h.lv, by have := u.size; have := h.vlt; omega, h.n, nv⟩
theorem T3.more (h : T3 V A B C S D E e w wr L k a b c) {j : Int} (hk : k ≤ j) : T3 V A B C S D E e w wr L j a b c :=
  ⟨h.ok.more hk, h.ma, h.mb, h.mc, h.wa, h.wb, h.wc, h.la, h.lb, h.lc, h.lv, h.vlt, h.n, h.nv⟩
end

/-- A row of three pointers. -/
def R3 (wr : World) (V A B C : Nat) : Prop := wr.heap[V]? = some (.cells #[ptr A, ptr B, ptr C] 32 (0, 0))
section
variable {V A B C M : Nat} {wr w' : World}
theorem R3.cells (h : R3 wr V A B C) : wr.cell? ⟨V, 0, none⟩ = some (ptr A) ∧ wr.cell? ⟨V, 1, none⟩ = some (ptr B) ∧ wr.cell? ⟨V, 2, none⟩ = some (ptr C) := by
  unfold R3 at h; refine ⟨?_, ?_, ?_⟩ <;> simp [World.cell?, h]
theorem R3.fro (h : R3 wr V A B C) (j : Nat) : wr.frozen? ⟨V, j, none⟩ = false := frozen_of_row wr V j _ _ h
theorem R3.same (h : R3 wr V A B C) (k : w'.heap[V]? = wr.heap[V]?) : R3 w' V A B C := k.trans h
theorem R3.below (h : R3 wr V A B C) (hb : Below wr.heap.size wr w') : R3 w' V A B C := (hb.block V (Array.getElem?_eq_some_iff.1 h).1).trans h
theorem R3.p0 (h : R3 wr V A B C) : R3 (wr.setCell ⟨V, 0, none⟩ (ptr M)) V M B C := by unfold R3 at *; rw [heap_setCell_same wr V 0 _ 32 _ h]; rfl
theorem R3.p1 (h : R3 wr V A B C) : R3 (wr.setCell ⟨V, 1, none⟩ (ptr M)) V A M C := by unfold R3 at *; rw [heap_setCell_same wr V 1 _ 32 _ h]; rfl
theorem R3.p2 (h : R3 wr V A B C) : R3 (wr.setCell ⟨V, 2, none⟩ (ptr M)) V A B M := by unfold R3 at *; rw [heap_setCell_same wr V 2 _ 32 _ h]; rfl
end

abbrev e8 : En := ⟨0, 1, 2, 8⟩
theorem e8_ok : EnOk e8 := ⟨by decide, by decide, by decide⟩
/-- The first loop: i words are pushed. -/
structure P8 (S D E : Nat) (w wr : World) (i : Int) (k : Int) : Prop where
  ex : ∃ L, Pd i L ∧ NN L ∧ Ok w.heap.size S D E w wr e8 L k
theorem Pd.nn {i : Int} {L : List Int} (h : Pd i L) (hi : i ≤ 8) : True := trivial
/-- What is known in the second loop. -/
structure TL (V A B C S D E : Nat) (w wr : World) (kk i : Int) (L : List Int) (T k : Int) (a b c : Mc) : Prop where
  t : T3 V A B C S D E e8 w wr L k a b c
  v : Tv kk i L T a b c
section
variable {V A B C S D E M : Nat} {w wr w' : World} {kk i : Int} {L : List Int} {T k o x : Int} {a b c : Mc}
theorem TL.swap1 (h : TL V A B C S D E w wr kk i L T k a b c) : TL V B A C S D E w wr kk i L T k b a c := ⟨h.t.swap1, h.v.swap1⟩
theorem TL.swap2 (h : TL V A B C S D E w wr kk i L T k a b c) : TL V C B A S D E w wr kk i L T k c b a := ⟨h.t.swap2, h.v.swap2⟩
/-- Where the first one is finished: what comes of it, ahead of the new one. -/
structure TF (V A B C S D E : Nat) (w wr : World) (kk i : Int) (L : List Int) (T k : Int) (a b c : Mc) (o x : Int) : Prop where
  t : T3 V A B C S D E e8 w wr L k a b c
  v : Tv kk i L T (mSteal (en 8)) b c
  r : rOf a = o ∧ xOf a = x
theorem TF.step (h : TF V A B C S D E w wr kk i L T k a b c o x) (hb : Below wr.heap.size wr w') : TF V A B C S D E w w' kk i L T k a b c o x := ⟨h.t.step hb, h.v, h.r⟩
theorem TF.fresh (h : TF V A B C S D E w wr kk i L T k a b c o x) (hM : wr.heap.size ≤ M) (hm : MM w' M (mSteal e8)) (hb : Below wr.heap.size wr w') : TL V M B C S D E w w' kk i L T k (mSteal e8) b c :=
  ⟨h.t.fresh hM hm hb (ws_steal h.t.wa.nn e8_ok), h.v⟩
theorem TL.put (h : TL V A B C S D E w wr kk i L T k a b c) (j : Nat) (v : Value) : TL V A B C S D E w (wr.setCell ⟨V, j, none⟩ v) kk i L T k a b c := ⟨h.t.put j v, h.v⟩
theorem TL.more (h : TL V A B C S D E w wr kk i L T k a b c) {j : Int} (hk : k ≤ j) : TL V A B C S D E w wr kk i L T j a b c := ⟨h.t.more hk, h.v⟩

/-- A step of the first one: it goes on, or it has nothing, or it has the next word. -/
inductive TEv (V A B C S D E : Nat) (w w' : World) (kk i T k : Int) (b c : Mc) : Bool → Prop
  | on (L' : List Int) (a' : Mc) (h : TL V A B C S D E w w' kk (i + 1) L' T (k + 1) a' b c) : TEv V A B C S D E w w' kk i T k b c false
  | none (L' : List Int) (a' : Mc) (o' x' : Int) (ho : (o' == 1) = false) (h : TF V A B C S D E w w' kk (i + 1) L' T (k + 1) a' b c o' x') : TEv V A B C S D E w w' kk i T k b c true
  | took (L' : List Int) (a' : Mc) (hT : T + 1 ≤ kk) (h : TF V A B C S D E w w' kk (i + 1) L' (T + 1) (k + 1) a' b c 1 (T + 1)) : TEv V A B C S D E w w' kk i T k b c true
theorem tl_step (h : TL V A B C S D E w wr kk i L T k a b c) (hk : k ≤ 900000000) :
    Calls Try.prog 14 #[ptr A, ptr S] wr fun r w' => ∃ B0, r = .returned (.bool B0) ∧ TEv V A B C S D E w w' kk i T k b c B0 ∧ w'.heap[V]? = wr.heap[V]? := by
  refine (t3_step h.t hk).mono ?_
  rintro r w1 ⟨rfl, t, hv⟩
  rcases h.v.step with ⟨hp, v⟩ | ⟨hp, ho, v⟩ | ⟨hp, ho, hw, hT, v⟩
  · rw [show decide ((stp L a).2.pc = 0) = false by simpa using hp]
    exact ⟨_, rfl, .on _ _ ⟨t, v⟩, hv⟩
  · rw [show decide ((stp L a).2.pc = 0) = true by simpa using hp]
    obtain ⟨r1, r2⟩ := rOf_no hp
    exact ⟨_, rfl, .none _ _ _ _ (by rw [beq_eq_false_iff_ne]; exact ho) ⟨t, v, r1, r2⟩, hv⟩
  · rw [show decide ((stp L a).2.pc = 0) = true by simpa using hp]
    obtain ⟨r1, r2⟩ := rOf_no hp
    exact ⟨_, rfl, .took _ _ hT ⟨t, v, by rw [r1, ho], by rw [r2, hw]⟩, hv⟩
end
end Go.Proofs.Ytjnenpflpckimaa
