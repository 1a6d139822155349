/- One that pushes and pops, and two that steal, in memory: how it ends. -/
import Derived.Test.YtjnenpflpckimaaOnBeg
namespace Go.Proofs.Ytjnenpflpckimaa
open Go.RowKit
set_option linter.unusedVariables false
set_option linter.unusedSimpArgs false
attribute [local irreducible] runs

/-- All that is left is popped: what is known at each round; tk: the row; tl: what is counted. -/
structure OE (TK PU S D E : Nat) (w wr : World) (n A : Nat) (k : Int) (L : List Int) (j lf v last : Int) (tk tl : List Int) (pu : List Bool) : Prop where
  ok : Ok w.heap.size S D E w wr (ek n) L k
  rt : IR wr TK tk
  rp : BR wr PU pu
  l1 : S < TK ∧ D < TK ∧ S < PU ∧ D < PU ∧ TK ≠ PU
  nn : NN L
  n100 : n ≤ 99
  en : En1 (n + 1) A L j lf v last tl pu
section
variable {TK PU V M0 M1 M2 S D E M : Nat} {w wr w' : World} {n A : Nat} {acts : List Bool} {L : List Int} {k i : Int} {own a b : Mc} {v last nx j lf : Int} {tk tl : List Int} {pu : List Bool} {p1 p2 : Value}
theorem OE.start (h : OL [TK, PU, V] M0 M1 M2 S D E w wr n A acts L i own a b v last nx tk pu) (r : Rws wr TK PU V tk pu p1 p2) (nd : TK ≠ PU) (hi : own.pc = 0) : OE TK PU S D E w wr n A i L ((n : Int) + 2) ((n : Int) + 1) v last tk tk pu := by
  have t := h.q.lv TK (by simp)
  have p := h.q.lv PU (by simp)
  have e := h.o.over hi (by have := h.n100; omega)
  have e1 : (((n + 1 : Nat) : Int) + 1) = (n : Int) + 2 := by omega
  have e2 : ((n + 1 : Nat) : Int) = (n : Int) + 1 := by omega
  rw [e1, e2] at e
  exact ⟨h.q.ok, r.tk, r.pu, ⟨t.1, t.2.1, p.1, p.2.1, nd⟩, h.q.wa.nn, h.n100, e⟩
theorem OE.cells (h : OE TK PU S D E w wr n A k L j lf v last tk tl pu) : wr.cell? ⟨E, 0, none⟩ = some (.int .i64 0) ∧ wr.cell? ⟨E, 1, none⟩ = some (.int .i64 1) ∧ wr.cell? ⟨E, 2, none⟩ = some (.int .i64 2) ∧ wr.cell? ⟨E, 3, none⟩ = some (.int .i64 ((n : Int) + 1)) := h.ok.cells
theorem OE.step (h : OE TK PU S D E w wr n A k L j lf v last tk tl pu) (hb : Below wr.heap.size wr w') : OE TK PU S D E w w' n A k L j lf v last tk tl pu :=
  ⟨h.ok.step hb, h.rt.below hb, h.rp.below hb, h.l1, h.nn, h.n100, h.en⟩
theorem OE.more (h : OE TK PU S D E w wr n A k L j lf v last tk tl pu) {k' : Int} (hk : k ≤ k') : OE TK PU S D E w wr n A k' L j lf v last tk tl pu := ⟨h.ok.more hk, h.rt, h.rp, h.l1, h.nn, h.n100, h.en⟩
/-- A pop is begun. -/
structure OF (TK PU S D E M : Nat) (w wr : World) (n A : Nat) (k : Int) (L : List Int) (j lf v last : Int) (tk tl : List Int) (pu : List Bool) : Prop where
  e : OE TK PU S D E w wr n A k L j lf v last tk tl pu
  m : MM wr M (mPop (ek n))
  l : S < M ∧ D < M ∧ TK < M ∧ PU < M
theorem OE.begin (h : OE TK PU S D E w wr n A k L j lf v last tk tl pu) (hM : wr.heap.size ≤ M) (hm : MM w' M (mPop (ek n))) (hb : Below wr.heap.size wr w') : OF TK PU S D E M w w' n A k L j lf v last tk tl pu := by
  have l := h.ok.ltS
  have t := (Array.getElem?_eq_some_iff.1 h.rt).1
  have p := (Array.getElem?_eq_some_iff.1 h.rp).1
  exact ⟨h.step hb, hm, by omega⟩
/-- What comes of a pop. -/
inductive PEv (TK PU S D E : Nat) (w w' : World) (n A : Nat) (k : Int) (j lf v last : Int) (tk : List Int) (pu : List Bool) : Int → Int → Prop
  | took (L' : List Int) (x : Nat) (hx : 1 ≤ x ∧ (x : Int) ≤ v ∧ x < tk.length ∧ 1 ≤ lf) (h : OE TK PU S D E w w' n A (k + 8) L' (j - 1) (lf - 1) v last tk (tk.set x (tk.getD x 0 + 1)) pu) : PEv TK PU S D E w w' n A k j lf v last tk pu 1 (x : Int)
  | none (L' : List Int) (o x : Int) (ho : (o == 1) = false) (h : OE TK PU S D E w w' n A (k + 8) L' (j - 1) 0 v last tk tk pu) : PEv TK PU S D E w w' n A k j lf v last tk pu o x
theorem of_whole (h : OF TK PU S D E M w wr n A k L j lf v last tk tk pu) (hk : k ≤ 100000) (hj : 0 ≤ j) (hl : 0 ≤ lf) :
    Calls Try.prog 10 #[ptr M, ptr S] wr fun a w' => ∃ o x, a = .returned (.tuple #[.int .i64 o, .int .u64 x]) ∧ PEv TK PU S D E w w' n A k j lf v last tk pu o x := by
  have l := h.l
  have l1 := h.e.l1
  have ws := ws_pop h.e.nn (ek_ok n h.e.n100)
  have hp := h.e.en.pop hj hl
  rw [ek_eq] at hp
  refine (whole_ok h.e.ok h.m l.1 l.2.1 ws (by omega)).mono ?_
  rintro a w1 ⟨rfl, o, u⟩
  have tkl := (Array.getElem?_eq_some_iff.1 h.e.rt).1
  have pul := (Array.getElem?_eq_some_iff.1 h.e.rp).1
  have t := h.e.rt.same (w' := w1) (u.block TK tkl (by omega) (by omega) (by omega))
  have p := h.e.rp.same (w' := w1) (u.block PU pul (by omega) (by omega) (by omega))
  have nn := (ws.runs 8).nn
  generalize runs 8 L (mPop (ek n)) = r at hp o nn
  obtain ⟨hpc, hp⟩ := hp
  obtain ⟨r1, r2⟩ := rOf_no hpc
  refine ⟨_, _, rfl, ?_⟩
  rw [r1, r2]
  rcases hp with ⟨ho, hx1, hx2, hx3, hk1, e⟩ | ⟨ho, e⟩
  · have ex : r.2.w = ((r.2.w.toNat : Nat) : Int) := by omega
    rw [ho]
    rw [show PEv TK PU S D E w w1 n A k j lf v last tk pu 1 r.2.w = PEv TK PU S D E w w1 n A k j lf v last tk pu 1 ((r.2.w.toNat : Nat) : Int) from congrArg _ ex]
    exact .took _ _ ⟨by omega, by omega, hx3, hk1⟩ ⟨o, t, p, l1, nn, h.e.n100, e⟩
  · exact .none _ _ _ (by rw [beq_eq_false_iff_ne]; exact ho) ⟨o, t, p, l1, nn, h.e.n100, e⟩
theorem OE.put (h : OE TK PU S D E w wr n A k L j lf v last tk tl pu) (x : Nat) (y : Int) : OE TK PU S D E w (wr.setCell ⟨TK, x, none⟩ (.int .i64 y)) n A k L j lf v last (tk.set x y) tl pu := by
  have u : Upd TK TK wr (wr.setCell ⟨TK, x, none⟩ (.int .i64 y)) := ⟨rfl, rfl, rfl, by simp, fun k hk h1 _ => heap_setCell_other wr ⟨TK, x, none⟩ k _ h1⟩
  have l1 := h.l1
  exact ⟨h.ok.upd u l1.1 l1.2.1, h.rt.set x y, h.rp.other (Ne.symm l1.2.2.2.2) _ _, l1, h.nn, h.n100, h.en⟩
theorem OE.lens (h : OE TK PU S D E w wr n A k L j lf v last tk tk pu) : tk.length = A + 2 ∧ pu.length = A + 2 ∧ ∀ y : Nat, 1 ≤ y → y < A + 2 → -2000 ≤ tk.getD y 0 ∧ tk.getD y 0 ≤ 1 := by
  obtain ⟨T, β, Q, Dq, hb, hq, ac⟩ := h.en.ex
  have tl := h.en.tl
  refine ⟨tl, by rw [ac.len, tl], fun y hy hyl => ?_⟩
  have hc := ac.count y hy (by omega)
  have h1 : (Q ++ []).count (y : Int) ≤ (Q ++ []).length := List.count_le_length
  have hf := Dq.full
  have hqq := Dq.q
  have hn := h.n100
  rw [List.length_append] at h1
  simp only [List.length_nil, Nat.add_zero] at h1
  split at hc <;> omega
end
end Go.Proofs.Ytjnenpflpckimaa
