/- The states that the laws of layer 8 go through: one that pushes and pops, and two that steal; a machine in any memory. -/
import Derived.Test.YtjnenpflpckimaaDqMore
namespace Go.Proofs.Ytjnenpflpckimaa
set_option linter.unusedVariables false
set_option linter.unusedSimpArgs false

theorem u64w_eq (a : Int) : IntKind.u64.wrap a = u64w a := by
  unfold u64w; simp [IntKind.wrap, IntKind.bits, IntKind.signed]

/-- Whatever is in memory: a machine comes to its end. -/
def okm (m : Mc) : Prop := (m.kind = 1 ∧ m.pc ≤ 4 ∨ m.kind = 2 ∧ m.pc ≤ 7 ∨ m.kind = 3 ∧ m.pc ≤ 4) ∧ (m.pc = 0 → 1 ≤ m.out ∧ m.out ≤ 4)
theorem okm_step {L : List Int} {m : Mc} (h : okm m) : okm (stp L m).2 ∧ (m.pc ≠ 0 → left (stp L m).2 + 1 ≤ left m) ∧ left m ≤ 6 := by
  obtain ⟨kd, pc, e, b, t, w, won, out⟩ := m
  obtain ⟨h1, h2⟩ := h
  simp only at h1 h2
  by_cases p0 : pc = 0
  · subst p0
    exact ⟨by rw [show stp L ⟨kd, 0, e, b, t, w, won, out⟩ = (L, ⟨kd, 0, e, b, t, w, won, out⟩) from by simp [stp]]; exact ⟨h1, h2⟩, fun h => absurd rfl h, by simp [left]⟩
  rcases h1 with ⟨rfl, hpc⟩ | ⟨rfl, hpc⟩ | ⟨rfl, hpc⟩
  · have : pc = 1 ∨ pc = 2 ∨ pc = 3 ∨ pc = 4 := by omega
    rcases this with rfl | rfl | rfl | rfl <;> clear h2 <;> first | (simp [stp, pushS, okm, left, fin]; done) | (simp only [stp, pushS]; simp; split <;> simp [okm, left, fin])
  · have : pc = 1 ∨ pc = 2 ∨ pc = 3 ∨ pc = 4 ∨ pc = 5 ∨ pc = 6 ∨ pc = 7 := by omega
    rcases this with rfl | rfl | rfl | rfl | rfl | rfl | rfl <;> clear h2 <;> first | (simp [stp, popS, okm, left, fin]; done) | (simp only [stp, popS]; simp; split <;> simp [okm, left, fin])
  · have : pc = 1 ∨ pc = 2 ∨ pc = 3 ∨ pc = 4 := by omega
    rcases this with rfl | rfl | rfl | rfl <;> clear h2 <;> first | (simp [stp, stealS, okm, left, fin]; done) | (simp only [stp, stealS]; simp; split <;> simp [okm, left, fin])

/-- The state of the law with one that pushes and pops, and two that steal; nx: how many of its doings are done. -/
structure Osn (n A : Nat) (L : List Int) (own a b : Mc) (w last nx : Int) (tk : List Int) (pu : List Bool) : Prop where
  tl : tk.length = A + 2
  a60 : A ≤ 60
  w0 : 0 ≤ w
  wn : w ≤ nx + (if own.kind = 1 ∧ own.pc ≠ 0 then 1 else 0)
  nA : nx + (if own.kind = 1 ∧ own.pc ≠ 0 then 1 else 0) ≤ A
  w1 : own.kind = 1 ∧ own.pc ≠ 0 → 1 ≤ w
  ex : ∃ T β g bc Q, Dq n L T β bc Q ∧ Ph n L T β Q w g bc own ∧ Th n T g (Q.headD 0) a ∧ Th n T g (Q.headD 0) b ∧ β ≤ nx ∧
    Ac tk pu (if own.kind = 1 ∧ own.pc ≠ 0 then w - 1 else w) last Q (hand own)

section
variable {n A : Nat} {L : List Int} {own a b : Mc} {w last nx : Int} {tk : List Int} {pu : List Bool}
theorem Osn.begin_push (h : Osn n A L own a b w last nx tk pu) (hi : own.pc = 0) (hn : nx < A) : Osn n A L (mPush (en n) (w + 1)) a b (w + 1) last nx tk pu := by
  obtain ⟨T, β, g, bc, Q, D, P, ta, tb, hb, ac⟩ := h.ex
  have hwn := h.wn
  have hw0 := h.w0
  simp [hi] at hwn
  have hP : g = β ∧ bc = β ∧ hand own = [] := by
    refine ⟨?_, ?_, by simp [hand, hi]⟩ <;> cases P <;> simp_all
  obtain ⟨rfl, rfl, hh⟩ := hP
  refine ⟨h.tl, h.a60, by omega, by simp [mPush]; omega, by simp [mPush]; omega, fun _ => by omega, T, bc, bc, bc, Q, D, .push1 .., ta, tb, hb, ?_⟩
  simp [hi] at ac
  rw [hh] at ac
  have e : w + 1 - 1 = w := by omega
  simpa [mPush, hand, e] using ac
theorem Osn.begin_pop (h : Osn n A L own a b w last nx tk pu) (hi : own.pc = 0) : Osn n A L (mPop (en n)) a b w last nx tk pu := by
  obtain ⟨T, β, g, bc, Q, D, P, ta, tb, hb, ac⟩ := h.ex
  have hwn := h.wn
  have hnA := h.nA
  simp [hi] at hwn hnA
  have hP : g = β ∧ bc = β ∧ hand own = [] := by
    refine ⟨?_, ?_, by simp [hand, hi]⟩ <;> cases P <;> simp_all
  obtain ⟨rfl, rfl, hh⟩ := hP
  refine ⟨h.tl, h.a60, h.w0, by simp [mPop]; omega, by simp [mPop]; omega, fun h => by simp [mPop] at h, T, bc, bc, bc, Q, D, .pop1 .., ta, tb, hb, ?_⟩
  simp [hi] at ac
  rw [hh] at ac
  simpa [mPop, hand] using ac

theorem Osn.owner (h : Osn n A L own a b w last nx tk pu) (hp : own.pc ≠ 0) (hn : nx < A) :
    ((stp L own).2.pc ≠ 0 ∧ (stp L own).2.kind = own.kind ∧ Osn n A (stp L own).1 (stp L own).2 a b w last nx tk pu) ∨
    ((stp L own).2.pc = 0 ∧ own.kind = 1 ∧ (stp L own).2.out = 1 ∧ 0 ≤ w ∧ w.toNat < tk.length ∧ Osn n A (stp L own).1 (stp L own).2 a b w last (nx + 1) tk (pu.set w.toNat true)) ∨
    ((stp L own).2.pc = 0 ∧ own.kind = 1 ∧ (stp L own).2.out ≠ 1 ∧ Osn n A (stp L own).1 (stp L own).2 a b w last (nx + 1) tk pu) ∨
    ((stp L own).2.pc = 0 ∧ own.kind = 2 ∧ (stp L own).2.out = 1 ∧ 1 ≤ (stp L own).2.w ∧ (stp L own).2.w ≤ w ∧ (stp L own).2.w.toNat < tk.length ∧
      Osn n A (stp L own).1 (stp L own).2 a b w last (nx + 1) (tk.set (stp L own).2.w.toNat (tk.getD (stp L own).2.w.toNat 0 + 1)) pu) ∨
    ((stp L own).2.pc = 0 ∧ own.kind = 2 ∧ (stp L own).2.out ≠ 1 ∧ Osn n A (stp L own).1 (stp L own).2 a b w last (nx + 1) tk pu) := by
  obtain ⟨T, β, g, bc, Q, D, P, ta, tb, hb, ac⟩ := h.ex
  have hwn := h.wn
  have hnA := h.nA
  have hw0 := h.w0
  have hw1 := h.w1
  have htl := h.tl
  have h60 := h.a60
  obtain ⟨T', β', g', bc', Q', D', P', h1, h2, h3, h4, ev⟩ := Go.Proofs.Ytjnenpflpckimaa.own_step D P hp (by omega)
  have ta' := ta.mono h1 h2
  have tb' := tb.mono h1 h2
  have hroom := ac.room
  cases ev with
  | on h5 hk e hs =>
    refine .inl ⟨h5, hk, h.tl, h.a60, h.w0, ?_, ?_, ?_, T', β', g', bc', Q', D', P', ta', tb', by rw [h4 h5]; exact hb, ?_⟩
    · simpa [hk, h5, hp] using hwn
    · simpa [hk, h5, hp] using hnA
    · simpa [hk, h5, hp] using hw1
    · have := ac.move e hs
      simpa [hk, h5, hp] using this
  | pushed h5 hk ho e1 e2 e3 h6 =>
    have hw1' := hw1 ⟨hk, hp⟩
    simp [hk, hp] at hwn hnA ac hroom
    refine .inr (.inl ⟨h5, hk, ho, h.w0, by omega, h.tl, h.a60, h.w0, by simp [h5]; omega, by simp [h5]; omega, fun h => absurd h5 h.2, T', β', g', bc', Q', D', P', ta', tb', by omega, ?_⟩)
    rw [e1] at ac
    have := ac.push (by omega) (by omega)
    have e : w - 1 + 1 = w := by omega
    rw [e] at this
    rw [e2, e3]; simpa [h5] using this
  | full h5 hk ho e1 e2 e3 h6 =>
    have hw1' := hw1 ⟨hk, hp⟩
    simp [hk, hp] at hwn hnA ac hroom
    refine .inr (.inr (.inl ⟨h5, hk, by omega, h.tl, h.a60, h.w0, by simp [h5]; omega, by simp [h5]; omega, fun h => absurd h5 h.2, T', β', g', bc', Q', D', P', ta', tb', by omega, ?_⟩))
    rw [e1] at ac
    have := ac.wider (v' := w) (by omega) (by omega)
    rw [e2, e3]; simpa [h5] using this
  | took h5 hk ho e2 e3 hs =>
    simp [hk, hp] at hwn hnA ac hroom
    have hx := ac.tk_in (x := (stp L own).2.w) (by rw [e3]; simp)
    refine .inr (.inr (.inr (.inl ⟨h5, hk, ho, hx.1, hx.2.1, hx.2.2, by simp [htl], h.a60, h.w0, by simp [h5]; omega, by simp [h5]; omega, fun h => absurd h5 h.2, T', β', g', bc', Q', D', P', ta', tb', by omega, ?_⟩)))
    have := ac.own e3 hs
    rw [e2]; simpa [h5] using this
  | none h5 hk ho e1 e2 e3 h6 h7 =>
    simp [hk, hp] at hwn hnA ac hroom
    refine .inr (.inr (.inr (.inr ⟨h5, hk, by omega, h.tl, h.a60, h.w0, by simp [h5]; omega, by simp [h5]; omega, fun h => absurd h5 h.2, T', β', g', bc', Q', D', P', ta', tb', by omega, ?_⟩)))
    rw [e1] at ac
    rw [e2, e3]; simpa [h5] using ac

/-- A step of the first one that steals; of the second one it is the same, told the other way round. -/
theorem Osn.swap (h : Osn n A L own a b w last nx tk pu) : Osn n A L own b a w last nx tk pu := by
  obtain ⟨T, β, g, bc, Q, D, P, ta, tb, hb, ac⟩ := h.ex
  exact ⟨h.tl, h.a60, h.w0, h.wn, h.nA, h.w1, T, β, g, bc, Q, D, P, tb, ta, hb, ac⟩
theorem Osn.fresh (h : Osn n A L own a b w last nx tk pu) : Osn n A L own (mSteal (en n)) b w last nx tk pu := by
  obtain ⟨T, β, g, bc, Q, D, P, ta, tb, hb, ac⟩ := h.ex
  exact ⟨h.tl, h.a60, h.w0, h.wn, h.nA, h.w1, T, β, g, bc, Q, D, P, .s1 .., tb, hb, ac⟩
theorem Osn.thief (h : Osn n A L own a b w last nx tk pu) (hp : a.pc ≠ 0) :
    ((stp L a).2.out ≠ 1 ∧ (stp L a).2.pc = 0 ∨ (stp L a).2.pc ≠ 0) ∧ Osn n A (stp L a).1 own (stp L a).2 b w last nx tk pu ∨
    ((stp L a).2.pc = 0 ∧ (stp L a).2.out = 1 ∧ 1 ≤ (stp L a).2.w ∧ (stp L a).2.w ≤ w ∧ last < (stp L a).2.w ∧ (stp L a).2.w.toNat < tk.length ∧
      Osn n A (stp L a).1 own (stp L a).2 b w (stp L a).2.w nx (tk.set (stp L a).2.w.toNat (tk.getD (stp L a).2.w.toNat 0 + 1)) pu) := by
  obtain ⟨T, β, g, bc, Q, D, P, ta, tb, hb, ac⟩ := h.ex
  obtain ⟨T', Q', D', P', H', h1, h2, ev⟩ := th_step D P ta hp
  have tb' := tb.mono h1 h2
  cases ev with
  | on h5 e => subst e; exact .inl ⟨.inr h5, h.tl, h.a60, h.w0, h.wn, h.nA, h.w1, T', β, g, bc, _, D', P', H', tb', hb, ac⟩
  | none h5 ho e => subst e; exact .inl ⟨.inl ⟨by omega, h5⟩, h.tl, h.a60, h.w0, h.wn, h.nA, h.w1, T', β, g, bc, _, D', P', H', tb', hb, ac⟩
  | took h5 ho e =>
    have hx := ac.tk_in (x := (stp L a).2.w) (by rw [e]; simp)
    obtain ⟨ac2, hl⟩ := ac.steal e
    refine .inr ⟨h5, ho, hx.1, ?_, hl, hx.2.2, by simp [h.tl], h.a60, h.w0, h.wn, h.nA, h.w1, T', β, g, bc, _, D', P', H', tb', hb, ac2⟩
    have := hx.2.1
    split at this <;> omega
theorem Osn.begin {n A : Nat} (h0 : 0 < n) (h1 : n ≤ 1000) (h2 : A ≤ 60) : Osn n A (List.replicate (2 + n) 0) ⟨2, 0, en n, 0, 0, 0, false, 0⟩ (mSteal (en n)) (mSteal (en n)) 0 0 0 (List.replicate (A + 2) 0) (List.replicate (A + 2) false) := by
  refine ⟨by simp, h2, by omega, by simp, by simp, fun h => by simp at h, 0, 0, 0, 0, [], ⟨h0, by omega, by simp, ?_, ?_, by omega, by simp, by omega, by omega, fun i hi => by simp at hi⟩, .idle .., .s1 .., .s1 .., by omega, ?_⟩
  · simp only [List.getD, List.getElem?_replicate]; rw [if_pos (by omega)]; rfl
  · simp only [List.getD, List.getElem?_replicate]; rw [if_pos (by omega)]; rfl
  · simpa [hand] using Ac.start A
/-- The end: all that is left is popped. -/
structure En1 (n A : Nat) (L : List Int) (j left : Int) (v last : Int) (tk : List Int) (pu : List Bool) : Prop where
  tl : tk.length = A + 2
  v0 : 0 ≤ v
  vA : v ≤ A
  a60 : A ≤ 60
  ex : ∃ T β Q, Dq n L T β β Q ∧ β ≤ 500 - j ∧ (Q.length : Int) ≤ left ∧ Ac tk pu v last Q []
theorem Osn.over (h : Osn n A L own a b w last nx tk pu) (hi : own.pc = 0) (hn : n ≤ 100) : En1 n A L (n + 1) n w last tk pu := by
  obtain ⟨T, β, g, bc, Q, D, P, ta, tb, hb, ac⟩ := h.ex
  have hP : g = β ∧ bc = β ∧ hand own = [] := by
    refine ⟨?_, ?_, by simp [hand, hi]⟩ <;> cases P <;> simp_all
  obtain ⟨rfl, rfl, hh⟩ := hP
  have hnA := h.nA
  have hwn := h.wn
  simp [hi] at ac hnA hwn
  rw [hh] at ac
  have := D.q
  have := D.full
  have := h.a60
  exact ⟨h.tl, h.w0, by omega, h.a60, T, bc, Q, D, by omega, by omega, ac⟩
end
theorem En1.pop {n A : Nat} {L : List Int} {j k v last : Int} {tk : List Int} {pu : List Bool} (h : En1 n A L j k v last tk pu) (hj : 0 ≤ j) (hk : 0 ≤ k) :
    (runs 8 L (mPop (en n))).2.pc = 0 ∧
    (((runs 8 L (mPop (en n))).2.out = 1 ∧ 1 ≤ (runs 8 L (mPop (en n))).2.w ∧ (runs 8 L (mPop (en n))).2.w ≤ v ∧ (runs 8 L (mPop (en n))).2.w.toNat < tk.length ∧ 1 ≤ k ∧
      En1 n A (runs 8 L (mPop (en n))).1 (j - 1) (k - 1) v last (tk.set (runs 8 L (mPop (en n))).2.w.toNat (tk.getD (runs 8 L (mPop (en n))).2.w.toNat 0 + 1)) pu) ∨
     ((runs 8 L (mPop (en n))).2.out ≠ 1 ∧ En1 n A (runs 8 L (mPop (en n))).1 (j - 1) 0 v last tk pu)) := by
  obtain ⟨T, β, Q, D, hb, hq, ac⟩ := h.ex
  obtain ⟨T', β', Q', D', p, b', ev⟩ := pop_alone D (by omega)
  generalize runs 8 L (mPop (en n)) = r at D' p ev ⊢
  refine ⟨p, ?_⟩
  have hdl := D'.q
  rcases ev with ⟨ho, e⟩ | ⟨ho, e1, e2, e3⟩
  · have hx := ac.tk_in (x := r.2.w) (by rw [e]; simp)
    have hlen : Q.length = Q'.length + 1 := by rw [e]; simp
    exact .inl ⟨ho, hx.1, hx.2.1, hx.2.2, by omega, by simp [h.tl], h.v0, h.vA, h.a60, T', β', Q', D', by omega, by omega, ac.own (by simpa using e) (by rw [e]; simp)⟩
  · subst e1 e2
    exact .inr ⟨by omega, h.tl, h.v0, h.vA, h.a60, T', β', [], D', by omega, by simp, ac⟩
theorem En1.done {n A : Nat} {L : List Int} {j v last : Int} {tk : List Int} {pu : List Bool} (h : En1 n A L j 0 v last tk pu) (y : Nat) (hy : 1 ≤ y) (hl : y < tk.length) : tk.getD y 0 = if pu.getD y false = true then 1 else 0 := by
  obtain ⟨T, β, Q, D, hb, hq, ac⟩ := h.ex
  have : Q = [] := by apply List.eq_nil_of_length_eq_zero; omega
  subst this
  exact ac.end y hy hl
end Go.Proofs.Ytjnenpflpckimaa
