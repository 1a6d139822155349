/- Three that steal from a deque to which no one pushes: each step is one nearer to the end. -/
import Derived.Test.YtjnenpflpckimaaDqSt
namespace Go.Proofs.Ytjnenpflpckimaa
set_option linter.unusedVariables false
set_option linter.unusedSimpArgs false

/-- A push leaves Top as it is. -/
theorem push_top {n : Nat} {L : List Int} {T β g bc w : Int} {Q : List Int} {m : Mc} (D : Dq n L T β bc Q) (P : Ph n L T β Q w g bc m) (hk : m.kind = 1) : (stp L m).1.getD 0 0 = T := by
  have hq := D.q
  cases P with
  | idle => simp only [stp, if_true]; exact D.top
  | push1 => simp only [stp, pushS]; exact D.top
  | push2 => simp only [stp, pushS]; simp only [show (2 = 0) = False by simp, show (2 = 1) = False by simp, if_false, if_true]; split <;> exact D.top
  | push3 t won out hf => simp only [stp, pushS]; exact (D.setE β w (by omega) rfl hf).1.top
  | push4 t won out hf hv => exact (D.setB (β + 1)).top
  | pop1 => cases hk
  | pop2 => cases hk
  | pop3 => cases hk
  | pop4a => cases hk
  | pop4b => cases hk
  | pop5 => cases hk
  | pop6 => cases hk
  | pop7 => cases hk
theorem runs_top {n : Nat} {w : Int} (k : Nat) : ∀ {L : List Int} {T β g bc : Int} {Q : List Int} {m : Mc}, Dq n L T β bc Q → Ph n L T β Q w g bc m → m.kind = 1 → β < 1000 → (runs k L m).1.getD 0 0 = T := by
  induction k with
  | zero => intro L T β g bc Q m D P hk hs; simp only [runs]; exact D.top
  | succ k ih =>
    intro L T β g bc Q m D P hk hs
    by_cases hp : m.pc = 0
    · rw [runs_done hp]; exact D.top
    obtain ⟨T', β', g', bc', Q', D', P', h1, h2, h3, h4, ev⟩ := own_step D P hp hs
    have ht := push_top D P hk
    rw [D'.top] at ht
    subst ht
    simp only [runs]
    by_cases hp' : (stp L m).2.pc = 0
    · rw [runs_done hp']; exact D'.top
    · have hkk : (stp L m).2.kind = 1 := by
        cases ev with
        | on h hk2 => rw [hk2]; exact hk
        | pushed h => exact absurd h hp'
        | full h => exact absurd h hp'
        | took h => exact absurd h hp'
        | none h => exact absurd h hp'
      exact ih D' P' hkk (by have := h4 hp'; omega)

/-- The words k from T on, counted from 1. -/
def Line (T : Int) (Q : List Int) : Prop := ∀ i : Nat, i < Q.length → Q.getD i 0 = T + 1 + i
theorem Line.tail {T x : Int} {Q : List Int} (h : Line T (x :: Q)) : x = T + 1 ∧ Line (T + 1) Q := by
  refine ⟨by simpa using h 0 (by simp), fun i hi => ?_⟩
  have := h (i + 1) (by simp; omega)
  simp at this ⊢
  omega

/-- i words are pushed, alone. -/
structure Pd (i : Int) (L : List Int) : Prop where
  ex : ∃ Q, Dq 8 L 0 i i Q ∧ Line 0 Q
theorem Pd.start : Pd 0 (List.replicate 10 0) :=
  ⟨[], ⟨by omega, by omega, by simp, by simp [List.getD], by simp [List.getD, u64w], by omega, by simp, by omega, by omega, fun i hi => by simp at hi⟩, fun i hi => by simp at hi⟩
theorem Pd.push {i : Int} {L : List Int} (h : Pd i L) (hi : i < 8) : Pd (i + 1) (runs 8 L (mPush (en 8) (i + 1))).1 := by
  obtain ⟨Q, D, ln⟩ := h.ex
  have hq := D.q
  have ht := runs_top (w := i + 1) 8 D (.push1 0 0 false 0) rfl (by omega)
  obtain ⟨T', β', Q', D', p, b, ev⟩ := push_alone D (by omega) (i + 1)
  have hT : T' = 0 := by rw [← D'.top]; exact ht
  subst hT
  have hq' := D'.q
  rcases ev with ⟨ho, e, hl⟩ | ⟨ho, e, hl⟩
  · subst e
    have : β' = i + 1 := by simp at hq'; omega
    subst this
    refine ⟨_, D', fun j hj => ?_⟩
    simp at hj
    by_cases hc : j < Q.length
    · rw [← ln j hc]; simp [List.getD, List.getElem?_append_left hc]
    · have : j = Q.length := by omega
      subst this
      simp [List.getD]; omega
  · omega

/-- Three that steal, of a deque of k words; i steps are done. -/
structure Tv (k i : Int) (L : List Int) (T : Int) (a b c : Mc) : Prop where
  k7 : k ≤ 7
  t0 : 0 ≤ T
  tk : T ≤ k
  pa : a.pc ≠ 0
  pb : b.pc ≠ 0
  pc : c.pc ≠ 0
  pot : T < k → 12 * (k - T) + wait T a + wait T b + wait T c + i ≤ 96
  ex : ∃ Q, Dq 8 L T k k Q ∧ Line T Q ∧ Th 8 T k (Q.headD 0) a ∧ Th 8 T k (Q.headD 0) b ∧ Th 8 T k (Q.headD 0) c
theorem Pd.thieves {k : Int} {L : List Int} (h : Pd k L) (h7 : k ≤ 7) : Tv k 0 L 0 (mSteal (en 8)) (mSteal (en 8)) (mSteal (en 8)) := by
  obtain ⟨Q, D, ln⟩ := h.ex
  have := D.q
  exact ⟨h7, by omega, by omega, by simp [mSteal], by simp [mSteal], by simp [mSteal], fun _ => by simp [wait, mSteal]; omega, Q, D, ln, .s1 .., .s1 .., .s1 ..⟩
theorem Tv.swap1 {k i : Int} {L : List Int} {T : Int} {a b c : Mc} (h : Tv k i L T a b c) : Tv k i L T b a c := by
  obtain ⟨Q, D, ln, ta, tb, tc⟩ := h.ex
  exact ⟨h.k7, h.t0, h.tk, h.pb, h.pa, h.pc, fun hl => by have := h.pot hl; omega, Q, D, ln, tb, ta, tc⟩
theorem Tv.swap2 {k i : Int} {L : List Int} {T : Int} {a b c : Mc} (h : Tv k i L T a b c) : Tv k i L T c b a := by
  obtain ⟨Q, D, ln, ta, tb, tc⟩ := h.ex
  exact ⟨h.k7, h.t0, h.tk, h.pc, h.pb, h.pa, fun hl => by have := h.pot hl; omega, Q, D, ln, tc, tb, ta⟩
theorem Tv.step {k i : Int} {L : List Int} {T : Int} {a b c : Mc} (h : Tv k i L T a b c) :
    ((stp L a).2.pc ≠ 0 ∧ Tv k (i + 1) (stp L a).1 T (stp L a).2 b c) ∨
    ((stp L a).2.pc = 0 ∧ (stp L a).2.out ≠ 1 ∧ Tv k (i + 1) (stp L a).1 T (mSteal (en 8)) b c) ∨
    ((stp L a).2.pc = 0 ∧ (stp L a).2.out = 1 ∧ (stp L a).2.w = T + 1 ∧ T + 1 ≤ k ∧ Tv k (i + 1) (stp L a).1 (T + 1) (mSteal (en 8)) b c) := by
  obtain ⟨Q, D, ln, ta, tb, tc⟩ := h.ex
  have hk := h.tk
  have h0 := h.t0
  obtain ⟨T', Q', D', H', h1, h2, ev, hc, hw, hs⟩ := thief_step D ta h.pa
  have tb' := tb.mono h1 h2
  have tc' := tc.mono h1 h2
  have hq := D.q
  have hq' := D'.q
  rcases hc with (⟨e1, e2, ho⟩ | ⟨e1, hp, ho, e2⟩) | ⟨hp, e1, e2⟩
  · subst e1 e2
    by_cases hp : (stp L a).2.pc = 0
    · refine .inr (.inl ⟨hp, ho, h.k7, h0, hk, by simp [mSteal], h.pb, h.pc, fun hl => ?_, _, D', ln, .s1 .., tb', tc'⟩)
      have := hw hl rfl
      rw [show next 8 (stp L a).2 = mSteal (en 8) from by simp [next, hp]] at this
      have := h.pot hl; omega
    · refine .inl ⟨hp, h.k7, h0, hk, hp, h.pb, h.pc, fun hl => ?_, _, D', ln, H', tb', tc'⟩
      have := hw hl rfl
      rw [show next 8 (stp L a).2 = (stp L a).2 from by simp [next, hp]] at this
      have := h.pot hl; omega
  · subst e1
    have e3 := e2
    rw [e2] at hq
    simp at hq
    rw [e2] at ln
    obtain ⟨l1, l2⟩ := ln.tail
    refine .inr (.inr ⟨hp, ho, l1, by omega, h.k7, by omega, by omega, by simp [mSteal], h.pb, h.pc, fun hl => ?_, _, D', l2, .s1 .., tb', tc'⟩)
    obtain ⟨w1, w2⟩ := hs rfl
    rw [show next 8 (stp L a).2 = mSteal (en 8) from by simp [next, hp]] at w2
    have wb := wait_other tb h.pb
    have wc := wait_other tc h.pc
    have := h.pot (by omega)
    omega
  · subst e1 e2
    refine .inl ⟨hp, h.k7, h0, hk, hp, h.pb, h.pc, fun hl => ?_, _, D', ln, H', tb', tc'⟩
    have := hw hl rfl
    rw [show next 8 (stp L a).2 = (stp L a).2 from by simp [next, hp]] at this
    have := h.pot hl; omega
theorem Tv.end {k i : Int} {L : List Int} {T : Int} {a b c : Mc} (h : Tv k i L T a b c) (hi : 97 ≤ i) : T = k ∧ ldq L 0 = k ∧ ldq L 1 = k := by
  obtain ⟨Q, D, ln, ta, tb, tc⟩ := h.ex
  have wa := wait_other ta h.pa
  have wb := wait_other tb h.pb
  have wc := wait_other tc h.pc
  have hT : T = k := by
    by_cases hl : T < k
    · have := h.pot hl; omega
    · have := h.tk; omega
  have := h.k7
  have := h.t0
  exact ⟨hT, by rw [D.ld0]; exact hT, by rw [D.ld1]; exact u64_in (by omega) (by omega)⟩
end Go.Proofs.Ytjnenpflpckimaa
