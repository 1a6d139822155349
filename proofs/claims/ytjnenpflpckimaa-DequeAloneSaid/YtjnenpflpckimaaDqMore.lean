/- A deque's machines: one that steals alone; some that steal from a deque to which no one pushes; a deque whose ends stand anywhere. -/
import Derived.Test.YtjnenpflpckimaaDqOnce
namespace Go.Proofs.Ytjnenpflpckimaa
set_option linter.unusedVariables false
set_option linter.unusedSimpArgs false
attribute [local irreducible] runs

theorem steal_alone {n : Nat} {L : List Int} {T β : Int} {Q : List Int} (D : Dq n L T β β Q) (k : Nat) (hk : 4 ≤ k) :
    ∃ T' Q', Dq n (runs k L (mSteal (en n))).1 T' β β Q' ∧ (runs k L (mSteal (en n))).2.pc = 0 ∧
      ((Q = [] ∧ Q' = [] ∧ (runs k L (mSteal (en n))).2.out = 3 ∧ (runs k L (mSteal (en n))).2.w = 0) ∨ ((runs k L (mSteal (en n))).2.out = 1 ∧ Q = (runs k L (mSteal (en n))).2.w :: Q')) := by
  obtain ⟨j, rfl⟩ : ∃ j, k = j + 4 := ⟨k - 4, by omega⟩
  have hT := D.t0
  have hq := D.q
  have hlit := D.lit
  have h1 := D.ld0
  have h2 := D.ld1
  have h3 := ahead_w1 (a := β) (b := T) (by omega) (by omega)
  have e1 : stp L (mSteal (en n)) = (L, ⟨3, 2, en n, 0, T, 0, false, 0⟩) := by simp [mSteal, stp, stealS, en, h1]
  by_cases hc : β - T ≤ 0
  · have e2 : stp L ⟨3, 2, en n, 0, T, 0, false, 0⟩ = (L, ⟨3, 0, en n, 0, T, 0, false, 3⟩) := by
      simp [stp, stealS, en, h2, h3, hc, fin]
    have e : runs (j + 4) L (mSteal (en n)) = (L, ⟨3, 0, en n, 0, T, 0, false, 3⟩) := by
      have e0 : stp L ⟨3, 0, en n, 0, T, 0, false, 3⟩ = (L, ⟨3, 0, en n, 0, T, 0, false, 3⟩) := by simp [stp]
      simp only [runs, e1, e2, e0]; exact runs_done (m := ⟨3, 0, en n, 0, T, 0, false, 3⟩) rfl j
    rw [e]
    have hQ : Q = [] := by apply List.eq_nil_of_length_eq_zero; omega
    exact ⟨T, Q, D, rfl, .inl ⟨hQ, hQ, rfl, rfl⟩⟩
  · have e2 : stp L ⟨3, 2, en n, 0, T, 0, false, 0⟩ = (L, ⟨3, 3, en n, u64w β, T, 0, false, 0⟩) := by
      simp [stp, stealS, en, h2, h3, hc]
    have S : Th n T β (Q.headD 0) ⟨3, 3, en n, u64w β, T, 0, false, 0⟩ := .s3 _ _ _ _ _ hT (by omega) (fun _ => by omega)
    have e3 : stp L ⟨3, 3, en n, u64w β, T, 0, false, 0⟩ = (L, ⟨3, 4, en n, u64w β, T, Q.headD 0, false, 0⟩) := by
      have h5 := D.lde T
      rw [D.first (by omega)] at h5
      simp only [stp, stealS]
      simp [h5]
    have hl := D.len
    have e4 : stp L ⟨3, 4, en n, u64w β, T, Q.headD 0, false, 0⟩ = (ptq L 0 (u64w (T + 1)), ⟨3, 0, en n, u64w β, T, Q.headD 0, false, 1⟩) := by
      have ht : L[0]?.getD 0 = T := by have := D.top; simpa [List.getD] using this
      have h7 : 0 < L.length := by omega
      have h8 : L[0] = T := by rw [List.getElem?_eq_getElem h7] at ht; simpa using ht
      simp only [stp, stealS, en]
      simp [h8, h7, fin]
    have e : runs (j + 4) L (mSteal (en n)) = (ptq L 0 (u64w (T + 1)), ⟨3, 0, en n, u64w β, T, Q.headD 0, false, 1⟩) := by
      simp only [runs, e1, e2, e3, e4]; exact runs_done (m := ⟨3, 0, en n, u64w β, T, Q.headD 0, false, 1⟩) rfl j
    rw [e]
    refine ⟨T + 1, Q.tail, D.take (by omega), rfl, .inr ⟨rfl, ?_⟩⟩
    show Q = Q.headD 0 :: Q.tail
    match Q, (show 0 < Q.length by omega) with
    | a :: t, _ => rfl

/-- A push alone, and a pop alone. -/
theorem push_alone {n : Nat} {L : List Int} {T β : Int} {Q : List Int} (D : Dq n L T β β Q) (hs : β < 1000) (w : Int) :
    ∃ T' β' Q', Dq n (runs 8 L (mPush (en n) w)).1 T' β' β' Q' ∧ (runs 8 L (mPush (en n) w)).2.pc = 0 ∧ β' ≤ β + 1 ∧
      (((runs 8 L (mPush (en n) w)).2.out = 1 ∧ Q' = Q ++ [w] ∧ Q.length < n) ∨ ((runs 8 L (mPush (en n) w)).2.out = 2 ∧ Q' = Q ∧ n ≤ Q.length)) := by
  obtain ⟨T', β', Q', D', p, _, b, ev⟩ := alone_any (w := w) 8 D (.push1 0 0 false 0) (by simp) hs (by simp [left]) (fun _ => by simp [hand])
  refine ⟨T', β', Q', D', p, b, ?_⟩
  cases ev with
  | pushed hk ho h3 h4 => exact .inl ⟨ho, by simpa [hand] using h3, by simpa [hand] using h4⟩
  | full hk ho h3 h4 => exact .inr ⟨ho, by simpa [hand] using h3, by simpa [hand] using h4⟩
  | took hk => cases hk
  | none hk => cases hk
theorem pop_alone {n : Nat} {L : List Int} {T β : Int} {Q : List Int} (D : Dq n L T β β Q) (hs : β < 1000) :
    ∃ T' β' Q', Dq n (runs 8 L (mPop (en n))).1 T' β' β' Q' ∧ (runs 8 L (mPop (en n))).2.pc = 0 ∧ β' ≤ β + 1 ∧
      (((runs 8 L (mPop (en n))).2.out = 1 ∧ Q = Q' ++ [(runs 8 L (mPop (en n))).2.w]) ∨ ((runs 8 L (mPop (en n))).2.out = 3 ∧ Q' = [] ∧ Q = [] ∧ (runs 8 L (mPop (en n))).2.w = 0)) := by
  obtain ⟨T', β', Q', D', p, _, b, ev⟩ := alone_any (w := 0) 8 D (.pop1 0 0 0 false 0) (by simp) hs (by simp [left]) (fun h => by simp [hand])
  refine ⟨T', β', Q', D', p, b, ?_⟩
  cases ev with
  | pushed hk => cases hk
  | full hk => cases hk
  | took hk ho h3 => exact .inl ⟨ho, by simpa [hand, mPop] using h3⟩
  | none hk ho h3 h4 h5 =>
    have h4' : Q = [] := by simpa [hand] using h4
    exact .inr ⟨ho, by rw [h3]; simpa [hand] using h4', h4', h5⟩

/-! Some that steal, where no one pushes: each step is one nearer to the end. -/
def wait (T : Int) (m : Mc) : Int := if m.pc = 1 then 4 else if m.t = T then 5 - m.pc else 9 - m.pc
/-- The machine that goes on: a new one, where this one is finished. -/
def next (n : Nat) (m : Mc) : Mc := if m.pc = 0 then mSteal (en n) else m
theorem next_th {n : Nat} {T g hd : Int} {m : Mc} (h : Th n T g hd m) : Th n T g hd (next n m) := by
  unfold next; split
  · exact .s1 ..
  · exact h
theorem next_pc {n : Nat} (m : Mc) : (next n m).pc ≠ 0 := by unfold next; split <;> simp_all [mSteal]
theorem wait_other {n : Nat} {T g hd : Int} {m : Mc} (h : Th n T g hd m) (hp : m.pc ≠ 0) : wait (T + 1) m ≤ wait T m + 4 ∧ 1 ≤ wait T m ∧ wait T m ≤ 7 := by
  cases h with
  | done => exact absurd rfl hp
  | s1 => simp [wait]
  | s2 b t x won out h0 h1 => by_cases e : t = T <;> by_cases e2 : t = T + 1 <;> simp [wait, e, e2] <;> omega
  | s3 b t x won out h0 h1 h2 => by_cases e : t = T <;> by_cases e2 : t = T + 1 <;> simp [wait, e, e2] <;> omega
  | s4 b t x won out h0 h1 h2 => by_cases e : t = T <;> by_cases e2 : t = T + 1 <;> simp [wait, e, e2] <;> omega

theorem thief_step {n : Nat} {L : List Int} {T β : Int} {Q : List Int} {m : Mc} (D : Dq n L T β β Q) (H : Th n T β (Q.headD 0) m) (hp : m.pc ≠ 0) :
    ∃ T' Q', Dq n (stp L m).1 T' β β Q' ∧ Th n T' β (Q'.headD 0) (stp L m).2 ∧ T ≤ T' ∧ (T' = T → T < β → T < β ∧ Q'.headD 0 = Q.headD 0) ∧ ThEv (stp L m).2 Q Q' ∧
      ((T' = T ∧ Q' = Q ∧ (stp L m).2.out ≠ 1 ∨ T' = T + 1 ∧ (stp L m).2.pc = 0 ∧ (stp L m).2.out = 1 ∧ Q = (stp L m).2.w :: Q') ∨ (stp L m).2.pc ≠ 0 ∧ T' = T ∧ Q' = Q) ∧
      (T < β → T' = T → wait T (next n (stp L m).2) + 1 ≤ wait T m) ∧ (T' = T + 1 → wait T m = 1 ∧ wait T' (next n (stp L m).2) = 4) := by
  obtain ⟨T', Q', D', P', H', h1, h2, ev⟩ := th_step D (Ph.idle (w := 0) 0 0 0 0 false 0) H hp
  have hq := D.q
  have hq' := D'.q
  refine ⟨T', Q', D', H', h1, h2, ev, ?_, ?_, ?_⟩
  · cases ev with
    | on h e => subst e; exact .inr ⟨h, by omega, rfl⟩
    | took h ho e =>
      refine .inl (.inr ⟨?_, h, ho, e⟩)
      rw [e] at hq; simp at hq; omega
    | none h ho e => subst e; exact .inl (.inl ⟨by omega, rfl, by omega⟩)
  · intro hlt hTT
    have hlit := D.lit
    cases H with
    | done => exact absurd rfl hp
    | s1 b t x won out =>
      have e : (stp L ⟨3, 1, en n, b, t, x, won, out⟩).2 = ⟨3, 2, en n, b, T, x, won, out⟩ := by
        have := D.ld0
        simp [stp, stealS, en, this]
      rw [e]; simp [next, wait]
    | s2 b t x won out h0 h1 =>
      have h2 := D.ld1
      have h3 := ahead_w1 (a := β) (b := t) (by omega) (by omega)
      have hc : ¬ β - t ≤ 0 := by omega
      have e : (stp L ⟨3, 2, en n, b, t, x, won, out⟩).2 = ⟨3, 3, en n, u64w β, t, x, won, out⟩ := by
        simp [stp, stealS, en, h2, h3, hc]
      rw [e]; simp [next, wait]; split <;> omega
    | s3 b t x won out h0 h1 h2 =>
      have e : (stp L ⟨3, 3, en n, b, t, x, won, out⟩).2.pc = 4 ∧ (stp L ⟨3, 3, en n, b, t, x, won, out⟩).2.t = t := by
        simp [stp, stealS]
      simp [next, wait, e]; split <;> omega
    | s4 b t x won out h0 h1 h2 =>
      have e : (stp L ⟨3, 4, en n, b, t, x, won, out⟩).2.pc = 0 := by
        simp only [stp, stealS]; simp; split <;> simp [fin]
      have hne : t ≠ T := by
        intro ht
        have hl := D.len
        have h9 : (stp L ⟨3, 4, en n, b, t, x, won, out⟩).1 = ptq L 0 (u64w (T + 1)) := by
          have ht2 : L[0]?.getD 0 = T := by have := D.top; simpa [List.getD] using this
          have h7 : 0 < L.length := by omega
          have h8 : L[0] = T := by rw [List.getElem?_eq_getElem h7] at ht2; simpa using ht2
          simp only [stp, stealS, en]
          simp [h8, h7, ht]
        have h10 := D'.ld0
        rw [h9, (D.take hlt).ld0] at h10
        omega
      simp [next, e, wait, mSteal, hne]
  · intro hTT
    have e : (stp L m).2.pc = 0 := by
      cases ev with
      | on h e => subst e; omega
      | took h => exact h
      | none h => exact h
    refine ⟨?_, by simp [next, e, wait, mSteal]⟩
    cases H with
    | done => exact absurd rfl hp
    | s1 b t x won out => simp [stp, stealS] at e
    | s2 b t x won out h0 h1 =>
      exfalso
      have h9 : (stp L ⟨3, 2, en n, b, t, x, won, out⟩).1 = L := by simp only [stp, stealS]; simp; split <;> rfl
      have h10 := D'.ld0
      rw [h9, D.ld0] at h10; omega
    | s3 b t x won out h0 h1 h2 => simp [stp, stealS] at e
    | s4 b t x won out h0 h1 h2 =>
      by_cases ht : t = T
      · simp [wait, ht]
      · exfalso
        have h9 : (stp L ⟨3, 4, en n, b, t, x, won, out⟩).1 = L := by
          have ht2 : L[0]?.getD 0 = T := by have := D.top; simpa [List.getD] using this
          simp only [stp, stealS, en]; simp
          rw [if_neg]
          rintro ⟨ha, hb⟩
          omega
        have h10 := D'.ld0
        rw [h9, D.ld0] at h10; omega

/-! A deque of four entries whose ends stand anywhere. -/
structure Rs (at' : Int) (L R : List Int) : Prop where
  l : L.length = 6
  r : R.length = 6
  b0 : 0 ≤ L.getD 0 0 ∧ L.getD 0 0 < 18446744073709551616
  b1 : 0 ≤ L.getD 1 0 ∧ L.getD 1 0 < 18446744073709551616
  top : R.getD 0 0 = u64w (L.getD 0 0 + at')
  bot : R.getD 1 0 = u64w (L.getD 1 0 + at')
  ent : ∀ x : Int, R.getD (2 + (u64w (x + at') % 4).toNat) 0 = L.getD (2 + (x % 4).toNat) 0

/-- Two machines that are as far apart as the ends. -/
structure Ms (at' : Int) (m k : Mc) : Prop where
  kind : k.kind = m.kind
  pc : k.pc = m.pc
  e : m.e = en 4
  e2 : k.e = en 4
  w : k.w = m.w
  won : k.won = m.won
  out : k.out = m.out
  b : m.kind ≠ 3 → 2 ≤ m.pc → k.b = u64w (m.b + at') ∧ 0 ≤ m.b ∧ m.b < 18446744073709551616
  t : (m.kind = 3 ∧ 2 ≤ m.pc) ∨ (m.kind = 2 ∧ 4 ≤ m.pc ∧ m.pc ≠ 7) → k.t = u64w (m.t + at') ∧ 0 ≤ m.t ∧ m.t < 18446744073709551616

section
variable {at' : Int} {L R : List Int}
theorem Rs.l0 (h : Rs at' L R) : ldq L 0 = L.getD 0 0 ∧ ldq R 0 = u64w (L.getD 0 0 + at') := by
  have := h.l; have := h.r
  unfold ldq; rw [if_pos (by omega), if_pos (by omega)]; exact ⟨rfl, h.top⟩
theorem Rs.l1 (h : Rs at' L R) : ldq L 1 = L.getD 1 0 ∧ ldq R 1 = u64w (L.getD 1 0 + at') := by
  have := h.l; have := h.r
  unfold ldq; rw [if_pos (by omega), if_pos (by omega)]; exact ⟨rfl, h.bot⟩
theorem Rs.le (h : Rs at' L R) (x : Int) : ldq R (entOf (en 4) (u64w (x + at'))) = ldq L (entOf (en 4) x) := by
  have hl := h.l; have hr := h.r
  obtain ⟨m0, m1⟩ := mod_lt (n := 4) (by omega) x
  obtain ⟨k0, k1⟩ := mod_lt (n := 4) (by omega) (u64w (x + at'))
  rw [ent_en (by omega), ent_en (by omega)]
  unfold ldq; rw [if_pos (by omega), if_pos (by omega)]
  have := h.ent x
  have e1 : (2 + u64w (x + at') % ((4 : Nat) : Int)).toNat = 2 + (u64w (x + at') % 4).toNat := by omega
  have e2 : (2 + x % ((4 : Nat) : Int)).toNat = 2 + (x % 4).toNat := by omega
  rw [e1, e2]; exact this
theorem Rs.s0 (h : Rs at' L R) {a : Int} (h0 : 0 ≤ a) (h1 : a < 18446744073709551616) : Rs at' (ptq L 0 a) (ptq R 0 (u64w (a + at'))) := by
  have hl := h.l; have hr := h.r
  have e1 : ptq L 0 a = L.set 0 a := by unfold ptq; rw [if_pos (by omega)]; rfl
  have e2 : ptq R 0 (u64w (a + at')) = R.set 0 (u64w (a + at')) := by unfold ptq; rw [if_pos (by omega)]; rfl
  rw [e1, e2]
  have g0 : (L.set 0 a).getD 0 0 = a := by simp only [List.getD, List.getElem?_set, if_true]; rw [if_pos (by omega)]; rfl
  have g1 : (R.set 0 (u64w (a + at'))).getD 0 0 = u64w (a + at') := by simp only [List.getD, List.getElem?_set, if_true]; rw [if_pos (by omega)]; rfl
  have g2 : (L.set 0 a).getD 1 0 = L.getD 1 0 := by simp only [List.getD, List.getElem?_set]; rw [if_neg (by omega)]
  have g3 : (R.set 0 (u64w (a + at'))).getD 1 0 = R.getD 1 0 := by simp only [List.getD, List.getElem?_set]; rw [if_neg (by omega)]
  refine ⟨by simp [hl], by simp [hr], by rw [g0]; exact ⟨h0, h1⟩, by rw [g2]; exact h.b1, by rw [g0, g1], by rw [g2, g3]; exact h.bot, fun x => ?_⟩
  have g4 : ∀ i : Nat, (L.set 0 a).getD (2 + i) 0 = L.getD (2 + i) 0 := fun i => by simp only [List.getD, List.getElem?_set]; rw [if_neg (by omega)]
  have g5 : ∀ i : Nat, (R.set 0 (u64w (a + at'))).getD (2 + i) 0 = R.getD (2 + i) 0 := fun i => by simp only [List.getD, List.getElem?_set]; rw [if_neg (by omega)]
  rw [g4, g5]; exact h.ent x
theorem Rs.s1 (h : Rs at' L R) {a : Int} (h0 : 0 ≤ a) (h1 : a < 18446744073709551616) : Rs at' (ptq L 1 a) (ptq R 1 (u64w (a + at'))) := by
  have hl := h.l; have hr := h.r
  have e1 : ptq L 1 a = L.set 1 a := by unfold ptq; rw [if_pos (by omega)]; rfl
  have e2 : ptq R 1 (u64w (a + at')) = R.set 1 (u64w (a + at')) := by unfold ptq; rw [if_pos (by omega)]; rfl
  rw [e1, e2]
  have g0 : (L.set 1 a).getD 1 0 = a := by simp only [List.getD, List.getElem?_set, if_true]; rw [if_pos (by omega)]; rfl
  have g1 : (R.set 1 (u64w (a + at'))).getD 1 0 = u64w (a + at') := by simp only [List.getD, List.getElem?_set, if_true]; rw [if_pos (by omega)]; rfl
  have g2 : (L.set 1 a).getD 0 0 = L.getD 0 0 := by simp only [List.getD, List.getElem?_set]; rw [if_neg (by omega)]
  have g3 : (R.set 1 (u64w (a + at'))).getD 0 0 = R.getD 0 0 := by simp only [List.getD, List.getElem?_set]; rw [if_neg (by omega)]
  refine ⟨by simp [hl], by simp [hr], by rw [g2]; exact h.b0, by rw [g0]; exact ⟨h0, h1⟩, by rw [g2, g3]; exact h.top, by rw [g0, g1], fun x => ?_⟩
  have g4 : ∀ i : Nat, (L.set 1 a).getD (2 + i) 0 = L.getD (2 + i) 0 := fun i => by simp only [List.getD, List.getElem?_set]; rw [if_neg (by omega)]
  have g5 : ∀ i : Nat, (R.set 1 (u64w (a + at'))).getD (2 + i) 0 = R.getD (2 + i) 0 := fun i => by simp only [List.getD, List.getElem?_set]; rw [if_neg (by omega)]
  rw [g4, g5]; exact h.ent x
theorem Rs.se (h : Rs at' L R) (x v : Int) : Rs at' (ptq L (entOf (en 4) x) v) (ptq R (entOf (en 4) (u64w (x + at'))) v) := by
  have hl := h.l; have hr := h.r
  obtain ⟨m0, m1⟩ := mod_lt (n := 4) (by omega) x
  obtain ⟨k0, k1⟩ := mod_lt (n := 4) (by omega) (u64w (x + at'))
  have e1 : ptq L (entOf (en 4) x) v = L.set (2 + (x % 4).toNat) v := by
    rw [ent_en (by omega)]; unfold ptq; rw [if_pos (by omega)]; congr 1; omega
  have e2 : ptq R (entOf (en 4) (u64w (x + at'))) v = R.set (2 + (u64w (x + at') % 4).toNat) v := by
    rw [ent_en (by omega)]; unfold ptq; rw [if_pos (by omega)]; congr 1; omega
  rw [e1, e2]
  have g : ∀ (S : List Int) (i : Nat), (S.set (2 + i) v).getD 0 0 = S.getD 0 0 ∧ (S.set (2 + i) v).getD 1 0 = S.getD 1 0 := fun S i => by
    simp only [List.getD, List.getElem?_set]; rw [if_neg (by omega), if_neg (by omega)]; exact ⟨rfl, rfl⟩
  refine ⟨by simp [hl], by simp [hr], by rw [(g _ _).1]; exact h.b0, by rw [(g _ _).2]; exact h.b1, by rw [(g _ _).1, (g _ _).1]; exact h.top, by rw [(g _ _).2, (g _ _).2]; exact h.bot, fun y => ?_⟩
  obtain ⟨p0, p1⟩ := mod_lt (n := 4) (by omega) y
  obtain ⟨q0, q1⟩ := mod_lt (n := 4) (by omega) (u64w (y + at'))
  by_cases hc : x % 4 = y % 4
  · have hc2 : u64w (x + at') % 4 = u64w (y + at') % 4 := by unfold u64w; omega
    rw [hc, hc2]
    simp only [List.getD, List.getElem?_set, if_true]; rw [if_pos (by omega), if_pos (by omega)]
  · have hc2 : u64w (x + at') % 4 ≠ u64w (y + at') % 4 := by unfold u64w; omega
    have := h.ent y
    simp only [List.getD, List.getElem?_set] at this ⊢; rw [if_neg (by omega), if_neg (by omega)]; exact this
theorem ahead_shift (a b c : Int) : ahead (u64w (a + c)) (u64w (b + c)) = ahead a b := by
  have : u64w (u64w (a + c) - u64w (b + c)) = u64w (a - b) := by unfold u64w; omega
  unfold ahead; rw [this]
theorem succ_shift (a c : Int) : u64w (u64w (a + c) + 1) = u64w (u64w (a + 1) + c) := by unfold u64w; omega
theorem pred_shift (a c : Int) : u64w (u64w (a + c) - 1) = u64w (u64w (a - 1) + c) := by unfold u64w; omega
theorem u64_rng (a : Int) : 0 ≤ u64w a ∧ u64w a < 18446744073709551616 := by unfold u64w; omega
theorem shift_inj {a b c : Int} (ha : 0 ≤ a ∧ a < 18446744073709551616) (hb : 0 ≤ b ∧ b < 18446744073709551616) : u64w (a + c) = u64w (b + c) ↔ a = b := by unfold u64w; omega
end
theorem ms_step {at' : Int} {L R : List Int} {m k : Mc} (h : Rs at' L R) (hk : m.kind = 1 ∨ m.kind = 2 ∨ m.kind = 3) (M : Ms at' m k) :
    Rs at' (stp L m).1 (stp R k).1 ∧ Ms at' (stp L m).2 (stp R k).2 ∧ (stp L m).2.kind = m.kind := by
  obtain ⟨kd9, pc9, e9, b, t, w9, won9, out9⟩ := m
  obtain ⟨kd, pc, e, b2, t2, w, won, out⟩ := k
  obtain ⟨h1, h2, h3, h4, h5, h6, h7, hb, ht⟩ := M
  simp only at hk h1 h2 h3 h4 h5 h6 h7 hb ht
  subst h1 h2 h3 h4 h5 h6 h7
  obtain ⟨l0, r0⟩ := h.l0
  obtain ⟨l1, r1⟩ := h.l1
  have hl := h.l
  have hr := h.r
  have x0 := h.top
  have z0 := h.b0
  by_cases p0 : pc = 0
  · subst p0
    exact ⟨by simpa [stp] using h, by simp only [stp, if_true]; exact ⟨rfl, rfl, rfl, rfl, rfl, rfl, rfl, hb, ht⟩, by simp [stp]⟩
  rcases hk with hk | hk | hk
  · subst hk
    have et : (en 4).top = 0 := rfl
    have eb : (en 4).bot = 1 := rfl
    by_cases p1 : pc = 1
    · subst p1
      simp only [stp, pushS, eb, l1, r1]
      exact ⟨h, ⟨rfl, rfl, rfl, rfl, rfl, rfl, rfl, fun _ _ => ⟨rfl, h.b1⟩, fun h => by simp at h⟩, rfl⟩
    by_cases p2 : pc = 2
    · subst p2
      obtain ⟨rfl, b0, b1⟩ := hb (by omega) (by omega)
      simp only [stp, pushS, et, l0, r0, ahead_shift]
      by_cases hc : roomOf (en 4) ≤ ahead b (L.getD 0 0)
      · simp only [hc, if_true, fin]
        exact ⟨h, ⟨rfl, rfl, rfl, rfl, rfl, rfl, rfl, fun _ h => by simp at h, fun h => by simp at h⟩, rfl⟩
      · simp only [hc, if_false]
        exact ⟨h, ⟨rfl, rfl, rfl, rfl, rfl, rfl, rfl, fun _ _ => ⟨rfl, b0, b1⟩, fun h => by simp at h⟩, rfl⟩
    by_cases p3 : pc = 3
    · subst p3
      obtain ⟨rfl, b0, b1⟩ := hb (by omega) (by omega)
      simp only [stp, pushS]
      exact ⟨h.se b w, ⟨rfl, rfl, rfl, rfl, rfl, rfl, rfl, fun _ _ => ⟨rfl, b0, b1⟩, fun h => by simp at h⟩, rfl⟩
    · obtain ⟨rfl, b0, b1⟩ := hb (by omega) (by omega)
      simp only [stp, pushS, p0, p1, p2, p3, if_false, if_true, eb, succ_shift, fin]
      exact ⟨h.s1 (u64_rng _).1 (u64_rng _).2, ⟨rfl, rfl, rfl, rfl, rfl, rfl, rfl, fun _ h => by simp at h, fun h => by simp at h⟩, by first | rfl | trivial⟩
  · subst hk
    have et : (en 4).top = 0 := rfl
    have eb : (en 4).bot = 1 := rfl
    by_cases p1 : pc = 1
    · subst p1
      simp only [stp, popS, eb, l1, r1]
      exact ⟨h, ⟨rfl, rfl, rfl, rfl, rfl, rfl, rfl, fun _ _ => ⟨pred_shift _ _, u64_rng _⟩, fun h => by simp at h⟩, rfl⟩
    obtain ⟨rfl, b0, b1⟩ := hb (by omega) (by show 2 ≤ pc; omega)
    by_cases p2 : pc = 2
    · subst p2
      simp only [stp, popS, eb]
      exact ⟨h.s1 b0 b1, ⟨rfl, rfl, rfl, rfl, rfl, rfl, rfl, fun _ _ => ⟨rfl, b0, b1⟩, fun h => by simp at h⟩, rfl⟩
    by_cases p3 : pc = 3
    · subst p3
      simp only [stp, popS, et, l0, r0, ahead_shift]
      by_cases hc : 0 < ahead (L.getD 0 0) b
      · simp only [hc, if_true]
        exact ⟨h, ⟨rfl, rfl, rfl, rfl, rfl, rfl, rfl, fun _ _ => ⟨rfl, b0, b1⟩, fun h => by simp at h⟩, rfl⟩
      · simp only [hc, if_false]
        exact ⟨h, ⟨rfl, rfl, rfl, rfl, rfl, rfl, rfl, fun _ _ => ⟨rfl, b0, b1⟩, fun _ => ⟨rfl, z0⟩⟩, rfl⟩
    by_cases p4 : pc = 4
    · subst p4
      obtain ⟨rfl, t0, t1⟩ := ht (by simp)
      simp only [stp, popS, h.le, ahead_shift]
      by_cases hc : 0 < ahead b t
      · simp only [hc, if_true, fin]
        exact ⟨h, ⟨rfl, rfl, rfl, rfl, rfl, rfl, rfl, fun _ h => by simp at h, fun h => by simp at h⟩, rfl⟩
      · simp only [hc, if_false]
        exact ⟨h, ⟨rfl, rfl, rfl, rfl, rfl, rfl, rfl, fun _ _ => ⟨rfl, b0, b1⟩, fun _ => ⟨rfl, t0, t1⟩⟩, rfl⟩
    by_cases p5 : pc = 5
    · subst p5
      obtain ⟨rfl, t0, t1⟩ := ht (by simp)
      have iL : (0 : Int) ≤ 0 ∧ (0 : Int) < (L.length : Int) := by omega
      have iR : (0 : Int) ≤ 0 ∧ (0 : Int) < (R.length : Int) := by omega
      have z : (0 : Int).toNat = 0 := rfl
      simp only [stp, popS, et, iL, iR, z, x0, true_and, shift_inj z0 ⟨t0, t1⟩]
      by_cases hc : L.getD 0 0 = t
      · simp only [hc, and_self, if_true, succ_shift]
        exact ⟨h.s0 (u64_rng _).1 (u64_rng _).2, ⟨rfl, rfl, rfl, rfl, rfl, rfl, rfl, fun _ _ => ⟨rfl, b0, b1⟩, fun _ => ⟨rfl, t0, t1⟩⟩, rfl⟩
      · simp only [hc, and_false, if_false]
        exact ⟨h, ⟨rfl, rfl, rfl, rfl, rfl, rfl, rfl, fun _ _ => ⟨rfl, b0, b1⟩, fun _ => ⟨rfl, t0, t1⟩⟩, rfl⟩
    by_cases p6 : pc = 6
    · subst p6
      simp only [stp, popS, eb, succ_shift, fin]
      cases won
      · exact ⟨h.s1 (u64_rng _).1 (u64_rng _).2, ⟨rfl, rfl, rfl, rfl, rfl, rfl, rfl, fun _ h => by simp at h, fun h => by simp at h⟩, rfl⟩
      · exact ⟨h.s1 (u64_rng _).1 (u64_rng _).2, ⟨rfl, rfl, rfl, rfl, rfl, rfl, rfl, fun _ h => by simp at h, fun h => by simp at h⟩, rfl⟩
    · simp only [stp, popS, p0, p1, p2, p3, p4, p5, p6, if_false, if_true, eb, succ_shift, fin]
      exact ⟨h.s1 (u64_rng _).1 (u64_rng _).2, ⟨rfl, rfl, rfl, rfl, rfl, rfl, rfl, fun _ h => by simp at h, fun h => by simp at h⟩, rfl⟩
  · subst hk
    have et : (en 4).top = 0 := rfl
    have eb : (en 4).bot = 1 := rfl
    by_cases p1 : pc = 1
    · subst p1
      simp only [stp, stealS, et, l0, r0]
      exact ⟨h, ⟨rfl, rfl, rfl, rfl, rfl, rfl, rfl, fun h => absurd rfl h, fun _ => ⟨rfl, z0⟩⟩, rfl⟩
    obtain ⟨rfl, t0, t1⟩ := ht (.inl ⟨rfl, by show 2 ≤ pc; omega⟩)
    by_cases p2 : pc = 2
    · subst p2
      simp only [stp, stealS, eb, l1, r1, ahead_shift]
      by_cases hc : ahead (L.getD 1 0) t ≤ 0
      · simp only [hc, if_true, fin]
        exact ⟨h, ⟨rfl, rfl, rfl, rfl, rfl, rfl, rfl, fun h => absurd rfl h, fun h => by simp at h⟩, rfl⟩
      · simp only [hc, if_false]
        exact ⟨h, ⟨rfl, rfl, rfl, rfl, rfl, rfl, rfl, fun h => absurd rfl h, fun _ => ⟨rfl, t0, t1⟩⟩, rfl⟩
    by_cases p3 : pc = 3
    · subst p3
      simp only [stp, stealS, h.le]
      exact ⟨h, ⟨rfl, rfl, rfl, rfl, rfl, rfl, rfl, fun h => absurd rfl h, fun _ => ⟨rfl, t0, t1⟩⟩, rfl⟩
    · have iL : (0 : Int) ≤ 0 ∧ (0 : Int) < (L.length : Int) := by omega
      have iR : (0 : Int) ≤ 0 ∧ (0 : Int) < (R.length : Int) := by omega
      have z : (0 : Int).toNat = 0 := rfl
      have k1 : ¬ (3 = 1) := by omega
      have k2 : ¬ (3 = 2) := by omega
      simp only [stp, stealS, p0, p1, p2, p3, k1, k2, if_false, et, iL, iR, z, x0, true_and, shift_inj z0 ⟨t0, t1⟩]
      by_cases hc : L.getD 0 0 = t
      · simp only [hc, and_self, if_true, succ_shift, fin]
        exact ⟨h.s0 (u64_rng _).1 (u64_rng _).2, ⟨rfl, rfl, rfl, rfl, rfl, rfl, rfl, fun h => absurd rfl h, fun h => by simp at h⟩, by first | rfl | trivial⟩
      · simp only [hc, and_false, if_false, fin]
        exact ⟨h, ⟨rfl, rfl, rfl, rfl, rfl, rfl, rfl, fun h => absurd rfl h, fun h => by simp at h⟩, by first | rfl | trivial⟩

theorem ms_runs {at' : Int} (j : Nat) : ∀ {L R : List Int} {m k : Mc}, Rs at' L R → (m.kind = 1 ∨ m.kind = 2 ∨ m.kind = 3) → Ms at' m k → Rs at' (runs j L m).1 (runs j R k).1 ∧ Ms at' (runs j L m).2 (runs j R k).2 := by
  induction j with
  | zero => intro L R m k h hk M; simp only [runs]; exact ⟨h, M⟩
  | succ j ih =>
    intro L R m k h hk M
    obtain ⟨h', M', k'⟩ := ms_step h hk M
    simp only [runs]
    exact ih h' (by rw [k']; exact hk) M'
theorem Ms.res {at' : Int} {m k : Mc} (M : Ms at' m k) : mRes k = mRes m := by
  unfold mRes; rw [M.pc, M.out, M.w]
theorem ms_push (at' w : Int) : Ms at' (mPush (en 4) w) (mPush (en 4) w) := ⟨rfl, rfl, rfl, rfl, rfl, rfl, rfl, fun _ h => by simp [mPush] at h, fun h => by simp [mPush] at h⟩
theorem ms_pop (at' : Int) : Ms at' (mPop (en 4)) (mPop (en 4)) := ⟨rfl, rfl, rfl, rfl, rfl, rfl, rfl, fun _ h => by simp [mPop] at h, fun h => by simp [mPop] at h⟩
theorem ms_steal (at' : Int) : Ms at' (mSteal (en 4)) (mSteal (en 4)) := ⟨rfl, rfl, rfl, rfl, rfl, rfl, rfl, fun _ h => by simp [mSteal] at h, fun h => by simp [mSteal] at h⟩
theorem rs_start {at' : Int} (h0 : 0 ≤ at') (h1 : at' < 18446744073709551616) : Rs at' [0, 0, 0, 0, 0, 0] [at', at', 0, 0, 0, 0] := by
  have e : u64w at' = at' := u64_in h0 h1
  refine ⟨rfl, rfl, by simp, by simp, by simp [e], by simp [e], fun x => ?_⟩
  have a0 : 0 ≤ u64w (x + at') % 4 ∧ u64w (x + at') % 4 < 4 := by omega
  have b0 : 0 ≤ x % 4 ∧ x % 4 < 4 := by omega
  generalize (u64w (x + at') % 4) = i at a0
  generalize x % 4 = j at b0
  have c0 : i = 0 ∨ i = 1 ∨ i = 2 ∨ i = 3 := by omega
  have d0 : j = 0 ∨ j = 1 ∨ j = 2 ∨ j = 3 := by omega
  rcases c0 with rfl | rfl | rfl | rfl <;> rcases d0 with rfl | rfl | rfl | rfl <;> rfl
end Go.Proofs.Ytjnenpflpckimaa
