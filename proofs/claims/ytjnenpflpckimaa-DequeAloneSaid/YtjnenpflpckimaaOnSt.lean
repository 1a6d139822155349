/- One that pushes and pops, and two that steal, in memory: what a step is. -/
import Derived.Test.YtjnenpflpckimaaOnPure
namespace Go.Proofs.Ytjnenpflpckimaa
open Go.RowKit
set_option linter.unusedVariables false
set_option linter.unusedSimpArgs false
attribute [local irreducible] runs

abbrev ek (n : Nat) : En := ⟨0, 1, 2, (n : Int) + 1⟩
theorem ek_eq (n : Nat) : en (n + 1) = ek n := by simp [en, ek]
theorem ek_ok (n : Nat) (h : n ≤ 99) : EnOk (ek n) := ⟨by show (-1000000000 : Int) ≤ 2; decide, by show (2 : Int) ≤ 1000000000; decide, by show (n : Int) + 1 ≤ 1000000000; omega⟩
/-- What is known at each step, but for the rows, and for what the thieves' row holds. -/
structure OL (Vs : List Nat) (M0 M1 M2 S D E : Nat) (w wr : World) (n A : Nat) (acts : List Bool) (L : List Int) (k : Int) (own a b : Mc) (v last nx : Int) (tk : List Int) (pu : List Bool) : Prop where
  q : Q3 Vs M0 M1 M2 S D E (ek n) w wr L k own a b
  o : Osn (n + 1) A L own a b v last nx tk pu
  n100 : n ≤ 99
  nx0 : 0 ≤ nx
  nxA : nx ≤ A
  bz : own.pc ≠ 0 → nx < A ∧ (own.kind = 1 ∨ own.kind = 2) ∧ acts.getD nx.toNat false = decide (own.kind = 1)
/-- What the thieves' row holds: one that isn't finished, or none. -/
def TP (p : Value) (M : Nat) (a : Mc) : Prop := p = ptr M ∧ a.pc ≠ 0 ∨ p = .pointer none ∧ a.pc = 0
section
variable {Vs : List Nat} {M0 M1 M2 S D E M : Nat} {w wr w' : World} {n A : Nat} {acts : List Bool} {L : List Int} {k : Int} {own a b : Mc} {v last nx : Int} {tk : List Int} {pu : List Bool}
theorem OL.th (h : OL Vs M0 M1 M2 S D E w wr n A acts L k own a b v last nx tk pu) : OL Vs M0 M2 M1 S D E w wr n A acts L k own b a v last nx tk pu :=
  ⟨h.q.swap1.swap2.swap1, h.o.swap, h.n100, h.nx0, h.nxA, h.bz⟩
theorem OL.step (h : OL Vs M0 M1 M2 S D E w wr n A acts L k own a b v last nx tk pu) (hb : Below wr.heap.size wr w') : OL Vs M0 M1 M2 S D E w w' n A acts L k own a b v last nx tk pu :=
  ⟨h.q.step hb, h.o, h.n100, h.nx0, h.nxA, h.bz⟩
theorem OL.more (h : OL Vs M0 M1 M2 S D E w wr n A acts L k own a b v last nx tk pu) {j : Int} (hk : k ≤ j) : OL Vs M0 M1 M2 S D E w wr n A acts L j own a b v last nx tk pu :=
  ⟨h.q.more hk, h.o, h.n100, h.nx0, h.nxA, h.bz⟩
theorem OL.put (h : OL Vs M0 M1 M2 S D E w wr n A acts L k own a b v last nx tk pu) {V : Nat} (hV : V ∈ Vs) (i : Nat) (x : Value) : OL Vs M0 M1 M2 S D E w (wr.setCell ⟨V, i, none⟩ x) n A acts L k own a b v last nx tk pu :=
  ⟨h.q.put hV i x, h.o, h.n100, h.nx0, h.nxA, h.bz⟩
theorem OL.cells (h : OL Vs M0 M1 M2 S D E w wr n A acts L k own a b v last nx tk pu) : wr.cell? ⟨E, 0, none⟩ = some (.int .i64 0) ∧ wr.cell? ⟨E, 1, none⟩ = some (.int .i64 1) ∧ wr.cell? ⟨E, 2, none⟩ = some (.int .i64 2) ∧ wr.cell? ⟨E, 3, none⟩ = some (.int .i64 ((n : Int) + 1)) := h.q.ok.cells
theorem OL.bel (h : OL Vs M0 M1 M2 S D E w wr n A acts L k own a b v last nx tk pu) : Below w.heap.size w wr := h.q.ok.bel

/-- A push, a pop is begun. -/
theorem OL.push (h : OL Vs M0 M1 M2 S D E w wr n A acts L k own a b v last nx tk pu) (hi : own.pc = 0) (hn : nx < A) (hact : acts.getD nx.toNat false = true) (hM : wr.heap.size ≤ M) (hm : MM w' M (mPush (ek n) (v + 1))) (hb : Below wr.heap.size wr w') :
    OL Vs M M1 M2 S D E w w' n A acts L k (mPush (ek n) (v + 1)) a b (v + 1) last nx tk pu := by
  have o := h.o.begin_push hi hn
  rw [ek_eq] at o
  exact ⟨h.q.fresh hM hm hb (ws_push h.q.wa.nn (ek_ok n h.n100) (by have := h.o.w0; omega)), o, h.n100, h.nx0, h.nxA, fun _ => ⟨hn, .inl rfl, by rw [hact]; rfl⟩⟩
theorem OL.push2 (h : OL Vs M0 M1 M2 S D E w wr n A acts L k own a b v last nx tk pu) {v' : Int} (hv : v + 1 = v') (hi : own.pc = 0) (hn : nx < A) (hact : acts.getD nx.toNat false = true) (hM : wr.heap.size ≤ M) (hm : MM w' M (mPush (ek n) v')) (hb : Below wr.heap.size wr w') :
    OL Vs M M1 M2 S D E w w' n A acts L k (mPush (ek n) v') a b v' last nx tk pu := by
  subst hv; exact h.push hi hn hact hM hm hb
theorem OL.pop (h : OL Vs M0 M1 M2 S D E w wr n A acts L k own a b v last nx tk pu) (hi : own.pc = 0) (hn : nx < A) (hact : acts.getD nx.toNat false = false) (hM : wr.heap.size ≤ M) (hm : MM w' M (mPop (ek n))) (hb : Below wr.heap.size wr w') :
    OL Vs M M1 M2 S D E w w' n A acts L k (mPop (ek n)) a b v last nx tk pu := by
  have o := h.o.begin_pop hi
  rw [ek_eq] at o
  exact ⟨h.q.fresh hM hm hb (ws_pop h.q.wa.nn (ek_ok n h.n100)), o, h.n100, h.nx0, h.nxA, fun _ => ⟨hn, .inr rfl, by rw [hact]; rfl⟩⟩

/-- A step of the owner; ab: it pushes. -/
inductive OwEv (Vs : List Nat) (M0 M1 M2 S D E : Nat) (w w' : World) (n A : Nat) (acts : List Bool) (k : Int) (a b : Mc) (v last nx : Int) (tk : List Int) (pu : List Bool) (lf : Nat) : Bool → Bool → Prop
  | on (ab : Bool) (L' : List Int) (o : Mc) (hp : o.pc ≠ 0) (hl : left o + 1 ≤ lf) (h : OL Vs M0 M1 M2 S D E w w' n A acts L' (k + 1) o a b v last nx tk pu) : OwEv Vs M0 M1 M2 S D E w w' n A acts k a b v last nx tk pu lf ab false
  | pushed (L' : List Int) (o : Mc) (hp : o.pc = 0) (hm : MM w' M0 o) (x : Int) (hr : rOf o = 1 ∧ xOf o = x) (hv : v.toNat < tk.length) (h : OL Vs M0 M1 M2 S D E w w' n A acts L' (k + 1) o a b v last (nx + 1) tk (pu.set v.toNat true)) : OwEv Vs M0 M1 M2 S D E w w' n A acts k a b v last nx tk pu lf true true
  | took (L' : List Int) (o : Mc) (hp : o.pc = 0) (hm : MM w' M0 o) (x : Nat) (hr : rOf o = 1 ∧ xOf o = (x : Int)) (hx : 1 ≤ x ∧ (x : Int) ≤ v ∧ x < tk.length) (h : OL Vs M0 M1 M2 S D E w w' n A acts L' (k + 1) o a b v last (nx + 1) (tk.set x (tk.getD x 0 + 1)) pu) : OwEv Vs M0 M1 M2 S D E w w' n A acts k a b v last nx tk pu lf false true
  | none (ab : Bool) (L' : List Int) (o : Mc) (hp : o.pc = 0) (hm : MM w' M0 o) (r x : Int) (hr : rOf o = r ∧ xOf o = x) (hn : (r == 1) = false) (h : OL Vs M0 M1 M2 S D E w w' n A acts L' (k + 1) o a b v last (nx + 1) tk pu) : OwEv Vs M0 M1 M2 S D E w w' n A acts k a b v last nx tk pu lf ab true
theorem ol_own (h : OL Vs M0 M1 M2 S D E w wr n A acts L k own a b v last nx tk pu) (hp : own.pc ≠ 0) (hk : k ≤ 900000000) (ab : Bool) (hab : acts.getD nx.toNat false = ab) :
    Calls Try.prog 14 #[ptr M0, ptr S] wr fun r w' => ∃ bb, r = .returned (.bool bb) ∧ OwEv Vs M0 M1 M2 S D E w w' n A acts k a b v last nx tk pu (left own) ab bb ∧ ∀ V ∈ Vs, w'.heap[V]? = wr.heap[V]? := by
  refine (q3_step h.q hp hk).mono ?_
  rintro r w1 ⟨rfl, q, hm, hv⟩
  obtain ⟨hnA, hkd, hact⟩ := h.bz hp
  have hl : left (stp L own).2 + 1 ≤ left own := by
    obtain ⟨T, β, g, bc, Q, D, P, _⟩ := h.o.ex
    exact (own_left P hp).1
  have nx0 := h.nx0
  rw [hab] at hact
  rcases h.o.owner hp hnA with ⟨p, kd, o⟩ | ⟨p, kd, ho, hv0, hvl, o⟩ | ⟨p, kd, ho, o⟩ | ⟨p, kd, ho, hx1, hx2, hx3, o⟩ | ⟨p, kd, ho, o⟩
  · rw [show decide ((stp L own).2.pc = 0) = false by simpa using p]
    exact ⟨_, rfl, .on _ _ _ p hl ⟨q, o, h.n100, h.nx0, h.nxA, fun _ => ⟨hnA, by rw [kd]; exact hkd, by rw [hab, kd]; exact hact⟩⟩, hv⟩
  · rw [show decide ((stp L own).2.pc = 0) = true by simpa using p]
    obtain ⟨r1, r2⟩ := rOf_no p
    rw [kd] at hact
    obtain rfl : ab = true := by simpa using hact
    exact ⟨_, rfl, .pushed _ _ p hm _ ⟨by rw [r1, ho], rfl⟩ hvl ⟨q, o, h.n100, by omega, by omega, fun hp' => absurd p hp'⟩, hv⟩
  · rw [show decide ((stp L own).2.pc = 0) = true by simpa using p]
    obtain ⟨r1, r2⟩ := rOf_no p
    exact ⟨_, rfl, .none _ _ _ p hm _ _ ⟨rfl, rfl⟩ (by rw [r1, beq_eq_false_iff_ne]; exact ho) ⟨q, o, h.n100, by omega, by omega, fun hp' => absurd p hp'⟩, hv⟩
  · rw [show decide ((stp L own).2.pc = 0) = true by simpa using p]
    obtain ⟨r1, r2⟩ := rOf_no p
    rw [kd] at hact
    obtain rfl : ab = false := by simpa using hact
    exact ⟨_, rfl, .took _ _ p hm (stp L own).2.w.toNat ⟨by rw [r1, ho], by rw [r2]; omega⟩ ⟨by omega, by omega, hx3⟩ ⟨q, o, h.n100, by omega, by omega, fun hp' => absurd p hp'⟩, hv⟩
  · rw [show decide ((stp L own).2.pc = 0) = true by simpa using p]
    obtain ⟨r1, r2⟩ := rOf_no p
    exact ⟨_, rfl, .none _ _ _ p hm _ _ ⟨rfl, rfl⟩ (by rw [r1, beq_eq_false_iff_ne]; exact ho) ⟨q, o, h.n100, by omega, by omega, fun hp' => absurd p hp'⟩, hv⟩

/-- A step of the first thief. -/
inductive ThEv2 (Vs : List Nat) (M0 M1 M2 S D E : Nat) (w w' : World) (n A : Nat) (acts : List Bool) (k : Int) (own b : Mc) (v last nx : Int) (tk : List Int) (pu : List Bool) : Bool → Prop
  | on (L' : List Int) (a' : Mc) (hp : a'.pc ≠ 0) (h : OL Vs M0 M1 M2 S D E w w' n A acts L' (k + 1) own a' b v last nx tk pu) : ThEv2 Vs M0 M1 M2 S D E w w' n A acts k own b v last nx tk pu false
  | took (L' : List Int) (a' : Mc) (hp : a'.pc = 0) (hm : MM w' M1 a') (x : Nat) (hr : rOf a' = 1 ∧ xOf a' = (x : Int)) (hx : 1 ≤ x ∧ (x : Int) ≤ v ∧ last < (x : Int) ∧ x < tk.length) (h : OL Vs M0 M1 M2 S D E w w' n A acts L' (k + 1) own a' b v (x : Int) nx (tk.set x (tk.getD x 0 + 1)) pu) : ThEv2 Vs M0 M1 M2 S D E w w' n A acts k own b v last nx tk pu true
  | none (L' : List Int) (a' : Mc) (hp : a'.pc = 0) (hm : MM w' M1 a') (r x : Int) (hr : rOf a' = r ∧ xOf a' = x) (hn : (r == 1) = false) (h : OL Vs M0 M1 M2 S D E w w' n A acts L' (k + 1) own a' b v last nx tk pu) : ThEv2 Vs M0 M1 M2 S D E w w' n A acts k own b v last nx tk pu true
theorem ol_th (h : OL Vs M0 M1 M2 S D E w wr n A acts L k own a b v last nx tk pu) (hp : a.pc ≠ 0) (hk : k ≤ 900000000) :
    Calls Try.prog 14 #[ptr M1, ptr S] wr fun r w' => ∃ bb, r = .returned (.bool bb) ∧ ThEv2 Vs M0 M1 M2 S D E w w' n A acts k own b v last nx tk pu bb ∧ ∀ V ∈ Vs, w'.heap[V]? = wr.heap[V]? := by
  refine (q3_step h.q.swap1 hp hk).mono ?_
  rintro r w1 ⟨rfl, q, hm, hv⟩
  have q := q.swap1
  rcases h.o.thief hp with ⟨hh, o⟩ | ⟨p, ho, hx1, hx2, hx3, hx4, o⟩
  · by_cases p : (stp L a).2.pc = 0
    · rw [show decide ((stp L a).2.pc = 0) = true by simpa using p]
      obtain ⟨r1, r2⟩ := rOf_no p
      have ho : (stp L a).2.out ≠ 1 := by
        rcases hh with ⟨ho, _⟩ | h2
        · exact ho
        · exact absurd p h2
      exact ⟨_, rfl, .none _ _ p hm _ _ ⟨rfl, rfl⟩ (by rw [r1, beq_eq_false_iff_ne]; exact ho) ⟨q, o, h.n100, h.nx0, h.nxA, h.bz⟩, hv⟩
    · rw [show decide ((stp L a).2.pc = 0) = false by simpa using p]
      exact ⟨_, rfl, .on _ _ p ⟨q, o, h.n100, h.nx0, h.nxA, h.bz⟩, hv⟩
  · rw [show decide ((stp L a).2.pc = 0) = true by simpa using p]
    obtain ⟨r1, r2⟩ := rOf_no p
    have e : (((stp L a).2.w.toNat : Nat) : Int) = (stp L a).2.w := by omega
    exact ⟨_, rfl, .took _ _ p hm (stp L a).2.w.toNat ⟨by rw [r1, ho], by rw [r2, e]⟩ ⟨by omega, by omega, by omega, hx4⟩ ⟨q, by rw [e]; exact o, h.n100, h.nx0, h.nxA, h.bz⟩, hv⟩
/-- A new thief comes in the first one's place. -/
theorem OL.fresh (h : OL Vs M0 M1 M2 S D E w wr n A acts L k own a b v last nx tk pu) (hM : wr.heap.size ≤ M) (hm : MM w' M (mSteal (ek n))) (hb : Below wr.heap.size wr w') :
    OL Vs M0 M M2 S D E w w' n A acts L k own (mSteal (ek n)) b v last nx tk pu := by
  have o := h.o.fresh
  rw [ek_eq] at o
  exact ⟨(h.q.swap1.fresh hM hm hb (ws_steal h.q.wa.nn (ek_ok n h.n100))).swap1, o, h.n100, h.nx0, h.nxA, h.bz⟩
end
/-- How long the owner takes behind the picks. -/
def Due (own : Mc) (np i : Int) : Prop := own.pc ≠ 0 → left own ≤ 6 ∧ (np ≤ i → i + 2 - (i + 2) % 3 + 3 * (left own : Int) ≤ np + 20)
theorem Due.no {own : Mc} {np i : Int} (h : own.pc = 0) : Due own np i := fun hp => absurd h hp
theorem Due.own {own o : Mc} {np i : Int} (h : Due own np i) (hp : own.pc ≠ 0) (hl : left o + 1 ≤ left own) (h3 : np ≤ i → i % 3 = 0) : Due o np (i + 1) := fun hp' => by
  obtain ⟨a, b⟩ := h hp
  refine ⟨by omega, fun hi => ?_⟩
  by_cases hc : np ≤ i
  · have := b hc; have := h3 hc; omega
  · omega
theorem Due.first {o : Mc} {np i : Int} {lf : Nat} (h6 : lf ≤ 6) (hl : left o + 1 ≤ lf) (hi : i < np) : Due o np (i + 1) := fun hp' => ⟨by omega, fun h => by omega⟩
theorem Due.th {own : Mc} {np i : Int} (h : Due own np i) (h3 : np ≤ i → i % 3 ≠ 0) : Due own np (i + 1) := fun hp => by
  obtain ⟨a, b⟩ := h hp
  refine ⟨a, fun hi => ?_⟩
  by_cases hc : np ≤ i
  · have := b hc; have := h3 hc; omega
  · omega
theorem Due.end {own : Mc} {np : Int} (h : Due own np (np + 40)) : own.pc = 0 := by
  by_cases hp : own.pc = 0
  · exact hp
  · have := (h hp).2 (by omega); omega
end Go.Proofs.Ytjnenpflpckimaa
