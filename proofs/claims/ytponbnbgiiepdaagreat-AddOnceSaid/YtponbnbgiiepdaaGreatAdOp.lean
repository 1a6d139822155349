/- Two markers' machines by their numbers; how many steps each has left. -/
import Derived.Test.YtponbnbgiiepdaaGreatJ26
import Derived.Test.YtponbnbgiiepdaaGreatJ23
namespace Go.Proofs.YtponbnbgiiepdaaGreat
set_option linter.unusedVariables false
set_option linter.unusedSimpArgs false
set_option maxRecDepth 100000
open Lay (plcc plc shOf packN nodesN OkC Cfg Norm firstV Rep lenL things)

def upd2 {α : Type} (f : Nat → α) (k : Nat) (x : α) : Nat → α := fun j => if j = k then x else f j
theorem upd2_same {α : Type} (f : Nat → α) (k : Nat) (x : α) : upd2 f k x k = x := by simp [upd2]
theorem upd2_other {α : Type} (f : Nat → α) {k j : Nat} (x : α) (h : j ≠ k) : upd2 f k x j = f j := by simp [upd2, h]
/-- The two, by numbers; their tasks leave k, halved. -/
def AN (n r : Nat) (g : Pg) (es : Nat → Dg.En) (L : List Int) (i : Int) (A : List Int) (ms : Nat → Am) (la rs : Nat → Int) : Prop :=
  Aw n r g (es 0) (es 1) L i A (ms 0) (ms 1) 0 1 (la 0) (la 1) (rs 0) (rs 1)
section
variable {n r : Nat} {g : Pg} {es : Nat → Dg.En} {L : List Int} {i : Int} {A : List Int} {ms : Nat → Am} {la rs : Nat → Int} {k : Nat}
theorem AN.more {j : Int} (h : AN n r g es L i A ms la rs) (hij : i ≤ j) : AN n r g es L j A ms la rs := Aw.more h hij (Int.le_refl _) (Int.le_refl _)
theorem AN.step (h : AN n r g es L i A ms la rs) (hk : k < 2) (hp : (ms k).pc ≠ 0) (hi : i + 1 < 100000) :
    AN n r g es (astp g L (ms k)).1 (i + 1) A (upd2 ms k (astp g L (ms k)).2) la (upd2 rs k (rs k - 1)) := by
  have key : k = 0 ∨ k = 1 := by omega
  unfold AN at *
  rcases key with rfl | rfl
  · simpa [upd2] using h.step hp hi
  · simpa [upd2] using (h.swap.step hp hi).swap
theorem AN.new {t : Int} (h : AN n r g es L i A ms la rs) (hk : k < 2) (hp : (ms k).pc = 0) (hl : 0 < la k) (ht : t % 2 = (k : Int)) (hn : A.length + 1 ≤ n) (h9 : A.length + 1 ≤ 100) :
    AN n r g es L i (t :: A) (upd2 ms k (aNew (es k) t)) (upd2 la k (la k - 1)) rs := by
  have key : k = 0 ∨ k = 1 := by omega
  unfold AN at *
  rcases key with rfl | rfl
  · simpa [upd2] using h.new hp hl (by simpa using ht) hn h9
  · simpa [upd2] using (h.swap.new hp hl (by simpa using ht) hn h9).swap
theorem AN.left (h : AN n r g es L i A ms la rs) (hk : k < 2) (hp : (ms k).pc ≠ 0) : 1 ≤ rs k := by
  have key : k = 0 ∨ k = 1 := by omega
  unfold AN at *
  rcases key with rfl | rfl
  · exact h.left (.inl hp)
  · exact h.swap.left (.inl hp)
end
/-- The next turn of number j, from i on. -/
def nextU (i : Int) (j : Nat) : Int := i + ((j : Int) + 2 - i % 2) % 2
/-- Steps that are left fit the turns that are left. -/
def Due2 (len i : Int) (j : Nat) (r : Int) : Prop := r ≤ 80 ∧ (len ≤ i → nextU i j + 2 * r ≤ len + 161)
theorem due2_start {len i r : Int} (h : i ≤ len) (j : Nat) (hj : j < 2) (hr : r ≤ 80) : Due2 len i j r := ⟨hr, fun h2 => by unfold nextU; omega⟩
theorem due2_own {len i r : Int} {j : Nat} (hj : j < 2) (h : Due2 len i j r) (hl : len ≤ i) (ht : i % 2 = j) : Due2 len (i + 1) j (r - 1) := ⟨by have := h.1; omega, fun _ => by have := h.2 hl; unfold nextU at *; omega⟩
theorem due2_other {len i r : Int} {j : Nat} (hj : j < 2) (h : Due2 len i j r) (hl : len ≤ i) (ht : i % 2 ≠ j) : Due2 len (i + 1) j r := ⟨h.1, fun _ => by have := h.2 hl; unfold nextU at *; omega⟩
theorem due2_end {len r : Int} {j : Nat} (hj : j < 2) (h : Due2 len (len + 160) j r) (hr : 1 ≤ r) : False := by have := h.2 (by omega); unfold nextU at this; omega
/-- What the pool holds, each packet one task. -/
theorem heldA_one {c : Cfg} {L : List Int} (G : Gp (pkn c) L.length (gOf c)) : ∀ {Q : List Int}, (∀ q ∈ Q, mw (gOf c) L q = 1 ∧ 1 ≤ q ∧ q ≤ (pkn c : Int)) → heldT c L Q = Q.map (tw (gOf c) L)
  | [], _ => rfl
  | q :: Q, h => by
    have ih := heldA_one G (Q := Q) (fun x hx => h x (by simp [hx]))
    obtain ⟨h1, h2, h3⟩ := h q (by simp)
    have e := pkT_cont (ts := [tw (gOf c) L q]) G ⟨h2, h3⟩ ⟨by simpa using h1, by simp, fun i hi => by
      have : i = 0 := by simpa using hi
      subst this; rfl⟩
    unfold heldT at ih ⊢
    rw [List.flatMap_cons, e, ih]; rfl
/-- Tasks that were begun: p of them, each another one. -/
structure Beg (p : Int) (A : List Int) : Prop where
  len : (A.length : Int) = p
  nd : A.Nodup
  rg : ∀ t ∈ A, 2 ≤ t ∧ t ≤ 2 * p + 1
theorem Beg.nil : Beg 0 [] := ⟨rfl, by simp, by simp⟩
theorem Beg.cons {p t : Int} {A : List Int} (h : Beg p A) (h0 : 2 * (p + 1) ≤ t) (h1 : t ≤ 2 * (p + 1) + 1) (hp : 0 ≤ p) : Beg (p + 1) (t :: A) :=
  ⟨by simp [h.len], List.nodup_cons.2 ⟨fun hm => by have := h.rg t hm; omega, h.nd⟩, fun x hx => by
    rcases List.mem_cons.1 hx with rfl | hx
    · omega
    · have := h.rg x hx; omega⟩
/-- What there is in the end. -/
structure AEnd (c : Cfg) (es : Nat → Dg.En) (L : List Int) (p : Int) (H : List Int) (Qs : Nat → List Int) : Prop where
  held : heldL c L = H
  perm : ∃ A, Beg p A ∧ (H ++ (Qs 0 ++ Qs 1)).Perm A
  bot : ∀ k, k < 2 → ldq L (es k).bot = ((Qs k).length : Int)
  len : ∀ k, k < 2 → (Qs k).length ≤ dqn c
  ent : ∀ k, k < 2 → ∀ t, t < (Qs k).length → ldq L ((es k).ent + t) = (Qs k).getD t 0
  par : ∀ k, k < 2 → ∀ x ∈ Qs k, x % 2 = (k : Int)
  hl : H.length ≤ pkn c
theorem AN.end {c : Cfg} {es : Nat → Dg.En} {L : List Int} {i p : Int} {A : List Int} {ms : Nat → Am} {la rs : Nat → Int} (hc : OkC c) (h : AN (pkn c) (dqn c) (gOf c) es L i A ms la rs) (h0 : ∀ j, j < 2 → (ms j).pc = 0) (hb : Beg p A) :
    ∃ H Qs, AEnd c es L p H Qs := by
  obtain ⟨α, Q, β, R, T, P, D, E, hst, hp, hm, hl, q1, q2⟩ := Aw.end h (h0 0 (by omega)) (h0 1 (by omega))
  have G : Gp (pkn c) L.length (gOf c) := Aw.G h
  have eh : heldL c L = P.map (tw (gOf c) L) := by
    rw [heldL_stk hc hst]
    exact heldA_one G (fun z hz => ⟨hm z hz, hst.rng z hz⟩)
  have two : ∀ {e : Dg.En} {β : Int} {Q : List Int}, Dg.Dq (dqn c) e L 0 β β Q → ldq L e.bot = (Q.length : Int) ∧ Q.length ≤ dqn c ∧ ∀ t, t < Q.length → ldq L (e.ent + t) = Q.getD t 0 := fun {e β Q} D => by
    have hq := D.q
    have hf := D.full
    have hli := D.lit
    refine ⟨by rw [D.ld1, Dg.u64_in (by omega) (by omega)]; omega, by omega, fun t ht => ?_⟩
    have a := D.g.ent
    rw [ld_in (show 0 ≤ e.ent + (t : Int) ∧ e.ent + (t : Int) < L.length by omega)]
    exact dq_words D t ht
  refine ⟨P.map (tw (gOf c) L), fun k => if k = 0 then Q else R, eh, ⟨A, hb, ?_⟩, fun k hk => ?_, fun k hk => ?_, fun k hk => ?_, fun k hk => ?_, by simpa using hl⟩
  · simp only [if_true, if_false, Nat.one_ne_zero]
    refine List.perm_iff_count.2 fun z => ?_
    have := hp.count_eq z
    simp only [List.count_append] at this ⊢; omega
  all_goals
    have key : k = 0 ∨ k = 1 := by omega
    rcases key with rfl | rfl
  · exact (two D).1
  · exact (two E).1
  · exact (two D).2.1
  · exact (two E).2.1
  · exact (two D).2.2
  · exact (two E).2.2
  · simpa using q1
  · simpa using q2
end Go.Proofs.YtponbnbgiiepdaaGreat
