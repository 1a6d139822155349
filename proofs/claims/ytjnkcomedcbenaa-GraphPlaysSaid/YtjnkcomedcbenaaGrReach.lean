/- Which nodes can be come to, by going over all slots again and again: the marks, as a list. -/
import Derived.Test.YtjnkcomedcbenaaGrPure
namespace Go.Proofs.Ytjnkcomedcbenaa
set_option linter.unusedVariables false

noncomputable def rchB (g : Gr) (v : Int) : Bool := @decide (Rch g v) (Classical.propDecidable _)
theorem rchB_iff {g : Gr} {v : Int} : rchB g v = true ↔ Rch g v := by
  unfold rchB
  exact @decide_eq_true_iff _ (Classical.propDecidable _)
/-- The first nodes that can be come to, rising. -/
noncomputable def reachTo (g : Gr) (k : Nat) : List Int := ((List.range k).filter fun i : Nat => rchB g ((i : Int) + 1)).map fun i : Nat => (i : Int) + 1
noncomputable def reachL (g : Gr) : List Int := reachTo g g.nodes.length
theorem reach_succ (g : Gr) (k : Nat) : reachTo g (k + 1) = if rchB g ((k : Int) + 1) = true then reachTo g k ++ [(k : Int) + 1] else reachTo g k := by
  unfold reachTo
  rw [List.range_succ, List.filter_append]
  by_cases h : rchB g ((k : Int) + 1) = true
  · rw [if_pos h]; simp [h]
  · rw [if_neg h]; simp [h]
theorem reach_len (g : Gr) (k : Nat) : (reachTo g k).length ≤ k := by
  unfold reachTo
  have := List.length_filter_le (fun i : Nat => rchB g ((i : Int) + 1)) (List.range k)
  simpa using this
theorem mem_reachTo {g : Gr} {k : Nat} {v : Int} : v ∈ reachTo g k ↔ Rch g v ∧ v ≤ (k : Int) := by
  unfold reachTo
  simp only [List.mem_map, List.mem_filter, List.mem_range]
  constructor
  · rintro ⟨i, ⟨hi, hr⟩, rfl⟩
    exact ⟨rchB_iff.1 hr, by omega⟩
  · rintro ⟨hr, hv⟩
    have := rch_pos hr
    refine ⟨(v - 1).toNat, ⟨by omega, rchB_iff.2 ?_⟩, by omega⟩
    rw [show (((v - 1).toNat : Nat) : Int) + 1 = v by omega]; exact hr
theorem mem_reachL {g : Gr} (hk : Ok g) {v : Int} : v ∈ reachL g ↔ Rch g v := by
  rw [reachL, mem_reachTo]
  exact ⟨fun h => h.1, fun h => ⟨h, rch_le hk h⟩⟩
/-- They rise. -/
theorem reach_rise (g : Gr) (k : Nat) : (reachTo g k).Pairwise (· < ·) := by
  induction k with
  | zero => simp [reachTo]
  | succ k ih =>
    rw [reach_succ]
    split
    · rw [List.pairwise_append]
      refine ⟨ih, by simp, fun x hx y hy => ?_⟩
      have := (mem_reachTo.1 hx).2
      simp at hy; omega
    · exact ih

def getB (is : List Bool) (i : Nat) : Bool := is.getD i false
def mk (is : List Bool) (v : Int) : List Bool := if 0 < v then is.set (v - 1).toNat true else is
theorem mk_len (is : List Bool) (v : Int) : (mk is v).length = is.length := by unfold mk; split <;> simp
theorem getB_set (is : List Bool) (i j : Nat) : getB (is.set i true) j = if i = j ∧ j < is.length then true else getB is j := by
  unfold getB
  by_cases e : i = j
  · subst e
    by_cases h : i < is.length
    · simp [List.getD, h]
    · simp [List.getD, h]
  · simp [List.getD, e]
def Marked (is : List Bool) (v : Int) : Prop := 0 < v → getB is (v - 1).toNat = true
def Leq (is is' : List Bool) : Prop := is'.length = is.length ∧ ∀ i, getB is i = true → getB is' i = true
theorem Leq.refl (is : List Bool) : Leq is is := ⟨rfl, fun _ h => h⟩
theorem Leq.trans {a b c : List Bool} (h : Leq a b) (k : Leq b c) : Leq a c := ⟨k.1.trans h.1, fun i hi => k.2 i (h.2 i hi)⟩
theorem leq_mk (is : List Bool) (v : Int) : Leq is (mk is v) := by
  refine ⟨mk_len .., fun i hi => ?_⟩
  unfold mk
  split
  · rw [getB_set]; split
    · rfl
    · exact hi
  · exact hi
theorem Marked.leq {is is' : List Bool} {v : Int} (h : Marked is v) (k : Leq is is') : Marked is' v := fun h0 => k.2 _ (h h0)
theorem marked_mk (is : List Bool) (v : Int) (h : v ≤ (is.length : Int)) : Marked (mk is v) v := fun h0 => by
  unfold mk
  rw [if_pos h0, getB_set, if_pos ⟨rfl, by omega⟩]
theorem set_true {is : List Bool} {j : Nat} (h : getB is j = true) : is.set j true = is := by
  apply List.ext_getElem?
  intro i
  rw [List.getElem?_set]
  by_cases e : j = i
  · rw [if_pos e]
    subst e
    unfold getB at h
    by_cases hl : j < is.length
    · rw [if_pos hl, List.getElem?_eq_getElem hl]
      rw [List.getD, List.getElem?_eq_getElem hl] at h
      rw [show is[j] = true from h]
    · rw [if_neg hl, List.getElem?_eq_none (by omega)]
  · rw [if_neg e]
theorem mk_same {is : List Bool} {v : Int} (h : Marked is v) : mk is v = is := by
  unfold mk
  split
  · rename_i h0
    exact set_true (h h0)
  · rfl

theorem cnt_le : ∀ (a b : List Bool), a.length = b.length → (∀ i, getB a i = true → getB b i = true) → a.count true ≤ b.count true
  | [], [], _, _ => Nat.le_refl _
  | x :: a, y :: b, hl, h => by
    have ih := cnt_le a b (by simpa using hl) (fun i hi => by have := h (i + 1) (by simpa [getB] using hi); simpa [getB] using this)
    have h0 := h 0
    simp [getB] at h0
    cases x <;> cases y <;> simp at h0 ⊢ <;> omega
theorem cnt_lt : ∀ (a b : List Bool) (j : Nat), a.length = b.length → (∀ i, getB a i = true → getB b i = true) → getB a j = false → getB b j = true → a.count true < b.count true
  | [], [], j, _, _, _, h => by simp [getB] at h
  | x :: a, y :: b, 0, hl, h, h1, h2 => by
    have ih := cnt_le a b (by simpa using hl) (fun i hi => by have := h (i + 1) (by simpa [getB] using hi); simpa [getB] using this)
    simp [getB] at h1 h2
    subst h1; subst h2
    simp; omega
  | x :: a, y :: b, j + 1, hl, h, h1, h2 => by
    have ih := cnt_lt a b j (by simpa using hl) (fun i hi => by have := h (i + 1) (by simpa [getB] using hi); simpa [getB] using this) (by simpa [getB] using h1) (by simpa [getB] using h2)
    have h0 := h 0
    simp [getB] at h0
    cases x <;> cases y <;> simp at h0 ⊢ <;> omega
theorem cnt_all : ∀ (a : List Bool), a.length ≤ a.count true → ∀ i, i < a.length → getB a i = true
  | [], _, i, h => by simp at h
  | x :: a, hc, i, hi => by
    have hle : a.count true ≤ a.length := List.count_le_length
    cases x
    · simp at hc; omega
    · simp at hc
      match i, hi with
      | 0, _ => rfl
      | i + 1, hi => simpa [getB] using cnt_all a hc i (by simpa using hi)

def Sound (g : Gr) (is : List Bool) : Prop := is.length = g.nodes.length ∧ ∀ i, getB is i = true → Rch g ((i : Int) + 1)
def Rooted (g : Gr) (is : List Bool) : Prop := ∀ m a, m < g.roots.length → a < (row g.roots m).length → Marked is (num (row g.roots m) a)
def Clsd (g : Gr) (is : List Bool) : Prop := ∀ u, u < g.nodes.length → getB is u = true → ∀ i, i < (row g.nodes u).length → Marked is (num (row g.nodes u) i)
theorem Sound.mk' {g : Gr} {is : List Bool} (h : Sound g is) {v : Int} (hv : 0 < v → Rch g v) : Sound g (mk is v) := by
  refine ⟨(mk_len ..).trans h.1, fun i hi => ?_⟩
  unfold mk at hi
  split at hi
  · rename_i h0
    rw [getB_set] at hi
    split at hi
    · rename_i e
      rw [← e.1, show (((v - 1).toNat : Nat) : Int) + 1 = v by omega]
      exact hv h0
    · exact h.2 i hi
  · exact h.2 i hi
theorem sound_new (g : Gr) : Sound g (List.replicate g.nodes.length false) := ⟨by simp, fun i hi => by
  unfold getB at hi
  by_cases h : i < g.nodes.length
  · simp [List.getD, h] at hi
  · simp [List.getD, h] at hi⟩
theorem marks_are {g : Gr} {is : List Bool} (hs : Sound g is) (hr : Rooted g is) (hc : Clsd g is) (i : Nat) : getB is i = rchB g ((i : Int) + 1) := by
  rw [Bool.eq_iff_iff, rchB_iff]
  refine ⟨hs.2 i, fun h => ?_⟩
  have key : ∀ v : Int, Rch g v → getB is (v - 1).toNat = true := fun v hv => by
    induction hv with
    | root m a hm ha h0 => exact hr m a hm ha h0
    | slot u i hu hi h0 ih =>
      have hlt : (u - 1).toNat < g.nodes.length := by
        rcases Nat.lt_or_ge (u - 1).toNat g.nodes.length with h | h
        · exact h
        · rw [row_out _ _ h] at hi; simp at hi
      exact hc _ hlt ih i hi h0
  have := key _ h
  rwa [show ((i : Int) + 1 - 1).toNat = i by omega] at this

/-- At the head of the n-th time over all. -/
def Head (g : Gr) (n : Nat) (is : List Bool) : Prop := Sound g is ∧ Rooted g is ∧ (Clsd g is ∨ n ≤ is.count true)
/-- Within it, begun from is0, ahead of node v, ahead of slot i. -/
def Within (g : Gr) (is0 : List Bool) (v i : Nat) (is : List Bool) : Prop :=
  Sound g is ∧ Leq is0 is ∧ (∀ u, u < v → getB is0 u = true → ∀ j, j < (row g.nodes u).length → Marked is (num (row g.nodes u) j)) ∧ (Clsd g is0 → is = is0) ∧ ∀ j, j < i → Marked is (num (row g.nodes v) j)
theorem within_start {g : Gr} {is : List Bool} {n : Nat} (h : Head g n is) : Within g is 0 0 is :=
  ⟨h.1, Leq.refl _, fun u hu => by omega, fun _ => rfl, fun j hj => by omega⟩
theorem within_step {g : Gr} {is0 is : List Bool} {v i : Nat} (hk : Ok g) (h : Within g is0 v i is) (hv : v < g.nodes.length) (hi : i < (row g.nodes v).length) (hb : getB is v = true) : Within g is0 v (i + 1) (mk is (num (row g.nodes v) i)) := by
  obtain ⟨h1, h2, h3, h4, h5⟩ := h
  have hle := leq_mk is (num (row g.nodes v) i)
  refine ⟨h1.mk' fun h0 => ?_, h2.trans hle, fun u hu h0 j hj => (h3 u hu h0 j hj).leq hle, fun hc => ?_, fun j hj => ?_⟩
  · have := Rch.slot (g := g) ((v : Int) + 1) i (h1.2 v hb)
    rw [show ((v : Int) + 1 - 1).toNat = v by omega] at this
    exact this hi h0
  · have e := h4 hc
    subst e
    exact mk_same (hc v hv hb i hi)
  · by_cases e : j = i
    · subst e
      exact marked_mk _ _ (by rw [h1.1]; exact (hk.n v j hv hi).2)
    · exact (h5 j (by omega)).leq hle
theorem within_next {g : Gr} {is0 is : List Bool} {v i : Nat} (h : Within g is0 v i is) (he : (row g.nodes v).length ≤ i ∨ getB is v = false) : Within g is0 (v + 1) 0 is := by
  obtain ⟨h1, h2, h3, h4, h5⟩ := h
  refine ⟨h1, h2, fun u hu h0 j hj => ?_, h4, fun j hj => by omega⟩
  by_cases e : u = v
  · subst e
    rcases he with he | he
    · exact h5 j (by omega)
    · rw [h2.2 u h0] at he; cases he
  · exact h3 u (by omega) h0 j hj
theorem within_end {g : Gr} {is0 is : List Bool} {n : Nat} (h0 : Head g n is0) (h : Within g is0 g.nodes.length 0 is) : Head g (n + 1) is := by
  obtain ⟨h1, h2, h3, h4, h5⟩ := h
  refine ⟨h1, fun m a hm ha => (h0.2.1 m a hm ha).leq h2, ?_⟩
  by_cases hc : Clsd g is0
  · exact .inl (by rw [h4 hc]; exact hc)
  · right
    have hn : n ≤ is0.count true := by
      rcases h0.2.2 with h | h
      · exact absurd h hc
      · exact h
    have : ∃ u, u < g.nodes.length ∧ getB is0 u = true ∧ ∃ i, i < (row g.nodes u).length ∧ ¬ Marked is0 (num (row g.nodes u) i) := by
      apply Classical.byContradiction
      intro hno
      exact hc fun u hu hb i hi => Classical.byContradiction fun hm => hno ⟨u, hu, hb, i, hi, hm⟩
    obtain ⟨u, hu, hb, i, hi, hm⟩ := this
    have h6 := h3 u hu hb i hi
    have hpos : 0 < num (row g.nodes u) i := Classical.byContradiction fun h => hm fun h' => absurd h' h
    have hf : getB is0 (num (row g.nodes u) i - 1).toNat = false := by
      cases e : getB is0 (num (row g.nodes u) i - 1).toNat
      · rfl
      · exact absurd (fun _ => e) hm
    have := cnt_lt is0 is _ h2.1.symm h2.2 hf (h6 hpos)
    omega
theorem head_end {g : Gr} (hk : Ok g) {is : List Bool} (h : Head g g.nodes.length is) (i : Nat) : getB is i = rchB g ((i : Int) + 1) := by
  refine marks_are h.1 h.2.1 ?_ i
  rcases h.2.2 with hc | hc
  · exact hc
  · have hall := cnt_all is (by rw [h.1.1]; exact hc)
    intro u hu _ j hj h0
    have := (hk.n u j hu hj).2
    exact hall _ (by rw [h.1.1]; omega)

/-- Ahead of the a-th root of the m-th mutator. -/
def RootsTo (g : Gr) (m a : Nat) (is : List Bool) : Prop :=
  Sound g is ∧ (∀ m' a', m' < m → m' < g.roots.length → a' < (row g.roots m').length → Marked is (num (row g.roots m') a')) ∧ ∀ a', a' < a → Marked is (num (row g.roots m) a')
theorem roots_start (g : Gr) : RootsTo g 0 0 (List.replicate g.nodes.length false) := ⟨sound_new g, fun m' a' h => by omega, fun a' h => by omega⟩
theorem roots_step {g : Gr} (hk : Ok g) {m a : Nat} {is : List Bool} (h : RootsTo g m a is) (hm : m < g.roots.length) (ha : a < (row g.roots m).length) : RootsTo g m (a + 1) (mk is (num (row g.roots m) a)) := by
  have hle := leq_mk is (num (row g.roots m) a)
  refine ⟨h.1.mk' fun h0 => Rch.root m a hm ha h0, fun m' a' h1 h2 h3 => (h.2.1 m' a' h1 h2 h3).leq hle, fun a' h1 => ?_⟩
  by_cases e : a' = a
  · subst e
    exact marked_mk _ _ (by rw [h.1.1]; exact (hk.r m a' hm ha).2)
  · exact (h.2.2 a' (by omega)).leq hle
theorem roots_next {g : Gr} {m a : Nat} {is : List Bool} (h : RootsTo g m a is) (ha : (row g.roots m).length ≤ a) : RootsTo g (m + 1) 0 is := by
  refine ⟨h.1, fun m' a' h1 h2 h3 => ?_, fun a' h1 => by omega⟩
  by_cases e : m' = m
  · subst e; exact h.2.2 a' (by omega)
  · exact h.2.1 m' a' (by omega) h2 h3
theorem roots_end {g : Gr} {is : List Bool} (h : RootsTo g g.roots.length 0 is) : Head g 0 is :=
  ⟨h.1, fun m a hm ha => h.2.1 m a hm hm ha, .inr (Nat.zero_le _)⟩
end Go.Proofs.Ytjnkcomedcbenaa
