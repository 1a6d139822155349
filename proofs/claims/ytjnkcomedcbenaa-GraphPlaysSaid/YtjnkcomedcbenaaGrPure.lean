/- What mutators see, as lists: roots, nodes and slots; which nodes can be come to. -/
namespace Go.Proofs.Ytjnkcomedcbenaa
set_option linter.unusedVariables false

structure Gr where
  roots : List (List Int)
  nodes : List (List Int)
  most : Int

def row (l : List (List Int)) (i : Nat) : List Int := l.getD i []
def num (l : List Int) (i : Nat) : Int := l.getD i 0
def isIn (n : Nat) (i : Int) : Bool := decide (0 ≤ i ∧ i < (n : Int))
theorem isIn_iff {n : Nat} {i : Int} : isIn n i = true ↔ 0 ≤ i ∧ i < (n : Int) := by simp [isIn]
theorem isIn_no {n : Nat} {i : Int} (h : isIn n i = false) : ¬ (0 ≤ i ∧ i < (n : Int)) := fun h2 => by
  rw [isIn_iff.2 h2] at h; cases h

def gRoot (g : Gr) (m a : Int) : Int := if (isIn g.roots.length m && isIn (row g.roots m.toNat).length a) = true then num (row g.roots m.toNat) a.toNat else -1
def gRoom (g : Gr) (m : Int) : Bool := isIn g.roots.length m && decide (((row g.roots m.toNat).length : Int) < g.most)
def gHas (g : Gr) (m a i : Int) : Bool := decide (0 < gRoot g m a) && isIn (row g.nodes (gRoot g m a - 1).toNat).length i
def gPush (g : Gr) (m v : Int) : Gr := ⟨g.roots.set m.toNat (row g.roots m.toNat ++ [v]), g.nodes, g.most⟩
def gAlloc (g : Gr) (m n : Int) : Gr × Int × Bool :=
  if (gRoom g m && decide (0 ≤ n ∧ n ≤ 64)) = true then (gPush ⟨g.roots, g.nodes ++ [List.replicate n.toNat 0], g.most⟩ m ((g.nodes.length : Int) + 1), (g.nodes.length : Int) + 1, true) else (g, 0, false)
def gSlot (g : Gr) (m a i : Int) : Int := num (row g.nodes (gRoot g m a - 1).toNat) i.toNat
def gRead (g : Gr) (m a i : Int) : Gr × Int × Bool :=
  if (gRoom g m && gHas g m a i) = true then (gPush g m (gSlot g m a i), gSlot g m a i, true) else (g, 0, false)
def gPut (g : Gr) (m a i b : Int) : Gr := ⟨g.roots, g.nodes.set (gRoot g m a - 1).toNat ((row g.nodes (gRoot g m a - 1).toNat).set i.toNat (gRoot g m b)), g.most⟩
def gWrite (g : Gr) (m a i b : Int) : Gr × Bool :=
  if (gHas g m a i && decide (0 ≤ gRoot g m b)) = true then (gPut g m a i b, true) else (g, false)
def gPop (g : Gr) (m : Int) : Gr × Bool :=
  if (isIn g.roots.length m && decide (0 < (row g.roots m.toNat).length)) = true then (⟨g.roots.set m.toNat (row g.roots m.toNat).dropLast, g.nodes, g.most⟩, true) else (g, false)
def gDup (g : Gr) (m a : Int) : Gr × Bool :=
  if (gRoom g m && decide (0 ≤ gRoot g m a)) = true then (gPush g m (gRoot g m a), true) else (g, false)
/-- A new one (most is 0 or more). -/
def gNew (mutators most slots : Int) : Gr :=
  ⟨List.replicate (min mutators.toNat 16) (if 0 ≤ slots ∧ 0 < most then [1] else []), if 0 ≤ slots then [List.replicate (min slots.toNat 64) 0] else [], most⟩

/-- An operation: its kind, the mutator, and three numbers. -/
structure Op5 where
  d : Int
  m : Int
  a : Int
  i : Int
  b : Int
def gPlay (g : Gr) (x : Op5) : Gr × Int × Bool :=
  if x.d = 0 then gAlloc g x.m x.i else if x.d = 1 then gRead g x.m x.a x.i else if x.d = 2 then ((gWrite g x.m x.a x.i x.b).1, 0, (gWrite g x.m x.a x.i x.b).2)
  else if x.d = 3 then ((gPop g x.m).1, 0, (gPop g x.m).2) else ((gDup g x.m x.a).1, 0, (gDup g x.m x.a).2)

theorem row_set (l : List (List Int)) (i j : Nat) (x : List Int) : row (l.set i x) j = if i = j ∧ j < l.length then x else row l j := by
  unfold row
  by_cases e : i = j
  · subst e
    by_cases h : i < l.length
    · simp [List.getD, h]
    · simp [List.getD, h]
  · simp [List.getD, e]
theorem row_out (l : List (List Int)) (j : Nat) (h : l.length ≤ j) : row l j = [] := by
  unfold row; rw [List.getD, List.getElem?_eq_none h]; rfl
theorem num_set (l : List Int) (i j : Nat) (x : Int) : num (l.set i x) j = if i = j ∧ j < l.length then x else num l j := by
  unfold num
  by_cases e : i = j
  · subst e
    by_cases h : i < l.length
    · simp [List.getD, h]
    · simp [List.getD, h]
  · simp [List.getD, e]
theorem row_app (l : List (List Int)) (x : List Int) (j : Nat) : row (l ++ [x]) j = if j = l.length then x else row l j := by
  unfold row
  by_cases e : j = l.length
  · subst e; simp [List.getD]
  · by_cases h : j < l.length
    · simp [List.getD, List.getElem?_append, h, e]
    · have : l.length < j := by omega
      simp [List.getD, List.getElem?_append, h, e]
      rw [List.getElem?_eq_none (by simp; omega)]; rfl
theorem num_app (l : List Int) (x : Int) (j : Nat) : num (l ++ [x]) j = if j = l.length then x else num l j := by
  unfold num
  by_cases e : j = l.length
  · subst e; simp [List.getD]
  · by_cases h : j < l.length
    · simp [List.getD, List.getElem?_append, h, e]
    · simp [List.getD, List.getElem?_append, h, e]
      rw [List.getElem?_eq_none (by simp; omega)]; rfl
theorem num_rep (n i : Nat) : num (List.replicate n (0 : Int)) i = 0 := by
  unfold num
  by_cases h : i < n
  · simp [List.getD, h]
  · simp [List.getD, h]
theorem num_drop (l : List Int) (i : Nat) (h : i < l.length - 1) : num l.dropLast i = num l i := by
  unfold num
  have h2 : i < l.length := by omega
  simp [List.getD, h, h2]

/-- All that stands in roots and slots are nodes, or none. -/
structure Ok (g : Gr) : Prop where
  r : ∀ m a, m < g.roots.length → a < (row g.roots m).length → 0 ≤ num (row g.roots m) a ∧ num (row g.roots m) a ≤ (g.nodes.length : Int)
  n : ∀ v i, v < g.nodes.length → i < (row g.nodes v).length → 0 ≤ num (row g.nodes v) i ∧ num (row g.nodes v) i ≤ (g.nodes.length : Int)
  len : ∀ m, m < g.roots.length → ((row g.roots m).length : Int) ≤ g.most
  sz : ∀ v, v < g.nodes.length → (row g.nodes v).length ≤ 64
  many : g.roots.length ≤ 16

theorem root_bd {g : Gr} (h : Ok g) (m a : Int) : -1 ≤ gRoot g m a ∧ gRoot g m a ≤ (g.nodes.length : Int) := by
  unfold gRoot
  split
  · rename_i hc
    rw [Bool.and_eq_true] at hc
    obtain ⟨h1, h2⟩ := hc
    have h1 := isIn_iff.1 h1
    have h2 := isIn_iff.1 h2
    have := h.r m.toNat a.toNat (by omega) (by omega)
    omega
  · omega
theorem has_in {g : Gr} (h : Ok g) {m a i : Int} (hh : gHas g m a i = true) : 0 < gRoot g m a ∧ (gRoot g m a - 1).toNat < g.nodes.length ∧ 0 ≤ i ∧ i.toNat < (row g.nodes (gRoot g m a - 1).toNat).length := by
  unfold gHas at hh
  rw [Bool.and_eq_true] at hh
  have h1 : 0 < gRoot g m a := by simpa using hh.1
  have h2 := isIn_iff.1 hh.2
  have := root_bd h m a
  omega
theorem room_in {g : Gr} {m : Int} (hh : gRoom g m = true) : 0 ≤ m ∧ m.toNat < g.roots.length ∧ ((row g.roots m.toNat).length : Int) < g.most := by
  unfold gRoom at hh
  rw [Bool.and_eq_true] at hh
  have h1 := isIn_iff.1 hh.1
  have h2 : ((row g.roots m.toNat).length : Int) < g.most := by simpa using hh.2
  omega
theorem slot_bd {g : Gr} (h : Ok g) {m a i : Int} (hh : gHas g m a i = true) : 0 ≤ gSlot g m a i ∧ gSlot g m a i ≤ (g.nodes.length : Int) := by
  have hi := has_in h hh
  exact h.n _ _ hi.2.1 hi.2.2.2

theorem ok_push {g : Gr} (h : Ok g) {m v : Int} (hr : gRoom g m = true) (h0 : 0 ≤ v) (h1 : v ≤ (g.nodes.length : Int)) : Ok (gPush g m v) := by
  have hi := room_in hr
  refine ⟨fun m' a hm ha => ?_, h.n, fun m' hm => ?_, h.sz, ?_⟩
  · simp only [gPush, List.length_set] at hm ha ⊢
    rw [row_set] at ha ⊢
    by_cases e : m.toNat = m' ∧ m' < g.roots.length
    · rw [if_pos e] at ha ⊢
      rw [num_app]
      by_cases e2 : a = (row g.roots m.toNat).length
      · rw [if_pos e2]; omega
      · rw [if_neg e2]
        exact h.r _ _ hi.2.1 (by simp at ha; omega)
    · rw [if_neg e] at ha ⊢
      exact h.r _ _ hm ha
  · simp only [gPush, List.length_set] at hm ⊢
    rw [row_set]
    by_cases e : m.toNat = m' ∧ m' < g.roots.length
    · rw [if_pos e]; simp; omega
    · rw [if_neg e]; exact h.len _ hm
  · simp only [gPush, List.length_set]; exact h.many
theorem ok_more {g : Gr} (h : Ok g) (n : Nat) (hn : n ≤ 64) : Ok ⟨g.roots, g.nodes ++ [List.replicate n 0], g.most⟩ := by
  refine ⟨fun m a hm ha => ?_, fun v i hv hi => ?_, h.len, fun v hv => ?_, h.many⟩
  · have := h.r m a hm ha
    simp; omega
  · simp only [List.length_append, List.length_singleton] at hv ⊢
    simp only at hi ⊢
    rw [row_app] at hi ⊢
    by_cases e : v = g.nodes.length
    · rw [if_pos e, num_rep]; omega
    · rw [if_neg e] at hi ⊢
      have := h.n v i (by omega) hi
      omega
  · simp only [List.length_append, List.length_singleton] at hv
    simp only
    rw [row_app]
    by_cases e : v = g.nodes.length
    · rw [if_pos e]; simpa using hn
    · rw [if_neg e]; exact h.sz v (by omega)
theorem ok_put {g : Gr} (h : Ok g) {m a i b : Int} (hh : gHas g m a i = true) (hb : 0 ≤ gRoot g m b) : Ok (gPut g m a i b) := by
  have hi := has_in h hh
  have hbd := root_bd h m b
  refine ⟨fun m' a' hm ha => ?_, fun v j hv hj => ?_, h.len, fun v hv => ?_, h.many⟩
  · have := h.r m' a' hm ha
    simpa [gPut] using this
  · simp only [gPut, List.length_set] at hv hj ⊢
    rw [row_set] at hj ⊢
    by_cases e : (gRoot g m a - 1).toNat = v ∧ v < g.nodes.length
    · rw [if_pos e] at hj ⊢
      rw [List.length_set] at hj
      rw [num_set]
      split
      · omega
      · exact h.n _ _ hi.2.1 hj
    · rw [if_neg e] at hj ⊢
      exact h.n v j hv hj
  · simp only [gPut, List.length_set] at hv ⊢
    rw [row_set]
    by_cases e : (gRoot g m a - 1).toNat = v ∧ v < g.nodes.length
    · rw [if_pos e, List.length_set]; exact h.sz _ hi.2.1
    · rw [if_neg e]; exact h.sz v hv
theorem ok_alloc {g : Gr} (h : Ok g) (m n : Int) : Ok (gAlloc g m n).1 := by
  unfold gAlloc
  split
  · rename_i hc
    rw [Bool.and_eq_true] at hc
    have hn : 0 ≤ n ∧ n ≤ 64 := by simpa using hc.2
    refine ok_push (ok_more h n.toNat (by omega)) (m := m) ?_ (by omega) ?_
    · exact hc.1
    · simp
  · exact h
theorem ok_read {g : Gr} (h : Ok g) (m a i : Int) : Ok (gRead g m a i).1 := by
  unfold gRead
  split
  · rename_i hc
    rw [Bool.and_eq_true] at hc
    have := slot_bd h hc.2
    exact ok_push h hc.1 this.1 this.2
  · exact h
theorem ok_write {g : Gr} (h : Ok g) (m a i b : Int) : Ok (gWrite g m a i b).1 := by
  unfold gWrite
  split
  · rename_i hc
    rw [Bool.and_eq_true] at hc
    exact ok_put h hc.1 (by simpa using hc.2)
  · exact h
theorem ok_pop {g : Gr} (h : Ok g) (m : Int) : Ok (gPop g m).1 := by
  unfold gPop
  split
  · rename_i hc
    rw [Bool.and_eq_true] at hc
    have h1 := isIn_iff.1 hc.1
    refine ⟨fun m' a hm ha => ?_, h.n, fun m' hm => ?_, h.sz, by simpa using h.many⟩
    · simp only [List.length_set] at hm ha ⊢
      rw [row_set] at ha ⊢
      by_cases e : m.toNat = m' ∧ m' < g.roots.length
      · rw [if_pos e] at ha ⊢
        rw [num_drop _ _ (by simpa using ha)]
        exact h.r _ _ (by omega) (by simp at ha; omega)
      · rw [if_neg e] at ha ⊢
        exact h.r _ _ hm ha
    · simp only [List.length_set] at hm ⊢
      rw [row_set]
      by_cases e : m.toNat = m' ∧ m' < g.roots.length
      · rw [if_pos e]
        have := h.len m.toNat (by omega)
        simp; omega
      · rw [if_neg e]; exact h.len _ hm
  · exact h
theorem ok_dup {g : Gr} (h : Ok g) (m a : Int) : Ok (gDup g m a).1 := by
  unfold gDup
  split
  · rename_i hc
    rw [Bool.and_eq_true] at hc
    exact ok_push h hc.1 (by simpa using hc.2) (root_bd h m a).2
  · exact h
theorem ok_play {g : Gr} (h : Ok g) (x : Op5) : Ok (gPlay g x).1 := by
  unfold gPlay
  split
  · exact ok_alloc h ..
  · split
    · exact ok_read h ..
    · split
      · exact ok_write h ..
      · split
        · exact ok_pop h ..
        · exact ok_dup h ..
theorem ok_new (mu mo sl : Int) (h : 0 ≤ mo) : Ok (gNew mu mo sl) := by
  have hrow : ∀ m, m < (gNew mu mo sl).roots.length → row (gNew mu mo sl).roots m = if 0 ≤ sl ∧ 0 < mo then [1] else [] := fun m hm => by
    simp only [gNew, List.length_replicate] at hm
    simp only [gNew, row, List.getD, List.getElem?_replicate, hm, if_true, Option.getD_some]
  refine ⟨fun m a hm ha => ?_, fun v i hv hi => ?_, fun m hm => ?_, fun v hv => ?_, ?_⟩
  · rw [hrow m hm] at ha ⊢
    by_cases e : 0 ≤ sl ∧ 0 < mo
    · rw [if_pos e] at ha ⊢
      have : a = 0 := by simpa using ha
      subst this
      simp [num, gNew, e.1]
    · rw [if_neg e] at ha; simp at ha
  · by_cases e : 0 ≤ sl
    · simp only [gNew, if_pos e] at hv hi ⊢
      have : v = 0 := by simpa using hv
      subst this
      have : row [List.replicate (min sl.toNat 64) (0 : Int)] 0 = List.replicate (min sl.toNat 64) 0 := rfl
      rw [this, num_rep]; simp
    · simp only [gNew, if_neg e] at hv; simp at hv
  · rw [hrow m hm]
    by_cases e : 0 ≤ sl ∧ 0 < mo
    · rw [if_pos e]; simp [gNew]; omega
    · rw [if_neg e]; simpa [gNew] using h
  · by_cases e : 0 ≤ sl
    · simp only [gNew, if_pos e] at hv ⊢
      have : v = 0 := by simpa using hv
      subst this
      show (List.replicate (min sl.toNat 64) (0 : Int)).length ≤ 64
      simp; omega
    · simp only [gNew, if_neg e] at hv; simp at hv
  · simp [gNew]; omega

/-! How far things grow. -/
def Near (g g' : Gr) : Prop := g.nodes.length ≤ g'.nodes.length ∧ g'.nodes.length ≤ g.nodes.length + 1 ∧ g'.roots.length = g.roots.length ∧ g'.most = g.most
theorem Near.refl (g : Gr) : Near g g := ⟨Nat.le_refl _, Nat.le_succ _, rfl, rfl⟩
theorem near_push (g : Gr) (m v : Int) : Near g (gPush g m v) := by simp [Near, gPush]
theorem play_near (g : Gr) (x : Op5) : Near g (gPlay g x).1 := by
  unfold gPlay
  split
  · unfold gAlloc
    split
    · simp [Near, gPush]
    · exact Near.refl g
  · split
    · unfold gRead
      split
      · exact near_push ..
      · exact Near.refl g
    · split
      · show Near g (gWrite g _ _ _ _).1
        unfold gWrite
        split
        · simp [Near, gPut]
        · exact Near.refl g
      · split
        · show Near g (gPop g _).1
          unfold gPop
          split
          · simp [Near]
          · exact Near.refl g
        · show Near g (gDup g _ _).1
          unfold gDup
          split
          · exact near_push ..
          · exact Near.refl g

/-- A node can be come to. -/
inductive Rch (g : Gr) : Int → Prop
  | root (m a : Nat) (hm : m < g.roots.length) (ha : a < (row g.roots m).length) (h : 0 < num (row g.roots m) a) : Rch g (num (row g.roots m) a)
  | slot (u : Int) (i : Nat) (hu : Rch g u) (hi : i < (row g.nodes (u - 1).toNat).length) (h : 0 < num (row g.nodes (u - 1).toNat) i) : Rch g (num (row g.nodes (u - 1).toNat) i)
theorem rch_pos {g : Gr} {v : Int} (h : Rch g v) : 0 < v := by cases h <;> assumption
theorem rch_le {g : Gr} (hk : Ok g) {v : Int} (h : Rch g v) : v ≤ (g.nodes.length : Int) := by
  induction h with
  | root m a hm ha h => exact (hk.r m a hm ha).2
  | slot u i hu hi h ih =>
    have := rch_pos hu
    exact (hk.n _ i (by omega) hi).2

/-- What is come to from a graph of which each root and slot can be come to in another one. -/
theorem gone_of (g g' : Gr) (N : Int) (hr : ∀ m a, m < g'.roots.length → a < (row g'.roots m).length → 0 < num (row g'.roots m) a → num (row g'.roots m) a ≤ N → Rch g (num (row g'.roots m) a))
    (hs : ∀ u : Int, 0 < u → u ≤ N → Rch g u → ∀ i, i < (row g'.nodes (u - 1).toNat).length → 0 < num (row g'.nodes (u - 1).toNat) i → Rch g (num (row g'.nodes (u - 1).toNat) i))
    (hnew : ∀ u : Int, N < u → ∀ i, i < (row g'.nodes (u - 1).toNat).length → num (row g'.nodes (u - 1).toNat) i ≤ 0) {v : Int} (h : Rch g' v) : v ≤ N → Rch g v := by
  induction h with
  | root m a hm ha h => exact fun hv => hr m a hm ha h hv
  | slot u i hu hi h ih =>
    intro hv
    by_cases e : u ≤ N
    · exact hs u (rch_pos hu) e (ih e) i hi h
    · have := hnew u (by omega) i hi; omega

theorem root_rch {g : Gr} {m a : Int} (h : 0 < gRoot g m a) : Rch g (gRoot g m a) := by
  unfold gRoot at h ⊢
  split
  · rename_i hc
    rw [if_pos hc] at h
    rw [Bool.and_eq_true] at hc
    have h1 := isIn_iff.1 hc.1
    have h2 := isIn_iff.1 hc.2
    exact Rch.root _ _ (by omega) (by omega) h
  · rename_i hc
    rw [if_neg hc] at h; omega
theorem slot_rch {g : Gr} {m a i : Int} (hk : Ok g) (hh : gHas g m a i = true) (h : 0 < gSlot g m a i) : Rch g (gSlot g m a i) := by
  have hi := has_in hk hh
  exact Rch.slot _ _ (root_rch hi.1) hi.2.2.2 h
/-- A push of what can be come to. -/
theorem gone_push {g : Gr} {m w : Int} (N : Int) (hN : N = (g.nodes.length : Int)) (hk : Ok g) (hw : 0 < w → w ≤ N → Rch g w) {v : Int} (h : Rch (gPush g m w) v) (hv : v ≤ N) : Rch g v := by
  refine gone_of g (gPush g m w) N (fun m' a hm ha h0 hn => ?_) (fun u hu hun hru i hi h0 => Rch.slot u i hru hi h0) (fun u hu i hi => ?_) h hv
  · simp only [gPush, List.length_set] at hm ha h0 hn ⊢
    rw [row_set] at ha h0 hn ⊢
    by_cases e : m.toNat = m' ∧ m' < g.roots.length
    · rw [if_pos e] at ha h0 hn ⊢
      rw [num_app] at h0 hn ⊢
      by_cases e2 : a = (row g.roots m.toNat).length
      · rw [if_pos e2] at h0 hn ⊢; exact hw h0 hn
      · rw [if_neg e2] at h0 hn ⊢
        exact Rch.root _ _ (by omega) (by simp at ha; omega) h0
    · rw [if_neg e] at ha h0 hn ⊢
      exact Rch.root _ _ hm ha h0
  · exfalso
    simp only [gPush] at hi
    have : row g.nodes (u - 1).toNat = [] := row_out _ _ (by omega)
    rw [this] at hi; simp at hi

/-- THE LAW: a node that can't be come to never can again. -/
theorem gone_play {g : Gr} (hk : Ok g) (x : Op5) {v : Int} (h : Rch (gPlay g x).1 v) (hv : v ≤ (g.nodes.length : Int)) : Rch g v := by
  unfold gPlay at h
  by_cases d0 : x.d = 0
  · rw [if_pos d0] at h
    unfold gAlloc at h
    split at h
    · rename_i hc
      rw [Bool.and_eq_true] at hc
      have hi := room_in hc.1
      refine gone_of g (gPush ⟨g.roots, g.nodes ++ [List.replicate x.i.toNat 0], g.most⟩ x.m ((g.nodes.length : Int) + 1)) (g.nodes.length : Int) (fun m' a hm ha h0 hn => ?_) (fun u hu hun hru i hi h0 => ?_) (fun u hu i hi => ?_) h hv
      · simp only [gPush, List.length_set] at hm ha h0 hn ⊢
        rw [row_set] at ha h0 hn ⊢
        by_cases e : x.m.toNat = m' ∧ m' < g.roots.length
        · rw [if_pos e] at ha h0 hn ⊢
          rw [num_app] at h0 hn ⊢
          by_cases e2 : a = (row g.roots x.m.toNat).length
          · rw [if_pos e2] at hn; omega
          · rw [if_neg e2] at h0 hn ⊢
            exact Rch.root _ _ (by omega) (by simp at ha; omega) h0
        · rw [if_neg e] at ha h0 hn ⊢
          exact Rch.root _ _ hm ha h0
      · simp only [gPush] at hi h0 ⊢
        rw [row_app, if_neg (by omega)] at hi h0 ⊢
        exact Rch.slot u i hru hi h0
      · simp only [gPush] at hi ⊢
        rw [row_app] at hi ⊢
        split
        · rw [num_rep]; omega
        · rename_i e
          exfalso
          rw [if_neg e] at hi
          have : row g.nodes (u - 1).toNat = [] := row_out _ _ (by omega)
          rw [this] at hi; simp at hi
    · exact h
  rw [if_neg d0] at h
  by_cases d1 : x.d = 1
  · rw [if_pos d1] at h
    unfold gRead at h
    split at h
    · rename_i hc
      rw [Bool.and_eq_true] at hc
      exact gone_push _ rfl hk (fun h0 _ => slot_rch hk hc.2 h0) h hv
    · exact h
  rw [if_neg d1] at h
  by_cases d2 : x.d = 2
  · rw [if_pos d2] at h
    unfold gWrite at h
    split at h
    · rename_i hc
      rw [Bool.and_eq_true] at hc
      refine gone_of g (gPut g x.m x.a x.i x.b) (g.nodes.length : Int) (fun m' a hm ha h0 hn => Rch.root _ _ hm ha h0) (fun u hu hun hru i hi h0 => ?_) (fun u hu i hi => ?_) h hv
      · simp only [gPut] at hi h0 ⊢
        rw [row_set] at hi h0 ⊢
        by_cases e : (gRoot g x.m x.a - 1).toNat = (u - 1).toNat ∧ (u - 1).toNat < g.nodes.length
        · rw [if_pos e] at hi h0 ⊢
          rw [List.length_set] at hi
          rw [num_set] at h0 ⊢
          by_cases e2 : x.i.toNat = i ∧ i < (row g.nodes (gRoot g x.m x.a - 1).toNat).length
          · rw [if_pos e2] at h0 ⊢
            exact root_rch h0
          · rw [if_neg e2] at h0 ⊢
            rw [e.1] at hi h0 ⊢
            exact Rch.slot u i hru hi h0
        · rw [if_neg e] at hi h0 ⊢
          exact Rch.slot u i hru hi h0
      · exfalso
        simp only [gPut] at hi
        rw [row_set, if_neg (by omega)] at hi
        have : row g.nodes (u - 1).toNat = [] := row_out _ _ (by omega)
        rw [this] at hi; simp at hi
    · exact h
  rw [if_neg d2] at h
  by_cases d3 : x.d = 3
  · rw [if_pos d3] at h
    unfold gPop at h
    split at h
    · rename_i hc
      rw [Bool.and_eq_true] at hc
      have h1 := isIn_iff.1 hc.1
      refine gone_of g ⟨g.roots.set x.m.toNat (row g.roots x.m.toNat).dropLast, g.nodes, g.most⟩ (g.nodes.length : Int) (fun m' a hm ha h0 hn => ?_) (fun u hu hun hru i hi h0 => Rch.slot u i hru hi h0) (fun u hu i hi => ?_) h hv
      · simp only [List.length_set] at hm ha h0 hn ⊢
        rw [row_set] at ha h0 hn ⊢
        by_cases e : x.m.toNat = m' ∧ m' < g.roots.length
        · rw [if_pos e] at ha h0 hn ⊢
          rw [num_drop _ _ (by simpa using ha)] at h0 hn ⊢
          exact Rch.root _ _ (by omega) (by simp at ha; omega) h0
        · rw [if_neg e] at ha h0 hn ⊢
          exact Rch.root _ _ hm ha h0
      · exfalso
        have : row g.nodes (u - 1).toNat = [] := row_out _ _ (by omega)
        simp only at hi
        rw [this] at hi; simp at hi
    · exact h
  rw [if_neg d3] at h
  unfold gDup at h
  split at h
  · rename_i hc
    rw [Bool.and_eq_true] at hc
    exact gone_push _ rfl hk (fun h0 _ => root_rch h0) h hv
  · exact h
/-- What may not be changes nothing. -/
theorem play_refused (g : Gr) (x : Op5) (h : (gPlay g x).2.2 = false) : (gPlay g x).1 = g := by
  unfold gPlay at h ⊢
  split
  · rename_i e; rw [if_pos e] at h
    unfold gAlloc at h ⊢
    split
    · rename_i e; rw [if_pos e] at h; cases h
    · rfl
  · rename_i e; rw [if_neg e] at h
    split
    · rename_i e; rw [if_pos e] at h
      unfold gRead at h ⊢
      split
      · rename_i e; rw [if_pos e] at h; cases h
      · rfl
    · rename_i e; rw [if_neg e] at h
      split
      · rename_i e; rw [if_pos e] at h
        unfold gWrite at h ⊢
        split
        · rename_i e; rw [if_pos e] at h; cases h
        · rfl
      · rename_i e; rw [if_neg e] at h
        split
        · rename_i e; rw [if_pos e] at h
          unfold gPop at h ⊢
          split
          · rename_i e; rw [if_pos e] at h; cases h
          · rfl
        · rename_i e; rw [if_neg e] at h
          unfold gDup at h ⊢
          split
          · rename_i e; rw [if_pos e] at h; cases h
          · rfl
/-- What a mutator does leaves the roots of the others. -/
theorem play_own (g : Gr) (x : Op5) (m : Nat) (h : (m : Int) ≠ x.m) (hm : m < g.roots.length) : row (gPlay g x).1.roots m = row g.roots m := by
  have key : ∀ (g' : Gr) (r : List Int), g'.roots = g.roots → 0 ≤ x.m → row (g'.roots.set x.m.toNat r) m = row g.roots m := fun g' r hr h0 => by
    rw [row_set, hr, if_neg (by omega)]
  unfold gPlay
  split
  · unfold gAlloc
    split
    · rename_i hc
      rw [Bool.and_eq_true] at hc
      exact key ⟨g.roots, _, g.most⟩ _ rfl (room_in hc.1).1
    · rfl
  · split
    · unfold gRead
      split
      · rename_i hc
        rw [Bool.and_eq_true] at hc
        exact key g _ rfl (room_in hc.1).1
      · rfl
    · split
      · unfold gWrite
        split
        · rfl
        · rfl
      · split
        · unfold gPop
          split
          · rename_i hc
            rw [Bool.and_eq_true] at hc
            exact key g _ rfl (isIn_iff.1 hc.1).1
          · rfl
        · unfold gDup
          split
          · rename_i hc
            rw [Bool.and_eq_true] at hc
            exact key g _ rfl (room_in hc.1).1
          · rfl
end Go.Proofs.Ytjnkcomedcbenaa
