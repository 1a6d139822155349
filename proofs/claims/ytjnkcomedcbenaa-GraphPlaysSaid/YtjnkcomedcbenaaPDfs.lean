/- Nodes gone through by lists of lists: what holds all the while, and what it comes to. -/
import Derived.Test.YtjnkcomedcbenaaGrReach
import Derived.Lib.SlKeysI
namespace Go.Proofs.Ytjnkcomedcbenaa
set_option linter.unusedVariables false

/-- A number has been seen to, or is still to come. -/
def Due (V : List Int) (Ps : List (List Int)) (x : Int) : Prop := 0 < x → x ∈ V ∨ ∃ l ∈ Ps, x ∈ l
theorem Due.imp {V V' : List Int} {Ps Ps' : List (List Int)} {x : Int} (h : Due V Ps x) (h1 : ∀ y, y ∈ V → y ∈ V') (h2 : ∀ l ∈ Ps, ∀ y ∈ l, 0 < y → y ∈ V' ∨ ∃ l' ∈ Ps', y ∈ l') : Due V' Ps' x := fun h0 => by
  rcases h h0 with h | ⟨l, hl, hx⟩
  · exact .inl (h1 x h)
  · exact h2 l hl x hx h0
/-- What holds all the while: those that have been come to, and what is left. -/
structure Dfs (g : Gr) (V : List Int) (Ps : List (List Int)) : Prop where
  rch : ∀ v ∈ V, Rch g v
  nd : V.Nodup
  left : ∀ l ∈ Ps, ∀ x ∈ l, 0 < x → Rch g x
  roots : ∀ m a, m < g.roots.length → a < (row g.roots m).length → Due V Ps (num (row g.roots m) a)
  slots : ∀ u ∈ V, ∀ i, i < (row g.nodes (u - 1).toNat).length → Due V Ps (num (row g.nodes (u - 1).toNat) i)
theorem num_inl {l : List Int} {i : Nat} (h : i < l.length) : num l i ∈ l := by
  unfold num
  rw [List.getD, List.getElem?_eq_getElem h]
  exact List.getElem_mem h
theorem mem_num {l : List Int} {x : Int} (h : x ∈ l) : ∃ i, i < l.length ∧ num l i = x := by
  obtain ⟨i, hi, e⟩ := List.getElem_of_mem h
  refine ⟨i, hi, ?_⟩
  unfold num
  rw [List.getD, List.getElem?_eq_getElem hi, e]; rfl
theorem row_mem {ls : List (List Int)} {m : Nat} (h : m < ls.length) : row ls m ∈ ls := by
  unfold row
  rw [List.getD, List.getElem?_eq_getElem h]
  exact List.getElem_mem h
theorem mem_row {ls : List (List Int)} {l : List Int} (h : l ∈ ls) : ∃ m, m < ls.length ∧ row ls m = l := by
  obtain ⟨i, hi, e⟩ := List.getElem_of_mem h
  refine ⟨i, hi, ?_⟩
  unfold row
  rw [List.getD, List.getElem?_eq_getElem hi, e]; rfl
theorem Dfs.start (g : Gr) : Dfs g [] g.roots := by
  refine ⟨fun v h => by simp at h, List.nodup_nil, fun l hl x hx h0 => ?_, fun m a hm ha h0 => .inr ⟨_, row_mem hm, num_inl ha⟩, fun u h => by simp at h⟩
  obtain ⟨m, hm, rfl⟩ := mem_row hl
  obtain ⟨i, hi, rfl⟩ := mem_num hx
  exact Rch.root m i hm hi h0
/-- The last list is through. -/
theorem Dfs.drop {g : Gr} {V : List Int} {Ps : List (List Int)} {l : List Int} (h : Dfs g V (Ps ++ [l])) (hl : ∀ x ∈ l, x ≤ 0 ∨ x ∈ V) : Dfs g V Ps := by
  have key : ∀ l' ∈ Ps ++ [l], ∀ y ∈ l', 0 < y → y ∈ V ∨ ∃ l2 ∈ Ps, y ∈ l2 := fun l' hl' y hy h0 => by
    rcases List.mem_append.1 hl' with h1 | h1
    · exact .inr ⟨l', h1, hy⟩
    · have : l' = l := by simpa using h1
      subst this
      rcases hl y hy with h2 | h2
      · omega
      · exact .inl h2
  exact ⟨h.rch, h.nd, fun l' hl' => h.left l' (List.mem_append_left _ hl'), fun m a hm ha => (h.roots m a hm ha).imp (fun _ h => h) key, fun u hu i hi => (h.slots u hu i hi).imp (fun _ h => h) key⟩
/-- A node is come to. -/
theorem Dfs.come {g : Gr} {V : List Int} {Ps : List (List Int)} {l : List Int} {i : Nat} (h : Dfs g V (Ps ++ [l])) (hi : i < l.length) (h0 : 0 < num l i) (hn : num l i ∉ V) (hl : ∀ j, j < i → num l j ≤ 0 ∨ num l j ∈ V) :
    Dfs g (V ++ [num l i]) (Ps ++ [l.drop (i + 1)] ++ [row g.nodes (num l i - 1).toNat]) := by
  have hr := h.left l (by simp) _ (num_inl hi) h0
  have key : ∀ l' ∈ Ps ++ [l], ∀ y ∈ l', 0 < y → y ∈ V ++ [num l i] ∨ ∃ l2 ∈ Ps ++ [l.drop (i + 1)] ++ [row g.nodes (num l i - 1).toNat], y ∈ l2 := fun l' hl' y hy hy0 => by
    rcases List.mem_append.1 hl' with h1 | h1
    · exact .inr ⟨l', by simp [h1], hy⟩
    · have : l' = l := by simpa using h1
      subst this
      obtain ⟨j, hj, rfl⟩ := mem_num hy
      rcases Nat.lt_trichotomy j i with h2 | h2 | h2
      · rcases hl j h2 with h3 | h3
        · omega
        · exact .inl (by simp [h3])
      · subst h2; exact .inl (by simp)
      · right
        refine ⟨l'.drop (i + 1), by simp, ?_⟩
        have e : num (l'.drop (i + 1)) (j - (i + 1)) = num l' j := by
          unfold num
          simp only [List.getD, List.getElem?_drop]
          rw [show i + 1 + (j - (i + 1)) = j by omega]
        rw [← e]
        exact num_inl (by rw [List.length_drop]; omega)
  refine ⟨fun v hv => ?_, ?_, fun l' hl' x hx hx0 => ?_, fun m a hm ha => (h.roots m a hm ha).imp (fun y hy => by simp [hy]) key, fun u hu k hk => ?_⟩
  · rcases List.mem_append.1 hv with h1 | h1
    · exact h.rch v h1
    · have : v = num l i := by simpa using h1
      rw [this]; exact hr
  · rw [List.nodup_append]
    refine ⟨h.nd, by simp, fun a ha b hb => ?_⟩
    have : b = num l i := by simpa using hb
    subst this
    intro e; subst e; exact hn ha
  · rcases List.mem_append.1 hl' with h1 | h1
    · rcases List.mem_append.1 h1 with h2 | h2
      · exact h.left l' (by simp [h2]) x hx hx0
      · have : l' = l.drop (i + 1) := by simpa using h2
        subst this
        exact h.left l (by simp) x (List.mem_of_mem_drop hx) hx0
    · have : l' = row g.nodes (num l i - 1).toNat := by simpa using h1
      subst this
      obtain ⟨k, hk, rfl⟩ := mem_num hx
      exact Rch.slot _ k hr hk hx0
  · rcases List.mem_append.1 hu with h1 | h1
    · exact (h.slots u h1 k hk).imp (fun y hy => by simp [hy]) key
    · have : u = num l i := by simpa using h1
      subst this
      exact fun _ => .inr ⟨row g.nodes (num l i - 1).toNat, by simp, num_inl hk⟩
/-- Nothing is left: all that can be come to has been. -/
theorem Dfs.end' {g : Gr} {V : List Int} (h : Dfs g V []) (v : Int) : v ∈ V ↔ Rch g v := by
  refine ⟨h.rch v, fun hr => ?_⟩
  induction hr with
  | root m a hm ha h0 =>
    rcases h.roots m a hm ha h0 with h | ⟨l, hl, _⟩
    · exact h
    · simp at hl
  | slot u i hu hi h0 ih =>
    rcases h.slots u ih i hi h0 with h | ⟨l, hl, _⟩
    · exact h
    · simp at hl
theorem Dfs.reach {g : Gr} {V ss : List Int} (hk : Ok g) (h : Dfs g V []) (hs : ss.Perm V) : ss.mergeSort (fun x y => decide (x ≤ y)) = reachL g := by
  have hp : V.Perm (reachL g) := (List.perm_ext_iff_of_nodup h.nd ((reach_rise g _).imp fun hlt e => by omega)).2 fun v => (h.end' v).trans (mem_reachL hk).symm
  have e := mergeSort_of_perm_i (hs.trans hp)
  have e2 : (reachL g).mergeSort leI = reachL g := List.mergeSort_of_pairwise ((reach_rise g _).imp fun hlt => by simp only [leI, decide_eq_true_eq]; omega)
  exact e.trans e2
theorem len_sub : ∀ (a b : List Int), a.Nodup → (∀ v ∈ a, v ∈ b) → a.length ≤ b.length
  | [], _, _, _ => Nat.zero_le _
  | x :: t, b, hn, hs => by
    have hx : x ∈ b := hs x (by simp)
    rw [List.nodup_cons] at hn
    have h1 := len_sub t (b.erase x) hn.2 fun v hv => (List.mem_erase_of_ne (by rintro rfl; exact hn.1 hv)).2 (hs v (by simp [hv]))
    rw [List.length_erase_of_mem hx] at h1
    have : 0 < b.length := List.length_pos_of_mem hx
    simp only [List.length_cons]
    omega
/-- How many more rounds there are at most. -/
theorem Dfs.le {g : Gr} {V : List Int} {Ps : List (List Int)} (hk : Ok g) (h : Dfs g V Ps) : V.length ≤ g.nodes.length := by
  have hsub : ∀ v ∈ V, v ∈ reachL g := fun v hv => (mem_reachL hk).2 (h.rch v hv)
  have h1 : V.length ≤ (reachL g).length := len_sub V (reachL g) h.nd hsub
  have h2 : (reachL g).length ≤ g.nodes.length := reach_len g _
  omega
end Go.Proofs.Ytjnkcomedcbenaa
