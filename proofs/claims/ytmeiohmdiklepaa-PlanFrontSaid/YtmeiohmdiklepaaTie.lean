/- Those who wait, as a heap holds them, against when each one is due. -/
import Derived.Test.YtmeiohmdiklepaaFix
import Derived.Test.YtmeiohmdiklepaaTurns
namespace Go.Proofs.Ytmeiohmdiklepaa
set_option linter.unusedVariables false

def one (ps d : List Int) (i : Nat) : Wt := ⟨(i : Int), bnd (ps.getD i 0), d.getD i 0⟩
def tie (ps d : List Int) : List Wt := (List.range ps.length).map (one ps d)
theorem tie_len (ps d : List Int) : (tie ps d).length = ps.length := by simp [tie]
theorem tie_get (ps d : List Int) (i : Nat) (h : i < ps.length) : (tie ps d)[i]? = some (one ps d i) := by simp [tie, h]

theorem perm_set {α : Type} {l m : List α} {x y : α} {u : Nat} (h : l.Perm m) (h0 : l[0]? = some x) (hu : m[u]? = some x) : (l.set 0 y).Perm (m.set u y) := by
  cases l with
  | nil => simp at h0
  | cons a t =>
    obtain rfl : a = x := by simpa using h0
    have hul : u < m.length := (List.getElem?_eq_some_iff.1 hu).1
    have hue : m[u] = a := (List.getElem?_eq_some_iff.1 hu).2
    have e1 : m = m.take u ++ a :: m.drop (u + 1) := by
      rw [← hue]; simp
    have e2 : m.set u y = m.take u ++ y :: m.drop (u + 1) := by
      rw [List.set_eq_take_append_cons_drop, if_pos hul]
    rw [e2]
    rw [e1] at h
    have := List.Perm.cons_inv (h.trans List.perm_middle)
    exact (this.cons y).trans List.perm_middle.symm

theorem tie_step (ps : List Int) (k : Nat) (h : 0 < ps.length) : (tie ps (dueL ps k)).set (who ps k) (bump (one ps (dueL ps k) (who ps k))) = tie ps (dueL ps (k + 1)) := by
  apply List.ext_getElem?
  intro i
  by_cases hi : i < ps.length
  · rw [List.getElem?_set, tie_get _ _ i hi, tie_get _ _ i hi, tie_len]
    by_cases e : who ps k = i
    · subst e
      rw [if_pos rfl, if_pos hi]
      unfold one bump
      rw [due_succ ps k _ h, if_pos rfl]
    · rw [if_neg e]
      unfold one
      rw [due_succ ps k _ h, if_neg (Ne.symm e)]
  · rw [List.getElem?_eq_none (by rw [List.length_set, tie_len]; omega), List.getElem?_eq_none (by rw [tie_len]; omega)]

/-- The head of the heap is the one whose turn it is. -/
theorem head_is {ps : List Int} {k : Nat} {ws : List Wt} (h : 0 < ps.length) (hp : ws.Perm (tie ps (dueL ps k))) (hh : HeapFrom 0 ws) : at_ ws 0 = one ps (dueL ps k) (who ps k) := by
  have hl : ws.length = ps.length := by rw [hp.length_eq, tie_len]
  have hm : at_ ws 0 ∈ tie ps (dueL ps k) := hp.mem_iff.1 (by
    unfold at_
    rw [List.getD, List.getElem?_eq_getElem (by omega : 0 < ws.length)]
    exact List.getElem_mem _)
  obtain ⟨u, hu, e⟩ := List.mem_map.1 hm
  have hu : u < ps.length := by simpa using hu
  have hle : IsLeast (dueL ps k) ps.length u := by
    refine ⟨hu, fun i hi => ?_⟩
    have hmi : one ps (dueL ps k) i ∈ ws := hp.mem_iff.2 (List.mem_map.2 ⟨i, by simpa using hi, rfl⟩)
    obtain ⟨j, hj, ej⟩ := List.getElem_of_mem hmi
    have := heap_head hh j hj
    rw [← e] at this
    have e3 : at_ ws j = one ps (dueL ps k) i := by unfold at_; rw [List.getD, List.getElem?_eq_getElem hj]; exact ej
    rw [e3] at this
    unfold Le one at this
    simp only at this
    omega
  rw [← e, least_uniq hle (who_is ps k h)]

theorem tie_next {ps : List Int} {k : Nat} {ws l : List Wt} (h : 0 < ps.length) (hp : ws.Perm (tie ps (dueL ps k))) (hh : HeapFrom 0 ws) (hl : l.Perm (ws.set 0 (bump (at_ ws 0)))) : l.Perm (tie ps (dueL ps (k + 1))) := by
  have e := head_is h hp hh
  have hlen : ws.length = ps.length := by rw [hp.length_eq, tie_len]
  refine hl.trans ?_
  rw [← tie_step ps k h, ← e]
  refine perm_set hp ?_ ?_ (x := at_ ws 0)
  · unfold at_
    rw [List.getD, List.getElem?_eq_getElem (by omega : 0 < ws.length)]; rfl
  · rw [tie_get _ _ _ (who_lt ps k h), e]

/-- The line as it is filled in: the first k are there. -/
def part (ps : List Int) (k : Nat) : List Wt := (List.range ps.length).map fun i => if i < k then one ps (dueL ps 0) i else Wt.nil
theorem part_len (ps : List Int) (k : Nat) : (part ps k).length = ps.length := by simp [part]
theorem part_done (ps : List Int) : part ps ps.length = tie ps (dueL ps 0) := by
  unfold part tie
  apply List.map_congr_left
  intro i hi
  rw [if_pos (by simpa using hi)]
theorem part_step (ps : List Int) (k : Nat) (h : k < ps.length) : (part ps k).set k (one ps (dueL ps 0) k) = part ps (k + 1) := by
  apply List.ext_getElem?
  intro i
  by_cases hi : i < ps.length
  · rw [List.getElem?_set, part_len]
    by_cases e : k = i
    · subst e
      simp [part, hi]
    · rw [if_neg e]
      simp only [part, List.getElem?_map, List.getElem?_range hi, Option.map_some]
      have : (i < k) = (i < k + 1) := by simp; omega
      simp [this]
  · rw [List.getElem?_eq_none (by rw [List.length_set, part_len]; omega), List.getElem?_eq_none (by rw [part_len]; omega)]
theorem flat_nil (ps : List Int) : flat (part ps 0) = List.replicate (ps.length * 3) (.int .i64 0) := by
  have h : part ps 0 = List.replicate ps.length Wt.nil := by
    unfold part
    apply List.ext_getElem? 
    intro i
    by_cases hi : i < ps.length
    · simp [hi]
    · simp [hi]
  rw [h]
  generalize ps.length = n
  induction n with
  | zero => rfl
  | succ n ih =>
    rw [show (n + 1) * 3 = n * 3 + 1 + 1 + 1 by omega, List.replicate_succ, List.replicate_succ, List.replicate_succ, List.replicate_succ, ← ih]
    rfl
end Go.Proofs.Ytmeiohmdiklepaa
