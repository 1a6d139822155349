/- A heap of those who wait: what a sift does, with nothing of the program. -/
import Derived.Test.YtmeiohmdiklepaaHeap
namespace Go.Proofs.Ytmeiohmdiklepaa
open Go.RowKit
set_option linter.unusedVariables false

abbrev at_ (ws : List Wt) (i : Nat) : Wt := ws.getD i Wt.nil
/-- a's turn comes no later than b's. -/
def Le (a b : Wt) : Prop := a.due < b.due ∨ (a.due = b.due ∧ a.who ≤ b.who)
theorem le_of_not {a b : Wt} (h : ltB b a = false) : Le a b := by
  have : ¬ (b.due < a.due ∨ (b.due = a.due ∧ b.who < a.who)) := fun e => by rw [(lt_iff b a).2 e] at h; cases h
  unfold Le; omega
theorem le_of_lt {a b : Wt} (h : ltB a b = true) : Le a b := by
  have := (lt_iff a b).1 h
  unfold Le; omega
theorem le_trans {a b c : Wt} (h : Le a b) (k : Le b c) : Le a c := by unfold Le at *; omega
theorem le_refl (a : Wt) : Le a a := by unfold Le; omega

theorem swp_len (ws : List Wt) (i j : Nat) : (swp ws i j).length = ws.length := by simp [swp]
theorem swp_at (ws : List Wt) (i j p : Nat) (hi : i < ws.length) (hj : j < ws.length) : at_ (swp ws i j) p = if p = j then at_ ws i else if p = i then at_ ws j else at_ ws p := by
  unfold swp at_
  simp only [List.getD, List.getElem?_set, List.length_set]
  by_cases e : j = p
  · subst e; simp [hj]
  · have e' : p ≠ j := fun h => e h.symm
    by_cases e2 : i = p
    · subst e2; simp [e, e', hi]
    · have e2' : p ≠ i := fun h => e2 h.symm
      simp [e, e', e2, e2']
theorem swp_perm (ws : List Wt) (i j : Nat) (hi : i < ws.length) (hj : j < ws.length) : (swp ws i j).Perm ws := by
  have h : swp ws i j = (ws.toArray.swap i j hi hj).toList := by
    rw [Array.toList_swap]
    unfold swp
    simp [List.getD, List.getElem?_eq_getElem hi, List.getElem?_eq_getElem hj]
  rw [h]
  exact (Array.swap_perm (xs := ws.toArray) hi hj).toList

def HeapFrom (k : Nat) (ws : List Wt) : Prop := ∀ j, 0 < j → j < ws.length → k ≤ (j - 1) / 2 → Le (at_ ws ((j - 1) / 2)) (at_ ws j)
/-- In the midst of a sift: all is well but at i. -/
def Down (k : Nat) (ws : List Wt) (i : Nat) : Prop :=
  k ≤ i ∧ (∀ j, 0 < j → j < ws.length → k ≤ (j - 1) / 2 → (j - 1) / 2 ≠ i → Le (at_ ws ((j - 1) / 2)) (at_ ws j)) ∧
  (i ≠ k → ∀ j, 0 < j → j < ws.length → (j - 1) / 2 = i → Le (at_ ws ((i - 1) / 2)) (at_ ws j))

theorem down_start {k : Nat} {ws : List Wt} (h : HeapFrom (k + 1) ws) : Down k ws k :=
  ⟨Nat.le_refl _, fun j h0 h1 h2 h3 => h j h0 h1 (by omega), fun e => absurd rfl e⟩

theorem down_none {k i : Nat} {ws : List Wt} (h : Down k ws i) (hn : ws.length ≤ 2 * i + 1) : HeapFrom k ws := fun j h0 h1 h2 => by
  by_cases e : (j - 1) / 2 = i
  · omega
  · exact h.2.1 j h0 h1 h2 e

theorem down_stop {k i c : Nat} {ws : List Wt} (h : Down k ws i) (hc : ∀ j, 0 < j → j < ws.length → (j - 1) / 2 = i → Le (at_ ws c) (at_ ws j)) (hl : Le (at_ ws i) (at_ ws c)) : HeapFrom k ws := fun j h0 h1 h2 => by
  by_cases e : (j - 1) / 2 = i
  · rw [e]; exact le_trans hl (hc j h0 h1 e)
  · exact h.2.1 j h0 h1 h2 e

theorem down_step {k i c : Nat} {ws : List Wt} (h : Down k ws i) (hi : i < ws.length) (hcl : c < ws.length) (hc0 : 0 < c) (hci : (c - 1) / 2 = i) (hc : ∀ j, 0 < j → j < ws.length → (j - 1) / 2 = i → Le (at_ ws c) (at_ ws j)) (hl : Le (at_ ws c) (at_ ws i)) :
    Down k (swp ws i c) c := by
  obtain ⟨hk, h1, h2⟩ := h
  have A := fun p => swp_at ws i c p hi hcl
  refine ⟨by omega, fun j j0 j1 j2 j3 => ?_, fun _ j j0 j1 j2 => ?_⟩
  · rw [swp_len] at j1
    by_cases e : (j - 1) / 2 = i
    · rw [e, A i, if_neg (by omega), if_pos rfl, A j]
      by_cases e2 : j = c
      · rw [if_pos e2]; exact hl
      · rw [if_neg e2, if_neg (by omega)]; exact hc j j0 j1 e
    · by_cases e2 : j = i
      · subst e2
        rw [A j, if_neg (by omega), if_pos rfl, A ((j - 1) / 2), if_neg (by omega), if_neg (by omega)]
        exact h2 (by omega) c hc0 hcl hci
      · rw [A j, if_neg (by intro e3; subst e3; omega), if_neg e2, A ((j - 1) / 2), if_neg j3, if_neg e]
        exact h1 j j0 j1 j2 e
  · rw [swp_len] at j1
    rw [hci, A i, if_neg (by omega), if_pos rfl, A j, if_neg (by omega), if_neg (by omega)]
    have := h1 j j0 j1 (by omega) (by omega)
    rw [j2] at this
    exact this

theorem kids {i j : Nat} (h0 : 0 < j) (h : (j - 1) / 2 = i) : j = 2 * i + 1 ∨ j = 2 * i + 2 := by omega

/-- The head of a heap is ahead of all. -/
theorem heap_head {ws : List Wt} (h : HeapFrom 0 ws) : ∀ (j : Nat), j < ws.length → Le (at_ ws 0) (at_ ws j)
  | 0, _ => le_refl _
  | j + 1, hj => le_trans (heap_head h ((j + 1 - 1) / 2) (by omega)) (h (j + 1) (by omega) hj (Nat.zero_le _))
termination_by j => j
decreasing_by omega

theorem heap_half (ws : List Wt) : HeapFrom (ws.length / 2) ws := fun j h0 h1 h2 => by omega
end Go.Proofs.Ytmeiohmdiklepaa
