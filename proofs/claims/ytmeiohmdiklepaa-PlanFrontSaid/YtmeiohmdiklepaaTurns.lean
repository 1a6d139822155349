/- Whose turn it is, by periods: lists of integers, with nothing of the program. -/
import Derived.WalkKit
namespace Go.Proofs.Ytmeiohmdiklepaa
set_option linter.unusedVariables false

/-- A period as it counts. -/
def bnd (p : Int) : Int := if p < 1 then 1 else if p > 1000 then 1000 else p
theorem bnd_bd (p : Int) : 1 ≤ bnd p ∧ bnd p ≤ 1000 := by unfold bnd; omega

/-- The least one of the first k + 1, of several the one of the lowest place. -/
def leastTo (d : List Int) : Nat → Nat
  | 0 => 0
  | k + 1 => if d.getD (k + 1) 0 < d.getD (leastTo d k) 0 then k + 1 else leastTo d k
def least (d : List Int) : Nat := leastTo d (d.length - 1)

def IsLeast (d : List Int) (n u : Nat) : Prop := u < n ∧ ∀ i, i < n → d.getD u 0 < d.getD i 0 ∨ (d.getD u 0 = d.getD i 0 ∧ u ≤ i)
theorem leastTo_is (d : List Int) : ∀ k, IsLeast d (k + 1) (leastTo d k)
  | 0 => ⟨by simp [leastTo], fun i hi => .inr ⟨by rw [show i = 0 by omega]; rfl, Nat.zero_le _⟩⟩
  | k + 1 => by
    obtain ⟨h1, h2⟩ := leastTo_is d k
    unfold leastTo
    split
    · refine ⟨by omega, fun i hi => ?_⟩
      by_cases e : i = k + 1
      · subst e; exact .inr ⟨rfl, Nat.le_refl _⟩
      · have := h2 i (by omega); omega
    · refine ⟨by omega, fun i hi => ?_⟩
      by_cases e : i = k + 1
      · subst e; omega
      · exact h2 i (by omega)
theorem least_is (d : List Int) (h : 0 < d.length) : IsLeast d d.length (least d) := by
  have := leastTo_is d (d.length - 1)
  rw [show d.length - 1 + 1 = d.length by omega] at this
  exact this
theorem least_uniq {d : List Int} {n u v : Nat} (a : IsLeast d n u) (b : IsLeast d n v) : u = v := by
  have := a.2 v b.1
  have := b.2 u a.1
  omega

/-- When each one is due, behind k turns. -/
def dueL (ps : List Int) : Nat → List Int
  | 0 => ps.map bnd
  | k + 1 => (dueL ps k).set (least (dueL ps k)) ((dueL ps k).getD (least (dueL ps k)) 0 + bnd (ps.getD (least (dueL ps k)) 0))
/-- Whose turn it is, behind k turns. -/
def who (ps : List Int) (k : Nat) : Nat := least (dueL ps k)
def outL (ps : List Int) (n : Nat) : List Int := (List.range n).map fun k => ((who ps k : Nat) : Int)

theorem due_len (ps : List Int) : ∀ k, (dueL ps k).length = ps.length
  | 0 => by simp [dueL]
  | k + 1 => by simp [dueL, due_len ps k]
theorem who_lt (ps : List Int) (k : Nat) (h : 0 < ps.length) : who ps k < ps.length := by
  have := (least_is (dueL ps k) (by rw [due_len]; exact h)).1
  rwa [due_len] at this
theorem who_is (ps : List Int) (k : Nat) (h : 0 < ps.length) : IsLeast (dueL ps k) ps.length (who ps k) := by
  have := least_is (dueL ps k) (by rw [due_len]; exact h)
  rwa [due_len] at this
theorem due_zero (ps : List Int) (i : Nat) (h : i < ps.length) : (dueL ps 0).getD i 0 = bnd (ps.getD i 0) := by
  simp [dueL, List.getD, List.getElem?_map, List.getElem?_eq_getElem h]
theorem due_succ (ps : List Int) (k i : Nat) (h : 0 < ps.length) : (dueL ps (k + 1)).getD i 0 = if i = who ps k then (dueL ps k).getD i 0 + bnd (ps.getD i 0) else (dueL ps k).getD i 0 := by
  have hw := who_lt ps k h
  unfold who at hw ⊢
  simp only [dueL]
  split
  · rename_i e
    subst e
    simp [List.getD, due_len, hw]
  · rename_i e
    simp [List.getD, Ne.symm e]
theorem due_bd (ps : List Int) (h : 0 < ps.length) : ∀ k i, i < ps.length → 1 ≤ (dueL ps k).getD i 0 ∧ (dueL ps k).getD i 0 ≤ 1000 * ((k : Int) + 1)
  | 0, i, hi => by have := bnd_bd (ps.getD i 0); rw [due_zero ps i hi]; omega
  | k + 1, i, hi => by
    have := due_bd ps h k i hi
    have := bnd_bd (ps.getD i 0)
    rw [due_succ ps k i h]
    split <;> omega
theorem out_len (ps : List Int) (n : Nat) : (outL ps n).length = n := by simp [outL]
theorem out_get (ps : List Int) (n j : Nat) (h : j < n) : (outL ps n).getD j 0 = ((who ps j : Nat) : Int) := by
  simp [outL, List.getD, h]
theorem out_succ (ps : List Int) (n : Nat) : outL ps (n + 1) = outL ps n ++ [((who ps n : Nat) : Int)] := by
  simp [outL, List.range_succ]
theorem out_take (ps : List Int) (n m : Nat) : (outL ps (n + m)).take n = outL ps n := by
  rw [outL, ← List.map_take, List.take_range, show min n (n + m) = n by omega]; rfl
end Go.Proofs.Ytmeiohmdiklepaa
