/- The first words of a map: each class's list, rising; with nothing of the program. -/
import Derived.WalkKit
namespace Go.Proofs.Ytbjhciccpkbmoaa.Lay

/-- The least v of n - j to n less 1 of which p holds; 0: there is none such. -/
def lowTo (p : Nat → Bool) (n : Nat) : Nat → Nat
  | 0 => 0
  | j + 1 => if p (n - 1 - j) = true then n - 1 - j else lowTo p n j

def IsLow (p : Nat → Bool) (n s w : Nat) : Prop := (w = 0 ∧ ∀ v, s ≤ v → v < n → p v = false) ∨ (s ≤ w ∧ w < n ∧ p w = true ∧ ∀ v, s ≤ v → v < w → p v = false)

theorem low_spec (p : Nat → Bool) (n : Nat) : ∀ j, j + 1 ≤ n → IsLow p n (n - j) (lowTo p n j)
  | 0, _ => .inl ⟨rfl, fun v h1 h2 => by omega⟩
  | j + 1, h => by
    have ih := low_spec p n j (by omega)
    unfold lowTo
    by_cases e : p (n - 1 - j) = true
    · rw [if_pos e]
      exact .inr ⟨by omega, by omega, e, fun v h1 h2 => by omega⟩
    · rw [if_neg e]
      have e2 : p (n - 1 - j) = false := by simpa using e
      rcases ih with ⟨h1, h2⟩ | ⟨h1, h2, h3, h4⟩
      · refine .inl ⟨h1, fun v h5 h6 => ?_⟩
        by_cases e3 : v = n - 1 - j
        · subst e3; exact e2
        · exact h2 v (by omega) h6
      · refine .inr ⟨by omega, h2, h3, fun v h5 h6 => ?_⟩
        by_cases e3 : v = n - 1 - j
        · subst e3; exact e2
        · exact h4 v (by omega) h6
theorem low_uniq {p : Nat → Bool} {n s w w' : Nat} (h : IsLow p n s w) (k : IsLow p n s w') : w = w' := by
  rcases h with ⟨h1, h2⟩ | ⟨h1, h2, h3, h4⟩ <;> rcases k with ⟨k1, k2⟩ | ⟨k1, k2, k3, k4⟩
  · omega
  · have := h2 w' k1 k2; rw [k3] at this; cases this
  · have := k2 w h1 h2; rw [h3] at this; cases this
  · rcases Nat.lt_trichotomy w w' with h5 | h5 | h5
    · have := k4 w h1 h5; rw [h3] at this; cases this
    · exact h5
    · have := h4 w' k1 h5; rw [k3] at this; cases this

/-- Is node v, but for the last one, of class k? -/
def ofK (ks : List Int) (k : Int) (v : Nat) : Bool := decide (ks.getD (v - 1) 9 = k)
/-- How many of 1 to v less 1 are of class k. -/
def cl (ks : List Int) (k : Int) : Nat → Nat
  | 0 => 0
  | v + 1 => cl ks k v + if 1 ≤ v ∧ ofK ks k v = true then 1 else 0

theorem cl_same (ks : List Int) (k : Int) (v : Nat) : ∀ d, (∀ u, v ≤ u → u < v + d → 1 ≤ u → ofK ks k u = false) → cl ks k (v + d) = cl ks k v
  | 0, _ => rfl
  | d + 1, h => by
    have ih := cl_same ks k v d (fun u h1 h2 h3 => h u h1 (by omega) h3)
    rw [show v + (d + 1) = (v + d) + 1 by omega, cl, ih, if_neg]
    · rfl
    · rintro ⟨h1, h2⟩
      have := h (v + d) (by omega) (by omega) h1
      rw [h2] at this; cases this
/-- At the head of a list nothing is behind. -/
theorem cl_head {ks : List Int} {k : Int} {n w : Nat} (h : IsLow (ofK ks k) n 1 w) : (w = 0 → 1 ≤ n → cl ks k n = 0) ∧ (w ≠ 0 → cl ks k w = 0 ∧ 1 ≤ w ∧ w < n ∧ ofK ks k w = true) := by
  have key : ∀ m, 1 ≤ m → (∀ u, 1 ≤ u → u < m → ofK ks k u = false) → cl ks k m = 0 := fun m hm hf => by
    have := cl_same ks k 1 (m - 1) (fun u h1 h2 _ => hf u h1 (by omega))
    rw [show 1 + (m - 1) = m by omega] at this
    rw [this]; simp [cl]
  rcases h with ⟨rfl, h2⟩ | ⟨h1, h2, h3, h4⟩
  · exact ⟨fun _ hn => key n hn h2, fun h => absurd rfl h⟩
  · exact ⟨fun e => by omega, fun _ => ⟨key w h1 h4, h1, h2, h3⟩⟩
/-- From one of a class to the next one there is one. -/
theorem cl_next {ks : List Int} {k : Int} {n v w : Nat} (hv : 1 ≤ v) (hvn : v < n) (hk : ofK ks k v = true) (h : IsLow (fun u => decide (v < u) && ofK ks k u) n 1 w) :
    (w = 0 → cl ks k n = cl ks k v + 1) ∧ (w ≠ 0 → cl ks k w = cl ks k v + 1 ∧ v < w ∧ w < n ∧ ofK ks k w = true) := by
  have key : ∀ m, v < m → (∀ u, v < u → u < m → ofK ks k u = false) → cl ks k m = cl ks k v + 1 := fun m hm hf => by
    have := cl_same ks k (v + 1) (m - (v + 1)) (fun u h1 h2 _ => hf u (by omega) (by omega))
    rw [show v + 1 + (m - (v + 1)) = m by omega] at this
    rw [this, cl, if_pos ⟨hv, hk⟩]
  rcases h with ⟨rfl, h2⟩ | ⟨h1, h2, h3, h4⟩
  · exact ⟨fun _ => key n hvn (fun u h3 h4 => by have := h2 u (by omega) h4; simpa [h3] using this), fun h => absurd rfl h⟩
  · have hvw : v < w := by simp at h3; exact h3.1
    have hwk : ofK ks k w = true := by simp at h3; exact h3.2
    exact ⟨fun e => by omega, fun _ => ⟨key w hvw (fun u h5 h6 => by have := h4 u (by omega) h6; simpa [h5] using this), hvw, h2, hwk⟩⟩
/-- All classes together have all nodes but the last one. -/
theorem cl_sum (ks : List Int) (n : Nat) (hk : ∀ v, 1 ≤ v → v < n → 0 ≤ ks.getD (v - 1) 9 ∧ ks.getD (v - 1) 9 < 5) : ∀ v, 1 ≤ v → v ≤ n → cl ks 0 v + cl ks 1 v + cl ks 2 v + cl ks 3 v + cl ks 4 v + 1 = v
  | 0, h, _ => by omega
  | v + 1, _, h => by
    by_cases e : v = 0
    · subst e; simp [cl]
    · have ih := cl_sum ks n hk v (by omega) (by omega)
      obtain ⟨h1, h2⟩ := hk v (by omega) (by omega)
      have h3 : ks.getD (v - 1) 9 = 0 ∨ ks.getD (v - 1) 9 = 1 ∨ ks.getD (v - 1) 9 = 2 ∨ ks.getD (v - 1) 9 = 3 ∨ ks.getD (v - 1) 9 = 4 := by omega
      have h4 : 1 ≤ v := by omega
      simp only [cl, ofK, decide_eq_true_eq]
      rcases h3 with h3 | h3 | h3 | h3 | h3 <;> simp only [h3] <;> simp [h4] <;> omega

/-- Where classes rise, the next one of a class is the next one, or none is. -/
theorem next_rising {ks : List Int} {n v : Nat} (hr : ∀ i j, i ≤ j → j < n → ks.getD i 9 ≤ ks.getD j 9) (hv : 1 ≤ v) (hvn : v < n) :
    IsLow (fun u => decide (v < u) && ofK ks (ks.getD (v - 1) 9) u) n 1 (if v + 1 < n ∧ ks.getD v 9 = ks.getD (v - 1) 9 then v + 1 else 0) := by
  split
  · rename_i h
    refine .inr ⟨by omega, h.1, by have h2 := h.2; simp only [ofK, Nat.add_sub_cancel, h2]; simp, fun u h1 h2 => ?_⟩
    have : ¬ v < u := by omega
    simp [this]
  · rename_i h
    refine .inl ⟨rfl, fun u h1 h2 => ?_⟩
    by_cases e : v < u
    · simp only [e, decide_true, Bool.true_and]
      have a := hr (v - 1) v (by omega) (by omega)
      have b := hr v (u - 1) (by omega) (by omega)
      have : ks.getD (u - 1) 9 ≠ ks.getD (v - 1) 9 := fun e2 => h ⟨by omega, by omega⟩
      simp [ofK]; exact this
    · simp [e]

/-- How many parts there are. -/
def partsN (n S : Nat) : Nat := (n + S - 1) / S
theorem parts_is {n S p : Nat} (hS : 1 ≤ S) (h1 : n ≤ p * S) (h2 : p * S < n + S) : partsN n S = p := by
  unfold partsN
  refine Nat.div_eq_of_lt_le (by omega) ?_
  rw [Nat.succ_mul]; omega
theorem parts_bd (n S : Nat) (hS : 1 ≤ S) : n ≤ partsN n S * S ∧ partsN n S * S < n + S := by
  unfold partsN
  have h1 := Nat.div_mul_le_self (n + S - 1) S
  have h2 := Nat.lt_div_mul_add (a := n + S - 1) (show 0 < S by omega)
  omega
/-- A part's nodes. -/
theorem part_ok {n S j : Nat} (hS : 1 ≤ S) (hj : j < partsN n S) : j * S + 1 ≤ n ∧ j * S + 1 ≤ min (j * S + S) n ∧ min (j * S + S) n ≤ n ∧ min (j * S + S) n - (j * S + 1) + 1 ≤ S ∧ (j + 1 < partsN n S → min (j * S + S) n = j * S + S) := by
  obtain ⟨h1, h2⟩ := parts_bd n S hS
  have h3 : (j + 1) * S ≤ partsN n S * S := Nat.mul_le_mul_right S (by omega)
  rw [Nat.succ_mul] at h3
  have h4 : j + 1 < partsN n S → (j + 1 + 1) * S ≤ partsN n S * S := fun h => Nat.mul_le_mul_right S (by omega)
  refine ⟨by omega, by omega, by omega, by omega, fun h => ?_⟩
  have h5 := h4 h
  rw [Nat.succ_mul, Nat.succ_mul] at h5
  omega
/-- A node is in just one part. -/
theorem part_iff {n S j v : Nat} (hS : 1 ≤ S) (h1 : 1 ≤ v) (hv : v ≤ n) : (j * S + 1 ≤ v ∧ v ≤ min (j * S + S) n) ↔ (v - 1) / S = j := by
  constructor
  · intro h
    refine Nat.div_eq_of_lt_le (by omega) ?_
    rw [Nat.succ_mul]; omega
  · intro h
    have h3 := Nat.div_mul_le_self (v - 1) S
    have h4 := Nat.lt_div_mul_add (a := v - 1) (show 0 < S by omega)
    rw [h] at h3 h4
    omega
theorem part_lt {n S v : Nat} (hS : 1 ≤ S) (h1 : 1 ≤ v) (hv : v ≤ n) : (v - 1) / S < partsN n S := by
  obtain ⟨h2, _⟩ := parts_bd n S hS
  rw [Nat.div_lt_iff_lt_mul (by omega)]
  omega
end Go.Proofs.Ytbjhciccpkbmoaa.Lay
