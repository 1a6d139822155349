/- What gaps and windows are: lists of integers, with nothing of the program. -/
import Derived.WalkKit
namespace Go.Proofs.Ytadfdpkmegaloaa

/-- A stretch from i to k, all of it other than who's. -/
def Free (l : List Int) (who : Int) (i k : Nat) : Prop := i ≤ k ∧ k ≤ l.length ∧ ∀ j, i ≤ j → j < k → l.getD j 0 ≠ who
/-- The longest one. -/
def IsGap (l : List Int) (who : Int) (g : Nat) : Prop := (∃ i, Free l who i (i + g)) ∧ ∀ i k, Free l who i k → k - i ≤ g

theorem gap_uniq {l : List Int} {who : Int} {g h : Nat} (a : IsGap l who g) (b : IsGap l who h) : g = h := by
  obtain ⟨⟨i, hi⟩, ha⟩ := a
  obtain ⟨⟨j, hj⟩, hb⟩ := b
  have := ha _ _ hj
  have := hb _ _ hi
  omega

theorem gap_le {l : List Int} {who : Int} {g : Nat} (a : IsGap l who g) : g ≤ l.length := by
  obtain ⟨⟨i, hi⟩, _⟩ := a
  have := hi.2.1
  omega

/-- Each stretch of wide turns has each of 0 to all less 1. -/
def IsWin (l : List Int) (all wide : Int) : Prop :=
  all < 1 ∨ (1 ≤ wide ∧ ∀ i W : Nat, (W : Int) = wide → i + W ≤ l.length → ∀ who : Nat, (who : Int) < all → ∃ k, i ≤ k ∧ k < i + W ∧ l.getD k 0 = (who : Int))

/-- Of so many turns no more can be. -/
theorem pigeon : ∀ (n : Nat) (l : List Int), (∀ i : Nat, i < n → (i : Int) ∈ l) → n ≤ l.length
  | 0, _, _ => Nat.zero_le _
  | n + 1, l, h => by
    have h1 : ((n : Nat) : Int) ∈ l := h n (by omega)
    have h2 := pigeon n (l.erase (n : Int)) fun i hi => (List.mem_erase_of_ne (by omega)).2 (h i (by omega))
    rw [List.length_erase_of_mem h1] at h2
    have := List.length_pos_of_mem h1
    omega

/-- How far the walk over turns has come: of each, the place behind its last turn. -/
def Behind (l : List Int) (all W k : Nat) (B : List Int) : Prop :=
  B.length = all ∧ ∀ who, who < all → ∃ b : Nat, B.getD who 0 = (b : Int) ∧ b ≤ k ∧ (∀ j, b ≤ j → j < k → l.getD j 0 ≠ (who : Int)) ∧ (0 < b → l.getD (b - 1) 0 = (who : Int)) ∧
    ∀ i, i + W ≤ b → ∃ j, i ≤ j ∧ j < i + W ∧ l.getD j 0 = (who : Int)

theorem behind_start (l : List Int) (all W : Nat) (hW : 0 < W) : Behind l all W 0 (List.replicate all 0) := by
  refine ⟨by simp, fun who hw => ⟨0, by simp [List.getD, hw], Nat.le_refl _, fun j _ hj => by omega, fun h => by omega, fun i hi => by omega⟩⟩

theorem behind_other {l : List Int} {all W k : Nat} {B : List Int} (h : Behind l all W k B) (hk : l.getD k 0 < 0 ∨ (all : Int) ≤ l.getD k 0) : Behind l all W (k + 1) B := by
  refine ⟨h.1, fun who hw => ?_⟩
  obtain ⟨b, h1, h2, h3, h4, h5⟩ := h.2 who hw
  refine ⟨b, h1, by omega, fun j hj hj2 => ?_, h4, h5⟩
  by_cases e : j = k
  · subst e; omega
  · exact h3 j hj (by omega)

theorem behind_step {l : List Int} {all W k who b : Nat} {B : List Int} (h : Behind l all W k B) (hk : l.getD k 0 = (who : Int)) (hw : who < all) (hb : B.getD who 0 = (b : Int)) (hlt : k < b + W) : Behind l all W (k + 1) (B.set who ((k : Int) + 1)) := by
  refine ⟨by simpa using h.1, fun u hu => ?_⟩
  obtain ⟨c, h1, h2, h3, h4, h5⟩ := h.2 u hu
  by_cases e : u = who
  · subst e
    have : c = b := by omega
    subst this
    refine ⟨k + 1, by simp [List.getD, h.1, hu], by omega, fun j hj hj2 => by omega, fun _ => by simpa using hk, fun i hi => ?_⟩
    by_cases h6 : i + W = k + 1
    · exact ⟨k, by omega, by omega, hk⟩
    · by_cases h7 : i + W ≤ c
      · exact h5 i h7
      · exact ⟨c - 1, by omega, by omega, h4 (by omega)⟩
  · refine ⟨c, by simpa [List.getD, List.getElem?_set, Ne.symm e] using h1, by omega, fun j hj hj2 => ?_, h4, h5⟩
    by_cases e2 : j = k
    · subst e2; rw [hk]; omega
    · exact h3 j hj (by omega)

/-- A turn too late: some stretch lacks its who. -/
theorem behind_late {l : List Int} {all W k who b : Nat} {B : List Int} (h : Behind l all W k B) (hk : k ≤ l.length) (hw : who < all) (hb : B.getD who 0 = (b : Int)) (hlt : b + W ≤ k) (wide : Int) (hwide : (W : Int) = wide) : ¬ IsWin l all wide := by
  rintro (h0 | ⟨_, h0⟩)
  · omega
  · obtain ⟨c, h1, h2, h3, _⟩ := h.2 who hw
    have : c = b := by omega
    subst this
    obtain ⟨j, hj, hj2, hj3⟩ := h0 c W hwide (by omega) who (by omega)
    exact h3 j hj (by omega) hj3

theorem behind_end {l : List Int} {all W : Nat} {B : List Int} (h : Behind l all W l.length B) (hall : ∀ who, who < all → ∀ b : Nat, B.getD who 0 = (b : Int) → l.length < b + W) (wide : Int) (hwide : (W : Int) = wide) (h1 : 1 ≤ wide) : IsWin l all wide := by
  refine .inr ⟨h1, fun i W' hW' hi who hw => ?_⟩
  obtain rfl : W' = W := by omega
  obtain ⟨c, h1, h2, h3, h4, h5⟩ := h.2 who (by omega)
  have := hall who (by omega) c h1
  by_cases h7 : i + W' ≤ c
  · exact h5 i h7
  · exact ⟨c - 1, by omega, by omega, h4 (by omega)⟩

theorem win_few {l : List Int} {all wide : Int} {W : Nat} (hW : (W : Int) = wide) (h1 : 1 ≤ wide) (h : l.length < W) : IsWin l all wide := by
  refine .inr ⟨h1, fun i W' hW' hi => by omega⟩

theorem win_many {l : List Int} {all wide : Int} {W : Nat} (hW : (W : Int) = wide) (h : W ≤ l.length) (ha : wide < all) (h0 : 1 ≤ all) : ¬ IsWin l all wide := by
  rintro (h1 | ⟨_, h1⟩)
  · omega
  · have := pigeon (W + 1) (l.take W) fun i hi => by
      obtain ⟨k, _, hk, e⟩ := h1 0 W hW (by omega) i (by omega)
      rw [← e]
      have hk2 : k < l.length := by omega
      simp only [List.getD, List.getElem?_eq_getElem hk2, Option.getD_some]
      have : l[k] = (l.take W)[k]'(by simp; omega) := by simp
      rw [this]
      exact List.getElem_mem _
    simp at this
    omega

/-- The walk's two numbers: the longest gap so far, and the one that ends here. -/
def GapAt (l : List Int) (who : Int) (k g u : Nat) : Prop :=
  u ≤ k ∧ u ≤ g ∧ g ≤ k ∧ Free l who (k - u) k ∧ (u < k → l.getD (k - u - 1) 0 = who) ∧ (∃ i, i + g ≤ k ∧ Free l who i (i + g)) ∧ ∀ i j, Free l who i j → j ≤ k → j - i ≤ g

theorem gap_start (l : List Int) (who : Int) : GapAt l who 0 0 0 :=
  ⟨Nat.le_refl _, Nat.le_refl _, Nat.le_refl _, ⟨Nat.le_refl _, Nat.zero_le _, fun j _ h => by omega⟩, fun h => by omega, ⟨0, Nat.le_refl _, Nat.le_refl _, Nat.zero_le _, fun j _ h => by omega⟩, fun i j h hj => by omega⟩

theorem gap_hit {l : List Int} {who : Int} {k g u : Nat} (h : GapAt l who k g u) (hk : k < l.length) (e : l.getD k 0 = who) : GapAt l who (k + 1) g 0 := by
  obtain ⟨h1, h2, h3, h4, h5, ⟨i, hi, h6⟩, h7⟩ := h
  refine ⟨Nat.zero_le _, Nat.zero_le _, by omega, ⟨Nat.le_refl _, by omega, fun j _ h => by omega⟩, fun _ => by simpa using e, ⟨i, by omega, h6⟩, fun a b hab hb => ?_⟩
  by_cases hb2 : b = k + 1
  · subst hb2
    by_cases ha : a ≤ k
    · exact absurd e (hab.2.2 k ha (by omega))
    · omega
  · exact h7 a b hab (by omega)

theorem gap_miss {l : List Int} {who : Int} {k g u : Nat} (h : GapAt l who k g u) (hk : k < l.length) (e : l.getD k 0 ≠ who) : GapAt l who (k + 1) (if u + 1 > g then u + 1 else g) (u + 1) := by
  obtain ⟨h1, h2, h3, h4, h5, ⟨i, hi, h6⟩, h7⟩ := h
  have hf : Free l who (k + 1 - (u + 1)) (k + 1) := ⟨by omega, by omega, fun j hj hj2 => by
    by_cases e2 : j = k
    · subst e2; exact e
    · exact h4.2.2 j (by omega) (by omega)⟩
  refine ⟨by omega, by split <;> omega, by split <;> omega, hf, fun hlt => ?_, ?_, fun a b hab hb => ?_⟩
  · have := h5 (by omega)
    have e2 : k + 1 - (u + 1) - 1 = k - u - 1 := by omega
    rw [e2]; exact this
  · split
    · refine ⟨k + 1 - (u + 1), by omega, ?_⟩
      rw [show k + 1 - (u + 1) + (u + 1) = k + 1 by omega]
      exact hf
    · exact ⟨i, by omega, h6⟩
  · by_cases hb2 : b = k + 1
    · subst hb2
      have : k + 1 - a ≤ u + 1 := by
        by_cases ha : a ≤ k - u - 1 ∧ u < k
        · exact absurd (h5 ha.2) (hab.2.2 (k - u - 1) (by omega) (by omega))
        · omega
      split <;> omega
    · have := h7 a b hab (by omega)
      split <;> omega

theorem gap_done {l : List Int} {who : Int} {g u : Nat} (h : GapAt l who l.length g u) : IsGap l who g := by
  obtain ⟨h1, h2, h3, h4, h5, ⟨i, hi, h6⟩, h7⟩ := h
  exact ⟨⟨i, h6⟩, fun a b hab => h7 a b hab hab.2.1⟩

/-- The reference's two numbers: the longest stretch that begins ahead of i. -/
def GapTo (l : List Int) (who : Int) (i g : Nat) : Prop := (∃ a, Free l who a (a + g)) ∧ ∀ a b, Free l who a b → a < i → b - a ≤ g
theorem gapto_start (l : List Int) (who : Int) : GapTo l who 0 0 := ⟨⟨0, Nat.le_refl _, Nat.zero_le _, fun j _ h => by omega⟩, fun a b _ h => by omega⟩
theorem gapto_step {l : List Int} {who : Int} {i g k : Nat} (h : GapTo l who i g) (hf : Free l who i k) (he : k = l.length ∨ (k < l.length ∧ l.getD k 0 = who)) : GapTo l who (i + 1) (if k - i > g then k - i else g) := by
  obtain ⟨⟨a, ha⟩, h2⟩ := h
  refine ⟨?_, fun c b hcb hc => ?_⟩
  · split
    · exact ⟨i, by have := hf.1; rw [show i + (k - i) = k by omega]; exact hf⟩
    · exact ⟨a, ha⟩
  · by_cases e : c = i
    · subst e
      have : b ≤ k := by
        rcases he with he | ⟨he, he2⟩
        · have := hcb.2.1; omega
        · by_cases hbk : b ≤ k
          · exact hbk
          · exact absurd he2 (hcb.2.2 k hf.1 (by omega))
      split <;> omega
    · have := h2 c b hcb (by omega)
      split <;> omega
theorem gapto_done {l : List Int} {who : Int} {g : Nat} (h : GapTo l who l.length g) : IsGap l who g := by
  refine ⟨h.1, fun a b hab => ?_⟩
  by_cases e : a < l.length
  · exact h.2 a b hab e
  · have := hab.1; have := hab.2.1; omega
end Go.Proofs.Ytadfdpkmegaloaa
