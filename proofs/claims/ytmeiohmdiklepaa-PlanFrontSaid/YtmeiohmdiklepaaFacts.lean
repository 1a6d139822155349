/- Gaps and windows, of one list and of two: with nothing of the program. -/
import Derived.Test.YtmeiohmdiklepaaPure
namespace Go.Proofs.Ytmeiohmdiklepaa
set_option linter.unusedVariables false

theorem gap_win {l : List Int} {n m : Nat} (h : ∀ u, u < n → ∃ g, IsGap l u g ∧ g ≤ m) : IsWin l n ((m : Int) + 1) := by
  refine .inr ⟨by omega, fun i W hW hi u hu => ?_⟩
  obtain ⟨g, ⟨_, hg⟩, hgm⟩ := h u (by omega)
  by_cases hex : ∃ k, i ≤ k ∧ k < i + W ∧ l.getD k 0 = (u : Int)
  · exact hex
  · have := hg i (i + W) ⟨by omega, hi, fun j h1 h2 e => hex ⟨j, h1, h2, e⟩⟩
    omega
theorem gap_nowin {l : List Int} {n m u : Nat} (hm : 1 ≤ m) (hu : u < n) (h : IsGap l u m) : ¬ IsWin l n (m : Int) := by
  rintro (h1 | ⟨_, h1⟩)
  · omega
  · obtain ⟨⟨i, hi⟩, _⟩ := h
    obtain ⟨k, a, b, c⟩ := h1 i m rfl hi.2.1 u (by omega)
    exact hi.2.2 k a b c

theorem get_left (a b : List Int) (j : Nat) (h : j < a.length) : (a ++ b).getD j 0 = a.getD j 0 := by
  simp [List.getD, List.getElem?_append, h]
theorem get_right (a b : List Int) (j : Nat) : (a ++ b).getD (a.length + j) 0 = b.getD j 0 := by
  unfold List.getD
  rw [List.getElem?_append_right (by omega), Nat.add_sub_cancel_left]

theorem free_left {a b : List Int} {who : Int} {i k : Nat} (h : Free a who i k) : Free (a ++ b) who i k :=
  ⟨h.1, by have := h.2.1; simp; omega, fun j h1 h2 => by rw [get_left _ _ _ (by have := h.2.1; omega)]; exact h.2.2 j h1 h2⟩
theorem free_right {a b : List Int} {who : Int} {i k : Nat} (h : Free b who i k) : Free (a ++ b) who (a.length + i) (a.length + k) :=
  ⟨by have := h.1; omega, by have := h.2.1; simp; omega, fun j h1 h2 => by
    obtain ⟨p, rfl⟩ : ∃ p, j = a.length + p := ⟨j - a.length, by omega⟩
    rw [get_right]; exact h.2.2 p (by omega) (by omega)⟩

theorem gap_parts {a b : List Int} {who : Int} {x y z : Nat} (hx : IsGap a who x) (hy : IsGap b who y) (hz : IsGap (a ++ b) who z) : x ≤ z ∧ y ≤ z ∧ z ≤ x + y := by
  obtain ⟨⟨i, hi⟩, hx2⟩ := hx
  obtain ⟨⟨j, hj⟩, hy2⟩ := hy
  obtain ⟨⟨p, hp⟩, hz2⟩ := hz
  refine ⟨?_, ?_, ?_⟩
  · have := hz2 _ _ (free_left (b := b) hi); omega
  · have := hz2 _ _ (free_right (a := a) hj); omega
  · have hl := hp.2.1
    simp only [List.length_append] at hl
    have A := hx2 (min p a.length) (min (p + z) a.length) ⟨by omega, by omega, fun j h1 h2 => by
      rw [← get_left a b j (by omega)]; exact hp.2.2 j (by omega) (by omega)⟩
    have B := hy2 (max p a.length - a.length) (max (p + z) a.length - a.length) ⟨by omega, by omega, fun j h1 h2 => by
      rw [← get_right a b j]; exact hp.2.2 _ (by omega) (by omega)⟩
    omega

theorem win_parts {a b : List Int} {n k : Int} (h : IsWin (a ++ b) n k) : IsWin a n k ∧ IsWin b n k := by
  rcases h with h | ⟨h0, h⟩
  · exact ⟨.inl h, .inl h⟩
  · refine ⟨.inr ⟨h0, fun i W hW hi u hu => ?_⟩, .inr ⟨h0, fun i W hW hi u hu => ?_⟩⟩
    · obtain ⟨j, h1, h2, h3⟩ := h i W hW (by simp; omega) u hu
      exact ⟨j, h1, h2, by rw [← h3, get_left _ _ _ (by omega)]⟩
    · obtain ⟨j, h1, h2, h3⟩ := h (a.length + i) W hW (by simp; omega) u hu
      obtain ⟨p, rfl⟩ : ∃ p, j = a.length + p := ⟨j - a.length, by omega⟩
      exact ⟨p, by omega, by omega, by rw [← h3, get_right]⟩
end Go.Proofs.Ytmeiohmdiklepaa
