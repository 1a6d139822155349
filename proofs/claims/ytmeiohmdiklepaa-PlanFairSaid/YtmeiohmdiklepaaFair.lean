/- In turns by periods nobody waits long: with nothing of the program. -/
import Derived.Test.YtmeiohmdiklepaaTurns
import Derived.Test.YtmeiohmdiklepaaPure
namespace Go.Proofs.Ytmeiohmdiklepaa
set_option linter.unusedVariables false

/-- The sum of f over the first n. -/
def sumTo (f : Nat → Int) : Nat → Int
  | 0 => 0
  | n + 1 => sumTo f n + f n
theorem sum_le {f g : Nat → Int} : ∀ n, (∀ i, i < n → f i ≤ g i) → sumTo f n ≤ sumTo g n
  | 0, _ => Int.le_refl _
  | n + 1, h => by
    have := sum_le n (fun i hi => h i (by omega))
    have := h n (by omega)
    simp only [sumTo]; omega
theorem sum_same {f g : Nat → Int} : ∀ n, (∀ i, i < n → f i = g i) → sumTo f n = sumTo g n
  | 0, _ => rfl
  | n + 1, h => by
    have := sum_same n (fun i hi => h i (by omega))
    have := h n (by omega)
    simp only [sumTo]; omega
theorem sum_bump {f : Nat → Int} {u : Nat} : ∀ n, u < n → sumTo (fun i => if i = u then f i + 1 else f i) n = sumTo f n + 1
  | 0, h => by omega
  | n + 1, h => by
    simp only [sumTo]
    by_cases e : u = n
    · subst e
      rw [sum_same (g := f) u (fun i hi => if_neg (by omega)), if_pos rfl]; omega
    · rw [sum_bump n (by omega), if_neg (by omega)]; omega
theorem sum_zero : ∀ n, sumTo (fun _ => 0) n = 0
  | 0 => rfl
  | n + 1 => by simp only [sumTo, sum_zero n]; rfl

/-- How long one of them has waited, and how often each of the others has had its turn since. -/
def Since (ps : List Int) (v k s : Nat) (c : Nat → Int) : Prop :=
  s ≤ k ∧ (∀ j, k - s ≤ j → j < k → who ps j ≠ v) ∧ (s < k → who ps (k - s - 1) = v) ∧ sumTo c ps.length = (s : Int) ∧ c v = 0 ∧
  ∀ i, i < ps.length → 0 ≤ c i ∧
    (dueL ps k).getD v 0 - bnd (ps.getD v 0) ≤ (dueL ps k).getD i 0 - c i * bnd (ps.getD i 0) ∧ (i < v → (dueL ps k).getD v 0 - bnd (ps.getD v 0) < (dueL ps k).getD i 0 - c i * bnd (ps.getD i 0)) ∧
    (1 ≤ c i → (dueL ps k).getD i 0 - bnd (ps.getD i 0) ≤ (dueL ps k).getD v 0 ∧ (v < i → (dueL ps k).getD i 0 - bnd (ps.getD i 0) < (dueL ps k).getD v 0))

theorem since_start (ps : List Int) (v : Nat) (hv : v < ps.length) : Since ps v 0 0 (fun _ => 0) := by
  refine ⟨Nat.le_refl _, fun j _ h => by omega, fun h => by omega, sum_zero _, rfl, fun i hi => ?_⟩
  rw [due_zero ps v hv, due_zero ps i hi]
  dsimp only
  rw [Int.zero_mul]
  have := bnd_bd (ps.getD i 0)
  refine ⟨Int.le_refl _, by omega, fun _ => by omega, fun h => by omega⟩

theorem since_own {ps : List Int} {v k s : Nat} {c : Nat → Int} (h0 : v < ps.length) (h : Since ps v k s c) (hw : who ps k = v) : Since ps v (k + 1) 0 (fun _ => 0) := by
  have hl := who_is ps k (by omega)
  rw [hw] at hl
  refine ⟨Nat.zero_le _, fun j _ h => by omega, fun _ => by simpa using hw, sum_zero _, rfl, fun i hi => ?_⟩
  have hli := hl.2 i hi
  rw [due_succ ps k v (by omega), if_pos hw.symm, due_succ ps k i (by omega), hw]
  dsimp only
  rw [Int.zero_mul]
  have := bnd_bd (ps.getD i 0)
  have := bnd_bd (ps.getD v 0)
  refine ⟨Int.le_refl _, ?_, fun _ => ?_, fun h => by omega⟩
  · split
    · rename_i e; subst e; omega
    · omega
  · rw [if_neg (by omega)]; omega

theorem since_other {ps : List Int} {v k s : Nat} {c : Nat → Int} (h0 : v < ps.length) (h : Since ps v k s c) (hw : who ps k ≠ v) : Since ps v (k + 1) (s + 1) (fun i => if i = who ps k then c i + 1 else c i) := by
  have hl := who_is ps k (by omega)
  obtain ⟨h1, h2, h3, h4, h5, h6⟩ := h
  refine ⟨by omega, fun j a b => ?_, fun hlt => ?_, by rw [sum_bump _ hl.1, h4]; omega, by show (if v = who ps k then c v + 1 else c v) = 0; rw [if_neg (Ne.symm hw), h5], fun i hi => ?_⟩
  · by_cases e : j = k
    · subst e; exact hw
    · exact h2 j (by omega) (by omega)
  · rw [show k + 1 - (s + 1) - 1 = k - s - 1 by omega]; exact h3 (by omega)
  · obtain ⟨a1, a2, a3, a4⟩ := h6 i hi
    rw [due_succ ps k v (by omega), if_neg (Ne.symm hw), due_succ ps k i (by omega)]
    dsimp only
    by_cases e : i = who ps k
    · subst e
      have hv := hl.2 v h0
      rw [if_pos rfl, if_pos rfl]
      have hb := bnd_bd (ps.getD (who ps k) 0)
      have hm : (c (who ps k) + 1) * bnd (ps.getD (who ps k) 0) = c (who ps k) * bnd (ps.getD (who ps k) 0) + bnd (ps.getD (who ps k) 0) := by rw [Int.add_mul, Int.one_mul]
      refine ⟨by omega, by rw [hm]; omega, fun hlt => by rw [hm]; have := a3 hlt; omega, fun _ => ⟨by omega, fun hlt => by omega⟩⟩
    · rw [if_neg e, if_neg e]
      exact ⟨a1, a2, a3, a4⟩

theorem since_all (ps : List Int) (v : Nat) (hv : v < ps.length) : ∀ k, ∃ s c, Since ps v k s c
  | 0 => ⟨0, _, since_start ps v hv⟩
  | k + 1 => by
    obtain ⟨s, c, h⟩ := since_all ps v hv k
    by_cases hw : who ps k = v
    · exact ⟨0, _, since_own hv h hw⟩
    · exact ⟨s + 1, _, since_other hv h hw⟩

/-- How many turns of one with the period p fit into the longest period. -/
def share (most p : Int) : Int := (most + p - 1) / p

theorem share_ge {most p c q d e f : Int} (hp : 1 ≤ p) (hq : q ≤ most) (h1 : 1 ≤ c) (ha : d - q ≤ e - c * p) (hb : e - p ≤ d) (hs : d - q < e - c * p ∨ e - p < d) : c ≤ share most p := by
  unfold share
  rw [Int.le_ediv_iff_mul_le (by omega)]
  omega

/-- Nobody waits for as many turns as all shares make, and 1. -/
theorem since_bd {ps : List Int} {v k s : Nat} {c : Nat → Int} {most : Int} (hv : v < ps.length) (hm : ∀ i, i < ps.length → bnd (ps.getD i 0) ≤ most) (h : Since ps v k s c) : (s : Int) ≤ sumTo (fun i => share most (bnd (ps.getD i 0))) ps.length := by
  obtain ⟨h1, h2, h3, h4, h5, h6⟩ := h
  rw [← h4]
  refine sum_le _ fun i hi => ?_
  obtain ⟨a1, a2, a3, a4⟩ := h6 i hi
  have hb := bnd_bd (ps.getD i 0)
  by_cases hc : 1 ≤ c i
  · obtain ⟨b1, b2⟩ := a4 hc
    have hne : i ≠ v := fun e => by subst e; omega
    refine share_ge (f := 0) hb.1 (hm v hv) hc a2 b1 ?_
    by_cases hlt : i < v
    · exact .inl (a3 hlt)
    · exact .inr (b2 (by omega))
  · have : 0 ≤ share most (bnd (ps.getD i 0)) := by
      unfold share
      have := hm i hi
      exact Int.ediv_nonneg (by omega) (by omega)
    omega

/-- Each stretch of as many turns has all. -/
theorem fair {ps : List Int} {n : Nat} {most wide : Int} (hm : ∀ i, i < ps.length → bnd (ps.getD i 0) ≤ most) (hw : wide = 1 + sumTo (fun i => share most (bnd (ps.getD i 0))) ps.length) (h1 : 1 ≤ wide) : IsWin (outL ps n) ps.length wide := by
  refine .inr ⟨h1, fun i W hW hi u hu => ?_⟩
  have hu : u < ps.length := by omega
  rw [out_len] at hi
  obtain ⟨s, c, hs⟩ := since_all ps u hu (i + W)
  have hb := since_bd hu hm hs
  obtain ⟨a1, a2, a3, _⟩ := hs
  refine ⟨i + W - s - 1, by omega, by omega, ?_⟩
  rw [out_get _ _ _ (by omega), a3 (by omega)]
end Go.Proofs.Ytmeiohmdiklepaa
