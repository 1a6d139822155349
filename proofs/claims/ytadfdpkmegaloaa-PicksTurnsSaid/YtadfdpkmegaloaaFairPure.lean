/- In picks that leave nobody out, and in picks by turns, each wide stretch has all: lists alone. -/
import Derived.Test.YtadfdpkmegaloaaPure
import Derived.Test.YtadfdpkmegaloaaWinPure
namespace Go.Proofs.Ytadfdpkmegaloaa

def whoL (l : List Pk) : List Int := l.map (·.1)

/-- Groups of so many at most, each of which has all: a stretch of two groups has all. -/
theorem groups_win (n : Nat) : ∀ (gs : List (List Int)), (∀ g ∈ gs, g.length ≤ n + 1 ∧ ∀ u : Nat, u < n → ∃ k, k < g.length ∧ g.getD k 0 = (u : Int)) →
    ∀ i, i + (2 * n + 1) ≤ gs.flatten.length → ∀ u : Nat, u < n → ∃ k, i ≤ k ∧ k < i + (2 * n + 1) ∧ gs.flatten.getD k 0 = (u : Int)
  | [], _, i, hi, u, hu => by simp at hi
  | g :: rest, hg, i, hi, u, hu => by
    obtain ⟨h1, h2⟩ := hg g List.mem_cons_self
    have hr := fun x hx => hg x (List.mem_cons_of_mem g hx)
    have left : ∀ k, k < g.length → (g :: rest).flatten.getD k 0 = g.getD k 0 := fun k hk => by
      simp [List.getD, List.getElem?_append_left hk]
    have right : ∀ k, (g :: rest).flatten.getD (g.length + k) 0 = rest.flatten.getD k 0 := fun k => by
      simp [List.getD, List.getElem?_append_right]
    have hfl : (g :: rest).flatten.length = g.length + rest.flatten.length := by simp
    by_cases h0 : i = 0
    · obtain ⟨k, hk, e⟩ := h2 u hu
      exact ⟨k, by omega, by omega, by rw [left k hk]; exact e⟩
    · by_cases h3 : g.length ≤ i
      · obtain ⟨k, k1, k2, e⟩ := groups_win n rest hr (i - g.length) (by omega) u hu
        exact ⟨g.length + k, by omega, by omega, by rw [right]; exact e⟩
      · match rest, hr, right, hfl with
        | [], _, _, _ =>
          have e : ([g] : List (List Int)).flatten.length = g.length := by simp
          omega
        | g2 :: more, hr, right, hfl =>
          obtain ⟨h4, h5⟩ := hr g2 List.mem_cons_self
          obtain ⟨k, hk, e⟩ := h5 u hu
          refine ⟨g.length + k, by omega, by omega, ?_⟩
          rw [right]
          simpa [List.getD, List.getElem?_append_left hk] using e

theorem whoL_flat (l : List Pk) (n : Nat) : whoL (fairL l n) = (l.map fun p => whoL (p :: othersTo p n)).flatten := by
  induction l with
  | nil => rfl
  | cons p l ih =>
    have e : fairL (p :: l) n = (p :: othersTo p n) ++ fairL l n := by simp [fairL]
    rw [e]
    simp only [whoL, List.map_append, List.map_cons, List.flatten_cons] at ih ⊢
    rw [ih]
theorem others_has (p : Pk) (n u : Nat) (h : u < n) (h2 : (u : Int) ≠ p.1) : (u : Int) ∈ whoL (othersTo p n) := by
  unfold whoL othersTo
  simp only [List.map_map, List.mem_map, List.mem_filter, List.mem_range, decide_eq_true_eq, Function.comp]
  exact ⟨u, ⟨h, h2⟩, rfl⟩
theorem group_has (p : Pk) (n u : Nat) (h : u < n) : ∃ k, k < (whoL (p :: othersTo p n)).length ∧ (whoL (p :: othersTo p n)).getD k 0 = (u : Int) := by
  have hm : (u : Int) ∈ whoL (p :: othersTo p n) := by
    by_cases e : (u : Int) = p.1
    · rw [e]; exact List.mem_cons_self
    · exact List.mem_cons_of_mem _ (others_has p n u h e)
  obtain ⟨k, hk, e⟩ := List.getElem_of_mem hm
  exact ⟨k, hk, by simp [List.getD, List.getElem?_eq_getElem hk, e]⟩

theorem fair_win (l : List Pk) (n : Nat) : IsWin (whoL (fairL l n)) (n : Int) (2 * (n : Int) + 1) := by
  refine .inr ⟨by omega, fun i W hW hi u hu => ?_⟩
  obtain rfl : W = 2 * n + 1 := by omega
  rw [whoL_flat] at hi ⊢
  refine groups_win n _ (fun g hg => ?_) i hi u (by omega)
  obtain ⟨p, _, rfl⟩ := List.mem_map.1 hg
  refine ⟨?_, fun u hu => group_has p n u hu⟩
  have := othersTo_len p n
  simp [whoL]; omega

/-- The picks that were handed in come in their order. -/
theorem fair_sub (l : List Pk) (n : Nat) : l.Sublist (fairL l n) := by
  induction l with
  | nil => exact List.Sublist.slnil
  | cons p l ih =>
    have e : fairL (p :: l) n = p :: (othersTo p n ++ fairL l n) := by simp [fairL]
    rw [e]
    exact List.Sublist.cons_cons p (ih.trans (List.sublist_append_right _ _))
theorem sub_hit {x y : Pk} {l m : List Pk} (h : (x :: l).Sublist (y :: m)) : l.Sublist m := by
  cases h with
  | cons _ h => exact (List.sublist_cons_self x l).trans h
  | cons_cons _ h => exact h
theorem sub_miss {x y : Pk} {l m : List Pk} (h : (x :: l).Sublist (y :: m)) (e : y ≠ x) : (x :: l).Sublist m := by
  cases h with
  | cons _ h => exact h
  | cons_cons _ h => exact absurd rfl e
theorem drop_at (l : List Pk) (k : Nat) (h : k < l.length) : l.drop k = at_ l k :: l.drop (k + 1) := by
  have e : at_ l k = l[k] := by simp [at_, List.getD, List.getElem?_eq_getElem h]
  rw [List.drop_eq_getElem_cons h, e]

/-- By turns each stretch of as many as there are has all. -/
theorem round_win (a N : Nat) (f draw : Int) (ha : 1 ≤ a) : IsWin (whoL (roundTo a f draw N)) (a : Int) (a : Int) := by
  refine .inr ⟨by omega, fun i W hW hi u hu => ?_⟩
  obtain rfl : W = a := by omega
  have hlen : (whoL (roundTo W f draw N)).length = N := by unfold whoL; rw [List.length_map, roundTo_len]
  rw [hlen] at hi
  have g0 := Int.emod_nonneg ((u : Int) - (f + (i : Int))) (show (W : Int) ≠ 0 by omega)
  have g1 := Int.emod_lt_of_pos ((u : Int) - (f + (i : Int))) (show 0 < (W : Int) by omega)
  obtain ⟨g, hg⟩ : ∃ g : Nat, ((u : Int) - (f + (i : Int))) % (W : Int) = g := ⟨_, (Int.toNat_of_nonneg g0).symm⟩
  refine ⟨i + g, by omega, by omega, ?_⟩
  have e : (whoL (roundTo W f draw N)).getD (i + g) 0 = (f + ((i + g : Nat) : Int)) % (W : Int) := by
    have hk : i + g < N := by omega
    simp [whoL, roundTo, List.getD, hk]
  rw [e]
  have e2 : f + ((i + g : Nat) : Int) = (f + (i : Int)) + ((u : Int) - (f + (i : Int))) % (W : Int) := by rw [hg]; omega
  rw [e2, Int.add_emod_emod, show f + (i : Int) + ((u : Int) - (f + (i : Int))) = (u : Int) by omega, Int.emod_eq_of_lt (by omega) (by omega)]

/-- How often one is picked among the first i, by turns. -/
def cntT (a g i : Int) : Int := (g + i + a - 1) / a - (g + a - 1) / a
theorem cnt_zero (a g : Int) : cntT a g 0 = 0 := by unfold cntT; simp
theorem cnt_all (a g : Int) (r : Int) (ha : 1 ≤ a) : cntT a g (a * r) = r := by
  unfold cntT
  rw [show g + a * r + a - 1 = (g + a - 1) + a * r by omega, Int.add_mul_ediv_left _ _ (by omega)]
  omega
theorem cnt_hit (a : Nat) (g i : Int) (h1 : 1 ≤ a) (h8 : a ≤ 8) (h : (g + i) % (a : Int) = 0) : cntT a g (i + 1) = cntT a g i + 1 := by
  unfold cntT
  have : a = 1 ∨ a = 2 ∨ a = 3 ∨ a = 4 ∨ a = 5 ∨ a = 6 ∨ a = 7 ∨ a = 8 := by omega
  rcases this with rfl | rfl | rfl | rfl | rfl | rfl | rfl | rfl <;> simp at h ⊢ <;> omega
theorem cnt_miss (a : Nat) (g i : Int) (h1 : 1 ≤ a) (h8 : a ≤ 8) (h : (g + i) % (a : Int) ≠ 0) : cntT a g (i + 1) = cntT a g i := by
  unfold cntT
  have : a = 1 ∨ a = 2 ∨ a = 3 ∨ a = 4 ∨ a = 5 ∨ a = 6 ∨ a = 7 ∨ a = 8 := by omega
  rcases this with rfl | rfl | rfl | rfl | rfl | rfl | rfl | rfl <;> simp at h ⊢ <;> omega
theorem cnt_bd (a : Nat) (g i : Int) (h1 : 1 ≤ a) (h8 : a ≤ 8) (h0 : 0 ≤ i) : 0 ≤ cntT a g i ∧ cntT a g i ≤ i := by
  unfold cntT
  have : a = 1 ∨ a = 2 ∨ a = 3 ∨ a = 4 ∨ a = 5 ∨ a = 6 ∨ a = 7 ∨ a = 8 := by omega
  rcases this with rfl | rfl | rfl | rfl | rfl | rfl | rfl | rfl <;> simp <;> omega
theorem hit_iff (a u : Nat) (f i : Int) (hu : u < a) : (f + i) % (a : Int) = (u : Int) ↔ ((f - (u : Int)) + i) % (a : Int) = 0 := by
  have e : (f - (u : Int)) + i = (f + i) - (u : Int) := by omega
  rw [e]
  constructor
  · intro h
    rw [Int.emod_eq_zero_of_dvd]
    have h2 := Int.emod_add_mul_ediv (f + i) (a : Int)
    exact ⟨(f + i) / (a : Int), by omega⟩
  · intro h
    obtain ⟨q, hq⟩ := Int.dvd_of_emod_eq_zero h
    rw [show f + i = (u : Int) + (a : Int) * q by omega, Int.add_mul_emod_self_left, Int.emod_eq_of_lt (by omega) (by omega)]
end Go.Proofs.Ytadfdpkmegaloaa
