/- Pieces of slots: how many there are, and where each one stands. -/
import Derived.IntWalk
namespace Go.Proofs.Ytemjonahinohmaa
set_option linter.unusedVariables false
set_option linter.unusedSimpArgs false

/-- A number within two. -/
def bnd (n lo hi : Int) : Int := if n < lo then lo else if hi < n then hi else n
theorem bnd_lo {n lo hi : Int} (h : lo ≤ hi) : lo ≤ bnd n lo hi := by
  unfold bnd
  split
  · omega
  · split <;> omega
theorem bnd_hi {n lo hi : Int} (h : lo ≤ hi) : bnd n lo hi ≤ hi := by
  unfold bnd
  split
  · omega
  · split <;> omega
theorem bnd_in {n lo hi : Int} (h0 : lo ≤ n) (h1 : n ≤ hi) : bnd n lo hi = n := by unfold bnd; rw [if_neg (by omega), if_neg (by omega)]
/-- How many pieces there are of s slots by c. -/
def cntR (s c : Int) : Int := if s = 0 then 1 else (s + c - 1) / c
/-- The end of piece j, and where piece j begins (the last end behind all). -/
def endR (s c j : Int) : Int := if (j + 1) * c < s then (j + 1) * c else s
def atR (s c j : Int) : Int := if j < cntR s c then j * c else s

theorem more_iff {s c k : Int} (hs : 0 ≤ s) (hc : 1 ≤ c) (hk : 1 ≤ k) : k * c < s ↔ k < cntR s c := by
  unfold cntR
  split
  · next h =>
    subst h
    have : 0 < k * c := Int.mul_pos (by omega) (by omega)
    constructor <;> intro h <;> omega
  · next h =>
    have h1 : k < (s + c - 1) / c ↔ (k + 1) * c ≤ s + c - 1 := by
      rw [← Int.le_ediv_iff_mul_le (by omega)]; omega
    rw [h1]
    have h2 : (k + 1) * c = k * c + c := by rw [Int.add_mul]; omega
    omega
theorem cnt_pos {s c : Int} (hs : 0 ≤ s) (hc : 1 ≤ c) : 1 ≤ cntR s c := by
  unfold cntR
  split
  · omega
  · exact (Int.le_ediv_iff_mul_le (by omega)).2 (by omega)
theorem cnt_le {s c : Int} (hs : 0 ≤ s) (hc : 1 ≤ c) : cntR s c ≤ s + 1 := by
  have h := (more_iff (k := s + 1) hs hc (by omega)).2
  have : s * 1 ≤ s * c := Int.mul_le_mul_of_nonneg_left hc hs
  have h2 : (s + 1) * c = s * c + c := by rw [Int.add_mul]; omega
  by_cases hlt : s + 1 < cntR s c
  · exact absurd (h hlt) (by omega)
  · omega
theorem at_zero {s c : Int} (hs : 0 ≤ s) (hc : 1 ≤ c) : atR s c 0 = 0 := by
  unfold atR; rw [if_pos (by have := cnt_pos hs hc; omega)]; omega
theorem at_end {s c : Int} : atR s c (cntR s c) = s := by unfold atR; rw [if_neg (by omega)]
theorem at_in {s c j : Int} (hj : j < cntR s c) : atR s c j = j * c := by unfold atR; rw [if_pos hj]
theorem at_le {s c j : Int} (hs : 0 ≤ s) (hc : 1 ≤ c) (h0 : 0 ≤ j) : 0 ≤ atR s c j ∧ atR s c j ≤ s := by
  unfold atR
  split
  · next h =>
    refine ⟨Int.mul_nonneg h0 (by omega), ?_⟩
    by_cases hj : j = 0
    · subst hj; omega
    · have := (more_iff hs hc (show 1 ≤ j by omega)).2 h; omega
  · omega
theorem end_at {s c j : Int} (hs : 0 ≤ s) (hc : 1 ≤ c) (h0 : 0 ≤ j) : endR s c j = atR s c (j + 1) := by
  have h := more_iff hs hc (show 1 ≤ j + 1 by omega)
  unfold endR atR
  by_cases hj : j + 1 < cntR s c
  · rw [if_pos (h.2 hj), if_pos hj]
  · rw [if_neg (fun e => hj (h.1 e)), if_neg hj]
/-- Is there one behind it? -/
theorem end_more {s c j : Int} (hs : 0 ≤ s) (hc : 1 ≤ c) (h0 : 0 ≤ j) : endR s c j < s ↔ j + 1 < cntR s c := by
  have h := more_iff hs hc (show 1 ≤ j + 1 by omega)
  unfold endR
  by_cases hj : j + 1 < cntR s c
  · have h1 := h.2 hj
    rw [if_pos h1]; exact ⟨fun _ => hj, fun _ => h1⟩
  · rw [if_neg (fun e => hj (h.1 e))]; exact ⟨fun e => absurd e (by omega), fun e => absurd e hj⟩
/-- The Next from where a piece begins is the piece. -/
theorem next_is {s c j : Int} (hs : 0 ≤ s) (hc : 1 ≤ c) (h0 : 0 ≤ j) (h1 : j < cntR s c) :
    (if atR s c j + c < s then atR s c j + c else s) = endR s c j := by
  rw [at_in h1]; unfold endR
  have h2 : (j + 1) * c = j * c + c := by rw [Int.add_mul]; omega
  rw [h2]
/-- What the law of all pieces asks of piece j. -/
theorem piece_ok {s c j : Int} (hs : 0 ≤ s) (hc : 1 ≤ c) (h0 : 0 ≤ j) (h1 : j < cntR s c) :
    atR s c j ≤ endR s c j ∧ (j < cntR s c - 1 → endR s c j = atR s c j + c) ∧ endR s c j ≤ atR s c j + c ∧ (0 < s → endR s c j ≠ atR s c j) := by
  have h2 : (j + 1) * c = j * c + c := by rw [Int.add_mul]; omega
  have hm := more_iff hs hc (show 1 ≤ j + 1 by omega)
  have hl := at_le hs hc h0
  rw [at_in h1] at hl ⊢
  unfold endR
  by_cases hj : (j + 1) * c < s
  · rw [if_pos hj, h2]; refine ⟨by omega, fun _ => rfl, by omega, fun _ => by omega⟩
  · rw [if_neg hj]
    refine ⟨hl.2, fun h => absurd (hm.2 (by omega)) hj, by omega, fun hp e => ?_⟩
    by_cases hz : j = 0
    · subst hz; omega
    · have := (more_iff hs hc (show 1 ≤ j by omega)).2 h1; omega
/-- Slots below a piece's beginning, counted: 1 just where i is one of them. -/
theorem once_step {s c j i : Int} (hs : 0 ≤ s) (hc : 1 ≤ c) (h0 : 0 ≤ j) (h1 : j < cntR s c) (k : Int) (hk : k = if i < atR s c j then 1 else 0) (hi : 0 ≤ i) :
    (if atR s c j ≤ i ∧ i < endR s c j then k + 1 else k) = if i < atR s c (j + 1) then 1 else 0 := by
  have hp := (piece_ok hs hc h0 h1).1
  rw [← end_at hs hc h0]; subst hk
  by_cases ha : i < atR s c j
  · rw [if_pos ha, if_neg (by omega), if_pos (by omega)]
  · rw [if_neg ha]
    by_cases hb : i < endR s c j
    · rw [if_pos ⟨by omega, hb⟩, if_pos hb]; omega
    · rw [if_neg (fun e => hb e.2), if_neg hb]
theorem cnt_top {s c : Int} (hs : 0 ≤ s) (hc : 1 ≤ c) : cntR s c ≤ 1 + (s + c - 1) / c := by
  unfold cntR
  have : 0 ≤ (s + c - 1) / c := Int.ediv_nonneg (by omega) (by omega)
  split <;> omega
theorem cnt_one {s : Int} (hs : 0 ≤ s) : cntR s 1 = if 1 < s then s else 1 := by
  unfold cntR
  split
  · next h => subst h; rfl
  · rw [Int.add_sub_cancel, Int.ediv_one]; split <;> omega
theorem cnt_chunk {s x y : Int} (hs : 0 ≤ s) (hx : 1 ≤ x) (hxy : x ≤ y) : cntR s y ≤ cntR s x := by
  by_cases h : cntR s y ≤ cntR s x
  · exact h
  · exfalso
    have hp := cnt_pos hs hx
    have h1 := (more_iff hs (show 1 ≤ y by omega) (show 1 ≤ cntR s x by omega)).2 (by omega)
    have h2 := Int.mul_le_mul_of_nonneg_left hxy (show 0 ≤ cntR s x by omega)
    have h3 := (more_iff hs hx (show 1 ≤ cntR s x by omega)).1 (by omega)
    omega
theorem cnt_slots {s t x : Int} (hs : 0 ≤ s) (hst : s ≤ t) (hx : 1 ≤ x) : cntR s x ≤ cntR t x := by
  by_cases h : cntR s x ≤ cntR t x
  · exact h
  · exfalso
    have hp := cnt_pos (show 0 ≤ t by omega) hx
    have h1 := (more_iff hs hx (show 1 ≤ cntR t x by omega)).2 (by omega)
    have h3 := (more_iff (show 0 ≤ t by omega) hx (show 1 ≤ cntR t x by omega)).1 (by omega)
    omega
/-- The document's own count, as it reckons. -/
theorem cnt_doc {s c : Int} (hs : 0 ≤ s) (hc : 1 ≤ c) : (if Int.tdiv (s + c - 1) c = 0 then 1 else Int.tdiv (s + c - 1) c) = cntR s c := by
  rw [Int.tdiv_eq_ediv_of_nonneg (by omega)]
  unfold cntR
  by_cases h : s = 0
  · subst h
    have : (0 + c - 1) / c = 0 := Int.ediv_eq_zero_of_lt (by omega) (by omega)
    rw [if_pos this, if_pos rfl]
  · rw [if_neg h, if_neg]
    have := (Int.le_ediv_iff_mul_le (c := c) (a := 1) (b := s + c - 1) (by omega)).2 (by omega)
    omega
/-- All pieces, as rows of two. -/
def allR (s c : Int) : List (Int × Int) := (List.range (cntR s c).toNat).map fun (j : Nat) => (atR s c (j : Int), endR s c (j : Int))
theorem all_len {s c : Int} : (allR s c).length = (cntR s c).toNat := by simp [allR]
theorem all_get {s c : Int} {j : Nat} (h : j < (cntR s c).toNat) : (allR s c)[j]? = some (atR s c (j : Int), endR s c (j : Int)) := by
  simp [allR, List.getElem?_map, List.getElem?_range h]
theorem range_succ' (n : Nat) : (List.range (n + 1)) = List.range n ++ [n] := List.range_succ
/-- The first n pieces, and one more. -/
def upR (s c : Int) (n : Nat) : List (Int × Int) := (List.range n).map fun (j : Nat) => (atR s c (j : Int), endR s c (j : Int))
theorem up_zero {s c : Int} : upR s c 0 = [] := rfl
theorem up_succ {s c : Int} (n : Nat) : upR s c (n + 1) = upR s c n ++ [(atR s c (n : Int), endR s c (n : Int))] := by
  simp [upR, List.range_succ]
theorem up_all {s c : Int} : upR s c (cntR s c).toNat = allR s c := rfl
theorem up_len {s c : Int} {n : Nat} : (upR s c n).length = n := by simp [upR]
end Go.Proofs.Ytemjonahinohmaa
