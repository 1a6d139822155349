/- What picks are, as lists of pairs of integers; with nothing of the program. -/
import Derived.WalkKit
namespace Go.Proofs.Ytadfdpkmegaloaa

/-- A pick: who steps, and the number that it draws. -/
abbrev Pk := Int × Int

/-- A byte's list at an index, and a list of picks' one. -/
abbrev at_ (l : List Pk) (i : Nat) : Pk := l.getD i (0, 0)

/-- Who, if among so many; else nobody. -/
def amongP (p : Pk) (all : Int) : Pk := if p.1 < 0 ∨ all ≤ p.1 then (-1, p.2) else p

/-- The first k whole picks of bytes. -/
def decTo (zs : List Int) (all : Int) (k : Nat) : List Pk := (List.range k).map fun i => amongP (zs.getD (2 * i) 0, zs.getD (2 * i + 1) 0) all
/-- The picks of bytes. -/
def decL (zs : List Int) (all : Int) : List Pk := decTo zs all (zs.length / 2) ++ if zs.length % 2 = 1 then [(-1, 0)] else []

theorem decTo_len (zs : List Int) (all : Int) (k : Nat) : (decTo zs all k).length = k := by simp [decTo]
theorem decTo_succ (zs : List Int) (all : Int) (k : Nat) : decTo zs all (k + 1) = decTo zs all k ++ [amongP (zs.getD (2 * k) 0, zs.getD (2 * k + 1) 0) all] := by
  simp [decTo, List.range_succ]
theorem decTo_get (zs : List Int) (all : Int) (k i : Nat) (h : i < k) : at_ (decTo zs all k) i = amongP (zs.getD (2 * i) 0, zs.getD (2 * i + 1) 0) all := by
  simp [at_, decTo, List.getD, h]
theorem decL_len (zs : List Int) (all : Int) : (decL zs all).length = (zs.length + 1) / 2 := by
  unfold decL
  rw [List.length_append, decTo_len]
  split
  · simp; omega
  · simp; omega
theorem get_app_l {l m : List Pk} {i : Nat} (h : i < l.length) : at_ (l ++ m) i = at_ l i := by
  simp [at_, List.getD, List.getElem?_append_left h]
theorem get_app_r {l m : List Pk} {i : Nat} (h : l.length ≤ i) : at_ (l ++ m) i = at_ m (i - l.length) := by
  simp [at_, List.getD, List.getElem?_append_right h]
theorem decL_get (zs : List Int) (all : Int) (i : Nat) (h : i < zs.length / 2) : at_ (decL zs all) i = amongP (zs.getD (2 * i) 0, zs.getD (2 * i + 1) 0) all := by
  unfold decL
  rw [get_app_l (by rw [decTo_len]; exact h), decTo_get _ _ _ _ h]
theorem decL_last (zs : List Int) (all : Int) (i : Nat) (h : i = zs.length / 2) (h2 : zs.length % 2 = 1) : at_ (decL zs all) i = (-1, 0) := by
  unfold decL
  rw [get_app_r (by rw [decTo_len]; omega), decTo_len, if_pos h2, h, Nat.sub_self]
  rfl

theorem list_ext {l m : List Pk} (h : l.length = m.length) (h2 : ∀ i, i < l.length → at_ l i = at_ m i) : l = m := by
  apply List.ext_getElem h
  intro i h3 h4
  have := h2 i h3
  simpa [at_, List.getD, List.getElem?_eq_getElem h3, List.getElem?_eq_getElem h4] using this

/-- The byte of a pick's Who. -/
def whoB (x : Int) : Int := if x < 0 ∨ 254 < x then 255 else x
/-- Picks as bytes. -/
def encL (l : List Pk) : List Int := l.flatMap fun p => [whoB p.1, p.2 % 256]
theorem encL_len (l : List Pk) : (encL l).length = 2 * l.length := by
  induction l with
  | nil => rfl
  | cons a l ih => simp [encL] at ih ⊢; omega
theorem encL_app (l m : List Pk) : encL (l ++ m) = encL l ++ encL m := by simp [encL]
theorem encL_one (p : Pk) : encL [p] = [whoB p.1, p.2 % 256] := by simp [encL]
theorem encL_get : ∀ (l : List Pk) (i : Nat), i < l.length → (encL l).getD (2 * i) 0 = whoB (at_ l i).1 ∧ (encL l).getD (2 * i + 1) 0 = (at_ l i).2 % 256
  | [], i, h => by simp at h
  | a :: l, 0, _ => ⟨rfl, rfl⟩
  | a :: l, i + 1, h => by
    have ih := encL_get l i (by simpa using h)
    have e : encL (a :: l) = whoB a.1 :: a.2 % 256 :: encL l := rfl
    rw [e, show 2 * (i + 1) = 2 * i + 1 + 1 by omega]
    simpa [at_] using ih

theorem take_snoc (l : List Pk) (k : Nat) (h : k < l.length) : l.take (k + 1) = l.take k ++ [at_ l k] := by
  have e : at_ l k = l[k] := by simp [at_, List.getD, List.getElem?_eq_getElem h]
  rw [List.take_succ_eq_append_getElem h, e]

/-- What comes behind a join of bytes, the first ones of an even number. -/
theorem decL_join (xs ys : List Int) (all : Int) (h : xs.length % 2 = 0) : decL xs all ++ decL ys all = decL (xs ++ ys) all := by
  have hl : (xs ++ ys).length = xs.length + ys.length := List.length_append
  apply list_ext
  · rw [List.length_append, decL_len, decL_len, decL_len, hl]; omega
  intro i hi
  rw [List.length_append, decL_len, decL_len] at hi
  by_cases h1 : i < xs.length / 2
  · rw [get_app_l (by rw [decL_len]; omega), decL_get _ _ _ h1, decL_get _ _ _ (by rw [hl]; omega)]
    simp [List.getD, List.getElem?_append_left (show 2 * i < xs.length by omega), List.getElem?_append_left (show 2 * i + 1 < xs.length by omega)]
  · rw [get_app_r (by rw [decL_len]; omega), decL_len]
    by_cases h2 : i - (xs.length + 1) / 2 < ys.length / 2
    · rw [decL_get _ _ _ h2, decL_get _ _ _ (by rw [hl]; omega)]
      have e1 : 2 * (i - (xs.length + 1) / 2) = 2 * i - xs.length := by omega
      have e2 : 2 * i + 1 - xs.length = 2 * i - xs.length + 1 := by omega
      rw [e1]
      simp only [List.getD, List.getElem?_append_right (show xs.length ≤ 2 * i by omega), List.getElem?_append_right (show xs.length ≤ 2 * i + 1 by omega), e2]
    · rw [decL_last _ _ _ (by omega) (by omega), decL_last _ _ _ (by rw [hl]; omega) (by rw [hl]; omega)]

/-- What is decoded, encoded and decoded again is the same. -/
theorem among_bd (a b : Int) (all : Nat) (ha : 0 ≤ a) : -1 ≤ (amongP (a, b) all).1 ∧ (amongP (a, b) all).1 < all ∧ (amongP (a, b) all).2 = b := by
  unfold amongP
  split
  · simp; omega
  · rename_i h; simp at h ⊢; omega
theorem dec_bd (zs : List Int) (all : Nat) (hz : ∀ i, 0 ≤ zs.getD i 0 ∧ zs.getD i 0 ≤ 255) (i : Nat) (hi : i < (zs.length + 1) / 2) :
    -1 ≤ (at_ (decL zs all) i).1 ∧ (at_ (decL zs all) i).1 < all ∧ 0 ≤ (at_ (decL zs all) i).2 ∧ (at_ (decL zs all) i).2 ≤ 255 := by
  by_cases h : i < zs.length / 2
  · rw [decL_get _ _ _ h]
    have := among_bd (zs.getD (2 * i) 0) (zs.getD (2 * i + 1) 0) all (hz _).1
    have := hz (2 * i + 1)
    omega
  · rw [decL_last _ _ _ (by omega) (by omega)]
    simp; omega
theorem dec_enc (zs : List Int) (all : Nat) (hall : all ≤ 255) (hz : ∀ i, 0 ≤ zs.getD i 0 ∧ zs.getD i 0 ≤ 255) : decL (encL (decL zs all)) all = decL zs all := by
  have hl : (encL (decL zs all)).length = 2 * ((zs.length + 1) / 2) := by rw [encL_len, decL_len]
  have hl2 : (decL (encL (decL zs all)) all).length = (zs.length + 1) / 2 := by rw [decL_len, hl]; omega
  apply list_ext
  · rw [hl2, decL_len]
  · intro i hi
    rw [hl2] at hi
    rw [decL_get _ _ _ (by rw [hl]; omega)]
    obtain ⟨h1, h2⟩ := encL_get (decL zs all) i (by rw [decL_len]; exact hi)
    rw [h1, h2]
    obtain ⟨b1, b2, b3, b4⟩ := dec_bd zs all hz i hi
    generalize at_ (decL zs all) i = p at b1 b2 b3 b4
    obtain ⟨a, b⟩ := p
    simp only at b1 b2 b3 b4
    have e : b % 256 = b := by omega
    simp only [e]
    unfold amongP whoB
    simp only
    split <;> split <;> simp <;> omega

/-- Picks by turns. -/
def roundTo (all : Nat) (first draw : Int) (k : Nat) : List Pk := (List.range k).map fun i : Nat => ((first + (i : Int)) % (all : Int), draw)
theorem roundTo_len (all : Nat) (first draw : Int) (k : Nat) : (roundTo all first draw k).length = k := by simp [roundTo]
theorem roundTo_succ (all : Nat) (first draw : Int) (k : Nat) : roundTo all first draw (k + 1) = roundTo all first draw k ++ [((first + k) % all, draw)] := by
  simp [roundTo, List.range_succ]
theorem roundTo_get (all : Nat) (first draw : Int) (k i : Nat) (h : i < k) : at_ (roundTo all first draw k) i = ((first + i) % all, draw) := by
  simp [at_, roundTo, List.getD, h]
def roundL (all rounds from_ draw : Int) : List Pk := if all < 1 ∨ rounds < 1 ∨ 10000 < all * rounds then [] else roundTo all.toNat (from_ % all) draw (all * rounds).toNat

/-- A pick, and those of all that it leaves out, as far as n. -/
def othersTo (p : Pk) (n : Nat) : List Pk := ((List.range n).filter fun i : Nat => decide ((i : Int) ≠ p.1)).map fun i : Nat => ((i : Int), p.2)
theorem othersTo_zero (p : Pk) : othersTo p 0 = [] := rfl
theorem othersTo_succ (p : Pk) (n : Nat) : othersTo p (n + 1) = othersTo p n ++ if (n : Int) = p.1 then [] else [((n : Int), p.2)] := by
  unfold othersTo
  rw [List.range_succ, List.filter_append, List.map_append]
  congr 1
  by_cases h : (n : Int) = p.1 <;> simp [h]
theorem othersTo_len (p : Pk) (n : Nat) : (othersTo p n).length ≤ n := by
  unfold othersTo
  rw [List.length_map]
  have := List.length_filter_le (fun i : Nat => decide ((i : Int) ≠ p.1)) (List.range n)
  simpa using this
def fairN (all : Int) : Nat := if all < 0 then 0 else if 16 < all then 16 else all.toNat
theorem fairN_le (all : Int) : fairN all ≤ 16 := by unfold fairN; split <;> (try split) <;> omega
def fairTo (l : List Pk) (n k : Nat) : List Pk := (l.take k).flatMap fun p => p :: othersTo p n
def fairL (l : List Pk) (n : Nat) : List Pk := l.flatMap fun p => p :: othersTo p n
theorem fairTo_succ (l : List Pk) (n k : Nat) (h : k < l.length) : fairTo l n (k + 1) = (fairTo l n k ++ [at_ l k]) ++ othersTo (at_ l k) n := by
  unfold fairTo
  rw [take_snoc l k h, List.flatMap_append]
  simp
theorem fairTo_done (l : List Pk) (n : Nat) : fairTo l n l.length = fairL l n := by unfold fairTo fairL; rw [List.take_length]
theorem fairTo_len (l : List Pk) (n : Nat) : ∀ k, k ≤ l.length → (fairTo l n k).length ≤ k * (n + 1)
  | 0, _ => by simp [fairTo]
  | k + 1, h => by
    have ih := fairTo_len l n k (by omega)
    have ho := othersTo_len (at_ l k) n
    rw [fairTo_succ l n k (by omega)]
    simp only [List.length_append, List.length_singleton]
    rw [Nat.succ_mul]; omega
end Go.Proofs.Ytadfdpkmegaloaa
