/- What the first words are, thing by thing; with nothing of the program. -/
import Derived.Test.YtbpkcoemehmpbaaGreatLayFirst
namespace Go.Proofs.YtbpkcoemehmpbaaGreat.Lay
open Go.RowKit
set_option linter.unusedVariables false

/-- A class's first node and last node that is free. -/
def clsE (c : Cfg) (k : Int) : Int := imin (rF c k + rM c k) (nodesN c) - 1
theorem imin_le (x y : Int) : imin x y ≤ x ∧ imin x y ≤ y ∧ (imin x y = x ∨ imin x y = y) := by unfold imin; omega

theorem ite_c {p : Prop} {d1 d2 : Decidable p} {α : Type} (x y z : α) (h : y = z) : (@ite α p d1 x y) = (@ite α p d2 x z) := by
  subst h; by_cases hp : p <;> simp [hp]
theorem cls_num {S x n F E : Int} (hS : 0 ≤ S) (hx : 0 ≤ x) (hx2 : x ≤ 12) (hn : S + x ≤ n) (h1 : 1 ≤ n) (h60 : n ≤ 60) (hF : F = 1 + S) (hE : E = imin (F + x) n - 1) :
    imin S (n - 1) + ((E - F + 1).toNat : Int) = imin (S + x) (n - 1) ∧ (E - F + 1).toNat ≤ 60 ∧ (1 ≤ F ∧ F ≤ 61) ∧ (0 ≤ imin S (n - 1) ∧ imin S (n - 1) ≤ 60) := by
  unfold imin at *; omega
theorem fv_pool (c : Cfg) : firstV c ⟨4, 0, 0⟩ = 0 := by simp [firstV, stkV, VV, baseV, isTh]
theorem fv_spare {c : Cfg} (h : OkC c) : firstV c ⟨5, 0, 0⟩ = 1 := by
  have := (bds h).p0
  simp [firstV, stkV, isTh]; omega
theorem fv_link {c : Cfg} (h : OkC c) (p : Int) (h1 : 1 ≤ p) : firstV c ⟨12, p, 0⟩ = if p < packN c then p + 1 else 0 := by
  simp [firstV, stkV, VV, baseV, isTh, h1]
theorem fv_state {c : Cfg} (h : OkC c) (v : Int) : firstV c ⟨15, v, 0⟩ = if v = nodesN c then 1 else 0 := by
  simp [firstV, stkV, VV, baseV, isTh]
theorem fv_header {c : Cfg} (h : OkC c) (v : Int) : firstV c ⟨14, v, 0⟩ = if v = nodesN c then slotsOf (kindV c (nodesN c)) else 0 := by
  simp [firstV, stkV, VV, baseV, isTh]
theorem fv_head (c : Cfg) (k : Nat) (hk : k < 5) : firstV c ⟨7, (k : Int), 0⟩ = if rF c k ≤ clsE c k then rF c k else 0 := by
  match k, hk with
  | 0, _ => simp [firstV, stkV, VV, baseV, isTh, clsE]; exact ite_c _ _ _ rfl
  | 1, _ => simp [firstV, stkV, VV, baseV, isTh, clsE]; exact ite_c _ _ _ rfl
  | 2, _ => simp [firstV, stkV, VV, baseV, isTh, clsE]; exact ite_c _ _ _ rfl
  | 3, _ => simp [firstV, stkV, VV, baseV, isTh, clsE]; exact ite_c _ _ _ rfl
  | 4, _ => simp [firstV, stkV, VV, baseV, isTh, clsE]; exact ite_c _ _ _ rfl
theorem fv_next (c : Cfg) (v : Int) : firstV c ⟨17, v, 0⟩ = if rF c 4 ≤ v ∧ v < clsE c 4 then v + 1 else if rF c 3 ≤ v ∧ v < clsE c 3 then v + 1 else if rF c 2 ≤ v ∧ v < clsE c 2 then v + 1 else if rF c 1 ≤ v ∧ v < clsE c 1 then v + 1 else if rF c 0 ≤ v ∧ v < clsE c 0 then v + 1 else 0 := by
  simp [firstV, stkV, VV, baseV, isTh, clsE]
  repeat (first | rfl | (refine ite_c _ _ _ ?_))
theorem fv_rest {c : Cfg} (t : Th) (h : t.k ≠ 5 ∧ t.k ≠ 7 ∧ t.k ≠ 12 ∧ t.k ≠ 14 ∧ t.k ≠ 15 ∧ t.k ≠ 17) : firstV c t = 0 := by
  obtain ⟨h5, h7, h12, h14, h15, h17⟩ := h
  simp [firstV, stkV, VV, baseV, isTh, h5, h7, h12, h14, h15, h17]

/-- How many nodes of a class are free. -/
def clsN (c : Cfg) (k : Int) : Nat := (clsE c k - rF c k + 1).toNat
structure Cls (c : Cfg) (k : Nat) : Prop where
  head : firstV c ⟨7, (k : Int), 0⟩ = if 0 < clsN c k then rF c k else 0
  next : ∀ j : Nat, j < clsN c k → firstV c ⟨17, rF c k + j, 0⟩ = if j + 1 < clsN c k then rF c k + ((j + 1 : Nat) : Int) else 0
  node : ∀ j : Nat, j < clsN c k → kindV c (rF c k + j) = k ∧ rF c k + j < nodesN c ∧ 1 ≤ rF c k + (j : Int)
  sum : imin (sumTo c k) (nodesN c - 1) + clsN c k = imin (sumTo c (k + 1)) (nodesN c - 1)
  n60 : clsN c k ≤ 60
  f1 : 1 ≤ rF c k ∧ rF c k ≤ 61
  s0 : 0 ≤ imin (sumTo c k) (nodesN c - 1) ∧ imin (sumTo c k) (nodesN c - 1) ≤ 60
theorem cls_five {c : Cfg} (h : OkC c) (k : Nat) (hk : k < 5) : 0 ≤ sumTo c k ∧ 0 ≤ rM c k ∧ rM c k ≤ 12 ∧ sumTo c k + rM c k ≤ nodesN c ∧ rF c k = 1 + sumTo c k ∧ sumTo c (k + 1) = sumTo c k + rM c k := by
  have a0 := h.a0; have b0 := h.b0; have c0 := h.c0; have d0 := h.d0; have e0 := h.e0
  have a1 := h.a1; have b1 := h.b1; have c1 := h.c1; have d1 := h.d1; have e1 := h.e1
  have hn : nodesN c = c.a + c.b + c.c + c.d + c.e := rfl
  match k, hk with
  | 0, _ => simp [sumTo, cnt, rM, rF]; omega
  | 1, _ => simp [sumTo, cnt, rM, rF]; omega
  | 2, _ => simp [sumTo, cnt, rM, rF]; omega
  | 3, _ => simp [sumTo, cnt, rM, rF]; omega
  | 4, _ => simp [sumTo, cnt, rM, rF]; omega
set_option maxHeartbeats 1000000 in
theorem cls {c : Cfg} (h : OkC c) (k : Nat) (hk : k < 5) : Cls c k := by
  have hb := bds h
  have a0 := h.a0; have b0 := h.b0; have c0 := h.c0; have d0 := h.d0; have e0 := h.e0
  have a1 := h.a1; have b1 := h.b1; have c1 := h.c1; have d1 := h.d1; have e1 := h.e1
  have n0 := hb.n0
  have hn : nodesN c = c.a + c.b + c.c + c.d + c.e := rfl
  have f0 : rF c 0 = 1 := rfl
  have f1 : rF c 1 = 1 + c.a := rfl
  have f2 : rF c 2 = 1 + c.a + c.b := rfl
  have f3 : rF c 3 = 1 + c.a + c.b + c.c := rfl
  have f4 : rF c 4 = 1 + c.a + c.b + c.c + c.d := rfl
  have g0 : clsE c 0 = imin (1 + c.a) (nodesN c) - 1 := rfl
  have g1 : clsE c 1 = imin (1 + c.a + c.b) (nodesN c) - 1 := rfl
  have g2 : clsE c 2 = imin (1 + c.a + c.b + c.c) (nodesN c) - 1 := rfl
  have g3 : clsE c 3 = imin (1 + c.a + c.b + c.c + c.d) (nodesN c) - 1 := rfl
  have g4 : clsE c 4 = imin (1 + c.a + c.b + c.c + c.d + c.e) (nodesN c) - 1 := rfl
  have i0 := imin_le (1 + c.a) (nodesN c)
  have i1 := imin_le (1 + c.a + c.b) (nodesN c)
  have i2 := imin_le (1 + c.a + c.b + c.c) (nodesN c)
  have i3 := imin_le (1 + c.a + c.b + c.c + c.d) (nodesN c)
  have i4 := imin_le (1 + c.a + c.b + c.c + c.d + c.e) (nodesN c)
  have s0 : sumTo c 0 = 0 := rfl
  have s1 : sumTo c 1 = c.a := by simp [sumTo, cnt]
  have s2 : sumTo c 2 = c.a + c.b := by simp [sumTo, cnt]
  have s3 : sumTo c 3 = c.a + c.b + c.c := by simp [sumTo, cnt]
  have s4 : sumTo c 4 = c.a + c.b + c.c + c.d := by simp [sumTo, cnt]
  have s5 : sumTo c 5 = c.a + c.b + c.c + c.d + c.e := sum5 c
  have j0 := imin_le 0 (nodesN c - 1)
  have j1 := imin_le c.a (nodesN c - 1)
  have j2 := imin_le (c.a + c.b) (nodesN c - 1)
  have j3 := imin_le (c.a + c.b + c.c) (nodesN c - 1)
  have j4 := imin_le (c.a + c.b + c.c + c.d) (nodesN c - 1)
  have j5 := imin_le (c.a + c.b + c.c + c.d + c.e) (nodesN c - 1)
  have key : ∀ (v : Int), (rF c k ≤ v ∧ v ≤ clsE c k) → kindV c v = k ∧ v < nodesN c ∧ 1 ≤ v := fun v hv => by
    have kv := kindV_cases h v
    match k, hk with
    | 0, _ => simp only [Int.natCast_zero] at hv ⊢; omega
    | 1, _ => have e : ((1 : Nat) : Int) = 1 := rfl; rw [e] at hv ⊢; omega
    | 2, _ => have e : ((2 : Nat) : Int) = 2 := rfl; rw [e] at hv ⊢; omega
    | 3, _ => have e : ((3 : Nat) : Int) = 3 := rfl; rw [e] at hv ⊢; omega
    | 4, _ => have e : ((4 : Nat) : Int) = 4 := rfl; rw [e] at hv ⊢; omega
  have keyN : ∀ (v : Int), (rF c k ≤ v ∧ v ≤ clsE c k) → firstV c ⟨17, v, 0⟩ = if v < clsE c k then v + 1 else 0 := fun v hv => by
    rw [fv_next]
    match k, hk with
    | 0, _ =>
      have e : ((0 : Nat) : Int) = 0 := rfl
      rw [e] at hv ⊢
      rw [if_neg (by omega), if_neg (by omega), if_neg (by omega), if_neg (by omega)]
      by_cases hh : v < clsE c 0
      · rw [if_pos hh, if_pos ⟨hv.1, hh⟩]
      · rw [if_neg hh, if_neg (fun e => hh e.2)]
    | 1, _ =>
      have e : ((1 : Nat) : Int) = 1 := rfl
      rw [e] at hv ⊢
      rw [if_neg (by omega), if_neg (by omega), if_neg (by omega)]
      by_cases hh : v < clsE c 1
      · rw [if_pos hh, if_pos ⟨hv.1, hh⟩]
      · rw [if_neg hh, if_neg (fun e => hh e.2), if_neg (by omega)]
    | 2, _ =>
      have e : ((2 : Nat) : Int) = 2 := rfl
      rw [e] at hv ⊢
      rw [if_neg (by omega), if_neg (by omega)]
      by_cases hh : v < clsE c 2
      · rw [if_pos hh, if_pos ⟨hv.1, hh⟩]
      · rw [if_neg hh, if_neg (fun e => hh e.2), if_neg (by omega), if_neg (by omega)]
    | 3, _ =>
      have e : ((3 : Nat) : Int) = 3 := rfl
      rw [e] at hv ⊢
      rw [if_neg (by omega)]
      by_cases hh : v < clsE c 3
      · rw [if_pos hh, if_pos ⟨hv.1, hh⟩]
      · rw [if_neg hh, if_neg (fun e => hh e.2), if_neg (by omega), if_neg (by omega), if_neg (by omega)]
    | 4, _ =>
      have e : ((4 : Nat) : Int) = 4 := rfl
      rw [e] at hv ⊢
      by_cases hh : v < clsE c 4
      · rw [if_pos hh, if_pos ⟨hv.1, hh⟩]
      · rw [if_neg hh, if_neg (fun e => hh e.2), if_neg (by omega), if_neg (by omega), if_neg (by omega), if_neg (by omega)]
  have hC : clsN c k = (clsE c k - rF c k + 1).toNat := rfl
  refine ⟨?_, fun j hj => ?_, fun j hj => key _ (by omega), ?_, ?_, ?_, ?_⟩
  · rw [fv_head c k hk]
    by_cases hh : rF c k ≤ clsE c k
    · rw [if_pos hh, if_pos (by omega)]
    · rw [if_neg hh, if_neg (by omega)]
  · rw [keyN _ (by omega)]
    by_cases hh : rF c k + (j : Int) < clsE c k
    · rw [if_pos hh, if_pos (by omega)]; omega
    · rw [if_neg hh, if_neg (by omega)]
  all_goals (
    have hq := cls_num (S := sumTo c k) (x := rM c k) (n := nodesN c) (F := rF c k) (E := clsE c k) (cls_five h k hk).1 (cls_five h k hk).2.1 (cls_five h k hk).2.2.1 (cls_five h k hk).2.2.2.1 n0 hb.n1 (cls_five h k hk).2.2.2.2.1 rfl
    rw [← (cls_five h k hk).2.2.2.2.2] at hq)
  · exact hq.1
  · exact hq.2.1
  · exact hq.2.2.1
  · exact hq.2.2.2
end Go.Proofs.YtbpkcoemehmpbaaGreat.Lay
