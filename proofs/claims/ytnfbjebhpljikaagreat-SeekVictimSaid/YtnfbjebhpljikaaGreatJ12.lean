/- What the first words are, thing by thing; with nothing of the program. A map's packets: where they stand, and how they are at first. The document's own map, places and stacks of packets, walked. The document's own map and what its pool holds, walked. -/
import Derived.Test.YtnfbjebhpljikaaGreatLayFirst
import Derived.Test.YtnfbjebhpljikaaGreatPkOnce
import Derived.Test.YtnfbjebhpljikaaGreatPkAlone
import Derived.Test.YtnfbjebhpljikaaGreatJ3
import Derived.Test.YtnfbjebhpljikaaGreatJ10
import Derived.Test.YtnfbjebhpljikaaGreatJ7
import Derived.Deep.AppendLies
namespace Go.Proofs.YtnfbjebhpljikaaGreat.Lay
open Go.RowKit
set_option linter.unusedVariables false

/-- A class's first node and last node that is free. -/
def clsE (c : Cfg) (k : Int) : Int := imin (rF c k + rM c k) (nodesN c) - 1
theorem imin_le (x y : Int) : imin x y ≤ x ∧ imin x y ≤ y ∧ (imin x y = x ∨ imin x y = y) := by unfold imin; omega

theorem ite_c {p : Prop} {d1 d2 : Decidable p} {α : Type} (x y z : α) (h : y = z) : (@ite α p d1 x y) = (@ite α p d2 x z) := by
  subst h; by_cases hp : p <;> simp [hp]
theorem cls_num {S x n F E : Int} (hS : 0 ≤ S) (hx : 0 ≤ x) (hx2 : x ≤ 12) (hn : S + x ≤ n) (h1 : 1 ≤ n) (h60 : n ≤ 60) (hF : F = 1 + S) (hE : E = imin (F + x) n - 1) :
    imin S (n - 1) + ((E - F + 1).toNat : Int) = imin (S + x) (n - 1) ∧ (E - F + 1).toNat ≤ 60 ∧ (1 ≤ F ∧ F ≤ 61) ∧ (0 ≤ imin S (n - 1) ∧ imin S (n - 1) ≤ 60) := by
  unfold imin at *; omega
theorem fv_pool (c : Cfg) : firstV c ⟨4, 0, 0⟩ = 0 := by simp [firstV, stkV, VV, baseV, isTh]
theorem fv_spare {c : Cfg} (h : OkC c) : firstV c ⟨5, 0, 0⟩ = 1 := by
  have := (bds h).p0
  simp [firstV, stkV, isTh]; omega
theorem fv_link {c : Cfg} (h : OkC c) (p : Int) (h1 : 1 ≤ p) : firstV c ⟨12, p, 0⟩ = if p < packN c then p + 1 else 0 := by
  simp [firstV, stkV, VV, baseV, isTh, h1]
theorem fv_state {c : Cfg} (h : OkC c) (v : Int) : firstV c ⟨15, v, 0⟩ = if v = nodesN c then 1 else 0 := by
  simp [firstV, stkV, VV, baseV, isTh]
theorem fv_header {c : Cfg} (h : OkC c) (v : Int) : firstV c ⟨14, v, 0⟩ = if v = nodesN c then slotsOf (kindV c (nodesN c)) else 0 := by
  simp [firstV, stkV, VV, baseV, isTh]
theorem fv_head (c : Cfg) (k : Nat) (hk : k < 5) : firstV c ⟨7, (k : Int), 0⟩ = if rF c k ≤ clsE c k then rF c k else 0 := by
  match k, hk with
  | 0, _ => simp [firstV, stkV, VV, baseV, isTh, clsE]; exact ite_c _ _ _ rfl
  | 1, _ => simp [firstV, stkV, VV, baseV, isTh, clsE]; exact ite_c _ _ _ rfl
  | 2, _ => simp [firstV, stkV, VV, baseV, isTh, clsE]; exact ite_c _ _ _ rfl
  | 3, _ => simp [firstV, stkV, VV, baseV, isTh, clsE]; exact ite_c _ _ _ rfl
  | 4, _ => simp [firstV, stkV, VV, baseV, isTh, clsE]; exact ite_c _ _ _ rfl
theorem fv_next (c : Cfg) (v : Int) : firstV c ⟨17, v, 0⟩ = if rF c 4 ≤ v ∧ v < clsE c 4 then v + 1 else if rF c 3 ≤ v ∧ v < clsE c 3 then v + 1 else if rF c 2 ≤ v ∧ v < clsE c 2 then v + 1 else if rF c 1 ≤ v ∧ v < clsE c 1 then v + 1 else if rF c 0 ≤ v ∧ v < clsE c 0 then v + 1 else 0 := by
  simp [firstV, stkV, VV, baseV, isTh, clsE]
  repeat (first | rfl | (refine ite_c _ _ _ ?_))
theorem fv_rest {c : Cfg} (t : Th) (h : t.k ≠ 5 ∧ t.k ≠ 7 ∧ t.k ≠ 12 ∧ t.k ≠ 14 ∧ t.k ≠ 15 ∧ t.k ≠ 17) : firstV c t = 0 := by
  obtain ⟨h5, h7, h12, h14, h15, h17⟩ := h
  simp [firstV, stkV, VV, baseV, isTh, h5, h7, h12, h14, h15, h17]

/-- How many nodes of a class are free. -/
def clsN (c : Cfg) (k : Int) : Nat := (clsE c k - rF c k + 1).toNat
structure Cls (c : Cfg) (k : Nat) : Prop where
  head : firstV c ⟨7, (k : Int), 0⟩ = if 0 < clsN c k then rF c k else 0
  next : ∀ j : Nat, j < clsN c k → firstV c ⟨17, rF c k + j, 0⟩ = if j + 1 < clsN c k then rF c k + ((j + 1 : Nat) : Int) else 0
  node : ∀ j : Nat, j < clsN c k → kindV c (rF c k + j) = k ∧ rF c k + j < nodesN c ∧ 1 ≤ rF c k + (j : Int)
  sum : imin (sumTo c k) (nodesN c - 1) + clsN c k = imin (sumTo c (k + 1)) (nodesN c - 1)
  n60 : clsN c k ≤ 60
  f1 : 1 ≤ rF c k ∧ rF c k ≤ 61
  s0 : 0 ≤ imin (sumTo c k) (nodesN c - 1) ∧ imin (sumTo c k) (nodesN c - 1) ≤ 60
theorem cls_five {c : Cfg} (h : OkC c) (k : Nat) (hk : k < 5) : 0 ≤ sumTo c k ∧ 0 ≤ rM c k ∧ rM c k ≤ 12 ∧ sumTo c k + rM c k ≤ nodesN c ∧ rF c k = 1 + sumTo c k ∧ sumTo c (k + 1) = sumTo c k + rM c k := by
  have a0 := h.a0; have b0 := h.b0; have c0 := h.c0; have d0 := h.d0; have e0 := h.e0
  have a1 := h.a1; have b1 := h.b1; have c1 := h.c1; have d1 := h.d1; have e1 := h.e1
  have hn : nodesN c = c.a + c.b + c.c + c.d + c.e := rfl
  match k, hk with
  | 0, _ => simp [sumTo, cnt, rM, rF]; omega
  | 1, _ => simp [sumTo, cnt, rM, rF]; omega
  | 2, _ => simp [sumTo, cnt, rM, rF]; omega
  | 3, _ => simp [sumTo, cnt, rM, rF]; omega
  | 4, _ => simp [sumTo, cnt, rM, rF]; omega
set_option maxHeartbeats 1000000 in
theorem cls {c : Cfg} (h : OkC c) (k : Nat) (hk : k < 5) : Cls c k := by
  have hb := bds h
  have a0 := h.a0; have b0 := h.b0; have c0 := h.c0; have d0 := h.d0; have e0 := h.e0
  have a1 := h.a1; have b1 := h.b1; have c1 := h.c1; have d1 := h.d1; have e1 := h.e1
  have n0 := hb.n0
  have hn : nodesN c = c.a + c.b + c.c + c.d + c.e := rfl
  have f0 : rF c 0 = 1 := rfl
  have f1 : rF c 1 = 1 + c.a := rfl
  have f2 : rF c 2 = 1 + c.a + c.b := rfl
  have f3 : rF c 3 = 1 + c.a + c.b + c.c := rfl
  have f4 : rF c 4 = 1 + c.a + c.b + c.c + c.d := rfl
  have g0 : clsE c 0 = imin (1 + c.a) (nodesN c) - 1 := rfl
  have g1 : clsE c 1 = imin (1 + c.a + c.b) (nodesN c) - 1 := rfl
  have g2 : clsE c 2 = imin (1 + c.a + c.b + c.c) (nodesN c) - 1 := rfl
  have g3 : clsE c 3 = imin (1 + c.a + c.b + c.c + c.d) (nodesN c) - 1 := rfl
  have g4 : clsE c 4 = imin (1 + c.a + c.b + c.c + c.d + c.e) (nodesN c) - 1 := rfl
  have i0 := imin_le (1 + c.a) (nodesN c)
  have i1 := imin_le (1 + c.a + c.b) (nodesN c)
  have i2 := imin_le (1 + c.a + c.b + c.c) (nodesN c)
  have i3 := imin_le (1 + c.a + c.b + c.c + c.d) (nodesN c)
  have i4 := imin_le (1 + c.a + c.b + c.c + c.d + c.e) (nodesN c)
  have s0 : sumTo c 0 = 0 := rfl
  have s1 : sumTo c 1 = c.a := by simp [sumTo, cnt]
  have s2 : sumTo c 2 = c.a + c.b := by simp [sumTo, cnt]
  have s3 : sumTo c 3 = c.a + c.b + c.c := by simp [sumTo, cnt]
  have s4 : sumTo c 4 = c.a + c.b + c.c + c.d := by simp [sumTo, cnt]
  have s5 : sumTo c 5 = c.a + c.b + c.c + c.d + c.e := sum5 c
  have j0 := imin_le 0 (nodesN c - 1)
  have j1 := imin_le c.a (nodesN c - 1)
  have j2 := imin_le (c.a + c.b) (nodesN c - 1)
  have j3 := imin_le (c.a + c.b + c.c) (nodesN c - 1)
  have j4 := imin_le (c.a + c.b + c.c + c.d) (nodesN c - 1)
  have j5 := imin_le (c.a + c.b + c.c + c.d + c.e) (nodesN c - 1)
  have key : ∀ (v : Int), (rF c k ≤ v ∧ v ≤ clsE c k) → kindV c v = k ∧ v < nodesN c ∧ 1 ≤ v := fun v hv => by
    have kv := kindV_cases h v
    match k, hk with
    | 0, _ => simp only [Int.natCast_zero] at hv ⊢; omega
    | 1, _ => have e : ((1 : Nat) : Int) = 1 := rfl; rw [e] at hv ⊢; omega
    | 2, _ => have e : ((2 : Nat) : Int) = 2 := rfl; rw [e] at hv ⊢; omega
    | 3, _ => have e : ((3 : Nat) : Int) = 3 := rfl; rw [e] at hv ⊢; omega
    | 4, _ => have e : ((4 : Nat) : Int) = 4 := rfl; rw [e] at hv ⊢; omega
  have keyN : ∀ (v : Int), (rF c k ≤ v ∧ v ≤ clsE c k) → firstV c ⟨17, v, 0⟩ = if v < clsE c k then v + 1 else 0 := fun v hv => by
    rw [fv_next]
    match k, hk with
    | 0, _ =>
      have e : ((0 : Nat) : Int) = 0 := rfl
      rw [e] at hv ⊢
      rw [if_neg (by omega), if_neg (by omega), if_neg (by omega), if_neg (by omega)]
      by_cases hh : v < clsE c 0
      · rw [if_pos hh, if_pos ⟨hv.1, hh⟩]
      · rw [if_neg hh, if_neg (fun e => hh e.2)]
    | 1, _ =>
      have e : ((1 : Nat) : Int) = 1 := rfl
      rw [e] at hv ⊢
      rw [if_neg (by omega), if_neg (by omega), if_neg (by omega)]
      by_cases hh : v < clsE c 1
      · rw [if_pos hh, if_pos ⟨hv.1, hh⟩]
      · rw [if_neg hh, if_neg (fun e => hh e.2), if_neg (by omega)]
    | 2, _ =>
      have e : ((2 : Nat) : Int) = 2 := rfl
      rw [e] at hv ⊢
      rw [if_neg (by omega), if_neg (by omega)]
      by_cases hh : v < clsE c 2
      · rw [if_pos hh, if_pos ⟨hv.1, hh⟩]
      · rw [if_neg hh, if_neg (fun e => hh e.2), if_neg (by omega), if_neg (by omega)]
    | 3, _ =>
      have e : ((3 : Nat) : Int) = 3 := rfl
      rw [e] at hv ⊢
      rw [if_neg (by omega)]
      by_cases hh : v < clsE c 3
      · rw [if_pos hh, if_pos ⟨hv.1, hh⟩]
      · rw [if_neg hh, if_neg (fun e => hh e.2), if_neg (by omega), if_neg (by omega), if_neg (by omega)]
    | 4, _ =>
      have e : ((4 : Nat) : Int) = 4 := rfl
      rw [e] at hv ⊢
      by_cases hh : v < clsE c 4
      · rw [if_pos hh, if_pos ⟨hv.1, hh⟩]
      · rw [if_neg hh, if_neg (fun e => hh e.2), if_neg (by omega), if_neg (by omega), if_neg (by omega), if_neg (by omega)]
  have hC : clsN c k = (clsE c k - rF c k + 1).toNat := rfl
  refine ⟨?_, fun j hj => ?_, fun j hj => key _ (by omega), ?_, ?_, ?_, ?_⟩
  · rw [fv_head c k hk]
    by_cases hh : rF c k ≤ clsE c k
    · rw [if_pos hh, if_pos (by omega)]
    · rw [if_neg hh, if_neg (by omega)]
  · rw [keyN _ (by omega)]
    by_cases hh : rF c k + (j : Int) < clsE c k
    · rw [if_pos hh, if_pos (by omega)]; omega
    · rw [if_neg hh, if_neg (by omega)]
  all_goals (
    have hq := cls_num (S := sumTo c k) (x := rM c k) (n := nodesN c) (F := rF c k) (E := clsE c k) (cls_five h k hk).1 (cls_five h k hk).2.1 (cls_five h k hk).2.2.1 (cls_five h k hk).2.2.2.1 n0 hb.n1 (cls_five h k hk).2.2.2.2.1 rfl
    rw [← (cls_five h k hk).2.2.2.2.2] at hq)
  · exact hq.1
  · exact hq.2.1
  · exact hq.2.2.1
  · exact hq.2.2.2
end Go.Proofs.YtnfbjebhpljikaaGreat.Lay

namespace Go.Proofs.YtnfbjebhpljikaaGreat
open Go.RowKit
set_option linter.unusedVariables false
open Lay (plcc plc shOf packN nodesN OkC Cfg Norm firstV Rep lenL)

def spK (c : Cfg) : Sk := ⟨plcc c 5 0 0, lnkL c⟩
def poK (c : Cfg) : Sk := ⟨plcc c 4 0 0, lnkL c⟩
def gOf (c : Cfg) : Pg := ⟨spK c, poK c, fun x j => plcc c 13 x j, fun x => plcc c 11 x 0⟩
def pkn (c : Cfg) : Nat := (packN c).toNat
theorem pkn_is {c : Cfg} (hc : OkC c) : ((pkn c : Nat) : Int) = packN c := by have := (Lay.bds hc).p0; unfold pkn; omega

theorem nrm (k a b : Int) (h6 : 0 ≤ k) (h18 : k ≤ 18) (ha : k ≤ 5 → a = 0) (hb : k ≠ 10 → k ≠ 13 → k ≠ 18 → b = 0) : Norm ⟨k, a, b⟩ := ⟨h6, h18, ha, hb⟩
/-- Two things at one place are one. -/
theorem one_place {c : Cfg} {k a b k' a' b' : Int} (h : Norm ⟨k, a, b⟩) (h' : Norm ⟨k', a', b'⟩) (h0 : 0 ≤ plcc c k a b) (e : plcc c k a b = plcc c k' a' b') : k = k' ∧ a = a' ∧ b = b' := by
  have := Lay.plc_inj (s := shOf c) h h' h0 e.symm
  injection this with e1 e2 e3
  exact ⟨e1.symm, e2.symm, e3.symm⟩
theorem pos11 {c : Cfg} (hc : OkC c) {x : Int} (h1 : 1 ≤ x) (h2 : x ≤ packN c) : 0 ≤ plcc c 11 x 0 := by
  have := (Lay.bds hc).t4
  rw [← Lay.plc_many hc x, Lay.wordL, if_pos (by omega)]; omega
theorem pos12 {c : Cfg} (hc : OkC c) {x : Int} (h1 : 1 ≤ x) (h2 : x ≤ packN c) : 0 ≤ plcc c 12 x 0 := Lay.link_pos hc x h1 h2
theorem pos13 {c : Cfg} (hc : OkC c) {x j : Int} (h1 : 1 ≤ x) (h2 : x ≤ packN c) (h3 : 0 ≤ j) (h4 : j < 4) : 0 ≤ plcc c 13 x j := by
  have := (Lay.bds hc).t4
  rw [← Lay.plc_task hc x j, Lay.itemL, if_pos (by omega), Lay.wordL, if_pos (by omega)]; omega
theorem gk_of {c : Cfg} (hc : OkC c) (h : Int) (h5 : h = 4 ∨ h = 5) : Gk (pkn c) (lenL (shOf c)) ⟨plcc c h 0 0, lnkL c⟩ := by
  have hn := pkn_is hc
  have hb := (Lay.bds hc).p1
  have e : plcc c h 0 0 = h := Lay.single_pos c h (by omega) (by omega)
  refine ⟨by omega, ⟨by show 0 ≤ plcc c h 0 0; omega, Lay.plc_lt (nrm h 0 0 (by omega) (by omega) (fun _ => rfl) (fun _ _ _ => rfl)) (by show 0 ≤ plcc c h 0 0; omega)⟩, fun x h1 h2 => ?_, fun x y h1 h2 h3 h4 he => ?_⟩
  · show 0 ≤ atOf (lnkL c) x ∧ atOf (lnkL c) x < _ ∧ atOf (lnkL c) x ≠ plcc c h 0 0
    rw [lnk_at hc]
    have p := pos12 hc h1 (by omega)
    have nx : Norm ⟨12, x, 0⟩ := nrm 12 x 0 (by omega) (by omega) (fun h => by omega) (fun _ _ _ => rfl)
    refine ⟨p, Lay.plc_lt nx p, fun he => ?_⟩
    have := one_place nx (nrm h 0 0 (by omega) (by omega) (fun _ => rfl) (fun _ _ _ => rfl)) p he
    omega
  · have he' : atOf (lnkL c) x = atOf (lnkL c) y := he
    rw [lnk_at hc, lnk_at hc] at he'
    have nx : ∀ z, Norm ⟨12, z, 0⟩ := fun z => nrm 12 z 0 (by omega) (by omega) (fun h => by omega) (fun _ _ _ => rfl)
    exact (one_place (nx x) (nx y) (pos12 hc h1 (by omega)) he').2.1
theorem gp_of {c : Cfg} (hc : OkC c) : Gp (pkn c) (lenL (shOf c)) (gOf c) := by
  have hn := pkn_is hc
  have e4 : plcc c 4 0 0 = 4 := Lay.single_pos c 4 (by omega) (by omega)
  have e5 : plcc c 5 0 0 = 5 := Lay.single_pos c 5 (by omega) (by omega)
  have n0 : ∀ h : Int, 0 ≤ h → h ≤ 5 → Norm ⟨h, 0, 0⟩ := fun h h1 h2 => nrm h 0 0 h1 (by omega) (fun _ => rfl) (fun _ _ _ => rfl)
  have n1 : ∀ k z : Int, 6 ≤ k → k ≤ 18 → Norm ⟨k, z, 0⟩ := fun k z h1 h2 => nrm k z 0 (by omega) h2 (fun h => by omega) (fun _ _ _ => rfl)
  have n3 : ∀ z j : Int, Norm ⟨13, z, j⟩ := fun z j => nrm 13 z j (by omega) (by omega) (fun h => by omega) (fun _ h _ => absurd rfl h)
  refine ⟨gk_of hc 5 (.inr rfl), gk_of hc 4 (.inl rfl), rfl, by show plcc c 5 0 0 ≠ plcc c 4 0 0; omega, ?_, ?_, ?_, ?_, ?_, ?_, ?_⟩
  · intro x j h1 h2 h3 h4
    have p := pos13 hc h1 (by omega) h3 h4
    refine ⟨p, Lay.plc_lt (n3 x j) p, fun he => ?_, fun he => ?_⟩
    · have := one_place (n3 x j) (n0 5 (by omega) (by omega)) p he; omega
    · have := one_place (n3 x j) (n0 4 (by omega) (by omega)) p he; omega
  · intro x j y h1 h2 h3 h4 h5 h6 he
    have he' : plcc c 13 x j = atOf (lnkL c) y := he
    rw [lnk_at hc] at he'
    have := one_place (n3 x j) (n1 12 y (by omega) (by omega)) (pos13 hc h1 (by omega) h3 h4) he'; omega
  · intro x j y h1 h2 h3 h4 h5 h6 he
    have := one_place (n3 x j) (n1 11 y (by omega) (by omega)) (pos13 hc h1 (by omega) h3 h4) he; omega
  · intro x j y i h1 h2 h3 h4 h5 h6 h7 h8 he
    have := one_place (n3 x j) (n3 y i) (pos13 hc h1 (by omega) h3 h4) he
    exact this.2
  · intro x h1 h2
    have p := pos11 hc h1 (by omega)
    refine ⟨p, Lay.plc_lt (n1 11 x (by omega) (by omega)) p, fun he => ?_, fun he => ?_⟩
    · have := one_place (n1 11 x (by omega) (by omega)) (n0 5 (by omega) (by omega)) p he; omega
    · have := one_place (n1 11 x (by omega) (by omega)) (n0 4 (by omega) (by omega)) p he; omega
  · intro x y h1 h2 h3 h4 he
    have he' : plcc c 11 x 0 = atOf (lnkL c) y := he
    rw [lnk_at hc] at he'
    have := one_place (n1 11 x (by omega) (by omega)) (n1 12 y (by omega) (by omega)) (pos11 hc h1 (by omega)) he'; omega
  · intro x y h1 h2 h3 h4 he
    exact (one_place (n1 11 x (by omega) (by omega)) (n1 11 y (by omega) (by omega)) (pos11 hc h1 (by omega)) he).2.1

/-- What a thing's word is at first. -/
theorem first_word {c : Cfg} {L : List Int} (h : Rep (shOf c) L (firstV c)) {k a b : Int} (hn : Norm ⟨k, a, b⟩) (h0 : 0 ≤ plcc c k a b) : L.getD (plcc c k a b).toNat 0 = firstV c ⟨k, a, b⟩ := h.2 _ hn h0
theorem chain_from {c : Cfg} (hc : OkC c) {L : List Int} {k : Sk} (hk : k.links = lnkL c) (h : Rep (shOf c) L (firstV c)) : ∀ (m j : Nat), j + m = pkn c → Chain k L (if m = 0 then 0 else (j : Int) + 1) ((List.range m).map fun (i : Nat) => ((j + i + 1 : Nat) : Int))
  | 0, j, _ => by simp [Chain]
  | m + 1, j, e => by
    have hn := pkn_is hc
    rw [List.range_succ_eq_map, List.map_cons]
    refine ⟨by simp, ?_⟩
    have ih := chain_from hc hk h m (j + 1) (by omega)
    have e1 : lkw k L ((j + 0 + 1 : Nat) : Int) = if m = 0 then 0 else ((j + 1 : Nat) : Int) + 1 := by
      unfold lkw
      rw [hk, lnk_at hc]
      have p := pos12 hc (x := ((j + 0 + 1 : Nat) : Int)) (by omega) (by omega)
      rw [first_word h (nrm 12 _ 0 (by omega) (by omega) (fun h => by omega) (fun _ _ _ => rfl)) p, Lay.fv_link hc _ (by omega)]
      by_cases hm : m = 0
      · rw [if_pos hm, if_neg (by omega)]
      · rw [if_neg hm, if_pos (by omega)]
    rw [e1]
    have e2 : (List.map (fun (i : Nat) => ((j + i + 1 : Nat) : Int)) (List.map Nat.succ (List.range m))) = (List.range m).map fun (i : Nat) => ((j + 1 + i + 1 : Nat) : Int) := by
      rw [List.map_map]; apply List.map_congr_left; intro i _; simp only [Function.comp]; congr 1; omega
    rw [e2]
    exact ih
/-- At first all packets are spare, and the pool has none. -/
theorem stk_first {c : Cfg} (hc : OkC c) {L : List Int} (h : Rep (shOf c) L (firstV c)) : Stk (pkn c) (spK c) L 0 (En (pkn c)) ∧ Stk (pkn c) (poK c) L 0 [] := by
  have hn := pkn_is hc
  have hp := (Lay.bds hc).p0
  have e4 : plcc c 4 0 0 = 4 := Lay.single_pos c 4 (by omega) (by omega)
  have e5 : plcc c 5 0 0 = 5 := Lay.single_pos c 5 (by omega) (by omega)
  have n0 : ∀ h : Int, 0 ≤ h → h ≤ 5 → Norm ⟨h, 0, 0⟩ := fun h h1 h2 => nrm h 0 0 h1 (by omega) (fun _ => rfl) (fun _ _ _ => rfl)
  have hE : En (pkn c) = (List.range (pkn c)).map fun (i : Nat) => ((0 + i + 1 : Nat) : Int) := by
    unfold En; apply List.map_congr_left; intro i _; congr 1; omega
  have hh : (En (pkn c)).headD 0 = 1 := by
    obtain ⟨m, hm⟩ : ∃ m, pkn c = m + 1 := ⟨pkn c - 1, by omega⟩
    rw [hm]; simp [En, List.range_succ_eq_map]
  refine ⟨⟨by rw [h.1]; exact gk_of hc 5 (.inr rfl), by omega, by omega, ?_, fun q hq => mem_En.1 hq, nd_En _, ?_⟩, ⟨by rw [h.1]; exact gk_of hc 4 (.inl rfl), by omega, by omega, ?_, by simp, by simp, by simp [Chain]⟩⟩
  · show L.getD (plcc c 5 0 0).toNat 0 = _
    rw [first_word h (n0 5 (by omega) (by omega)) (by omega), Lay.fv_spare hc, hh]; rfl
  · rw [hh, hE]
    have := chain_from hc (k := spK c) rfl h (pkn c) 0 (by omega)
    rw [if_neg (by omega)] at this
    exact this
  · show L.getD (plcc c 4 0 0).toNat 0 = _
    rw [first_word h (n0 4 (by omega) (by omega)) (by omega), Lay.fv_pool]; rfl
end Go.Proofs.YtnfbjebhpljikaaGreat

namespace Go.Proofs.YtnfbjebhpljikaaGreat
open Go.RowKit
set_option linter.unusedVariables false
open Lay (plcc plc shOf packN nodesN OkC Cfg Norm firstV Rep lenL things)

/-- The document's map of a configuration, by value. -/
abbrev aVal (A : Option Addr) (n cap : Nat) (P : Int) : Value := .agg #[.slice A n cap, .int .i64 P]
structure IsA (w : World) (c : Cfg) (A : Option Addr) (n : Nat) : Prop where
  ln : n = (things (shOf c)).length
  rd : Lay.ReadsT w A (things (shOf c))
  le : n ≤ 10000
theorem IsA.below {w w' : World} {c : Cfg} {A : Option Addr} {n : Nat} (h : IsA w c A n) (hb : Below w.heap.size w w') : IsA w' c A n := ⟨h.ln, h.rd.below hb, h.le⟩

/-- An append to a row of integers of the call's own at a step of a region that draws its order. -/
theorem step_append_row {k : IntKind} {wr : World} {T : TypeId} {x : Int} {ops : Array Oper} {o : Oper} {a : Act} {K : Act → World → Prop} {Q : Exit → Act → World → Prop} {E : Prop} (hg : o.guard = none) (s c : Operand) (t e : TypeId)
    (ho : o.op = .call { callee := .builtin .append, args := #[s, c], argTypes := #[t, t] }) (ht : Tryz.prog.underlying t = some (.slice e))
    (hi : (Tryz.prog.info? e).map (fun i => (i.zero, i.size, i.bytes)) = some (some (.int k 0), 1, 8))
    (B : Nat) (v : Value) (l : List Int) (hs : a.eval s = v) (hown : wr.ownsRow B e 1 v l.length (l.map (Value.int k))) (hx : a.eval c = .slice (some ⟨wr.heap.size, 0, none⟩) 1 1) (hl : l.length ≤ 100000) (hB : B ≤ wr.heap.size)
    (h : ∀ g cap w', w'.ownsRow B e 1 (.slice (some ⟨g, 0, none⟩) (l.length + 1) cap) (l.length + 1) ((l ++ [x]).map (Value.int k)) → (wr.alloc (.cells #[.int k x] T)).grownBy w' v.ownBlock → (v.ownBlock = some g ∨ wr.heap.size ≤ g) → K (a.put o.dst (.slice (some ⟨g, 0, none⟩) (l.length + 1) cap)) w') :
    if Region.wanted o (yielded ops a.tmps) = true then Oper.wp Tryz.prog o a (wr.alloc (.cells #[.int k x] T)) K Q else E := by
  obtain ⟨i0, hi0, hz0, hz1, hz2⟩ := info_parts hi
  have hn := hown.alloc (.cells #[.int k x] T)
  refine step_append_lies _ hg s c t ho B e i0 _ 1 8 ht hi0 hz0 hz1 hz2 rfl (by decide) v l.length _ hs hn ⟨wr.heap.size, 0, none⟩ 1 1 [.int k x] hx rfl ?_ ?_ (by decide) (by unfold maxLen; omega) (by omega) (by simp; omega) _ rfl ?_
  · intro j u hj
    rw [add_off, World.cell?_alloc_at _ _ _ _ rfl]
    match j, hj with
    | 0, hj => simp at hj; subst hj; rfl
  · intro u hu
    simp at hu
    rcases hu with rfl
    rfl
  · intro g cap w' h1 h2 h3 _
    refine h g cap w' (by simpa using h1) h2 ?_
    rcases h3 with h3 | h3
    · exact .inl h3
    · exact .inr (by rw [h3]; simp)

theorem adr_ne {b b' o o' : Nat} (h : b ≠ b' ∨ o ≠ o') : (⟨b, o, none⟩ : Addr) ≠ ⟨b', o', none⟩ := by
  intro e; injection e with e1 e2; omega
theorem put2_cells {w : World} {k : Nat} {a0 a1 : Value} (h0 : w.cell? ⟨k, 0, none⟩ = some a0) (h1 : w.cell? ⟨k, 1, none⟩ = some a1) (u0 u1 : Value) :
    ((w.setCell ⟨k, 0, none⟩ u0).setCell ⟨k, 1, none⟩ u1).cell? ⟨k, 0, none⟩ = some u0 ∧ ((w.setCell ⟨k, 0, none⟩ u0).setCell ⟨k, 1, none⟩ u1).cell? ⟨k, 1, none⟩ = some u1 := by
  refine ⟨?_, ?_⟩
  · rw [World.cell?_setCell_other _ _ _ _ (adr_ne (.inr (by omega)))]
    exact World.cell?_setCell_same _ _ _ h0
  · refine World.cell?_setCell_same _ _ _ (u := a1) ?_
    rw [World.cell?_setCell_other _ _ _ _ (adr_ne (.inr (by omega)))]; exact h1

section
variable {w0 w w' : World} {G n cap : Nat} {A : Option Addr} {P hd : Int} {v : Value} {zs : List Int} {c : Cfg}
abbrev SKc (w : World) (w0 : World) (G : Nat) (A : Option Addr) (n cap : Nat) (P : Int) (v : Value) : Prop :=
  w.cell? ⟨G, 1, none⟩ = some v ∧ w.cell? ⟨w0.heap.size, 0, none⟩ = some (.slice A n cap) ∧ w.cell? ⟨w0.heap.size, 1, none⟩ = some (.int .i64 P) ∧ w.frozen? ⟨G, 1, none⟩ = false
end

/-- A row of packets' links, the first j. -/
def lnkTo (c : Cfg) (j : Nat) : List Int := (List.range j).map fun (i : Nat) => plcc c 12 ((i : Int) + 1) 0
theorem lnkTo_len (c : Cfg) (j : Nat) : (lnkTo c j).length = j := by simp [lnkTo]
theorem lnkTo_succ (c : Cfg) (j : Nat) : lnkTo c (j + 1) = lnkTo c j ++ [plcc c 12 ((j : Int) + 1) 0] := by simp [lnkTo, List.range_succ]
theorem lnkTo_all (c : Cfg) : lnkTo c (packN c).toNat = lnkL c := rfl

/-- A stack by value; its links' row is new. -/
def SomeKh (hd : Int) (zs : List Int) (w : World) (e : Ending) (w' : World) : Prop := ∃ A n cap, e = .returned (kval hd A n cap) ∧ n = zs.length ∧ Reads .i64 w' A zs ∧ Below w.heap.size w w' ∧ ∀ a, A = some a → w.heap.size < a.block
def SomeK (hd : Int) (zs : List Int) (w : World) (e : Ending) (w' : World) : Prop := ∃ A n cap, e = .returned (kval hd A n cap) ∧ n = zs.length ∧ Reads .i64 w' A zs ∧ Below w.heap.size w w'

end Go.Proofs.YtnfbjebhpljikaaGreat

namespace Go.Proofs.YtnfbjebhpljikaaGreat
open Go.RowKit
set_option linter.unusedVariables false
open Lay (plcc plc shOf packN nodesN OkC Cfg Norm firstV Rep lenL things)

/-- The cells of a configuration in its box. -/
abbrev CfgC (B : Nat) (c : Cfg) (w' : World) : Prop := w'.cell? ⟨B, 0, none⟩ = some (.int .i64 c.a) ∧ w'.cell? ⟨B, 1, none⟩ = some (.int .i64 c.b) ∧ w'.cell? ⟨B, 2, none⟩ = some (.int .i64 c.c) ∧ w'.cell? ⟨B, 3, none⟩ = some (.int .i64 c.d) ∧ w'.cell? ⟨B, 4, none⟩ = some (.int .i64 c.e) ∧ w'.cell? ⟨B, 5, none⟩ = some (.int .i64 c.mr) ∧ w'.cell? ⟨B, 6, none⟩ = some (.int .i64 c.mu) ∧ w'.cell? ⟨B, 7, none⟩ = some (.int .i64 c.dq) ∧ w'.cell? ⟨B, 8, none⟩ = some (.int .i64 c.ch) ∧ w'.cell? ⟨B, 9, none⟩ = some (.int .i64 c.bf) ∧ w'.cell? ⟨B, 10, none⟩ = some (.int .i64 c.rt) ∧ w'.cell? ⟨B, 11, none⟩ = some (.int .i64 c.sw)
theorem kc_cells {w : World} {B : Nat} {c : Cfg} {w' : World} (h : Lay.KC w B c w') : CfgC B c w' := ⟨h.c0, h.c1, h.c2, h.c3, h.c4, h.c5, h.c6, h.c7, h.c8, h.c9, h.c10, h.c11⟩
/-- A configuration's box, and behind it that of an answer of two cells. -/
structure KR (w : World) (c : Cfg) (w' : World) : Prop where
  k : Lay.KC w w.heap.size c w'
  r0 : w'.cell? ⟨w.heap.size + 1, 0, none⟩ = some (.slice none 0 0)
  r1 : w'.cell? ⟨w.heap.size + 1, 1, none⟩ = some (.int .i64 0)
  f : ∀ j, w'.frozen? ⟨w.heap.size + 1, j, none⟩ = false
  lt : w.heap.size + 1 < w'.heap.size
theorem KR.step {w : World} {c : Cfg} {w' w2 : World} (h : KR w c w') (hb : Below w'.heap.size w' w2) : KR w c w2 :=
  ⟨h.k.step hb, (hb.cell (p := ⟨w.heap.size + 1, 0, none⟩) h.lt).trans h.r0, (hb.cell (p := ⟨w.heap.size + 1, 1, none⟩) h.lt).trans h.r1, fun j => (hb.frozen (p := ⟨w.heap.size + 1, j, none⟩) h.lt).trans (h.f j), Nat.lt_of_lt_of_le h.lt hb.size⟩
theorem KR.drew {w : World} {c : Cfg} {w' : World} (h : KR w c w') : KR w c w'.drew := h.step (Below.refl _ _).drew
theorem KR.set {w : World} {c : Cfg} {w' : World} (h : KR w c w') (u0 u1 : Value) : CfgC w.heap.size c ((w'.setCell ⟨w.heap.size + 1, 0, none⟩ u0).setCell ⟨w.heap.size + 1, 1, none⟩ u1) := by
  have far : ∀ i, ((w'.setCell ⟨w.heap.size + 1, 0, none⟩ u0).setCell ⟨w.heap.size + 1, 1, none⟩ u1).cell? ⟨w.heap.size, i, none⟩ = w'.cell? ⟨w.heap.size, i, none⟩ := fun i => by
    rw [World.cell?_setCell_other _ _ _ _ (adr_ne (.inl (by omega))), World.cell?_setCell_other _ _ _ _ (adr_ne (.inl (by omega)))]
  have k := kc_cells h.k
  unfold CfgC at k ⊢
  simp only [far]
  exact k
theorem KR.start (w : World) (c : Cfg) (t T : TypeId) : KR w c ((w.alloc (Lay.cfgO c t)).alloc (.cells #[.slice none 0 0, .int .i64 0] T)) := by
  have hk := (Lay.KC.start c t w w (Below.refl _ _)).step (below_alloc0 (Below.refl _ _) (.cells #[.slice none 0 0, .int .i64 0] T))
  have e : w.heap.size + 1 = (w.alloc (Lay.cfgO c t)).heap.size := by simp
  refine ⟨hk, ?_, ?_, fun j => ?_, by simp⟩
  · rw [e, World.cell?_alloc_at _ _ _ _ rfl]; rfl
  · rw [e, World.cell?_alloc_at _ _ _ _ rfl]; rfl
  · rw [e]; exact World.frozen?_alloc_new _ _ _ _

/-- What it reads stands in other blocks. -/
def Off (w : World) (A : Option Addr) (k : Nat) : Prop := ∀ b off, A = some ⟨b, off, none⟩ → b ≠ k
theorem reads_off {w : World} {A : Option Addr} {l : List Lay.Th} {k : Nat} {w0 : World} (h : Lay.ReadsT w A l) (ho : Off w0 A k) {u0 u1 : Value} : Lay.ReadsT ((w.setCell ⟨k, 0, none⟩ u0).setCell ⟨k, 1, none⟩ u1) A l := fun h0 => by
  obtain ⟨b, off, e, hlt, hc⟩ := h h0
  have hne := ho b off e
  have far : ∀ i, ((w.setCell ⟨k, 0, none⟩ u0).setCell ⟨k, 1, none⟩ u1).cell? ⟨b, i, none⟩ = w.cell? ⟨b, i, none⟩ := fun i => by
    rw [World.cell?_setCell_other _ _ _ _ (adr_ne (.inl (by omega))), World.cell?_setCell_other _ _ _ _ (adr_ne (.inl (by omega)))]
  exact ⟨b, off, e, by simpa using hlt, fun j hj => by rw [far, far, far]; exact hc j hj⟩

end Go.Proofs.YtnfbjebhpljikaaGreat
