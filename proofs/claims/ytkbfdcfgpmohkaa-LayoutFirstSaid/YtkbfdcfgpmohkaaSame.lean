/- The first words are the document's, thing by thing; with nothing of the program. -/
import Derived.Test.YtkbfdcfgpmohkaaListsPure
import Derived.Test.YtkbfdcfgpmohkaaRef
namespace Go.Proofs.Ytkbfdcfgpmohkaa
open Go.RowKit
set_option linter.unusedVariables false

theorem low_none (p : Nat → Bool) (n : Nat) (h : ∀ v, 1 ≤ v → v < n → p v = false) : ∀ j, j + 1 ≤ n → lowTo p n j = 0
  | 0, _ => rfl
  | j + 1, hj => by
    unfold lowTo
    rw [h _ (by omega) (by omega)]
    exact low_none p n h j (by omega)
/-- A thing of the list has a place, and its numbers count. -/
theorem thing_plc {s : Sh} {i : Nat} (h : i < (things s).length) : plc s (gt (things s) i) = (i : Int) := by
  have := seg_all s i h; rw [this]; omega

theorem cls_low {c : Cfg} (h : OkC c) (k : Nat) (hk : k < 5) (v : Int) (hv : kindV c v = k) : rF c k ≤ v := by
  have kv := kindV_cases h v
  have f0 : rF c 0 = 1 := rfl
  have f1 : rF c 1 = 1 + c.a := rfl
  have f2 : rF c 2 = 1 + c.a + c.b := rfl
  have f3 : rF c 3 = 1 + c.a + c.b + c.c := rfl
  have f4 : rF c 4 = 1 + c.a + c.b + c.c + c.d := rfl
  match k, hk with
  | 0, _ => have e : ((0 : Nat) : Int) = 0 := rfl; rw [e] at hv ⊢; omega
  | 1, _ => have e : ((1 : Nat) : Int) = 1 := rfl; rw [e] at hv ⊢; omega
  | 2, _ => have e : ((2 : Nat) : Int) = 2 := rfl; rw [e] at hv ⊢; omega
  | 3, _ => have e : ((3 : Nat) : Int) = 3 := rfl; rw [e] at hv ⊢; omega
  | 4, _ => have e : ((4 : Nat) : Int) = 4 := rfl; rw [e] at hv ⊢; omega
theorem cls_out {c : Cfg} (h : OkC c) (k : Nat) (hk : k < 5) (v : Int) (hv : kindV c v = k) (hn : v ≤ nodesN c - 1) : rF c k ≤ v ∧ v ≤ clsE c k := by
  refine ⟨cls_low h k hk v hv, ?_⟩
  have kv := kindV_cases h v
  have hN : nodesN c = c.a + c.b + c.c + c.d + c.e := rfl
  have i0 := imin_le (1 + c.a) (nodesN c)
  have i1 := imin_le (1 + c.a + c.b) (nodesN c)
  have i2 := imin_le (1 + c.a + c.b + c.c) (nodesN c)
  have i3 := imin_le (1 + c.a + c.b + c.c + c.d) (nodesN c)
  have i4 := imin_le (1 + c.a + c.b + c.c + c.d + c.e) (nodesN c)
  match k, hk with
  | 0, _ => have e : ((0 : Nat) : Int) = 0 := rfl; rw [e] at hv ⊢; show v ≤ imin (1 + c.a) (nodesN c) - 1; omega
  | 1, _ => have e : ((1 : Nat) : Int) = 1 := rfl; rw [e] at hv ⊢; show v ≤ imin (1 + c.a + c.b) (nodesN c) - 1; omega
  | 2, _ => have e : ((2 : Nat) : Int) = 2 := rfl; rw [e] at hv ⊢; show v ≤ imin (1 + c.a + c.b + c.c) (nodesN c) - 1; omega
  | 3, _ => have e : ((3 : Nat) : Int) = 3 := rfl; rw [e] at hv ⊢; show v ≤ imin (1 + c.a + c.b + c.c + c.d) (nodesN c) - 1; omega
  | 4, _ => have e : ((4 : Nat) : Int) = 4 := rfl; rw [e] at hv ⊢; show v ≤ imin (1 + c.a + c.b + c.c + c.d + c.e) (nodesN c) - 1; omega
theorem same_head {c : Cfg} (h : OkC c) (m : Nat) (hm : (m : Int) = nodesN c) (k : Nat) (hk : k < 5) (hm1 : 1 ≤ m) : firstV c ⟨7, (k : Int), 0⟩ = (lowTo (pR c 7 k) m (m - 1) : Int) := by
  have hcl := cls h k hk
  have hC : clsN c k = (clsE c k - rF c k + 1).toNat := rfl
  have hE : clsE c k ≤ nodesN c - 1 := by
    have := imin_le (rF c k + rM c k) (nodesN c)
    show imin (rF c k + rM c k) (nodesN c) - 1 ≤ _; omega
  have hp : ∀ v : Nat, 1 ≤ v → v < m → (pR c 7 k v = true ↔ kindV c v = k) := fun v _ _ => by
    simp [pR]
  have hb := cls_out h k hk
  have hL : IsLow (pR c 7 k) m 1 (if 0 < clsN c k then (rF c k).toNat else 0) := by
    by_cases h0 : 0 < clsN c k
    · rw [if_pos h0]
      have hn := hcl.node 0 h0
      obtain ⟨f1, f2⟩ := hcl.f1
      simp only [Int.natCast_zero, Int.add_zero] at hn
      refine .inr ⟨by omega, by omega, ?_, fun v h1 h2 => ?_⟩
      · have e : (((rF c k).toNat : Nat) : Int) = rF c k := by omega
        rw [hp _ (by omega) (by omega), e]; exact hn.1
      · by_cases hq : pR c 7 k v = true
        · have := hb v ((hp v h1 (by omega)).1 hq) (by omega)
          omega
        · simpa using hq
    · rw [if_neg h0]
      refine .inl ⟨rfl, fun v h1 h2 => ?_⟩
      by_cases hq : pR c 7 k v = true
      · have := hb v ((hp v h1 h2).1 hq) (by omega)
        omega
      · simpa using hq
  have hl := low_uniq (low_spec (pR c 7 k) m (m - 1) (by omega)) (by rw [show m - (m - 1) = 1 by omega]; exact hL)
  rw [hl, hcl.head]
  split
  · have := hcl.f1; omega
  · rfl

theorem fv_in {c : Cfg} (h : OkC c) (k : Nat) (hk : k < 5) (v : Int) (hv : kindV c v = k) : firstV c ⟨17, v, 0⟩ = if v < clsE c k then v + 1 else 0 := by
  have kv := kindV_cases h v
  have a0 := h.a0; have b0 := h.b0; have c0 := h.c0; have d0 := h.d0; have e0 := h.e0
  have hn : nodesN c = c.a + c.b + c.c + c.d + c.e := rfl
  have f0 : rF c 0 = 1 := rfl
  have f1 : rF c 1 = 1 + c.a := rfl
  have f2 : rF c 2 = 1 + c.a + c.b := rfl
  have f3 : rF c 3 = 1 + c.a + c.b + c.c := rfl
  have f4 : rF c 4 = 1 + c.a + c.b + c.c + c.d := rfl
  have g0 : clsE c 0 ≤ c.a := by have := imin_le (1 + c.a) (nodesN c); show imin (1 + c.a) (nodesN c) - 1 ≤ _; omega
  have g1 : clsE c 1 ≤ c.a + c.b := by have := imin_le (1 + c.a + c.b) (nodesN c); show imin (1 + c.a + c.b) (nodesN c) - 1 ≤ _; omega
  have g2 : clsE c 2 ≤ c.a + c.b + c.c := by have := imin_le (1 + c.a + c.b + c.c) (nodesN c); show imin (1 + c.a + c.b + c.c) (nodesN c) - 1 ≤ _; omega
  have g3 : clsE c 3 ≤ c.a + c.b + c.c + c.d := by have := imin_le (1 + c.a + c.b + c.c + c.d) (nodesN c); show imin (1 + c.a + c.b + c.c + c.d) (nodesN c) - 1 ≤ _; omega
  rw [fv_next]
  match k, hk with
  | 0, _ =>
    have e : ((0 : Nat) : Int) = 0 := rfl
    rw [e] at hv ⊢
    rw [if_neg (by omega), if_neg (by omega), if_neg (by omega), if_neg (by omega)]
    by_cases hh : v < clsE c 0
    · rw [if_pos hh, if_pos (by omega)]
    · rw [if_neg hh, if_neg (by omega)]
  | 1, _ =>
    have e : ((1 : Nat) : Int) = 1 := rfl
    rw [e] at hv ⊢
    rw [if_neg (by omega), if_neg (by omega), if_neg (by omega)]
    by_cases hh : v < clsE c 1
    · rw [if_pos hh, if_pos (by omega)]
    · rw [if_neg hh, if_neg (by omega), if_neg (by omega)]
  | 2, _ =>
    have e : ((2 : Nat) : Int) = 2 := rfl
    rw [e] at hv ⊢
    rw [if_neg (by omega), if_neg (by omega)]
    by_cases hh : v < clsE c 2
    · rw [if_pos hh, if_pos (by omega)]
    · rw [if_neg hh, if_neg (by omega), if_neg (by omega), if_neg (by omega)]
  | 3, _ =>
    have e : ((3 : Nat) : Int) = 3 := rfl
    rw [e] at hv ⊢
    rw [if_neg (by omega)]
    by_cases hh : v < clsE c 3
    · rw [if_pos hh, if_pos (by omega)]
    · rw [if_neg hh, if_neg (by omega), if_neg (by omega), if_neg (by omega), if_neg (by omega)]
  | 4, _ =>
    have e : ((4 : Nat) : Int) = 4 := rfl
    rw [e] at hv ⊢
    by_cases hh : v < clsE c 4
    · rw [if_pos hh, if_pos (by omega)]
    · rw [if_neg hh, if_neg (by omega), if_neg (by omega), if_neg (by omega), if_neg (by omega), if_neg (by omega)]

theorem same_next {c : Cfg} (h : OkC c) (m : Nat) (hm : (m : Int) = nodesN c) (a : Int) (h1 : 1 ≤ a) (h2 : a ≤ nodesN c) (hm1 : 1 ≤ m) : firstV c ⟨17, a, 0⟩ = (lowTo (pR c 17 a) m (m - 1) : Int) := by
  have kv := kindV_cases h a
  have hk0 : 0 ≤ kindV c a ∧ kindV c a < 5 := by omega
  obtain ⟨k, hk⟩ : ∃ k : Nat, kindV c a = (k : Int) := ⟨(kindV c a).toNat, by omega⟩
  have hk5 : k < 5 := by omega
  have hcl := cls h k hk5
  have hC : clsN c k = (clsE c k - rF c k + 1).toNat := rfl
  have hE : clsE c k ≤ nodesN c - 1 := by
    have := imin_le (rF c k + rM c k) (nodesN c)
    show imin (rF c k + rM c k) (nodesN c) - 1 ≤ _; omega
  have hp : ∀ v : Nat, (pR c 17 a v = true ↔ (a < (v : Int) ∧ kindV c v = k)) := fun v => by
    simp [pR, hk]
  have hb := cls_out h k hk5
  have hfa : rF c k ≤ a := cls_low h k hk5 a hk
  have hL : IsLow (pR c 17 a) m 1 (if a < clsE c k then (a + 1).toNat else 0) := by
    by_cases h0 : a < clsE c k
    · rw [if_pos h0]
      have hn := hcl.node (a + 1 - rF c k).toNat (by omega)
      rw [show rF c k + (((a + 1 - rF c k).toNat : Nat) : Int) = a + 1 by omega] at hn
      refine .inr ⟨by omega, by omega, ?_, fun v h3 h4 => ?_⟩
      · have e : (((a + 1).toNat : Nat) : Int) = a + 1 := by omega
        rw [hp, e]; exact ⟨by omega, hn.1⟩
      · by_cases hq : pR c 17 a v = true
        · have := (hp v).1 hq
          omega
        · simpa using hq
    · rw [if_neg h0]
      refine .inl ⟨rfl, fun v h3 h4 => ?_⟩
      by_cases hq : pR c 17 a v = true
      · have e := (hp v).1 hq
        have := hb v e.2 (by omega)
        omega
      · simpa using hq
  have hl := low_uniq (low_spec (pR c 17 a) m (m - 1) (by omega)) (by rw [show m - (m - 1) = 1 by omega]; exact hL)
  rw [hl, fv_in h k hk5 a hk]
  split
  · omega
  · rfl

theorem mem_norm {s : Sh} {t : Th} (h : t ∈ things s) : Norm t := by
  have nk : ∀ k a b : Int, 6 ≤ k → k ≤ 18 → (k = 10 ∨ k = 13 ∨ k = 18 ∨ b = 0) → Norm ⟨k, a, b⟩ := fun k a b h6 h18 hb =>
    ⟨by show 0 ≤ k; omega, by show k ≤ 18; omega, fun e => by have e2 : k ≤ 5 := e; omega, fun e1 e2 e3 => by have q1 : k ≠ 10 := e1; have q2 : k ≠ 13 := e2; have q3 : k ≠ 18 := e3; show b = 0; omega⟩
  have hm : ∀ D n, t ∈ marksTo D n → Norm t := by
    intro D n
    induction n with
    | zero => intro h; simp [marksTo] at h
    | succ n ih =>
      intro h
      rw [marksTo, List.mem_append] at h
      rcases h with h | h
      · exact ih h
      · simp [mark1, entries] at h
        rcases h with rfl | rfl | ⟨j, _, rfl⟩ <;> exact nk _ _ _ (by decide) (by decide) (by simp)
  have hp : ∀ n, t ∈ packsTo n → Norm t := by
    intro n
    induction n with
    | zero => intro h; simp [packsTo] at h
    | succ n ih =>
      intro h
      rw [packsTo, List.mem_append] at h
      rcases h with h | h
      · exact ih h
      · simp [pack1, tasks] at h
        rcases h with rfl | rfl | ⟨j, _, rfl⟩ <;> exact nk _ _ _ (by decide) (by decide) (by simp)
  have hv : ∀ r n, t ∈ nodesTo r n → Norm t := by
    intro r n
    induction n with
    | zero => intro h; simp [nodesTo] at h
    | succ n ih =>
      intro h
      rw [nodesTo, List.mem_append] at h
      rcases h with h | h
      · exact ih h
      · simp [node1, slots] at h
        rcases h with rfl | rfl | rfl | rfl | ⟨j, _, rfl⟩ <;> exact nk _ _ _ (by decide) (by decide) (by simp)
  unfold things at h
  simp only [List.mem_append] at h
  rcases h with ((((h | h) | h) | h) | h) | h
  · simp [singles] at h; obtain ⟨j, hj, rfl⟩ := h
    exact ⟨by show (0 : Int) ≤ (j : Int); omega, by show (j : Int) ≤ 18; omega, fun _ => rfl, fun _ _ _ => rfl⟩
  · simp [acks] at h; obtain ⟨j, hj, rfl⟩ := h; exact nk _ _ _ (by decide) (by decide) (by simp)
  · simp [heads] at h; obtain ⟨j, hj, rfl⟩ := h; exact nk _ _ _ (by decide) (by decide) (by simp)
  · exact hm _ _ h
  · exact hp _ h
  · exact hv _ _ h
theorem gt_in {l : List Th} {k : Nat} (h : k < l.length) : gt l k ∈ l := by
  simp only [gt, List.getD, List.getElem?_eq_getElem h, Option.getD_some]; exact List.getElem_mem h

theorem norm_b {k a b : Int} (hn : Norm ⟨k, a, b⟩) (h : k ≠ 10 ∧ k ≠ 13 ∧ k ≠ 18) : b = 0 := hn.2.2.2 h.1 h.2.1 h.2.2
theorem norm_a {k a b : Int} (hn : Norm ⟨k, a, b⟩) (h : k ≤ 5) : a = 0 := hn.2.2.1 h
/-- The words are the same, thing by thing. -/
theorem same_all {c : Cfg} (h : OkC c) (i : Nat) (hi : i < (things (shOf c)).length) : firstV c (gt (things (shOf c)) i) = refW c (gt (things (shOf c)) i) := by
  have hn := mem_norm (gt_in hi)
  have hp := thing_plc hi
  obtain ⟨t, ht⟩ : ∃ t, gt (things (shOf c)) i = t := ⟨_, rfl⟩
  rw [ht] at hn hp ⊢
  obtain ⟨m, hm⟩ : ∃ m, m = (ksOf c).length := ⟨_, rfl⟩
  have hmn : (m : Int) = nodesN c := by rw [hm]; exact ks_len h
  have hm1 : 1 ≤ m := by have := (bds h).n0; omega
  unfold refW
  rw [← hm]
  obtain ⟨x, y, z⟩ := t
  have hno : x ≠ 7 → x ≠ 17 → lowR c m x y (m - 1) = baseR c m x y := fun h7 h17 => by
    unfold lowR
    rw [low_none _ m (fun v _ _ => pR_no c x y v h7 h17) _ (by omega)]; simp
  have hl := shr_len h
  by_cases h7 : x = 7
  · subst h7
    have hz : z = 0 := norm_b hn (by decide)
    subst hz
    have hy : 0 ≤ y ∧ y < 5 := by
      apply Classical.byContradiction; intro hh
      simp only [plc] at hp; simp [hh] at hp
    obtain ⟨k, hk⟩ : ∃ k : Nat, y = (k : Int) := ⟨y.toNat, by omega⟩
    subst hk
    rw [same_head h m hmn k (by omega) hm1]
    show _ = lowR c m 7 k (m - 1)
    unfold lowR
    by_cases h0 : lowTo (pR c 7 k) m (m - 1) = 0
    · rw [if_pos h0, h0]; simp [baseR]
    · rw [if_neg h0]
  by_cases h17 : x = 17
  · subst h17
    have hz : z = 0 := norm_b hn (by decide)
    subst hz
    have hy : 1 ≤ y ∧ y ≤ nodesN c := by
      apply Classical.byContradiction; intro hh
      simp only [plc, hl] at hp; simp [hh] at hp
    rw [same_next h m hmn y hy.1 hy.2 hm1]
    show _ = lowR c m 17 y (m - 1)
    unfold lowR
    by_cases h0 : lowTo (pR c 17 y) m (m - 1) = 0
    · rw [if_pos h0, h0]; simp [baseR]
    · rw [if_neg h0]
  show firstV c ⟨x, y, z⟩ = lowR c m x y (m - 1)
  rw [hno h7 h17]
  by_cases h5 : x = 5
  · subst h5
    have hy : y = 0 := norm_a hn (by decide)
    have hz : z = 0 := norm_b hn (by decide)
    subst hy; subst hz
    rw [fv_spare h]; simp [baseR]
  by_cases h12 : x = 12
  · subst h12
    have hz : z = 0 := norm_b hn (by decide)
    subst hz
    have hy : 1 ≤ y := by
      apply Classical.byContradiction; intro hh
      simp only [plc] at hp; simp [hh] at hp
    rw [fv_link h y hy]; simp [baseR]
  by_cases h14 : x = 14
  · subst h14
    have hz : z = 0 := norm_b hn (by decide)
    subst hz
    rw [fv_header h]; simp [baseR, hmn]
  by_cases h15 : x = 15
  · subst h15
    have hz : z = 0 := norm_b hn (by decide)
    subst hz
    rw [fv_state h]; simp [baseR, hmn]
  rw [fv_rest _ ⟨h5, h7, h12, h14, h15, h17⟩]
  simp [baseR, h5, h12, h14, h15]
end Go.Proofs.Ytkbfdcfgpmohkaa
