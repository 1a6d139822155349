
import Derived.WalkKit
namespace Go.Proofs.YthoiaffeenhfgaaGreat.Lay
structure Th where
  k : Int
  a : Int
  b : Int
theorem Th.ext' {x y : Th} (h1 : x.k = y.k) (h2 : x.a = y.a) (h3 : x.b = y.b) : x = y := by
  cases x; cases y; simp only at h1 h2 h3; subst h1; subst h2; subst h3; rfl
abbrev gt (l : List Th) (i : Nat) : Th := l.getD i ⟨0, 0, 0⟩
structure Sh where
  U : Nat
  M : Nat
  D : Nat
  P : Nat
  r : List Nat
def off (r : List Nat) : Nat → Nat
  | 0 => 0
  | v + 1 => off r v + (4 + r.getD v 0)
def b1 (c : Sh) : Nat := 11 + c.U
def b2 (c : Sh) : Nat := b1 c + c.M * (c.D + 2)
def b3 (c : Sh) : Nat := b2 c + c.P * 6
def lenL (c : Sh) : Nat := b3 c + off c.r c.r.length
def plc (c : Sh) (t : Th) : Int :=
  if t.k < 0 then -1
  else if t.k ≤ 5 then t.k
  else if t.k = 6 then (if 0 ≤ t.a ∧ t.a < c.U then 6 + t.a else -1)
  else if t.k = 7 then (if 0 ≤ t.a ∧ t.a < 5 then 6 + c.U + t.a else -1)
  else if t.k = 8 then (if 0 ≤ t.a ∧ t.a < c.M then b1 c + t.a * (c.D + 2) else -1)
  else if t.k = 9 then (if 0 ≤ t.a ∧ t.a < c.M then b1 c + t.a * (c.D + 2) + 1 else -1)
  else if t.k = 10 then (if 0 ≤ t.a ∧ t.a < c.M ∧ 0 ≤ t.b ∧ t.b < c.D then b1 c + t.a * (c.D + 2) + 2 + t.b else -1)
  else if t.k = 11 then (if 1 ≤ t.a ∧ t.a ≤ c.P then b2 c + (t.a - 1) * 6 else -1)
  else if t.k = 12 then (if 1 ≤ t.a ∧ t.a ≤ c.P then b2 c + (t.a - 1) * 6 + 1 else -1)
  else if t.k = 13 then (if 1 ≤ t.a ∧ t.a ≤ c.P ∧ 0 ≤ t.b ∧ t.b < 4 then b2 c + (t.a - 1) * 6 + 2 + t.b else -1)
  else if t.k ≤ 17 then (if 1 ≤ t.a ∧ t.a ≤ c.r.length then b3 c + off c.r (t.a - 1).toNat + (t.k - 14) else -1)
  else if t.k = 18 then (if 1 ≤ t.a ∧ t.a ≤ c.r.length ∧ 0 ≤ t.b ∧ t.b < c.r.getD (t.a - 1).toNat 0 then b3 c + off c.r (t.a - 1).toNat + 4 + t.b else -1)
  else -1
def singles : List Th := (List.range 6).map fun k : Nat => ⟨k, 0, 0⟩
def acks (n : Nat) : List Th := (List.range n).map fun i : Nat => ⟨6, i, 0⟩
def heads (n : Nat) : List Th := (List.range n).map fun i : Nat => ⟨7, i, 0⟩
def entries (i : Nat) (n : Nat) : List Th := (List.range n).map fun j : Nat => ⟨10, i, j⟩
def tasks (p : Nat) (n : Nat) : List Th := (List.range n).map fun j : Nat => ⟨13, p, j⟩
def slots (v : Nat) (n : Nat) : List Th := (List.range n).map fun j : Nat => ⟨18, v, j⟩
def mark1 (D i : Nat) : List Th := [⟨8, i, 0⟩, ⟨9, i, 0⟩] ++ entries i D
def pack1 (p : Nat) : List Th := [⟨11, p, 0⟩, ⟨12, p, 0⟩] ++ tasks p 4
def node1 (r : List Nat) (v : Nat) : List Th := [⟨14, v, 0⟩, ⟨15, v, 0⟩, ⟨16, v, 0⟩, ⟨17, v, 0⟩] ++ slots v (r.getD (v - 1) 0)
def marksTo (D : Nat) : Nat → List Th
  | 0 => []
  | n + 1 => marksTo D n ++ mark1 D n
def packsTo : Nat → List Th
  | 0 => []
  | n + 1 => packsTo n ++ pack1 (n + 1)
def nodesTo (r : List Nat) : Nat → List Th
  | 0 => []
  | n + 1 => nodesTo r n ++ node1 r (n + 1)
def things (c : Sh) : List Th := singles ++ acks c.U ++ heads 5 ++ marksTo c.D c.M ++ packsTo c.P ++ nodesTo c.r c.r.length
def Seg (c : Sh) (l : List Th) (s : Nat) : Prop := ∀ i, i < l.length → plc c (gt l i) = ((s + i : Nat) : Int)
theorem seg_nil (c : Sh) (s : Nat) : Seg c [] s := fun i h => by simp at h
theorem gt_l {l m : List Th} {i : Nat} (h : i < l.length) : gt (l ++ m) i = gt l i := by simp [gt, List.getD, List.getElem?_append_left h]
theorem gt_r {l m : List Th} {i : Nat} (h : l.length ≤ i) : gt (l ++ m) i = gt m (i - l.length) := by simp [gt, List.getD, List.getElem?_append_right h]
theorem seg_app {c : Sh} {l m : List Th} {s e : Nat} (h : Seg c l s) (k : Seg c m e) (he : e = s + l.length) : Seg c (l ++ m) s := fun i hi => by
  rw [List.length_append] at hi
  by_cases h1 : i < l.length
  · rw [gt_l h1]; exact h i h1
  · rw [gt_r (by omega), k _ (by omega)]; omega
theorem seg_map {c : Sh} {n s : Nat} {f : Nat → Th} (h : ∀ i, i < n → plc c (f i) = ((s + i : Nat) : Int)) : Seg c ((List.range n).map f) s := fun i hi => by
  have hn : i < n := by simpa using hi
  have e : gt ((List.range n).map f) i = f i := by simp [gt, List.getD, hn]
  rw [e]; exact h i hn
theorem seg_cons {c : Sh} {t : Th} {l : List Th} {s : Nat} (h : plc c t = (s : Int)) (k : Seg c l (s + 1)) : Seg c (t :: l) s := fun i hi => by
  match i, hi with
  | 0, _ => exact h
  | i + 1, hi =>
    have := k i (by simpa using hi)
    show plc c (gt l i) = _
    rw [this]; omega
theorem marks_len (D n : Nat) : (marksTo D n).length = n * (D + 2) := by
  induction n with
  | zero => simp [marksTo]
  | succ n ih => simp [marksTo, mark1, entries, ih, Nat.succ_mul]
theorem packs_len (n : Nat) : (packsTo n).length = n * 6 := by
  induction n with
  | zero => simp [packsTo]
  | succ n ih => simp [packsTo, pack1, tasks, ih]; omega
theorem nodes_len (r : List Nat) (n : Nat) : (nodesTo r n).length = off r n := by
  induction n with
  | zero => simp [nodesTo, off]
  | succ n ih => simp [nodesTo, node1, slots, off, ih]; omega
theorem things_len (c : Sh) : (things c).length = lenL c := by
  unfold things lenL b3 b2 b1
  simp only [List.length_append, marks_len, packs_len, nodes_len]
  simp [singles, acks, heads]
  omega
theorem seg_marks (c : Sh) : ∀ n, n ≤ c.M → Seg c (marksTo c.D n) (b1 c)
  | 0, _ => seg_nil _ _
  | n + 1, h => by
    refine seg_app (seg_marks c n (by omega)) (e := b1 c + n * (c.D + 2)) ?_ (by rw [marks_len])
    refine seg_cons ?_ (seg_cons ?_ (seg_map fun j hj => ?_))
    · unfold plc; simp; omega
    · unfold plc; simp; omega
    · unfold plc; simp; omega
theorem seg_packs (c : Sh) : ∀ n, n ≤ c.P → Seg c (packsTo n) (b2 c)
  | 0, _ => seg_nil _ _
  | n + 1, h => by
    refine seg_app (seg_packs c n (by omega)) (e := b2 c + n * 6) ?_ (by rw [packs_len])
    refine seg_cons ?_ (seg_cons ?_ (seg_map fun j hj => ?_))
    · unfold plc; simp; omega
    · unfold plc; simp; omega
    · unfold plc; simp; omega
theorem seg_nodes (c : Sh) : ∀ n, n ≤ c.r.length → Seg c (nodesTo c.r n) (b3 c)
  | 0, _ => seg_nil _ _
  | n + 1, h => by
    refine seg_app (seg_nodes c n (by omega)) (e := b3 c + off c.r n) ?_ (by rw [nodes_len])
    refine seg_cons ?_ (seg_cons ?_ (seg_cons ?_ (seg_cons ?_ (seg_map fun j hj => ?_))))
    · unfold plc; simp; omega
    · unfold plc; simp; omega
    · unfold plc; simp; omega
    · unfold plc; simp; omega
    · unfold plc; simp at hj ⊢; omega
theorem seg_all (c : Sh) : Seg c (things c) 0 := by
  have s0 : Seg c singles 0 := seg_map fun i hi => by unfold plc; simp; omega
  have s1 : Seg c (acks c.U) 6 := seg_map fun i hi => by unfold plc; simp; omega
  have s2 : Seg c (heads 5) (6 + c.U) := seg_map fun i hi => by unfold plc; simp; omega
  have l0 : singles.length = 6 := rfl
  have l1 : (acks c.U).length = c.U := by simp [acks]
  have l2 : (heads 5).length = 5 := rfl
  refine seg_app (e := b3 c) (seg_app (e := b2 c) (seg_app (e := b1 c) (seg_app (e := 6 + c.U) (seg_app (e := 6) s0 s1 ?_) s2 ?_) (seg_marks c c.M (Nat.le_refl _)) ?_) (seg_packs c c.P (Nat.le_refl _)) ?_) (seg_nodes c c.r.length (Nat.le_refl _)) ?_
  all_goals simp only [List.length_append, marks_len, packs_len, l0, l1, l2, b3, b2, b1]
  all_goals omega
theorem mem_marks (D : Nat) (t : Th) : ∀ n i, i < n → t ∈ mark1 D i → t ∈ marksTo D n
  | n + 1, i, h, ht => by
    rw [marksTo, List.mem_append]
    by_cases e : i = n
    · subst e; exact .inr ht
    · exact .inl (mem_marks D t n i (by omega) ht)
theorem mem_packs (t : Th) : ∀ n i, 1 ≤ i → i ≤ n → t ∈ pack1 i → t ∈ packsTo n
  | 0, i, h1, h, _ => by omega
  | n + 1, i, h1, h, ht => by
    rw [packsTo, List.mem_append]
    by_cases e : i = n + 1
    · subst e; exact .inr ht
    · exact .inl (mem_packs t n i h1 (by omega) ht)
theorem mem_nodes (r : List Nat) (t : Th) : ∀ n i, 1 ≤ i → i ≤ n → t ∈ node1 r i → t ∈ nodesTo r n
  | 0, i, h1, h, _ => by omega
  | n + 1, i, h1, h, ht => by
    rw [nodesTo, List.mem_append]
    by_cases e : i = n + 1
    · subst e; exact .inr ht
    · exact .inl (mem_nodes r t n i h1 (by omega) ht)
def Norm (t : Th) : Prop := 0 ≤ t.k ∧ t.k ≤ 18 ∧ (t.k ≤ 5 → t.a = 0) ∧ (t.k ≠ 10 → t.k ≠ 13 → t.k ≠ 18 → t.b = 0)
theorem plc_mem (c : Sh) (t : Th) (hn : Norm t) (h : 0 ≤ plc c t) : t ∈ things c := by
  obtain ⟨k, a, b⟩ := t
  obtain ⟨h0, h18, ha, hb⟩ := hn
  simp only at h0 h18 ha hb
  have key : ∀ {l : List Th}, l ∈ [singles, acks c.U, heads 5, marksTo c.D c.M, packsTo c.P, nodesTo c.r c.r.length] → (⟨k, a, b⟩ : Th) ∈ l → (⟨k, a, b⟩ : Th) ∈ things c := by
    intro l hl ht
    simp only [List.mem_cons, List.not_mem_nil, or_false] at hl
    unfold things
    simp only [List.mem_append]
    rcases hl with rfl | rfl | rfl | rfl | rfl | rfl
    · exact .inl (.inl (.inl (.inl (.inl ht))))
    · exact .inl (.inl (.inl (.inl (.inr ht))))
    · exact .inl (.inl (.inl (.inr ht)))
    · exact .inl (.inl (.inr ht))
    · exact .inl (.inr ht)
    · exact .inr ht
  have cases_k : k ≤ 5 ∨ k = 6 ∨ k = 7 ∨ k = 8 ∨ k = 9 ∨ k = 10 ∨ k = 11 ∨ k = 12 ∨ k = 13 ∨ k = 14 ∨ k = 15 ∨ k = 16 ∨ k = 17 ∨ k = 18 := by omega
  unfold plc at h
  simp only at h
  rcases cases_k with h5 | rfl | rfl | rfl | rfl | rfl | rfl | rfl | rfl | rfl | rfl | rfl | rfl | rfl
  · obtain rfl : a = 0 := ha h5
    obtain rfl : b = 0 := hb (by omega) (by omega) (by omega)
    refine key (l := singles) (by simp) (List.mem_map.2 ⟨k.toNat, List.mem_range.2 (by omega), Th.ext' (by simp; omega) rfl rfl⟩)
  · obtain rfl : b = 0 := hb (by omega) (by omega) (by omega)
    simp at h
    refine key (l := acks c.U) (by simp) (List.mem_map.2 ⟨a.toNat, List.mem_range.2 (by omega), Th.ext' rfl (by simp; omega) rfl⟩)
  · obtain rfl : b = 0 := hb (by omega) (by omega) (by omega)
    simp at h
    refine key (l := heads 5) (by simp) (List.mem_map.2 ⟨a.toNat, List.mem_range.2 (by omega), Th.ext' rfl (by simp; omega) rfl⟩)
  · obtain rfl : b = 0 := hb (by omega) (by omega) (by omega)
    have h1 : 0 ≤ a ∧ a < c.M := by simp at h; split at h <;> omega
    exact key (l := marksTo c.D c.M) (by simp) (mem_marks c.D _ c.M a.toNat (by omega) (by
      refine List.mem_append_left _ ?_
      rw [show (⟨8, a, 0⟩ : Th) = ⟨8, (a.toNat : Int), 0⟩ from Th.ext' rfl (by simp; omega) rfl]; simp))
  · obtain rfl : b = 0 := hb (by omega) (by omega) (by omega)
    have h1 : 0 ≤ a ∧ a < c.M := by simp at h; split at h <;> omega
    exact key (l := marksTo c.D c.M) (by simp) (mem_marks c.D _ c.M a.toNat (by omega) (by
      refine List.mem_append_left _ ?_
      rw [show (⟨9, a, 0⟩ : Th) = ⟨9, (a.toNat : Int), 0⟩ from Th.ext' rfl (by simp; omega) rfl]; simp))
  · have h1 : 0 ≤ a ∧ a < c.M ∧ 0 ≤ b ∧ b < c.D := by simp at h; split at h <;> omega
    exact key (l := marksTo c.D c.M) (by simp) (mem_marks c.D _ c.M a.toNat (by omega) (by
      refine List.mem_append_right _ (List.mem_map.2 ⟨b.toNat, List.mem_range.2 (by omega), Th.ext' rfl (by simp; omega) (by simp; omega)⟩)))
  · obtain rfl : b = 0 := hb (by omega) (by omega) (by omega)
    have h1 : 1 ≤ a ∧ a ≤ c.P := by simp at h; split at h <;> omega
    exact key (l := packsTo c.P) (by simp) (mem_packs _ c.P a.toNat (by omega) (by omega) (by
      refine List.mem_append_left _ ?_
      rw [show (⟨11, a, 0⟩ : Th) = ⟨11, (a.toNat : Int), 0⟩ from Th.ext' rfl (by simp; omega) rfl]; simp))
  · obtain rfl : b = 0 := hb (by omega) (by omega) (by omega)
    have h1 : 1 ≤ a ∧ a ≤ c.P := by simp at h; split at h <;> omega
    exact key (l := packsTo c.P) (by simp) (mem_packs _ c.P a.toNat (by omega) (by omega) (by
      refine List.mem_append_left _ ?_
      rw [show (⟨12, a, 0⟩ : Th) = ⟨12, (a.toNat : Int), 0⟩ from Th.ext' rfl (by simp; omega) rfl]; simp))
  · have h1 : 1 ≤ a ∧ a ≤ c.P ∧ 0 ≤ b ∧ b < 4 := by simp at h; split at h <;> omega
    exact key (l := packsTo c.P) (by simp) (mem_packs _ c.P a.toNat (by omega) (by omega) (by
      refine List.mem_append_right _ (List.mem_map.2 ⟨b.toNat, List.mem_range.2 (by omega), Th.ext' rfl (by simp; omega) (by simp; omega)⟩)))
  · obtain rfl : b = 0 := hb (by omega) (by omega) (by omega)
    have h1 : 1 ≤ a ∧ a ≤ c.r.length := by simp at h; split at h <;> omega
    have e : a = (a.toNat : Int) := by omega
    refine key (l := nodesTo c.r c.r.length) (by simp) (mem_nodes c.r _ c.r.length a.toNat (by omega) (by omega) (List.mem_append_left _ ?_))
    rw [← e]; simp
  · obtain rfl : b = 0 := hb (by omega) (by omega) (by omega)
    have h1 : 1 ≤ a ∧ a ≤ c.r.length := by simp at h; split at h <;> omega
    have e : a = (a.toNat : Int) := by omega
    refine key (l := nodesTo c.r c.r.length) (by simp) (mem_nodes c.r _ c.r.length a.toNat (by omega) (by omega) (List.mem_append_left _ ?_))
    rw [← e]; simp
  · obtain rfl : b = 0 := hb (by omega) (by omega) (by omega)
    have h1 : 1 ≤ a ∧ a ≤ c.r.length := by simp at h; split at h <;> omega
    have e : a = (a.toNat : Int) := by omega
    refine key (l := nodesTo c.r c.r.length) (by simp) (mem_nodes c.r _ c.r.length a.toNat (by omega) (by omega) (List.mem_append_left _ ?_))
    rw [← e]; simp
  · obtain rfl : b = 0 := hb (by omega) (by omega) (by omega)
    have h1 : 1 ≤ a ∧ a ≤ c.r.length := by simp at h; split at h <;> omega
    have e : a = (a.toNat : Int) := by omega
    refine key (l := nodesTo c.r c.r.length) (by simp) (mem_nodes c.r _ c.r.length a.toNat (by omega) (by omega) (List.mem_append_left _ ?_))
    rw [← e]; simp
  · have h1 : 1 ≤ a ∧ a ≤ c.r.length ∧ 0 ≤ b ∧ b < c.r.getD (a - 1).toNat 0 := by
      simp only [show ¬ ((18 : Int) < 0) by omega, show ¬ ((18 : Int) ≤ 5) by omega, show ¬ ((18 : Int) ≤ 17) by omega, show ¬ ((18 : Int) = 6) by omega, show ¬ ((18 : Int) = 7) by omega, show ¬ ((18 : Int) = 8) by omega, show ¬ ((18 : Int) = 9) by omega, show ¬ ((18 : Int) = 10) by omega, show ¬ ((18 : Int) = 11) by omega, show ¬ ((18 : Int) = 12) by omega, show ¬ ((18 : Int) = 13) by omega, if_false, if_true] at h
      split at h
      · assumption
      · omega
    refine key (l := nodesTo c.r c.r.length) (by simp) (mem_nodes c.r _ c.r.length a.toNat (by omega) (by omega) (List.mem_append_right _ (List.mem_map.2 ⟨b.toNat, List.mem_range.2 ?_, Th.ext' rfl (by simp; omega) (by simp; omega)⟩)))
    have e : a.toNat - 1 = (a - 1).toNat := by omega
    rw [e]; omega
theorem plc_lo (c : Sh) (t : Th) : -1 ≤ plc c t := by
  have hm : 0 ≤ t.a → 0 ≤ t.a * ((c.D : Int) + 2) := fun h => Int.mul_nonneg h (by omega)
  unfold plc
  generalize t.a * ((c.D : Int) + 2) = q at hm ⊢
  by_cases h0 : t.k < 0
  · rw [if_pos h0]; omega
  rw [if_neg h0]
  by_cases h1 : t.k ≤ 5
  · rw [if_pos h1]; omega
  rw [if_neg h1]
  by_cases h2 : t.k = 6
  · rw [if_pos h2]
    by_cases g : 0 ≤ t.a ∧ t.a < (c.U : Int)
    · rw [if_pos g]; omega
    · rw [if_neg g]; omega
  rw [if_neg h2]
  by_cases h3 : t.k = 7
  · rw [if_pos h3]
    by_cases g : 0 ≤ t.a ∧ t.a < 5
    · rw [if_pos g]; omega
    · rw [if_neg g]; omega
  rw [if_neg h3]
  by_cases h4 : t.k = 8
  · rw [if_pos h4]
    by_cases g : 0 ≤ t.a ∧ t.a < (c.M : Int)
    · rw [if_pos g]; omega
    · rw [if_neg g]; omega
  rw [if_neg h4]
  by_cases h5 : t.k = 9
  · rw [if_pos h5]
    by_cases g : 0 ≤ t.a ∧ t.a < (c.M : Int)
    · rw [if_pos g]; omega
    · rw [if_neg g]; omega
  rw [if_neg h5]
  by_cases h6 : t.k = 10
  · rw [if_pos h6]
    by_cases g : 0 ≤ t.a ∧ t.a < (c.M : Int) ∧ 0 ≤ t.b ∧ t.b < (c.D : Int)
    · rw [if_pos g]; omega
    · rw [if_neg g]; omega
  rw [if_neg h6]
  by_cases h7 : t.k = 11
  · rw [if_pos h7]
    by_cases g : 1 ≤ t.a ∧ t.a ≤ (c.P : Int)
    · rw [if_pos g]; omega
    · rw [if_neg g]; omega
  rw [if_neg h7]
  by_cases h8 : t.k = 12
  · rw [if_pos h8]
    by_cases g : 1 ≤ t.a ∧ t.a ≤ (c.P : Int)
    · rw [if_pos g]; omega
    · rw [if_neg g]; omega
  rw [if_neg h8]
  by_cases h9 : t.k = 13
  · rw [if_pos h9]
    by_cases g : 1 ≤ t.a ∧ t.a ≤ (c.P : Int) ∧ 0 ≤ t.b ∧ t.b < 4
    · rw [if_pos g]; omega
    · rw [if_neg g]; omega
  rw [if_neg h9]
  by_cases h10 : t.k ≤ 17
  · rw [if_pos h10]
    by_cases g : 1 ≤ t.a ∧ t.a ≤ (c.r.length : Int)
    · rw [if_pos g]; omega
    · rw [if_neg g]; omega
  rw [if_neg h10]
  by_cases h11 : t.k = 18
  · rw [if_pos h11]
    by_cases g : 1 ≤ t.a ∧ t.a ≤ (c.r.length : Int) ∧ 0 ≤ t.b ∧ t.b < (c.r.getD (t.a - 1).toNat 0 : Int)
    · rw [if_pos g]; omega
    · rw [if_neg g]; omega
  rw [if_neg h11]
  omega
theorem plc_spec (c : Sh) (t : Th) (hn : Norm t) :
    (plc c t = -1 ∧ ∀ i, i < (things c).length → gt (things c) i ≠ t) ∨
    ∃ i, i < (things c).length ∧ plc c t = (i : Int) ∧ gt (things c) i = t ∧ ∀ j, j < (things c).length → gt (things c) j = t → j = i := by
  by_cases h : 0 ≤ plc c t
  · right
    obtain ⟨i, hi, e⟩ := List.getElem_of_mem (plc_mem c t hn h)
    have e2 : gt (things c) i = t := by simp [gt, List.getD, List.getElem?_eq_getElem hi, e]
    have e3 := seg_all c i hi
    rw [e2] at e3
    refine ⟨i, hi, by rw [e3]; omega, e2, fun j hj e4 => ?_⟩
    have e5 := seg_all c j hj
    rw [e4, e3] at e5
    omega
  · left
    have := plc_lo c t
    refine ⟨by omega, fun i hi e => ?_⟩
    have e3 := seg_all c i hi
    rw [e] at e3
    omega
end Go.Proofs.YthoiaffeenhfgaaGreat.Lay
