/- The program's graph in memory: its block, the roots' and the nodes' blocks, whose each one is; a list that grows. -/
import Derived.Test.YtjnkcomedcbenaaGSame
namespace Go.Proofs.Ytjnkcomedcbenaa
open Go.RowKit
set_option linter.unusedVariables false

abbrev ptr (S : Nat) : Value := .pointer (some ⟨S, 0, none⟩)
/-- All blocks but these are as they were. -/
structure UpdF (F : Nat → Prop) (w w' : World) : Prop where
  os : w'.os = w.os
  tape : w'.tape = w.tape
  output : w'.output = w.output
  size : w.heap.size ≤ w'.heap.size
  block : ∀ k, k < w.heap.size → ¬ F k → w'.heap[k]? = w.heap[k]?

/-- Whose a block is: none's, the graph's own, the roots', the nodes', the first roots', a node's, a mutator's. -/
inductive Tag
  | out | self | tab | nodes | all | node (v : Nat) | list (m : Nat)

theorem cell_of {w : World} {b : Nat} {cs : Array Value} {T : TypeId} {fz : Nat × Nat} (h : w.heap[b]? = some (.cells cs T fz)) (o : Nat) : w.cell? ⟨b, o, none⟩ = cs[o]? := by
  simp [World.cell?, h]
theorem lt_of {w : World} {b : Nat} {o : Obj} (h : w.heap[b]? = some o) : b < w.heap.size := (Array.getElem?_eq_some_iff.1 h).1
theorem num_get (zs : List Int) (j : Nat) (h : j < zs.length) : (zs.map (Value.int .i64))[j]? = some (.int .i64 (num zs j)) := map_get .i64 zs j h

/-- A node's slots. -/
def LNode (w : World) (t : Nat → Tag) (v : Nat) (u : Value) (zs : List Int) : Prop :=
  ∃ b, u = .slice (some ⟨b, 0, none⟩) zs.length zs.length ∧ t b = .node v ∧ w.heap[b]? = some (.cells (zs.map (Value.int .i64)).toArray 3 (0, 0)) ∧ zs.length ≤ 64
/-- A mutator's roots: a row of its own, or its place among the first roots. -/
def LList (w : World) (t : Nat → Tag) (m : Nat) (u : Value) (zs : List Int) : Prop :=
  (w.ownsRow 0 3 1 u zs.length (zs.map (Value.int .i64)) ∧ ∀ k, u.ownBlock = some k → t k = .list m) ∨
  (∃ b cur, u = .slice (some ⟨b, m, none⟩) zs.length 1 ∧ t b = .all ∧ w.heap[b]? = some (.cells cur 3 (0, 0)) ∧ zs.length ≤ 1 ∧ m < cur.size ∧ ∀ j, j < zs.length → cur[m + j]? = some (.int .i64 (num zs j)))

section
variable {w w' : World} {t t' : Nat → Tag} {v m : Nat} {u : Value} {zs : List Int}
theorem LNode.kept (h : LNode w t v u zs) (hk : ∀ k, k < w.heap.size → t k = .node v → w'.heap[k]? = w.heap[k]? ∧ t' k = t k) : LNode w' t' v u zs := by
  obtain ⟨b, h1, h2, h3, h4⟩ := h
  have e := hk b (lt_of h3) h2
  exact ⟨b, h1, e.2.trans h2, e.1.trans h3, h4⟩
theorem own_same {k : Nat} (h : w.ownsRow 0 3 1 u zs.length (zs.map (Value.int .i64))) (hk : ∀ k, u.ownBlock = some k → w'.heap[k]? = w.heap[k]?) : w'.ownsRow 0 3 1 u zs.length (zs.map (Value.int .i64)) := by
  refine ⟨h.1, ?_⟩
  rcases h.2 with h2 | ⟨g, cap, cur, rfl, h1, h2, h3⟩
  · exact .inl h2
  · exact .inr ⟨g, cap, cur, rfl, h1, (hk g rfl).trans h2, h3⟩
theorem LList.kept (h : LList w t m u zs) (hk : ∀ k, k < w.heap.size → t k = .list m ∨ t k = .all → w'.heap[k]? = w.heap[k]? ∧ t' k = t k) : LList w' t' m u zs := by
  rcases h with ⟨h1, h2⟩ | ⟨b, cur, h1, h2, h3, h4⟩
  · refine .inl ⟨own_same (k := 0) h1 fun k e => (hk k (h1.lt k e).2 (.inl (h2 k e))).1, fun k e => (hk k (h1.lt k e).2 (.inl (h2 k e))).2.trans (h2 k e)⟩
  · have e := hk b (lt_of h3) (.inr h2)
    exact .inr ⟨b, cur, h1, e.2.trans h2, e.1.trans h3, h4⟩
theorem LNode.rowV (h : LNode w t v u zs) : RowV (fun k => t k = .node v) w u zs := by
  obtain ⟨b, h1, h2, h3, h4⟩ := h
  refine ⟨_, _, h1, fun h0 => ⟨b, 0, rfl, ⟨lt_of h3, h2⟩, fun j hj => ?_⟩, Nat.le_refl _, by unfold maxLen; omega, fun e => by cases e⟩
  rw [Nat.zero_add, cell_of h3]
  simpa using map_get .i64 zs j hj
theorem LList.rowV (h : LList w t m u zs) : RowV (fun k => t k = .list m ∨ t k = .all) w u zs := by
  rcases h with ⟨h1, h2⟩ | ⟨b, cur, h1, h2, h3, h4, h5, h6⟩
  · have hlt := h1.lt
    rcases id h1.2 with ⟨rfl, h0⟩ | ⟨g, cap, cur, rfl, hb, hg, hn, hc, hs, ht⟩
    · have : zs = [] := List.eq_nil_of_length_eq_zero h0
      subst this
      exact RowV.nil _ _
    · refine ⟨_, cap, rfl, fun h0 => ⟨g, 0, rfl, ⟨lt_of hg, .inl (h2 g rfl)⟩, fun j hj => ?_⟩, hn, hc, fun e => by cases e⟩
      rw [Nat.zero_add, h1.cellAt j (by omega)]
      exact map_get .i64 zs j hj
  · refine ⟨_, 1, h1, fun h0 => ⟨b, m, rfl, ⟨lt_of h3, .inr h2⟩, fun j hj => ?_⟩, h4, by unfold maxLen; omega, fun e => by cases e⟩
    rw [cell_of h3, h6 j hj]; rfl
theorem LList.one (h : LList w t m u zs) : u.oneCell' = true := h.rowV.one
theorem LNode.one (h : LNode w t v u zs) : u.oneCell' = true := h.rowV.one
end

/-- What an append to a mutator's roots leaves. -/
structure App (t t' : Nat → Tag) (m : Nat) (w w' : World) : Prop where
  os : w'.os = w.os
  tape : w'.tape = w.tape
  output : w'.output = w.output
  size : w.heap.size ≤ w'.heap.size
  old : ∀ k, k < w.heap.size → t' k = t k
  new : ∀ k, t k = .out → t' k ≠ .out → w.heap.size ≤ k ∧ k < w'.heap.size
  keep : ∀ k, k < w.heap.size → t k ≠ .list m → t k ≠ .all → w'.heap[k]? = w.heap[k]?
  oth : ∀ m2 u2 zs2, m2 ≠ m → LList w t m2 u2 zs2 → LList w' t' m2 u2 zs2

theorem app_list (w : World) (t : Nat → Tag) (m : Nat) (u : Value) (zs : List Int) (h : LList w t m u zs) (low : ∀ k, t k ≠ .out → k < w.heap.size) (x : Int) (a : Addr) (c ty : Nat) (hsrc : w.cell? (a.add 0) = some (.int .i64 x)) (hl : zs.length ≤ 1000) :
    ∃ u' w' t', (Builtin.append_ #[43, 43] ty #[u, .slice (some a) 1 c]).run Try.prog w = .ok u' w' ∧ LList w' t' m u' (zs ++ [x]) ∧ App t t' m w w' := by
  obtain ⟨i0, hi0, hz0, hz1, hz2⟩ := info_parts info3
  have hnews : ∀ j v, [Value.int .i64 x][j]? = some v → w.cell? (a.add j) = some v := fun j v hj => by
    match j, hj with
    | 0, hj => cases hj; exact hsrc
  rcases h with ⟨h1, h2⟩ | ⟨b, cur, h1, h2, h3, h4, h5, h6⟩
  · obtain ⟨v', w', hr, ho, hg, -, hat⟩ := run_append_own_at (P := Try.prog) w 0 43 ty 3 i0 (.int .i64 0) 1 8 Try.underlying43 hi0 hz0 hz1 hz2 rfl (by decide) u zs.length _ h1 a 1 c [.int .i64 x] rfl hnews (fun v hv => by simp at hv; subst hv; rfl) (by unfold maxLen; omega) (by omega) (Nat.zero_le _)
    have hold : ∀ k, k < w.heap.size → v'.ownBlock = some k → t k = .list m := fun k hk e => by
      rcases hat with h | h
      · exact h2 k (h ▸ e)
      · rw [h] at e; cases e; omega
    refine ⟨v', w', fun k => if v'.ownBlock = some k then .list m else t k, hr, .inl ⟨by simpa using ho, fun k e => by simp [e]⟩, ⟨hg.os, hg.tape, hg.output, hg.size, fun k hk => ?_, fun k h0 h1' => ?_, fun k hk hne hna => hg.block k hk fun e => hne (h2 k e.symm), fun m2 u2 zs2 hne hL => ?_⟩⟩
    · by_cases e : v'.ownBlock = some k
      · simp only [e, if_true]; exact (hold k hk e).symm
      · simp only [e, if_false]
    · by_cases e : v'.ownBlock = some k
      · refine ⟨?_, (ho.lt k e).2⟩
        rcases Nat.lt_or_ge k w.heap.size with h | h
        · rw [hold k h e] at h0; cases h0
        · exact h
      · simp only [e, if_false] at h1'; exact absurd h0 h1'
    · refine hL.kept fun k hk ht => ⟨hg.block k hk fun e => ?_, ?_⟩
      · have := h2 k e.symm
        rw [this] at ht
        rcases ht with ht | ht
        · cases ht; exact hne rfl
        · cases ht
      · by_cases e : v'.ownBlock = some k
        · simp only [e, if_true]; exact (hold k hk e).symm
        · simp only [e, if_false]
  · by_cases hz : zs.length = 0
    · have : zs = [] := List.eq_nil_of_length_eq_zero hz
      subst this
      subst h1
      have hf := run_firstCells_some (P := Try.prog) w 1 1 a 1 c [.int .i64 x] rfl hnews
      have hst := run_storeCells_at Try.prog b m 3 [.int .i64 x] 0 cur w h3 (by simp; omega) (fun v hv => by simp at hv; subst hv; rfl)
      simp only [Nat.add_zero] at hst
      have hr : (Builtin.append_ #[43, 43] ty #[.slice (some ⟨b, m, none⟩) 0 1, .slice (some a) 1 c]).run Try.prog w = .ok (.slice (some ⟨b, m, none⟩) 1 1) (w.setRow b (cur.toList.take m ++ [Value.int .i64 x] ++ cur.toList.drop (m + 1)).toArray) := by
        have hst' := hst
        simp only [List.length_cons, List.length_nil] at hst'
        simp [Builtin.append_, run_underlying Try.underlying43, sizeOf, typeInfo, hi0, hz1, Builtin.lenOf, hf, Addr.add_lit, hst']
      have hget : ∀ j, j ≠ m → (cur.toList.take m ++ [Value.int .i64 x] ++ cur.toList.drop (m + 1)).toArray[j]? = cur[j]? := fun j hj => by
        have hml : m < cur.toList.length := by simpa using h5
        rw [List.getElem?_toArray, ← Array.getElem?_toList, List.append_assoc]
        rcases Nat.lt_or_ge j m with h | h
        · rw [List.getElem?_append_left (by simp; omega), List.getElem?_take, if_pos h]
        · have hj2 : m < j := by omega
          rw [List.getElem?_append_right (by simp; omega)]
          simp only [List.length_take, Nat.min_eq_left (Nat.le_of_lt hml), List.singleton_append]
          obtain ⟨d, rfl⟩ : ∃ d, j = m + 1 + d := ⟨j - (m + 1), by omega⟩
          rw [show m + 1 + d - m = d + 1 by omega, List.getElem?_cons_succ, List.getElem?_drop]
      have hgm : (cur.toList.take m ++ [Value.int .i64 x] ++ cur.toList.drop (m + 1)).toArray[m]? = some (.int .i64 x) := by
        have hml : m < cur.toList.length := by simpa using h5
        rw [List.getElem?_toArray, List.append_assoc, List.getElem?_append_right (by simp; omega), List.length_take, Nat.min_eq_left (Nat.le_of_lt hml), Nat.sub_self]; rfl
      have hsz : m < (cur.toList.take m ++ [Value.int .i64 x] ++ cur.toList.drop (m + 1)).toArray.size := by
        rcases Nat.lt_or_ge m (cur.toList.take m ++ [Value.int .i64 x] ++ cur.toList.drop (m + 1)).toArray.size with h | h
        · exact h
        · rw [Array.getElem?_eq_none h] at hgm; cases hgm
      obtain ⟨CS, hCS⟩ : ∃ CS, CS = (cur.toList.take m ++ [Value.int .i64 x] ++ cur.toList.drop (m + 1)).toArray := ⟨_, rfl⟩
      rw [← hCS] at hget hgm hsz hr
      have hnew : (w.setRow b CS).heap[b]? = some (.cells CS 3 (0, 0)) := setRow_heap w b cur _ 3 _ h3
      have hsize : w.heap.size ≤ (w.setRow b CS).heap.size := by simp
      refine ⟨_, w.setRow b CS, t, hr, .inr ⟨b, CS, rfl, h2, hnew, Nat.le_refl _, hsz, fun j hj => ?_⟩, ⟨rfl, rfl, rfl, hsize, fun _ _ => rfl, fun k h0 h1' => absurd h0 h1', fun k hk h1' h2' => setRow_other w b k _ (fun e => h2' (e ▸ h2)), fun m2 u2 zs2 hne hL => ?_⟩⟩
      · have : j = 0 := by simpa using hj
        subst this
        exact hgm
      · rcases hL with ⟨l1, l2⟩ | ⟨b2, cur2, l1, l2, l3, l4, l5, l6⟩
        · exact .inl ⟨own_same (k := 0) l1 fun k e => setRow_other w b k _ (fun e2 => by have := l2 k e; rw [e2, h2] at this; cases this), l2⟩
        · by_cases e : b2 = b
          · subst e
            rw [h3] at l3
            cases l3
            refine .inr ⟨b2, CS, l1, l2, hnew, l4, ?_, fun j hj => ?_⟩
            · have e := hget m2 hne
              rw [Array.getElem?_eq_getElem l5] at e
              exact (Array.getElem?_eq_some_iff.1 e).1
            · have : j = 0 := by omega
              subst this
              rw [Nat.add_zero, hget m2 hne]; exact l6 0 hj
          · exact .inr ⟨b2, cur2, l1, l2, (setRow_other w b b2 _ e).trans l3, l4, l5, l6⟩
    · have hz1' : zs.length = 1 := by omega
      have holds : ∀ j v, (zs.map (Value.int .i64))[j]? = some v → w.cell? ((⟨b, m, none⟩ : Addr).add j) = some v := fun j v hj => by
        rcases Nat.lt_or_ge j zs.length with hj' | hj'
        · rw [num_get zs j hj'] at hj
          rw [add_off, cell_of h3, h6 j hj', hj]
        · rw [List.getElem?_eq_none (by simpa using hj')] at hj; cases hj
      have hr := run_append_grow (P := Try.prog) w 43 ty 3 i0 (.int .i64 0) Try.underlying43 hi0 hz0 ⟨b, m, none⟩ zs.length 1 (zs.map (Value.int .i64)) (by rw [hz1]; simp) holds a 1 c [.int .i64 x] (by rw [hz1]; rfl) hnews (by omega) (by omega) (growslice_fits (by omega) (by rw [hz2]; omega))
      subst h1
      have hge := grownCap_ge w (zs.length + 1) 1 3
      have hcm : grownCap w (zs.length + 1) 1 3 ≤ maxLen := grownCap_le_maxLen w (zs.length + 1) 1 3 (by unfold maxLen; omega)
      have hg : w.grownBy (w.drew.alloc (.cells ((zs.map (Value.int .i64)).toArray ++ [Value.int .i64 x].toArray ++ Builtin.zeroCells (Value.int .i64 0).cells (grownCap w (zs.length + 1) 1 3 - (zs.length + 1))) 3)) none := ⟨rfl, rfl, rfl, by simp, fun k hk _ => Below.heap_alloc w.drew _ k hk⟩
      have hnw := heap_alloc_new w.drew (.cells ((zs.map (Value.int .i64)).toArray ++ [Value.int .i64 x].toArray ++ Builtin.zeroCells (Value.int .i64 0).cells (grownCap w (zs.length + 1) 1 3 - (zs.length + 1))) 3)
      have hout : t w.heap.size = .out := Classical.byContradiction fun e => Nat.lt_irrefl _ (low _ e)
      refine ⟨_, _, fun k => if k = w.heap.size then .list m else t k, hr, .inl ⟨⟨by simp, .inr ⟨w.heap.size, _, _, by simp, Nat.zero_le _, hnw, by simpa using hge, hcm, ?_, ?_⟩⟩, fun k e => ?_⟩, ⟨hg.os, hg.tape, hg.output, hg.size, fun k hk => by simp [Nat.ne_of_lt hk], fun k h0 h1' => ?_, fun k hk _ _ => hg.block k hk (by simp), fun m2 u2 zs2 hne hL => hL.kept fun k hk ht => ⟨hg.block k hk (by simp), by simp [Nat.ne_of_lt hk]⟩⟩⟩
      · simp [size_zeroCells, Value.cells]; omega
      · simp only [Array.toList_append, List.append_assoc, List.map_append]
        rw [← List.append_assoc]
        exact List.take_left' (by simp)
      · simp [Value.ownBlock] at e
        simp [← e]
      · by_cases e : k = w.heap.size
        · subst e; exact ⟨Nat.le_refl _, by simp⟩
        · simp only [e, if_false] at h1'; exact absurd h0 h1'
end Go.Proofs.Ytjnkcomedcbenaa
