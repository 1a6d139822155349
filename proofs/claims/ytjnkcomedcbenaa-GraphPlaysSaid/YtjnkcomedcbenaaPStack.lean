/- What is left to be gone through, in memory, beside the map of those that have been come to. -/
import Derived.Test.YtjnkcomedcbenaaPKeys
import Derived.Deep.LoopGhost
namespace Go.Proofs.Ytjnkcomedcbenaa
open Go.RowKit Go.Maps
set_option linter.unusedVariables false

/-- The lists that are left, in a row of the call's own; the map, made ahead of it. -/
structure Stk (w : World) (wr : World) (V : List Int) (v : Value) (vs : List Value) : Prop where
  seen : SeenM wr w.heap.size V
  own : OwnV 43 w.heap.size w wr v vs
  off : v.ownBlock ≠ some w.heap.size
section
variable {w wr w1 w2 : World} {V : List Int} {v u : Value} {vs : List Value}
theorem Stk.bel (h : Stk w wr V v vs) : Below w.heap.size w wr := h.own.2
theorem Stk.step (h : Stk w wr V v vs) (hb : Below wr.heap.size wr w1) : Stk w w1 V v vs := ⟨h.seen.below hb, h.own.step (Nat.le_refl _) hb, h.off⟩
theorem Stk.start {W : World} {n : Nat} (h : OwnV 43 (w.alloc (.map #[] 0)).heap.size (w.alloc (.map #[] 0)) W v vs) : Stk w W [] v vs := by
  have hs : (w.alloc (.map #[] 0)).heap.size = w.heap.size + 1 := by simp
  refine ⟨(seen_made w).below h.2, ⟨?_, below_step (below_alloc0 (Below.refl _ _) _) (by omega) h.2⟩, fun e => ?_⟩
  · refine ⟨h.1.1, ?_⟩
    rcases h.1.2 with h2 | ⟨g, cap, cur, h1, h2, h3⟩
    · exact .inl h2
    · exact .inr ⟨g, cap, cur, h1, by omega, h3⟩
  · have := (h.1.lt _ e).1; omega
theorem Stk.put {x : Int} (h : Stk w wr V v vs) (hg : wr.grownBy w1 (some w.heap.size)) (hs : SeenM w1 w.heap.size (V ++ [x])) : Stk w w1 (V ++ [x]) v vs :=
  ⟨hs, ⟨h.own.1.kept hg (by right; exact h.off), h.own.2.grown hg (by have := h.own.2.size; omega) (fun j hj => by cases hj; exact Nat.le_refl _)⟩, h.off⟩
theorem own_form {T : TypeId} {B : Nat} {w0 : World} (h : OwnV T B w0 wr v vs) (h0 : 0 < vs.length) : ∃ L c, v = .slice (some ⟨L, 0, none⟩) vs.length c ∧ B ≤ L ∧ L < wr.heap.size ∧ vs.length ≤ c ∧ c ≤ maxLen ∧ (∀ j, j < vs.length → wr.cell? ⟨L, j, none⟩ = some (vs.getD j undef)) ∧ ∀ j, wr.frozen? ⟨L, j, none⟩ = false := by
  obtain ⟨A, c, h1, h2, h3, h4, h5, h6⟩ := h.at'
  obtain ⟨L, rfl, h7, h8, h9⟩ := h6 h0
  refine ⟨L, c, h1, h7, h8, h2, h3, fun j hj => ?_, h9⟩
  obtain ⟨b, off, e, _, hc⟩ := h5 h0
  cases e
  rw [← hc j hj, Nat.zero_add]
theorem Stk.set {L n c i : Nat} (h : Stk w wr V (.slice (some ⟨L, 0, none⟩) n c) vs) (hn : n = vs.length) (u : Value) : Stk w (wr.setCell ⟨L, i, none⟩ u) V (.slice (some ⟨L, 0, none⟩) n c) (vs.set i u) :=
  ⟨h.seen.set (fun e => h.off (by simp [Value.ownBlock]; exact e.symm)) u, h.own.set hn i u, h.off⟩
theorem Stk.drop {L p c : Nat} (h : Stk w wr V (.slice (some ⟨L, 0, none⟩) (p + 1) c) vs) (hn : p + 1 = vs.length) : Stk w wr V (.slice (some ⟨L, 0, none⟩) p c) vs.dropLast := by
  refine ⟨h.seen, ⟨⟨by simp, ?_⟩, h.own.2⟩, h.off⟩
  have hl : vs.dropLast.length = p := by simp; omega
  rcases h.own.1.2 with ⟨e, h0⟩ | ⟨g, cap, cur, e, h1, h2, h3, h4, h5, h6⟩
  · omega
  · injection e with e1 e2 e3
    injection e1 with e1
    injection e1 with e1
    subst e1; subst e3
    refine .inr ⟨L, c, cur, by rw [hl], h1, h2, by omega, h4, h5, ?_⟩
    have e2 : vs.dropLast = vs.take p := by rw [List.dropLast_eq_take]; congr 1; omega
    rw [hl, e2]
    rw [← h6, List.take_take]
    congr 1
    omega
theorem seen_same {M : Nat} (h : SeenM wr M V) (hk : w1.heap[M]? = wr.heap[M]?) : SeenM w1 M V := by
  obtain ⟨es, clock, hb, F, hs, hD⟩ := h.own
  exact ⟨es, clock, hk.trans hb, F, hs, hD⟩
theorem Stk.app {v2 : Value} {vs2 : List Value} (h : Stk w wr V v vs) (ho : OwnV 43 w.heap.size w w1 v2 vs2) (hk : Kept (fun b => v.ownBlock ≠ some b) wr w1) (hl : ∀ k, v2.ownBlock = some k → v.ownBlock = some k ∨ wr.heap.size ≤ k) : Stk w w1 V v2 vs2 := by
  have hM := h.seen.lt
  refine ⟨seen_same h.seen (hk.block _ hM h.off), ho, fun e => ?_⟩
  rcases hl _ e with h1 | h1
  · exact h.off h1
  · omega
end
set_option maxRecDepth 100000 in
theorem slice_drop26 (b off p q : Nat) (h : p + 1 ≤ q) (w : World) : (Instr.slice 26 (.slice (some ⟨b, off, none⟩) (p + 1) q) none (some (.int .i64 (p : Int))) none).run Try.prog w = .ok (.slice (some ⟨b, off, none⟩) p q) w := by
  have e := run_slice_h (P := Try.prog) w 26 (some ⟨b, off, none⟩) (p + 1) q Try.underlying26 .i64 (p : Int) (by omega) (by omega)
  rw [e]
  have hq : ¬ q = 0 := by omega
  simp [sliced, go_sem, hq]
set_option maxRecDepth 100000 in
theorem slice_tail (b off i n c : Nat) (h : i < n) (hc : n ≤ c) : ∃ o, (n - (i + 1) ≠ 0 → o = off + (i + 1)) ∧ ∀ w : World, (Instr.slice 43 (.slice (some ⟨b, off, none⟩) n c) (some (.int .i64 ((i : Int) + 1))) none none).run Try.prog w = .ok (.slice (some ⟨b, o, none⟩) (n - (i + 1)) (c - (i + 1))) w := by
  refine ⟨if c = i + 1 then off else off + (i + 1), fun h0 => by rw [if_neg (by omega)], fun w => ?_⟩
  have e := run_slice_l (P := Try.prog) w 43 (some ⟨b, off, none⟩) n c Try.underlying43 .i64 ((i : Int) + 1) (by omega) (by omega)
  rw [e]
  have ht : ((i : Int) + 1).toNat = i + 1 := by omega
  by_cases hq : c = i + 1
  · simp [sliced, go_sem, ht, hq]
  · simp [sliced, go_sem, ht, hq]
/-- The tail of a list. -/
theorem row_tail {P : Nat → Prop} {w : World} {b off o n c i : Nat} {l : List Int} (h : RowV P w (.slice (some ⟨b, off, none⟩) n c) l) (hn : n = l.length) (hi : i < n) (ho : n - (i + 1) ≠ 0 → o = off + (i + 1)) : RowV P w (.slice (some ⟨b, o, none⟩) (n - (i + 1)) (c - (i + 1))) (l.drop (i + 1)) := by
  subst hn
  obtain ⟨B, d, e, h1, h2, h3, h4⟩ := h
  cases e
  have hl : (l.drop (i + 1)).length = l.length - (i + 1) := by rw [List.length_drop]
  refine ⟨_, _, by rw [hl], fun h0 => ?_, by rw [hl]; omega, by omega, fun e => by cases e⟩
  rw [hl] at h0
  obtain ⟨b', off', e, hlt, hc⟩ := h1 (by omega)
  cases e
  refine ⟨b, o, rfl, hlt, fun j hj => ?_⟩
  rw [hl] at hj
  rw [ho (by omega), show off + (i + 1) + j = off + (i + 1 + j) by omega, hc (i + 1 + j) (by omega)]
  simp [List.getD, List.getElem?_drop]
theorem rows_last {P : Nat → Prop} {w : World} {vs : List Value} {Ps : List (List Int)} {l : List Int} (h : RowsV P w vs (Ps ++ [l])) : RowV P w (vs.getD Ps.length undef) l ∧ RowsV P w vs.dropLast Ps := by
  have hl := h.1
  simp only [List.length_append, List.length_singleton] at hl
  refine ⟨?_, by simp; omega, fun j hj => ?_⟩
  · have := h.2 Ps.length (by simp)
    rw [row_app, if_pos rfl] at this
    exact this
  · have := h.2 j (by simp; omega)
    rw [row_app, if_neg (by omega)] at this
    have e : vs.dropLast.getD j undef = vs.getD j undef := by
      simp only [List.getD, List.dropLast_eq_take, List.getElem?_take]
      rw [if_pos (by omega)]
    rw [e]; exact this
theorem rows_come {P : Nat → Prop} {w : World} {vs : List Value} {Ps : List (List Int)} {l l1 l2 : List Int} {u1 u2 : Value} (h : RowsV P w vs (Ps ++ [l])) (h1 : RowV P w u1 l1) (h2 : RowV P w u2 l2) : RowsV P w (vs.set Ps.length u1 ++ [u2]) (Ps ++ [l1] ++ [l2]) := by
  have e : Ps ++ [l1] = (Ps ++ [l]).set Ps.length l1 := by simp
  rw [e]
  exact (h.set Ps.length h1).app h2
end Go.Proofs.Ytjnkcomedcbenaa
