/- The first words of a map are words. A store of the call's own under a map. A row of values in memory that grows behind, and is cut in front and behind, whatever its elements' type. All tasks in the pool, walked. What a pool holds; a packet of two, alone: step by step. Packets' machines that are finished at once; the document's example: walked. A store of the call's own under a map, and packets' machines over it: a step, and all steps. -/
import Derived.Test.YtpocihddecemfaaGreatJ14
import Derived.Test.YtpocihddecemfaaGreatJ10
import Derived.Test.YtpocihddecemfaaGreatJ13
import Derived.Test.YtpocihddecemfaaGreatJ8
import Derived.Test.YtpocihddecemfaaGreatJ5
import Derived.ArgAppend
import Derived.Laws.Slices
import Derived.Test.YtpocihddecemfaaGreatJ15
namespace Go.Proofs.YtpocihddecemfaaGreat
set_option linter.unusedVariables false
open Lay (plcc plc shOf packN nodesN OkC Cfg Norm firstV Rep lenL things stkV)

theorem mark1_norm (D i : Nat) : ∀ t ∈ Lay.mark1 D i, Norm t := by
  intro t ht
  simp only [Lay.mark1, Lay.entries, List.mem_append, List.mem_cons, List.mem_map, List.mem_range, List.not_mem_nil, or_false] at ht
  rcases ht with (rfl | rfl) | ⟨j, _, rfl⟩ <;> exact ⟨by simp, by simp, by simp, by simp⟩
theorem pack1_norm (p : Nat) : ∀ t ∈ Lay.pack1 p, Norm t := by
  intro t ht
  simp only [Lay.pack1, Lay.tasks, List.mem_append, List.mem_cons, List.mem_map, List.mem_range, List.not_mem_nil, or_false] at ht
  rcases ht with (rfl | rfl) | ⟨j, _, rfl⟩ <;> exact ⟨by simp, by simp, by simp, by simp⟩
theorem node1_norm (r : List Nat) (v : Nat) : ∀ t ∈ Lay.node1 r v, Norm t := by
  intro t ht
  simp only [Lay.node1, Lay.slots, List.mem_append, List.mem_cons, List.mem_map, List.mem_range, List.not_mem_nil, or_false] at ht
  rcases ht with (rfl | rfl | rfl | rfl) | ⟨j, _, rfl⟩ <;> exact ⟨by simp, by simp, by simp, by simp⟩
theorem marks_norm (D : Nat) : ∀ n, ∀ t ∈ Lay.marksTo D n, Norm t
  | 0, t, h => by simp [Lay.marksTo] at h
  | n + 1, t, h => by
    rcases List.mem_append.1 (show t ∈ Lay.marksTo D n ++ Lay.mark1 D n from h) with h | h
    · exact marks_norm D n t h
    · exact mark1_norm D n t h
theorem packs_norm : ∀ n, ∀ t ∈ Lay.packsTo n, Norm t
  | 0, t, h => by simp [Lay.packsTo] at h
  | n + 1, t, h => by
    rcases List.mem_append.1 (show t ∈ Lay.packsTo n ++ Lay.pack1 (n + 1) from h) with h | h
    · exact packs_norm n t h
    · exact pack1_norm _ t h
theorem nodes_norm (r : List Nat) : ∀ n, ∀ t ∈ Lay.nodesTo r n, Norm t
  | 0, t, h => by simp [Lay.nodesTo] at h
  | n + 1, t, h => by
    rcases List.mem_append.1 (show t ∈ Lay.nodesTo r n ++ Lay.node1 r (n + 1) from h) with h | h
    · exact nodes_norm r n t h
    · exact node1_norm r _ t h
theorem things_norm (s : Lay.Sh) : ∀ t ∈ things s, Norm t := by
  intro t ht
  simp only [things, Lay.singles, Lay.acks, Lay.heads, List.mem_append, List.mem_map, List.mem_range] at ht
  rcases ht with ((((⟨k, hk, rfl⟩ | ⟨k, hk, rfl⟩) | ⟨k, hk, rfl⟩) | h) | h) | h
  · exact ⟨by simp, by simp; omega, by simp, by simp⟩
  · exact ⟨by simp, by simp, by simp, by simp⟩
  · exact ⟨by simp, by simp, by simp, by simp⟩
  · exact marks_norm _ _ t h
  · exact packs_norm _ t h
  · exact nodes_norm _ _ t h
theorem stkV_bd {V : Lay.Th → Int} {t u : Lay.Th} {kd f l : Int} (h : 0 ≤ V u ∧ V u ≤ 10000) (f0 : 0 ≤ f) (f1 : f ≤ 10000) (l1 : l ≤ 10000) : 0 ≤ stkV V t kd f l u ∧ stkV V t kd f l u ≤ 10000 := by
  unfold stkV
  split
  · exact ⟨f0, f1⟩
  · split
    · omega
    · exact h
theorem firstV_bd {c : Cfg} (hc : OkC c) (u : Lay.Th) : 0 ≤ firstV c u ∧ firstV c u ≤ 10000 := by
  have hb := Lay.bds hc
  have p1 := hb.p1
  have n1 := hb.n1
  have hV : ∀ k : Nat, k ≤ 5 → 0 ≤ Lay.VV c k u ∧ Lay.VV c k u ≤ 10000 := by
    intro k
    induction k with
    | zero =>
      intro _
      show 0 ≤ Lay.baseV c u ∧ Lay.baseV c u ≤ 10000
      unfold Lay.baseV
      have := Lay.slots_bd (Lay.kindV c (nodesN c))
      split
      · omega
      · split <;> omega
    | succ k ih =>
      intro hk
      have h5 := Lay.cls_five hc k (by omega)
      refine stkV_bd (ih (by omega)) (by omega) (by omega) ?_
      have := Lay.imin_le (Lay.rF c k + Lay.rM c k) (nodesN c)
      omega
  exact stkV_bd (hV 5 (by omega)) (by omega) (by omega) (by omega)
theorem first_ww {c : Cfg} (hc : OkC c) {L : List Int} (h : Rep (shOf c) L (firstV c)) : WW L := by
  intro x hx
  obtain ⟨i, hi, rfl⟩ := List.getElem_of_mem hx
  have hl : i < (things (shOf c)).length := by rw [Lay.things_len, ← h.1]; exact hi
  obtain ⟨t, ht⟩ : ∃ t, t = Lay.gt (things (shOf c)) i := ⟨_, rfl⟩
  have hm : t ∈ things (shOf c) := by rw [ht, Lay.gt, List.getD, List.getElem?_eq_getElem hl]; exact List.getElem_mem hl
  have hn := things_norm _ t hm
  have hp := Lay.place_spec hn hl ht.symm
  have e := h.2 t hn (by omega)
  rw [hp] at e
  have e2 : L[i] = firstV c t := by rw [← e]; simp [List.getD, hi]
  rw [e2]
  have := firstV_bd hc t
  omega
end Go.Proofs.YtpocihddecemfaaGreat

namespace Go.Proofs.YtpocihddecemfaaGreat
open Go.RowKit
set_option linter.unusedVariables false
set_option linter.unusedSimpArgs false
open Lay (plcc plc shOf packN nodesN OkC Cfg Norm firstV Rep lenL things)

/-- A store of the call's own, under a map; k: how many accesses there were at most. -/
structure PO (B S D N : Nat) (c : Cfg) (w0 w : World) (L : List Int) (k : Int) : Prop where
  st : ∃ cc, 0 ≤ cc ∧ cc ≤ k ∧ St w S D L cc
  mp : Lay.IsMap w N c
  ok : OkC c
  ns : N ≠ S ∧ N ≠ D
  lo : B ≤ S ∧ B ≤ D ∧ B ≤ w0.heap.size
  ww : WW L
  bel : Below B w0 w
section
variable {B S D N : Nat} {c : Cfg} {w0 w w' : World} {L : List Int} {k t : Int} {X lo : Nat} {m : Pm}
theorem PO.lt (h : PO B S D N c w0 w L k) : S < w.heap.size ∧ D < w.heap.size ∧ N < w.heap.size := by
  obtain ⟨cc, _, _, hs⟩ := h.st; exact ⟨hs.ltS, hs.row.lt, h.mp.1⟩
theorem PO.step (h : PO B S D N c w0 w L k) (hb : Below w.heap.size w w') : PO B S D N c w0 w' L k := by
  obtain ⟨cc, h0, h1, hs⟩ := h.st
  exact ⟨⟨cc, h0, h1, hs.below hb⟩, h.mp.below hb, h.ok, h.ns, h.lo, h.ww, below_step h.bel (Nat.le_trans h.lo.2.2 h.bel.size) hb⟩
theorem PO.more (h : PO B S D N c w0 w L k) {k' : Int} (hk : k ≤ k') : PO B S D N c w0 w L k' := by
  obtain ⟨cc, h0, h1, hs⟩ := h.st
  exact ⟨⟨cc, h0, by omega, hs⟩, h.mp, h.ok, h.ns, h.lo, h.ww, h.bel⟩
/-- Other blocks change. -/
theorem PO.uf {F : Nat → Prop} (h : PO B S D N c w0 w L k) (u : UF F w w') (f1 : ¬ F S) (f2 : ¬ F D) (f3 : ¬ F N) (fB : ∀ b, F b → B ≤ b) : PO B S D N c w0 w' L k := by
  obtain ⟨cc, h0, h1, hs⟩ := h.st
  have hl := h.lt
  exact ⟨⟨cc, h0, h1, St_same hs (u.block S hl.1 f1) (u.block D hl.2.1 f2)⟩, IsMap_same h.mp u.size (u.block N hl.2.2 f3), h.ok, h.ns, h.lo, h.ww, below_uf h.bel h.lo.2.2 u fB⟩

end
end Go.Proofs.YtpocihddecemfaaGreat

namespace Go.Proofs.YtpocihddecemfaaGreat
open Go.RowKit
set_option linter.unusedVariables false
set_option linter.unusedSimpArgs false

/-- What an element's type must be: one cell. -/
structure ElT (t e : TypeId) (z : Value) (by' : Nat) : Prop where
  u : Tryz.prog.underlying t = some (.slice e)
  i : (Tryz.prog.info? e).map (fun i => (i.zero, i.size, i.bytes)) = some (some z, 1, by')
  z : z.cells.size = 1
  b : by' ≤ 64
/-- A row in block b. -/
def QV (e : TypeId) (b : Nat) (w : World) (v : Value) (Q : List Value) : Prop :=
  ∃ off cap cur, v = .slice (some ⟨b, off, none⟩) Q.length cap ∧ w.heap[b]? = some (.cells cur e (0, 0)) ∧ off + cap ≤ cur.size ∧ Q.length ≤ cap ∧ cap ≤ maxLen ∧ ∀ j, j < Q.length → cur[off + j]? = some (Q.getD j undef)
/-- A row that is nil yet, or in a block. -/
def QVO (e : TypeId) (o : Option Nat) (w : World) (v : Value) (Q : List Value) : Prop :=
  match o with
  | none => v = .slice none 0 0 ∧ Q = []
  | some b => QV e b w v Q
section
variable {e t : TypeId} {b : Nat} {o : Option Nat} {w w' : World} {v : Value} {Q : List Value}
theorem QV.lt (h : QV e b w v Q) : b < w.heap.size := by obtain ⟨_, _, _, _, h, _⟩ := h; exact (Array.getElem?_eq_some_iff.1 h).1
theorem QV.same (h : QV e b w v Q) (k : w'.heap[b]? = w.heap[b]?) : QV e b w' v Q := by
  obtain ⟨off, cap, cur, h1, h2, h3⟩ := h
  exact ⟨off, cap, cur, h1, k.trans h2, h3⟩
theorem QV.below (h : QV e b w v Q) (hb : Below w.heap.size w w') : QV e b w' v Q := h.same (hb.block b h.lt)
theorem QVO.same (h : QVO e o w v Q) (k : ∀ b, o = some b → w'.heap[b]? = w.heap[b]?) : QVO e o w' v Q := by
  cases o with
  | none => exact h
  | some b => exact QV.same h (k b rfl)
theorem QVO.lt (h : QVO e o w v Q) : ∀ b, o = some b → b < w.heap.size := by
  intro b e; subst e; exact QV.lt h
theorem QVO.below (h : QVO e o w v Q) (hb : Below w.heap.size w w') : QVO e o w' v Q := h.same fun b e => hb.block b (h.lt b e)
theorem QVO.len (h : QVO e o w v Q) : ∃ A c, v = .slice A Q.length c := by
  cases o with
  | none => obtain ⟨h, rfl⟩ := h; exact ⟨_, _, h⟩
  | some b => obtain ⟨_, _, _, h, _⟩ := h; exact ⟨_, _, h⟩
theorem QV.cell (h : QV e b w v Q) : ∃ off cap, v = .slice (some ⟨b, off, none⟩) Q.length cap ∧ Q.length ≤ cap ∧ cap ≤ maxLen ∧ ∀ j, j < Q.length → w.cell? ⟨b, off + j, none⟩ = some (Q.getD j undef) := by
  obtain ⟨off, cap, cur, h1, h3, h4, h5, h6, h7⟩ := h
  refine ⟨off, cap, h1, h5, h6, fun j hj => ?_⟩
  simp only [World.cell?, h3]
  simpa using h7 j hj
theorem QV.fro (h : QV e b w v Q) (j : Nat) : w.frozen? ⟨b, j, none⟩ = false := by
  obtain ⟨off, cap, cur, h1, h3, _⟩ := h
  exact frozen_of_row w b j _ _ h3
/-- Without the last one; without the first one. -/
theorem QV.init (h : QV e b w v Q) (hQ : 0 < Q.length) : ∃ off cap, v = .slice (some ⟨b, off, none⟩) Q.length cap ∧ Q.length ≤ cap ∧ cap ≤ maxLen ∧ (∀ j, j < Q.length → w.cell? ⟨b, off + j, none⟩ = some (Q.getD j undef)) ∧
    QV e b w (.slice (some ⟨b, off, none⟩) (Q.length - 1) cap) Q.dropLast ∧ QV e b w (.slice (some ⟨b, if cap = 1 then off else off + 1, none⟩) (Q.length - 1) (cap - 1)) Q.tail := by
  obtain ⟨off, cap, cur, h1, h3, h4, h5, h6, h7⟩ := h
  refine ⟨off, cap, h1, h5, h6, fun j hj => ?_, ⟨off, cap, cur, by simp, h3, h4, by simp; omega, h6, fun j hj => ?_⟩, ⟨if cap = 1 then off else off + 1, cap - 1, cur, by simp, h3, ?_, by simp; omega, by omega, fun j hj => ?_⟩⟩
  · simp only [World.cell?, h3]
    simpa using h7 j hj
  · simp at hj
    rw [h7 j (by omega)]
    have e : Q.dropLast.getD j undef = Q.getD j undef := by
      rw [List.getD, List.getD, List.getElem?_dropLast, if_pos hj]
    rw [e]
  · split <;> omega
  · simp at hj
    rw [if_neg (by omega), show off + 1 + j = off + (j + 1) by omega, h7 (j + 1) (by omega)]
    simp [List.getD, List.getElem?_tail]
theorem QVO.has (h : QVO e o w v Q) (hQ : 0 < Q.length) : ∃ b, o = some b ∧ QV e b w v Q := by
  cases o with
  | none => obtain ⟨_, rfl⟩ := h; simp at hQ
  | some b => exact ⟨b, rfl, h⟩
/-- One element changes. -/
theorem QV.set (h : QV e b w v Q) {off cap : Nat} (hv : v = .slice (some ⟨b, off, none⟩) Q.length cap) (i : Nat) (hi : i < Q.length) (x : Value) : QV e b (w.setCell ⟨b, off + i, none⟩ x) v (Q.set i x) := by
  obtain ⟨off', cap', cur, h1, h3, h4, h5, h6, h7⟩ := h
  rw [hv] at h1; cases h1
  refine ⟨off, cap, cur.setIfInBounds (off + i) x, by rw [hv]; simp, heap_setCell_same w b _ _ e _ h3, by simpa using h4, by simpa using h5, h6, fun j hj => ?_⟩
  simp at hj
  by_cases hj2 : j = i
  · subst hj2
    rw [Array.getElem?_setIfInBounds_self_of_lt (by omega)]
    simp [List.getD, hi]
  · rw [Array.getElem?_setIfInBounds_ne (by omega), h7 j hj]
    simp [List.getD, List.getElem?_set, Ne.symm hj2]
theorem qv_of_own {B n : Nat} (h : w'.ownsRow B e 1 v n Q) (hn : n = Q.length) (h0 : 0 < n) : ∃ b, B ≤ b ∧ QV e b w' v Q := by
  obtain ⟨hl, ⟨rfl, h⟩ | ⟨g, cap, cur, rfl, hg, hh, hc, hm, hs, ht⟩⟩ := h
  · omega
  · subst hn
    refine ⟨g, hg, 0, cap, cur, rfl, hh, by omega, hc, hm, fun j hj => ?_⟩
    have e : (cur.toList.take (Q.length * 1))[j]? = Q[j]? := congrArg (fun l => l[j]?) ht
    rw [List.getElem?_take, if_pos (by omega), List.getElem?_eq_getElem hj] at e
    simpa [List.getD, List.getElem?_eq_getElem hj] using e
theorem setCells_one (w : World) (b o : Nat) (v : Value) : w.setCells b o [v] = w.setCell ⟨b, o, none⟩ v := rfl

/-- What an append leaves: in the same block, or in a new one. -/
def GrewV (e : TypeId) (o : Option Nat) (w w' : World) (v' : Value) (Q : List Value) : Prop := ∃ b, (o = some b ∨ w.heap.size ≤ b) ∧ QV e b w' v' Q ∧ Upd b b w w'
/-- One value comes behind. -/
theorem run_append_v {x : Nat} {z y : Value} {by' : Nat} (E : ElT t e z by') (ty : TypeId) (h : QVO e o w v Q) (hx : w.cell? ⟨x, 0, none⟩ = some y) (hy : y.oneCell' = true) (hq : Q.length ≤ 100000) :
    ∃ v' w', (Builtin.append_ #[t, t] ty #[v, .slice (some ⟨x, 0, none⟩) 1 1]).run Tryz.prog w = .ok v' w' ∧ GrewV e o w w' v' (Q ++ [y]) := by
  obtain ⟨i0, hi0, hz0, hz1, hz2⟩ := info_parts E.i
  have hby := E.b
  have hnews : ∀ (j : Nat) (u : Value), ([y] : List Value)[j]? = some u → w.cell? ((⟨x, 0, none⟩ : Addr).add j) = some u := by
    intro j u hj
    match j, hj with
    | 0, hj =>
      simp at hj
      subst hj
      rw [add_off]; exact hx
  have h1 : ∀ u ∈ ([y] : List Value), u.oneCell' = true := by
    intro u hu; rw [List.mem_singleton.1 hu]; exact hy
  have fin : ∀ v' w', w'.ownsRow w.heap.size e 1 v' (Q.length + 1) (Q ++ [y]) → w.grownBy w' none → GrewV e o w w' v' (Q ++ [y]) := by
    intro v' w' ho hg
    obtain ⟨b, hb, hqb⟩ := qv_of_own (n := Q.length + 1) (Q := Q ++ [y]) ho (by simp) (by omega)
    exact ⟨b, .inr hb, hqb, hg.os, hg.tape, hg.output, hg.size, fun k hk _ _ => hg.block k hk (by simp)⟩
  have hmul : (Q.length + 1) * by' ≤ 140737488355328 := by have := Nat.mul_le_mul (show Q.length + 1 ≤ 100001 by omega) hby; omega
  cases o with
  | none =>
    obtain ⟨rfl, rfl⟩ := h
    obtain ⟨v', w', hr, ho, hg, -⟩ := run_append_own (P := Tryz.prog) w w.heap.size t ty e i0 _ 1 by' E.u hi0 hz0 hz1 hz2 E.z (by decide) (.slice none 0 0) 0 [] (World.ownsRow_nil _ _ _ _) ⟨x, 0, none⟩ 1 1 [y] rfl hnews h1 (by unfold maxLen; omega) (by simpa using hmul) (Nat.le_refl _)
    exact ⟨v', w', hr, fin v' w' ho hg⟩
  | some b =>
    obtain ⟨off, cap, cur, rfl, hh, hoc, hqc, hcm, hcell⟩ := h
    have olds : ∀ (j : Nat) (u : Value), Q[j]? = some u → w.cell? ((⟨b, off, none⟩ : Addr).add j) = some u := by
      intro j u hj
      rcases Nat.lt_or_ge j Q.length with hj' | hj'
      · rw [add_off]
        simp only [World.cell?, hh]
        have := hcell j hj'
        rw [List.getD, hj] at this; simpa using this
      · rw [List.getElem?_eq_none hj'] at hj; cases hj
    by_cases hroom : Q.length + 1 ≤ cap
    · have hlt : off + Q.length < cur.size := by omega
      have hr := run_append_room_cells (P := Tryz.prog) w t ty e i0 E.u hi0 b off Q.length cap ⟨x, 0, none⟩ 1 1 [y] (by rw [hz1]; rfl) hnews h1 hroom (fun j hj => by
        have : j = 0 := by simp at hj; omega
        subst this
        simp only [World.cell?, hh, hz1]
        simp [hlt]) (fun j hj => frozen_of_row w b _ _ _ hh)
      rw [hz1, Nat.mul_one, setCells_one] at hr
      refine ⟨_, _, hr, b, .inl rfl, ⟨off, cap, cur.setIfInBounds (off + Q.length) y, by simp, heap_setCell_same w b _ _ e _ hh, by simpa using hoc, by simp; omega, hcm, fun j hj => ?_⟩, rfl, rfl, rfl, by simp, fun k hk h1 _ => heap_setCell_other w ⟨b, off + Q.length, none⟩ k _ h1⟩
      simp at hj
      by_cases hj2 : j = Q.length
      · subst hj2
        simp [List.getD, hlt]
      · have hj3 : j < Q.length := by omega
        rw [Array.getElem?_setIfInBounds_ne (by omega), hcell j hj3]
        simp [List.getD, List.getElem?_append_left hj3]
    · obtain ⟨v', w', hr, ho, hg⟩ := run_append_arg_grows (P := Tryz.prog) w t ty e i0 _ 1 by' E.u hi0 hz0 hz1 hz2 E.z (by decide) ⟨b, off, none⟩ Q.length cap Q (by simp) olds ⟨x, 0, none⟩ 1 1 [y] rfl hnews (by omega) (by unfold maxLen; omega) hmul
      exact ⟨v', w', hr, fin v' w' ho hg⟩
theorem append_v {x : Nat} {o' : Option Nat} {ops : Array Oper} {rest : List Oper} {o : Oper} {a : Act} {R : Exit → Act → World → Prop} (hg : o.guard = none) (s y : Operand) {z u : Value} {by' : Nat} (E : ElT t e z by')
    (ho : o.op = .call { callee := .builtin .append, args := #[s, y], argTypes := #[t, t] }) (h : QVO e o' w v Q) (hx : w.cell? ⟨x, 0, none⟩ = some u) (hu : u.oneCell' = true) (hq : Q.length ≤ 100000)
    (hs : a.eval s = v) (hy : a.eval y = .slice (some ⟨x, 0, none⟩) 1 1)
    (k : ∀ v' w', GrewV e o' w w' v' (Q ++ [u]) → wpList Tryz.prog ops R rest (a.put o.dst v') w') : wpList Tryz.prog ops R (o :: rest) a w := by
  refine wpList_plain hg fun K hK => ?_
  obtain ⟨v', w', hr, h3⟩ := run_append_v E o.type h hx hu hq
  unfold Oper.wp execOp
  simp only [ho, resolve, invoke, builtin, Sem.run_bind, Sem.run_pure, Result.andThen_ok, List.map_toArray, List.map_cons, List.map_nil, hs, hy, hr]
  exact hK _ _ (k v' w' h3)
set_option maxRecDepth 100000 in
theorem slice_dropV (ht : Tryz.prog.underlying t = some (.slice e)) (he : Tryz.prog.elem t = e) (hs : ∀ w, (sizeOf e).run Tryz.prog w = .ok 1 w) (b off p q : Nat) (h : p + 1 ≤ q) (w : World) : (Instr.slice t (.slice (some ⟨b, off, none⟩) (p + 1) q) none (some (.int .i64 (p : Int))) none).run Tryz.prog w = .ok (.slice (some ⟨b, off, none⟩) p q) w := by
  have e := run_slice_h (P := Tryz.prog) w t (some ⟨b, off, none⟩) (p + 1) q (by rw [he]; exact ht) .i64 (p : Int) (by omega) (by omega)
  rw [e, he, hs]
  have hq : ¬ q = 0 := by omega
  simp [sliced, Result.andThen, hq, Addr.add]
set_option maxRecDepth 100000 in
theorem slice_tailV (ht : Tryz.prog.underlying t = some (.slice e)) (he : Tryz.prog.elem t = e) (hs : ∀ w, (sizeOf e).run Tryz.prog w = .ok 1 w) (b off n c : Nat) (h : 0 < n) (hc : n ≤ c) (w : World) : (Instr.slice t (.slice (some ⟨b, off, none⟩) n c) (some (.int .i64 1)) none none).run Tryz.prog w = .ok (.slice (some ⟨b, if c = 1 then off else off + 1, none⟩) (n - 1) (c - 1)) w := by
  have e := run_slice_l (P := Tryz.prog) w t (some ⟨b, off, none⟩) n c (by rw [he]; exact ht) .i64 1 (by omega) (by omega)
  rw [e, he, hs]
  by_cases hq : c = 1
  · simp [sliced, Result.andThen, hq, Addr.add]
  · simp [sliced, Result.andThen, hq, Addr.add]
end
end Go.Proofs.YtpocihddecemfaaGreat

namespace Go.Proofs.YtpocihddecemfaaGreat
open Go.RowKit
set_option linter.unusedVariables false
set_option linter.unusedSimpArgs false
open Lay (plcc plc shOf packN nodesN OkC Cfg Norm firstV Rep lenL things)

theorem elU : ElT 26 25 (.int .u64 0) 8 := ⟨Tryz.underlying26, by kernel_rfl, rfl, by decide⟩
def ints (k : IntKind) (l : List Int) : List Value := l.map (Value.int k)
/-- The walk's row, the store, the map, and what has been told. -/
structure HS (S D N bq off : Nat) (Q : List Int) (c : Cfg) (w0 wr : World) (L : List Int) (k : Int) (v : Value) (l : List Int) : Prop where
  po : PO w0.heap.size S D N c w0 wr L k
  q : 0 < Q.length → bq < wr.heap.size ∧ bq ≠ S ∧ bq ≠ D ∧ w0.heap.size ≤ bq
  qc : ∀ j, j < Q.length → wr.cell? ⟨bq, off + j, none⟩ = some (.int .i64 (Q.getD j 0))
  o : ∃ o, QVO 25 o wr v (ints .u64 l) ∧ ∀ b, o = some b → w0.heap.size ≤ b ∧ b ≠ S ∧ b ≠ D ∧ b ≠ N ∧ (0 < Q.length → b ≠ bq)
section
variable {S D N bq off : Nat} {Q : List Int} {c : Cfg} {w0 wr w' : World} {L : List Int} {k : Int} {v : Value} {l : List Int}
theorem HS.step (h : HS S D N bq off Q c w0 wr L k v l) (hb : Below wr.heap.size wr w') : HS S D N bq off Q c w0 w' L k v l := by
  obtain ⟨o, ho, ha⟩ := h.o
  exact ⟨h.po.step hb, fun h0 => ⟨Nat.lt_of_lt_of_le (h.q h0).1 hb.size, (h.q h0).2⟩, fun j hj => (hb.cell (p := ⟨bq, off + j, none⟩) (h.q (by omega)).1).trans (h.qc j hj), o, ho.below hb, ha⟩
theorem HS.len (h : HS S D N bq off Q c w0 wr L k v l) : ∃ A c2, v = .slice A l.length c2 := by
  obtain ⟨o, ho, _⟩ := h.o
  obtain ⟨A, c2, h⟩ := ho.len
  exact ⟨A, c2, by rw [h]; unfold ints; rw [List.length_map]⟩
theorem HS.more (h : HS S D N bq off Q c w0 wr L k v l) {k' : Int} (hk : k ≤ k') : HS S D N bq off Q c w0 wr L k' v l := ⟨h.po.more hk, h.q, h.qc, h.o⟩
theorem HS.drew (h : HS S D N bq off Q c w0 wr L k v l) : HS S D N bq off Q c w0 wr.drew L k v l := h.step (Below.refl _ _).drew
/-- A load. -/
theorem HS.load (h : HS S D N bq off Q c w0 wr L k v l) (hk : k ≤ 900000000) (a : Int) : Calls Tryz.prog 27 #[ptr S, .int .i64 a] wr fun e w' => e = .returned (.int .u64 (ldq L a)) ∧ HS S D N bq off Q c w0 w' L (k + 1) v l := by
  obtain ⟨cc, h0, h1, hs⟩ := h.po.st
  refine (load_any a wr hs h0 (by omega)).mono ?_
  rintro e w1 ⟨rfl, hl⟩
  obtain ⟨hs', u⟩ := hl
  have hlt := h.po.lt
  have hB := h.po.lo
  have bl : ∀ b, b < wr.heap.size → b ≠ S → b ≠ D → w1.heap[b]? = wr.heap[b]? := fun b hb h1 h2 => u.block b hb h1 h2
  obtain ⟨o, ho, ha⟩ := h.o
  refine ⟨by rw [ldv_eq], ⟨⟨cc + 1, by omega, by omega, hs'⟩, IsMap_same h.po.mp u.size (bl N hlt.2.2 h.po.ns.1 h.po.ns.2), h.po.ok, h.po.ns, h.po.lo, h.po.ww, below_uf h.po.bel (Nat.le_refl _) (UF.of_upd u) (fun b hb => by rcases hb with rfl | rfl; exact hB.1; exact hB.2.1)⟩, fun h0 => ⟨Nat.lt_of_lt_of_le (h.q h0).1 u.size, (h.q h0).2⟩, fun j hj => (World.cell?_of_block (w := wr) (a := ⟨bq, off + j, none⟩) (bl bq (h.q (by omega)).1 (h.q (by omega)).2.1 (h.q (by omega)).2.2.1)).trans (h.qc j hj), o, ho.same fun b e => bl b (ho.lt b e) (ha b e).2.1 (ha b e).2.2.1, ha⟩
/-- An append. -/
theorem HS.grew {v' : Value} {x : Int} {o : Option Nat} (h : HS S D N bq off Q c w0 wr L k v l) (ha : ∀ b, o = some b → w0.heap.size ≤ b ∧ b ≠ S ∧ b ≠ D ∧ b ≠ N ∧ (0 < Q.length → b ≠ bq)) (g : GrewV 25 o wr w' v' (ints .u64 l ++ [.int .u64 x])) : HS S D N bq off Q c w0 w' L k v' (l ++ [x]) := by
  obtain ⟨b, hb, hq, u⟩ := g
  have hlt := h.po.lt
  have hB := h.po.lo
  have hs := h.po.bel.size
  have f : w0.heap.size ≤ b ∧ b ≠ S ∧ b ≠ D ∧ b ≠ N ∧ (0 < Q.length → b ≠ bq) := by
    rcases hb with hb | hb
    · exact ha b hb
    · exact ⟨by omega, by omega, by omega, by omega, fun h0 => by have := (h.q h0).1; omega⟩
  obtain ⟨cc, h0, h1, hst⟩ := h.po.st
  have bl : ∀ k, k < wr.heap.size → k ≠ b → w'.heap[k]? = wr.heap[k]? := fun k hk h1 => u.block k hk h1 h1
  refine ⟨⟨⟨cc, h0, h1, St_same hst (bl S hlt.1 (Ne.symm f.2.1)) (bl D hlt.2.1 (Ne.symm f.2.2.1))⟩, IsMap_same h.po.mp u.size (bl N hlt.2.2 (Ne.symm f.2.2.2.1)), h.po.ok, h.po.ns, h.po.lo, h.po.ww, below_uf h.po.bel (Nat.le_refl _) (UF.of_upd u) (fun k hk => by rcases hk with rfl | rfl <;> exact f.1)⟩, fun h0 => ⟨Nat.lt_of_lt_of_le (h.q h0).1 u.size, (h.q h0).2⟩, fun j hj => (World.cell?_of_block (w := wr) (a := ⟨bq, off + j, none⟩) (bl bq (h.q (by omega)).1 (Ne.symm (f.2.2.2.2 (by omega))))).trans (h.qc j hj), some b, ?_, fun b' e => by cases e; exact f⟩
  show QV _ b w' v' _
  unfold ints at hq ⊢
  rw [List.map_append]; exact hq
end

theorem new_cell (w : World) (v : Value) (T : TypeId) : (w.alloc (.cells #[v] T)).cell? ⟨w.heap.size, 0, none⟩ = some v := by
  have h : (w.alloc (.cells #[v] T)).heap[w.heap.size]? = some (.cells #[v] T (0, 0)) := Array.getElem?_push_size
  simp only [World.cell?, h]; rfl
theorem imin_cnt {n : Int} (h : 0 ≤ n) : Lay.imin n 4 = ((cnt4 n : Nat) : Int) := by unfold Lay.imin cnt4; split <;> split <;> omega

end Go.Proofs.YtpocihddecemfaaGreat

namespace Go.Proofs.YtpocihddecemfaaGreat
open Go.RowKit
set_option linter.unusedVariables false
set_option linter.unusedSimpArgs false
open Lay (plcc plc shOf packN nodesN OkC Cfg Norm firstV Rep lenL things)

theorem nodup_le : ∀ (n : Nat) (Q : List Int), Q.Nodup → (∀ q ∈ Q, 1 ≤ q ∧ q ≤ (n : Int)) → Q.length ≤ n
  | 0, Q, _, h => by
    cases Q with
    | nil => simp
    | cons q Q => have := h q (by simp); omega
  | n + 1, Q, hd, h => by
    have h2 := nodup_le n (Q.erase ((n + 1 : Nat) : Int)) (hd.erase _) (fun q hq => by
      have hm := (hd.mem_erase_iff).1 hq
      have := h q hm.2
      have hne := hm.1
      omega)
    rw [List.length_erase] at h2
    split at h2 <;> omega
section
variable {c : Cfg} {L : List Int}
theorem pkT_cont (G : Gp (pkn c) L.length (gOf c)) {q : Int} {ts : List Int} (hq : 1 ≤ q ∧ q ≤ pkn c) (h : Cont (gOf c) L q ts) : pkT c L q (cnt4 (ldq L (plcc c 11 q 0))) = ts := by
  have m := G.m q hq.1 hq.2
  have e1 : ldq L (plcc c 11 q 0) = ts.length := by
    have h1 : 0 ≤ plcc c 11 q 0 ∧ plcc c 11 q 0 < L.length := ⟨m.1, m.2.1⟩
    rw [ld_in h1]; exact h.many
  have hf := h.few
  have e2 : cnt4 (ts.length : Int) = ts.length := by unfold cnt4; split <;> omega
  rw [e1, e2]
  apply List.ext_getElem?
  intro i
  unfold pkT
  by_cases hi : i < ts.length
  · have t := G.t q i hq.1 hq.2 (by omega) (by omega)
    have h1 : 0 ≤ plcc c 13 q i ∧ plcc c 13 q i < L.length := ⟨t.1, t.2.1⟩
    have h2 := h.task i hi
    have h3 : L.getD (plcc c 13 q i).toNat 0 = ts.getD i 0 := h2
    simp only [List.getElem?_map, List.getElem?_range hi, Option.map_some]
    rw [ld_in h1, h3, List.getD, List.getElem?_eq_getElem hi]; simp
  · rw [List.getElem?_eq_none (by simpa using hi), List.getElem?_eq_none (by simpa using hi)]
theorem heldT_cts (G : Gp (pkn c) L.length (gOf c)) : ∀ {Q : List Int} {l : List (List Int)}, Cts (gOf c) L Q l → (∀ q ∈ Q, 1 ≤ q ∧ q ≤ (pkn c : Int)) → heldT c L Q = l.flatten
  | [], [], _, _ => rfl
  | q :: Q, t :: l, h, hr => by
    have ih := heldT_cts G h.2 (fun y hy => hr y (by simp [hy]))
    have e := pkT_cont G (hr q (by simp)) h.1
    unfold heldT at ih ⊢
    rw [List.flatMap_cons, e, ih, List.flatten_cons]
  | [], _ :: _, h, _ => h.elim
  | _ :: _, [], h, _ => h.elim
theorem heldL_stk {T : Int} {Q : List Int} (hc : OkC c) (H : Stk (pkn c) (poK c) L T Q) : heldL c L = heldT c L Q := by
  have hn := pkn_is hc
  have hl := nodup_le _ _ H.nd H.rng
  unfold heldL
  have e : walkQ L (poK c) (packN c).toNat (plcc c 4 0 0) = Q := walk_stk H _ (by show Q.length ≤ _; omega)
  rw [e]
theorem heldL_pa {i : Int} {l : List (List Int)} {out : List Int} (hc : OkC c) (H : PA (pkn c) (gOf c) L i l out) : heldL c L = l.flatten := by
  obtain ⟨Ts, Qs, Tp, Qp, G, Hs, Hp, t1, t2, p1, hct⟩ := H
  rw [heldL_stk hc Hp]
  exact heldT_cts G hct Hp.rng
end

section
variable {n : Nat} {g : Pg} {L : List Int} {Ts Tp : Int} {Qs Qp : List Int}
/-- A packet of two: nine steps; taken: three. -/
theorem put_two {p a b : Int} (G : Gp n L.length g) (Hs : Stk n g.sp L Ts (p :: Qs)) (Hp : Stk n g.po L Tp Qp) (h9 : Ts + 1 < 100000) (h8 : Tp + 1 < 100000) (hnp : p ∉ Qp) :
    (pruns g 8 L (pPut g [a, b])).2.pc = 4 ∧ (pruns g 9 L (pPut g [a, b])).2.pc = 0 ∧ (pruns g 9 L (pPut g [a, b])).2.p = p ∧ Stk n g.po (pruns g 9 L (pPut g [a, b])).1 (Tp + 1) (p :: Qp) := by
  have hr := Hs.rng p (by simp)
  obtain ⟨y1, r1⟩ := first_pop (g := g) Hs h9 [a, b] 0 0
  obtain ⟨L1, hL1⟩ : ∃ x, x = ptq L g.sp.head ((Ts + 1) * 4294967296 + Qs.headD 0) := ⟨_, rfl⟩
  rw [← hL1] at r1
  have len1 : L1.length = L.length := by rw [hL1]; exact pt_len ..
  have Hp1 : Stk n g.po L1 Tp Qp := by
    rw [hL1]
    exact Hp.word G.hne fun q hq e => by
      have b := Hp.rng q hq
      rw [G.links] at e
      exact (G.s.lk q b.1 b.2).2.2 e.symm
  have r2 := tasks_run (g := g) p y1 [a, b] [a, b] L1 0 (by simp) (by simp) (by simp)
  obtain ⟨L2, hL2⟩ : ∃ x, x = tput g p L1 0 [a, b] := ⟨_, rfl⟩
  simp only [Int.natCast_zero] at r2
  rw [← hL2] at r2
  have r2' : pruns g 2 L1 ⟨1, 2, [a, b], 0, p, y1⟩ = (L2, ⟨1, 3, [a, b], 2, p, y1⟩) := r2
  have len2 : L2.length = L.length := by rw [hL2, tput_len]; exact len1
  have oth2 : ∀ q : Int, 0 ≤ q → (∀ i : Int, 0 ≤ i → i < 4 → q ≠ g.tk p i) → L2.getD q.toNat 0 = L1.getD q.toNat 0 := fun q h0 h => by
    rw [hL2]; exact tput_other p h0 [a, b] L1 0 (fun i a b => h i a (by simp at b; omega))
  have Hp2 : Stk n g.po L2 Tp Qp := Hp1.same (by omega) (oth2 _ G.p.hd.1 (fun i a b => (G.t p i hr.1 hr.2 a b).2.2.2.symm))
    (fun q hq => by have b := Hp1.rng q hq; unfold lkw; rw [G.links]; exact oth2 _ (G.s.lk q b.1 b.2).1 (fun i a c => (G.tl p i q hr.1 hr.2 a c b.1 b.2).symm))
  obtain ⟨L3, hL3⟩ : ∃ x, x = ptq L2 (g.mn p) 2 := ⟨_, rfl⟩
  have r3 : pruns g 1 L2 ⟨1, 3, [a, b], 2, p, y1⟩ = (L3, ⟨1, 4, [a, b], 2, p, mPush g.po p⟩) := by
    rw [hL3]; simp [pruns, pstp]
  have hm := G.m p hr.1 hr.2
  have Hp3 : Stk n g.po L3 Tp Qp := by
    rw [hL3]; exact Hp2.word hm.2.2.2 (fun q hq => by rw [G.links]; exact G.ml p q hr.1 hr.2 (Hp2.rng q hq).1 (Hp2.rng q hq).2)
  obtain ⟨y4, r4⟩ := last_push (g := g) Hp3 h8 hr.1 hr.2 1 [a, b] 2 p
  have e0 : pPut g [a, b] = ⟨1, 1, [a, b], 0, 0, mPop g.sp⟩ := by unfold pPut; rw [if_neg (by simp)]; rfl
  have r6 : pruns g 6 L (pPut g [a, b]) = (L3, ⟨1, 4, [a, b], 2, p, mPush g.po p⟩) := by
    rw [e0, show 6 = 3 + (2 + 1) from rfl, pruns_add, r1]
    simp only
    rw [pruns_add, r2']
    simp only
    exact r3
  have hs := Hp3.g.small
  have ei : mPush g.po p = ⟨1, 1, g.po, p, 0, 0, 0⟩ := by unfold mPush; rw [itemOf_is ⟨hr.1, by omega⟩]
  obtain ⟨pa, pb, pc⟩ := push_run Hp3 h8 hr.1 hr.2 0
  have pt := Hp3.put (v := Qp.headD 0) hr.1 hr.2 hnp
  have Hp4 := pt.1.push h8 hr.1 hr.2 hnp pt.2
  refine ⟨?_, ?_, ?_, ?_⟩
  · rw [show 8 = 6 + 2 from rfl, pruns_add, r6, ei]
    simp only [pruns]
    rw [last_on pa (by simp)]
    simp only
    rw [last_on pb (by simp)]
  · rw [show 9 = 6 + 3 from rfl, pruns_add, r6]
    simp only
    rw [r4]
  · rw [show 9 = 6 + 3 from rfl, pruns_add, r6]
    simp only
    rw [r4]
  · rw [show 9 = 6 + 3 from rfl, pruns_add, r6]
    simp only
    rw [r4]
    exact Hp4
theorem take_one {p : Int} (Hp : Stk n g.po L Tp (p :: Qp)) (h8 : Tp + 1 < 100000) :
    (pruns g 2 L (pTake g)).2.pc = 4 ∧ (pruns g 3 L (pTake g)).2.pc = 0 ∧ (pruns g 3 L (pTake g)).2.p = p := by
  obtain ⟨y, r⟩ := last_pop (g := g) Hp h8 2 [] 0 0
  obtain ⟨pa, pb, pc⟩ := pop_run Hp h8 0
  refine ⟨?_, ?_, ?_⟩
  · show (pruns g 2 L ⟨2, 4, [], 0, 0, ⟨2, 1, g.po, 0, 0, 0, 0⟩⟩).2.pc = 4
    simp only [pruns]
    rw [last_on pa (by simp)]
    simp only
    rw [last_on pb (by simp)]
  · rw [show pTake g = ⟨2, 4, [], 0, 0, mPop g.po⟩ from rfl, r]
  · rw [show pTake g = ⟨2, 4, [], 0, 0, mPop g.po⟩ from rfl, r]
/-- Not finished ahead of where it is not. -/
theorem not_yet {i j : Nat} {m : Pm} (h : i ≤ j) (hj : (pruns g j L m).2.pc ≠ 0) : (pruns g i L m).2.pc ≠ 0 := fun e => by
  apply hj
  obtain ⟨d, rfl⟩ : ∃ d, j = i + d := ⟨j - i, by omega⟩
  rw [pruns_add]
  rw [pruns_done e]
  exact e
theorem done_still {i j : Nat} {m : Pm} (h : i ≤ j) (hi : (pruns g i L m).2.pc = 0) : pruns g j L m = pruns g i L m := by
  obtain ⟨d, rfl⟩ : ∃ d, j = i + d := ⟨j - i, by omega⟩
  rw [pruns_add, pruns_done hi]
end
end Go.Proofs.YtpocihddecemfaaGreat

namespace Go.Proofs.YtpocihddecemfaaGreat
open Go.RowKit
set_option linter.unusedVariables false
set_option linter.unusedSimpArgs false
open Lay (plcc plc shOf packN nodesN OkC Cfg Norm firstV Rep lenL things)

/-- A machine that is finished, with no packet. -/
def PKI (w : World) (X : Nat) : Prop := ∃ mv T pu tk ot, w.heap[X]? = some (.cells #[mv, T, .int .i64 pu, .int .i64 tk, ot, .nilFunc, .int .i64 0] 198 (0, 0))
theorem PKI.lt {w : World} {X : Nat} (h : PKI w X) : X < w.heap.size := by obtain ⟨_, _, _, _, _, h⟩ := h; exact (Array.getElem?_eq_some_iff.1 h).1
theorem PKI.keep {w w' : World} {X : Nat} (h : PKI w X) (hb : Below w.heap.size w w') : PKI w' X := by
  have hl := h.lt
  obtain ⟨mv, T, pu, tk, ot, h⟩ := h
  exact ⟨mv, T, pu, tk, ot, (hb.block X hl).trans h⟩
theorem PKI.step {w : World} {X : Nat} (h : PKI w X) (v : Value) : Calls Tryz.prog 154 #[ptr X, v] w fun e w' => e = .returned (.bool true) ∧ w = w' := by
  obtain ⟨mv, T, pu, tk, ot, h⟩ := h
  exact pstep_off w X v (by simp [World.cell?, h])
def NewI (w : World) (e : Ending) (w' : World) : Prop := ∃ X, e = .returned (ptr X) ∧ PKI w' X ∧ w.heap.size ≤ X ∧ Below w.heap.size w w'
theorem newI_is {w w1 : World} (mv T ot : Value) (pu tk : Int) (hb : Below w.heap.size w w1) : NewI w (.returned (ptr w1.heap.size)) (w1.alloc (.cells #[mv, T, .int .i64 pu, .int .i64 tk, ot, .nilFunc, .int .i64 0] 198)) :=
  ⟨w1.heap.size, rfl, ⟨mv, T, pu, tk, ot, by show (w1.heap.push _)[w1.heap.size]? = _; simp⟩, hb.size, below_step hb hb.size (below_alloc0 (Below.refl _ _) _)⟩
theorem NewI.more {w w1 w2 : World} {e : Ending} (h : NewI w e w1) (hb : Below w1.heap.size w1 w2) : NewI w e w2 := by
  obtain ⟨X, rfl, h1, h2, h3⟩ := h
  exact ⟨X, rfl, h1.keep hb, h2, below_step h3 h3.size hb⟩
theorem newI_of {w w' : World} {c : Cfg} {N : Nat} {E : Nat → Prop} {m : Pm} {e : Ending} (h : NewP w c N E m e w') (hp : m.pc = 0) (h0 : m.p = 0) : NewI w e w' := by
  obtain ⟨X, O, D, rfl, ⟨_, hO, _, _, T, pu, tk, ot, nx, pk, h5, h6⟩, ho, hd, hb⟩ := h
  refine ⟨X, rfl, ⟨Lay.mapP N, T, pu, tk, ot, ?_⟩, ho X hO, hb⟩
  rcases h6 with ⟨_, rfl, rfl⟩ | ⟨a, _⟩ | ⟨a, _⟩ | ⟨a, _⟩ | ⟨a, _⟩
  · unfold Pmem at h5; rw [h5, h0]
  all_goals omega
set_option maxRecDepth 100000 in
set_option maxHeartbeats 4000000 in
theorem put_nilmap (A : Option Addr) (n cap : Nat) (zs : List Int) (w : World) (hn : n = zs.length) (hr : Reads .u64 w A zs) (hl : n ≤ 1000) (hcap : n ≤ cap) : Calls Tryz.prog 146 #[.pointer none, .slice A n cap] w (NewI w) := by
  obtain ⟨k, hk⟩ : ∃ k : Nat, Lay.imin (n : Int) 4 = (k : Int) := ⟨(Lay.imin (n : Int) 4).toNat, by unfold Lay.imin; split <;> omega⟩
  have hk1 : k ≤ n ∧ k ≤ 4 ∧ k = (zs.take 4).length := by rw [List.length_take]; unfold Lay.imin at hk; split at hk <;> omega
  have e4 := slice_front A n cap k (by omega)
  have hr4 : Reads .u64 w A (zs.take 4) := fun h0 => by
    obtain ⟨b, off, e, hb, hcell⟩ := hr (by simp at h0; omega)
    refine ⟨b, off, e, hb, fun j hj => ?_⟩
    have hj4 : j < 4 := by simp at hj; omega
    rw [hcell j (by simp at hj; omega)]; simp [List.getD, List.getElem?_take, hj4]
  have HR := Lib.hid hr4; have HK := Lib.hid hk1
  by_cases h0 : n = 0
  · have hk0 : k = 0 := by omega
    subst hk0 h0
    have hk' : Lay.imin (0 : Int) 4 = 0 := by decide
    have e4' : ∀ w, (Instr.slice 26 (.slice A 0 cap) none (some (.int .i64 0)) none).run Tryz.prog w = .ok (.slice A 0 cap) w := e4
    clear e4 hn hr hl hcap hk hk1 hr4
    go_enter Tryz.func146, Tryz.ntmps146
    go_wp2_with (first
      | (go_at_call 151; (with_reducible refine (clone_any A 0 cap (zs.take 4) _ HK.out.2.2 HR.out (by decide)).mono ?_); rintro r w1 ⟨v, rfl, ho⟩; obtain ⟨A1, c1, hv, _⟩ := ho.blk; rw [← HK.out.2.2] at hv; subst hv; have HB := Lib.hid ho.2; clear ho)
      | fail)
    go_ret
    exact newI_is _ _ _ _ _ HB.out
  · clear hn hr hcap hk1 hr4
    go_enter Tryz.func146, Tryz.ntmps146
    go_wp2_with (first
      | (go_at_call 151; (with_reducible refine (clone_any A k cap (zs.take 4) _ HK.out.2.2 HR.out (by have := HK.out.1; omega)).mono ?_); rintro r w1 ⟨v, rfl, ho⟩; obtain ⟨A1, c1, hv, _⟩ := ho.blk; rw [← HK.out.2.2] at hv; subst hv; have HB := Lib.hid ho.2; clear ho)
      | fail)
    go_ret
    exact newI_is _ _ _ _ _ HB.out
set_option maxHeartbeats 1000000 in
theorem packets_nilmap (w : World) : Calls Tryz.prog 74 #[.pointer none] w fun e w' => e = .returned (.int .i64 0) ∧ Below w.heap.size w w' := by
  go_enter Tryz.func74, Tryz.ntmps74
  go_wp2
  go_ret
  exact ⟨rfl, below_alloc0 (Below.refl _ _) _⟩
theorem put_none {c : Cfg} (hc : OkC c) (N : Nat) (w : World) (A : Option Addr) (cap : Nat) (hm : Lay.IsMap w N c) : Calls Tryz.prog 146 #[Lay.mapP N, .slice A 0 cap] w (NewI w) :=
  (put_pk hc N A 0 cap [] w hm rfl (fun h0 => by simp at h0) (by simp) (by decide) (Nat.zero_le _)).mono fun _ _ h => newI_of h rfl rfl
end Go.Proofs.YtpocihddecemfaaGreat

namespace Go.Proofs.YtpocihddecemfaaGreat
open Go.RowKit
set_option linter.unusedVariables false
set_option linter.unusedSimpArgs false
open Lay (plcc plc shOf packN nodesN OkC Cfg Norm firstV Rep lenL things)

section
variable {B S D N : Nat} {c : Cfg} {w0 w w' : World} {L : List Int} {k t : Int} {X lo : Nat} {m : Pm}
/-- A machine in memory whose blocks are not below lo, apart from the store. -/
def PKX (lo : Nat) (w : World) (X S D : Nat) (c : Cfg) (N : Nat) (m : Pm) : Prop := ∃ O Dp, PKM w X O Dp c N m ∧ (∀ b, O b → lo ≤ b) ∧ ¬ Dp S ∧ ¬ Dp D
theorem PKX.of_new {E : Nat → Prop} {e : Ending} (h : PO B S D N c w0 w L k) (hn : NewP w c N E m e w') (e1 : ¬ E S) (e2 : ¬ E D) : ∃ X, e = .returned (ptr X) ∧ PKX w.heap.size w' X S D c N m ∧ PO B S D N c w0 w' L k ∧ Below w.heap.size w w' := by
  obtain ⟨X, O, Dp, rfl, hp, ho, hd, hb⟩ := hn
  have hl := h.lt
  exact ⟨X, rfl, ⟨O, Dp, hp, ho, fun d => by rcases hd S d with x | x; omega; exact e1 x, fun d => by rcases hd D d with x | x; omega; exact e2 x⟩, h.step hb, hb⟩
/-- A step of it. -/
theorem step_po (h : PO B S D N c w0 w L k) (hx : PKX lo w X S D c N m) (hlo : S < lo ∧ D < lo ∧ N < lo ∧ B ≤ lo ∧ lo ≤ w.heap.size) (wm : PW c t m) (hk : k ≤ 800000000) (ht : t ≤ 800000000) :
    Calls Tryz.prog 154 #[ptr X, ptr S] w fun e w' => e = .returned (.bool (decide ((pstp (gOf c) L m).2.pc = 0))) ∧ PO B S D N c w0 w' (pstp (gOf c) L m).1 (k + 1) ∧ PKX lo w' X S D c N (pstp (gOf c) L m).2 ∧
      UF (fun b => b = S ∨ b = D ∨ lo ≤ b) w w' := by
  obtain ⟨cc, h0, h1, hs⟩ := h.st
  obtain ⟨O, Dp, hp, ho, hS, hD⟩ := hx
  have hl := h.lt
  have hB := h.lo
  refine (step_pk h.ok hp hs h.mp hS hD (fun hh => by have := ho N hh; omega) h.ns.1 h.ns.2 wm h.ww h0 (by omega) (by omega)).mono ?_
  rintro e w' ⟨rfl, ⟨O', D', hp', ho', hd'⟩, hs', u⟩
  have u2 : UF (fun b => b = S ∨ b = D ∨ lo ≤ b) w w' := u.mono fun b _ hb => by
    rcases hb with hb | hb | hb
    · exact .inl hb
    · exact .inr (.inl hb)
    · exact .inr (.inr (ho b hb))
  refine ⟨rfl, ⟨⟨pcost m cc, ?_, ?_, hs'⟩, IsMap_same h.mp u2.size (u2.block N hl.2.2 (by have := h.ns; omega)), h.ok, h.ns, h.lo, (wm.step h.ww).2, below_uf h.bel h.lo.2.2 u2 (fun b hb => by omega)⟩, ⟨O', D', hp', fun b hb => ?_, fun hh => ?_, fun hh => ?_⟩, u2⟩
  · unfold pcost; split <;> omega
  · unfold pcost; split <;> omega
  · rcases ho' b hb with x | x
    · exact ho b x
    · omega
  · rcases hd' S hh with x | x
    · exact hS x
    · omega
  · rcases hd' D hh with x | x
    · exact hD x
    · omega
theorem pruns_succ (g : Pg) (i : Nat) (L : List Int) (m : Pm) : pstp g (pruns g i L m).1 (pruns g i L m).2 = pruns g (i + 1) L m := by
  rw [pruns_add g i 1]; rfl
theorem pw_runs {c : Cfg} : ∀ (i : Nat) {L : List Int} {m : Pm} {t : Int}, WW L → PW c t m → WW (pruns (gOf c) i L m).1 ∧ PW c (t + i) (pruns (gOf c) i L m).2
  | 0, L, m, t, h, h2 => ⟨h, (show PW c (t + ((0 : Nat) : Int)) m from h2.mono (by omega))⟩
  | i + 1, L, m, t, h, h2 => by
    have ih := pw_runs i h h2
    rw [← pruns_succ]
    have s := ih.2.step ih.1
    exact ⟨s.2, s.1.mono (by omega)⟩
/-- Behind i steps. -/
structure PRn (B S D N : Nat) (c : Cfg) (w0 w1 w : World) (lo X : Nat) (L : List Int) (m : Pm) (i : Nat) (k : Int) : Prop where
  po : PO B S D N c w0 w (pruns (gOf c) i L m).1 (k + i)
  mm : PKX lo w X S D c N (pruns (gOf c) i L m).2
  u : UF (fun b => b = S ∨ b = D ∨ lo ≤ b) w1 w
theorem PRn.start (h : PO B S D N c w0 w L k) (hx : PKX lo w X S D c N m) : PRn B S D N c w0 w w lo X L m 0 k := by
  refine ⟨?_, ?_, .refl _ _⟩
  · show PO B S D N c w0 w L (k + ((0 : Nat) : Int)); exact h.more (by omega)
  · exact hx
theorem run_step {w1 : World} {i : Nat} (h : PRn B S D N c w0 w1 w lo X L m i k) (hlo : S < lo ∧ D < lo ∧ N < lo ∧ B ≤ lo ∧ lo ≤ w1.heap.size) (wm : PW c t m) (ww : WW L) (hk : k + i ≤ 800000000) (ht : t + i ≤ 800000000) :
    Calls Tryz.prog 154 #[ptr X, ptr S] w fun e w' => e = .returned (.bool (decide ((pruns (gOf c) (i + 1) L m).2.pc = 0))) ∧ PRn B S D N c w0 w1 w' lo X L m (i + 1) k := by
  have hsz := h.u.size
  refine (step_po h.po h.mm ⟨hlo.1, hlo.2.1, hlo.2.2.1, hlo.2.2.2.1, by omega⟩ (pw_runs i ww wm).2 hk ht).mono ?_
  rintro e w' ⟨rfl, h1, h2, h3⟩
  rw [pruns_succ] at h1 h2 ⊢
  exact ⟨rfl, h1.more (by omega), h2, h.u.trans h3 (fun _ x => x) (fun _ _ x => x)⟩
end
attribute [local irreducible] pruns

end Go.Proofs.YtpocihddecemfaaGreat
