/- A row of values in memory that grows behind, and is cut in front and behind, whatever its elements' type. -/
import Derived.Test.YtbpkcoemehmpbaaJ14
import Derived.Test.YtbpkcoemehmpbaaJ6
import Derived.ArgAppend
import Derived.Laws.Slices
namespace Go.Proofs.Ytbpkcoemehmpbaa
open Go.RowKit
set_option linter.unusedVariables false
set_option linter.unusedSimpArgs false

/-- What an element's type must be: one cell. -/
structure ElT (t e : TypeId) (z : Value) (by' : Nat) : Prop where
  u : Try.prog.underlying t = some (.slice e)
  i : (Try.prog.info? e).map (fun i => (i.zero, i.size, i.bytes)) = some (some z, 1, by')
  z : z.cells.size = 1
  b : by' ≤ 64
/-- A row in block b. -/
def QV (e : TypeId) (b : Nat) (w : World) (v : Value) (Q : List Value) : Prop :=
  ∃ off cap cur, v = .slice (some ⟨b, off, none⟩) Q.length cap ∧ w.heap[b]? = some (.cells cur e (0, 0)) ∧ off + cap ≤ cur.size ∧ Q.length ≤ cap ∧ cap ≤ maxLen ∧ ∀ j, j < Q.length → cur[off + j]? = some (Q.getD j undef)
/-- A row that is nil yet, or in a block. -/
def QVO (e : TypeId) (o : Option Nat) (w : World) (v : Value) (Q : List Value) : Prop :=
  match o with
  | none => v = .slice none 0 0 ∧ Q = []
  | some b => QV e b w v Q
section
variable {e t : TypeId} {b : Nat} {o : Option Nat} {w w' : World} {v : Value} {Q : List Value}
theorem QV.lt (h : QV e b w v Q) : b < w.heap.size := by obtain ⟨_, _, _, _, h, _⟩ := h; exact (Array.getElem?_eq_some_iff.1 h).1
theorem QV.same (h : QV e b w v Q) (k : w'.heap[b]? = w.heap[b]?) : QV e b w' v Q := by
  obtain ⟨off, cap, cur, h1, h2, h3⟩ := h
  exact ⟨off, cap, cur, h1, k.trans h2, h3⟩
theorem QV.below (h : QV e b w v Q) (hb : Below w.heap.size w w') : QV e b w' v Q := h.same (hb.block b h.lt)
theorem QVO.same (h : QVO e o w v Q) (k : ∀ b, o = some b → w'.heap[b]? = w.heap[b]?) : QVO e o w' v Q := by
  cases o with
  | none => exact h
  | some b => exact QV.same h (k b rfl)
theorem QVO.lt (h : QVO e o w v Q) : ∀ b, o = some b → b < w.heap.size := by
  intro b e; subst e; exact QV.lt h
theorem QVO.below (h : QVO e o w v Q) (hb : Below w.heap.size w w') : QVO e o w' v Q := h.same fun b e => hb.block b (h.lt b e)
theorem QVO.len (h : QVO e o w v Q) : ∃ A c, v = .slice A Q.length c := by
  cases o with
  | none => obtain ⟨h, rfl⟩ := h; exact ⟨_, _, h⟩
  | some b => obtain ⟨_, _, _, h, _⟩ := h; exact ⟨_, _, h⟩
theorem QV.cell (h : QV e b w v Q) : ∃ off cap, v = .slice (some ⟨b, off, none⟩) Q.length cap ∧ Q.length ≤ cap ∧ cap ≤ maxLen ∧ ∀ j, j < Q.length → w.cell? ⟨b, off + j, none⟩ = some (Q.getD j undef) := by
  obtain ⟨off, cap, cur, h1, h3, h4, h5, h6, h7⟩ := h
  refine ⟨off, cap, h1, h5, h6, fun j hj => ?_⟩
  simp only [World.cell?, h3]
  simpa using h7 j hj
theorem QV.fro (h : QV e b w v Q) (j : Nat) : w.frozen? ⟨b, j, none⟩ = false := by
  obtain ⟨off, cap, cur, h1, h3, _⟩ := h
  exact frozen_of_row w b j _ _ h3
/-- Without the last one; without the first one. -/
theorem QV.init (h : QV e b w v Q) (hQ : 0 < Q.length) : ∃ off cap, v = .slice (some ⟨b, off, none⟩) Q.length cap ∧ Q.length ≤ cap ∧ cap ≤ maxLen ∧ (∀ j, j < Q.length → w.cell? ⟨b, off + j, none⟩ = some (Q.getD j undef)) ∧
    QV e b w (.slice (some ⟨b, off, none⟩) (Q.length - 1) cap) Q.dropLast ∧ QV e b w (.slice (some ⟨b, if cap = 1 then off else off + 1, none⟩) (Q.length - 1) (cap - 1)) Q.tail := by
  obtain ⟨off, cap, cur, h1, h3, h4, h5, h6, h7⟩ := h
  refine ⟨off, cap, h1, h5, h6, fun j hj => ?_, ⟨off, cap, cur, by simp, h3, h4, by simp; omega, h6, fun j hj => ?_⟩, ⟨if cap = 1 then off else off + 1, cap - 1, cur, by simp, h3, ?_, by simp; omega, by omega, fun j hj => ?_⟩⟩
  · simp only [World.cell?, h3]
    simpa using h7 j hj
  · simp at hj
    rw [h7 j (by omega)]
    have e : Q.dropLast.getD j undef = Q.getD j undef := by
      rw [List.getD, List.getD, List.getElem?_dropLast, if_pos hj]
    rw [e]
  · split <;> omega
  · simp at hj
    rw [if_neg (by omega), show off + 1 + j = off + (j + 1) by omega, h7 (j + 1) (by omega)]
    simp [List.getD, List.getElem?_tail]
theorem QVO.has (h : QVO e o w v Q) (hQ : 0 < Q.length) : ∃ b, o = some b ∧ QV e b w v Q := by
  cases o with
  | none => obtain ⟨_, rfl⟩ := h; simp at hQ
  | some b => exact ⟨b, rfl, h⟩
/-- One element changes. -/
theorem QV.set (h : QV e b w v Q) {off cap : Nat} (hv : v = .slice (some ⟨b, off, none⟩) Q.length cap) (i : Nat) (hi : i < Q.length) (x : Value) : QV e b (w.setCell ⟨b, off + i, none⟩ x) v (Q.set i x) := by
  obtain ⟨off', cap', cur, h1, h3, h4, h5, h6, h7⟩ := h
  rw [hv] at h1; cases h1
  refine ⟨off, cap, cur.setIfInBounds (off + i) x, by rw [hv]; simp, heap_setCell_same w b _ _ e _ h3, by simpa using h4, by simpa using h5, h6, fun j hj => ?_⟩
  simp at hj
  by_cases hj2 : j = i
  · subst hj2
    rw [Array.getElem?_setIfInBounds_self_of_lt (by omega)]
    simp [List.getD, hi]
  · rw [Array.getElem?_setIfInBounds_ne (by omega), h7 j hj]
    simp [List.getD, List.getElem?_set, Ne.symm hj2]
theorem qv_of_own {B n : Nat} (h : w'.ownsRow B e 1 v n Q) (hn : n = Q.length) (h0 : 0 < n) : ∃ b, B ≤ b ∧ QV e b w' v Q := by
  obtain ⟨hl, ⟨rfl, h⟩ | ⟨g, cap, cur, rfl, hg, hh, hc, hm, hs, ht⟩⟩ := h
  · omega
  · subst hn
    refine ⟨g, hg, 0, cap, cur, rfl, hh, by omega, hc, hm, fun j hj => ?_⟩
    have e : (cur.toList.take (Q.length * 1))[j]? = Q[j]? := congrArg (fun l => l[j]?) ht
    rw [List.getElem?_take, if_pos (by omega), List.getElem?_eq_getElem hj] at e
    simpa [List.getD, List.getElem?_eq_getElem hj] using e
theorem setCells_one (w : World) (b o : Nat) (v : Value) : w.setCells b o [v] = w.setCell ⟨b, o, none⟩ v := rfl

/-- What an append leaves: in the same block, or in a new one. -/
def GrewV (e : TypeId) (o : Option Nat) (w w' : World) (v' : Value) (Q : List Value) : Prop := ∃ b, (o = some b ∨ w.heap.size ≤ b) ∧ QV e b w' v' Q ∧ Upd b b w w'
/-- One value comes behind. -/
theorem run_append_v {x : Nat} {z y : Value} {by' : Nat} (E : ElT t e z by') (ty : TypeId) (h : QVO e o w v Q) (hx : w.cell? ⟨x, 0, none⟩ = some y) (hy : y.oneCell' = true) (hq : Q.length ≤ 100000) :
    ∃ v' w', (Builtin.append_ #[t, t] ty #[v, .slice (some ⟨x, 0, none⟩) 1 1]).run Try.prog w = .ok v' w' ∧ GrewV e o w w' v' (Q ++ [y]) := by
  obtain ⟨i0, hi0, hz0, hz1, hz2⟩ := info_parts E.i
  have hby := E.b
  have hnews : ∀ (j : Nat) (u : Value), ([y] : List Value)[j]? = some u → w.cell? ((⟨x, 0, none⟩ : Addr).add j) = some u := by
    intro j u hj
    match j, hj with
    | 0, hj =>
      simp at hj
      subst hj
      rw [add_off]; exact hx
  have h1 : ∀ u ∈ ([y] : List Value), u.oneCell' = true := by
    intro u hu; rw [List.mem_singleton.1 hu]; exact hy
  have fin : ∀ v' w', w'.ownsRow w.heap.size e 1 v' (Q.length + 1) (Q ++ [y]) → w.grownBy w' none → GrewV e o w w' v' (Q ++ [y]) := by
    intro v' w' ho hg
    obtain ⟨b, hb, hqb⟩ := qv_of_own (n := Q.length + 1) (Q := Q ++ [y]) ho (by simp) (by omega)
    exact ⟨b, .inr hb, hqb, hg.os, hg.tape, hg.output, hg.size, fun k hk _ _ => hg.block k hk (by simp)⟩
  have hmul : (Q.length + 1) * by' ≤ 140737488355328 := by have := Nat.mul_le_mul (show Q.length + 1 ≤ 100001 by omega) hby; omega
  cases o with
  | none =>
    obtain ⟨rfl, rfl⟩ := h
    obtain ⟨v', w', hr, ho, hg, -⟩ := run_append_own (P := Try.prog) w w.heap.size t ty e i0 _ 1 by' E.u hi0 hz0 hz1 hz2 E.z (by decide) (.slice none 0 0) 0 [] (World.ownsRow_nil _ _ _ _) ⟨x, 0, none⟩ 1 1 [y] rfl hnews h1 (by unfold maxLen; omega) (by simpa using hmul) (Nat.le_refl _)
    exact ⟨v', w', hr, fin v' w' ho hg⟩
  | some b =>
    obtain ⟨off, cap, cur, rfl, hh, hoc, hqc, hcm, hcell⟩ := h
    have olds : ∀ (j : Nat) (u : Value), Q[j]? = some u → w.cell? ((⟨b, off, none⟩ : Addr).add j) = some u := by
      intro j u hj
      rcases Nat.lt_or_ge j Q.length with hj' | hj'
      · rw [add_off]
        simp only [World.cell?, hh]
        have := hcell j hj'
        rw [List.getD, hj] at this; simpa using this
      · rw [List.getElem?_eq_none hj'] at hj; cases hj
    by_cases hroom : Q.length + 1 ≤ cap
    · have hlt : off + Q.length < cur.size := by omega
      have hr := run_append_room_cells (P := Try.prog) w t ty e i0 E.u hi0 b off Q.length cap ⟨x, 0, none⟩ 1 1 [y] (by rw [hz1]; rfl) hnews h1 hroom (fun j hj => by
        have : j = 0 := by simp at hj; omega
        subst this
        simp only [World.cell?, hh, hz1]
        simp [hlt]) (fun j hj => frozen_of_row w b _ _ _ hh)
      rw [hz1, Nat.mul_one, setCells_one] at hr
      refine ⟨_, _, hr, b, .inl rfl, ⟨off, cap, cur.setIfInBounds (off + Q.length) y, by simp, heap_setCell_same w b _ _ e _ hh, by simpa using hoc, by simp; omega, hcm, fun j hj => ?_⟩, rfl, rfl, rfl, by simp, fun k hk h1 _ => heap_setCell_other w ⟨b, off + Q.length, none⟩ k _ h1⟩
      simp at hj
      by_cases hj2 : j = Q.length
      · subst hj2
        simp [List.getD, hlt]
      · have hj3 : j < Q.length := by omega
        rw [Array.getElem?_setIfInBounds_ne (by omega), hcell j hj3]
        simp [List.getD, List.getElem?_append_left hj3]
    · obtain ⟨v', w', hr, ho, hg⟩ := run_append_arg_grows (P := Try.prog) w t ty e i0 _ 1 by' E.u hi0 hz0 hz1 hz2 E.z (by decide) ⟨b, off, none⟩ Q.length cap Q (by simp) olds ⟨x, 0, none⟩ 1 1 [y] rfl hnews (by omega) (by unfold maxLen; omega) hmul
      exact ⟨v', w', hr, fin v' w' ho hg⟩
theorem append_v {x : Nat} {o' : Option Nat} {ops : Array Oper} {rest : List Oper} {o : Oper} {a : Act} {R : Exit → Act → World → Prop} (hg : o.guard = none) (s y : Operand) {z u : Value} {by' : Nat} (E : ElT t e z by')
    (ho : o.op = .call { callee := .builtin .append, args := #[s, y], argTypes := #[t, t] }) (h : QVO e o' w v Q) (hx : w.cell? ⟨x, 0, none⟩ = some u) (hu : u.oneCell' = true) (hq : Q.length ≤ 100000)
    (hs : a.eval s = v) (hy : a.eval y = .slice (some ⟨x, 0, none⟩) 1 1)
    (k : ∀ v' w', GrewV e o' w w' v' (Q ++ [u]) → wpList Try.prog ops R rest (a.put o.dst v') w') : wpList Try.prog ops R (o :: rest) a w := by
  refine wpList_plain hg fun K hK => ?_
  obtain ⟨v', w', hr, h3⟩ := run_append_v E o.type h hx hu hq
  unfold Oper.wp execOp
  simp only [ho, resolve, invoke, builtin, Sem.run_bind, Sem.run_pure, Result.andThen_ok, List.map_toArray, List.map_cons, List.map_nil, hs, hy, hr]
  exact hK _ _ (k v' w' h3)
set_option maxRecDepth 100000 in
theorem slice_dropV (ht : Try.prog.underlying t = some (.slice e)) (he : Try.prog.elem t = e) (hs : ∀ w, (sizeOf e).run Try.prog w = .ok 1 w) (b off p q : Nat) (h : p + 1 ≤ q) (w : World) : (Instr.slice t (.slice (some ⟨b, off, none⟩) (p + 1) q) none (some (.int .i64 (p : Int))) none).run Try.prog w = .ok (.slice (some ⟨b, off, none⟩) p q) w := by
  have e := run_slice_h (P := Try.prog) w t (some ⟨b, off, none⟩) (p + 1) q (by rw [he]; exact ht) .i64 (p : Int) (by omega) (by omega)
  rw [e, he, hs]
  have hq : ¬ q = 0 := by omega
  simp [sliced, Result.andThen, hq, Addr.add]
set_option maxRecDepth 100000 in
theorem slice_tailV (ht : Try.prog.underlying t = some (.slice e)) (he : Try.prog.elem t = e) (hs : ∀ w, (sizeOf e).run Try.prog w = .ok 1 w) (b off n c : Nat) (h : 0 < n) (hc : n ≤ c) (w : World) : (Instr.slice t (.slice (some ⟨b, off, none⟩) n c) (some (.int .i64 1)) none none).run Try.prog w = .ok (.slice (some ⟨b, if c = 1 then off else off + 1, none⟩) (n - 1) (c - 1)) w := by
  have e := run_slice_l (P := Try.prog) w t (some ⟨b, off, none⟩) n c (by rw [he]; exact ht) .i64 1 (by omega) (by omega)
  rw [e, he, hs]
  by_cases hq : c = 1
  · simp [sliced, Result.andThen, hq, Addr.add]
  · simp [sliced, Result.andThen, hq, Addr.add]
end
end Go.Proofs.Ytbpkcoemehmpbaa
