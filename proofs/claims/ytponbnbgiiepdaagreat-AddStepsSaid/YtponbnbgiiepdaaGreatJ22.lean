/- Arguments opened: arrays of integers, rows of integers. A row of values in memory that grows behind, and is cut in front and behind, whatever its elements' type. A configuration that comes in by value, opened. A configuration that comes in, under the names that a frame wants. -/
import Derived.Test.YtponbnbgiiepdaaGreatJ1
import Derived.WalkKit
import Derived.ProofKit
import Derived.OpenShut
import Derived.ChangeSlices
import Derived.ChangeOld
import Derived.Below
import Derived.Test.YtponbnbgiiepdaaGreatJ3
import Derived.ArgAppend
import Derived.Laws.Slices
import Derived.Test.YtponbnbgiiepdaaGreatJ6
namespace Go.Proofs.YtponbnbgiiepdaaGreat
open Go.ChangeShapes Go.WideShapes Go.RowKit

section
variable {H : Type} {enc : TypeId × Value → H} {P : Program} {w : World} {base : Nat} {spare : Nat → Bool} {held : Bool}

theorem open_arr {r : Reach} {b0 n : Nat} {t e : TypeId} {k : IntKind} {v : Value} {d : DataW H} {p : List MemPlace} (ht : P.underlying t = some (.array n e)) (he : P.underlying e = some (.int k)) (hce : P.cellsOf e = 1) (hC : P.cellsOf t = n)
    (hv : Value.okWide P w r b0 t v) (h : DataW.Trod enc P w base spare held t v d p) :
    ∃ l : List Int, l.length = n ∧ v = .agg (l.map (Value.int k)).toArray ∧ ∀ x ∈ l, (Lit.int k x).wf = true := by
  obtain ⟨cs, rfl, hsz⟩ : ∃ cs, v = .agg cs ∧ cs.size = P.cellsOf t := by
    simp only [Value.okWide, ht] at hv
    obtain ⟨cs, h1, h2, _⟩ := hv
    exact ⟨cs, h1, h2⟩
  obtain ⟨fuel, hf⟩ := h
  obtain ⟨xs, m, _, _, _, hl, hel⟩ := DataW.trod_array ht hf
  have key : ∀ i, i < n → ∃ x : Int, cs[i]? = some (.int k x) ∧ (Lit.int k x).wf = true := by
    intro i hi
    have h1 := hel i hi
    rw [hce, List.getElem?_eq_getElem (by omega)] at h1
    obtain ⟨x, h2, _, h3⟩ := DataW.trod_int he h1
    refine ⟨x, ?_, h3⟩
    simp only [Value.cells, Nat.mul_one] at h2
    have h4 := congrArg (fun l => l[0]?) h2
    simpa [List.getElem?_take, List.getElem?_drop] using h4
  have hn : cs.size = n := hsz.trans hC
  refine ⟨cs.toList.map fun v => match v with | .int _ x => x | _ => 0, by simpa using hn, ?_, ?_⟩
  · congr 1
    apply Array.ext'
    simp only [List.map_map]
    apply List.ext_getElem?
    intro i
    by_cases hi : i < n
    · obtain ⟨x, hx, _⟩ := key i hi
      simp only [List.getElem?_map, Array.getElem?_toList, hx, Option.map_some, Function.comp]
    · simp [List.getElem?_map, Array.getElem?_toList, Array.getElem?_eq_none (by omega : cs.size ≤ i)]
  · intro x hx
    obtain ⟨v, hv, rfl⟩ := List.mem_map.1 hx
    obtain ⟨i, hi, hvi⟩ := List.getElem_of_mem hv
    obtain ⟨y, hy, hw⟩ := key i (by simpa [hn] using hi)
    have : v = .int k y := by
      have h5 : cs.toList[i]? = some v := by rw [List.getElem?_eq_getElem hi, hvi]
      rw [Array.getElem?_toList, hy] at h5
      exact (Option.some.inj h5).symm
    subst this
    exact hw

/-- A slice of integers that came in: nil; or a row of 'cap' cells. -/
def IsRow (k : IntKind) (w : World) (a : Option Addr) (len cap : Nat) (zs : List Int) : Prop :=
  (a = none ∧ len = 0 ∧ cap = 0 ∧ zs = []) ∨
  ∃ x, a = some x ∧ len ≤ cap ∧ cap ≤ maxLen ∧ zs.length = cap ∧ (∀ i, i < zs.length → w.cell? (x.add i) = some (.int k (zs.getD i 0))) ∧ ∀ n ∈ zs, (Lit.int k n).wf = true

theorem open_row {t e : TypeId} {k : IntKind} {a : Option Addr} {len cap : Nat} {d : DataW H} {p : List MemPlace} (ht : P.underlying t = some (.slice e)) (he : P.underlying e = some (.int k)) (hce : P.cellsOf e = 1)
    (h : DataW.Trod enc P w 0 (fun _ => true) held t (.slice a len cap) d p) : ∃ zs, IsRow k w a len cap zs := by
  obtain ⟨fuel, hf⟩ := h
  rcases open_ints ht he hce hf with ⟨hcs, _⟩ | ⟨x, l, c, zs, hcs, _, hl, hm, hz, _, hcell, hwz⟩
  · simp [Value.cells] at hcs
    obtain ⟨rfl, rfl, rfl⟩ := hcs
    exact ⟨[], .inl ⟨rfl, rfl, rfl, rfl⟩⟩
  · simp [Value.cells] at hcs
    obtain ⟨rfl, rfl, rfl⟩ := hcs
    exact ⟨zs, .inr ⟨_, rfl, hl, hm, by simpa using hz, hcell, hwz⟩⟩
end
/-- What a slice of integers that came in reads as. -/
theorem reads_row {k : IntKind} {w : World} {a : Option Addr} {len cap : Nat} {z : List Int} (h : IsRow k w a len cap z) :
    Reads k w a (z.take len) ∧ (z.take len).length = len ∧ len ≤ cap ∧ cap ≤ maxLen ∧ (a = none → cap = 0) ∧ ∀ x ∈ z.take len, (Lit.int k x).wf = true := by
  rcases h with ⟨rfl, rfl, rfl, rfl⟩ | ⟨x, rfl, h1, h2, h3, h4, h5⟩
  · exact ⟨fun h => by simp at h, rfl, Nat.le_refl _, Nat.zero_le _, fun _ => rfl, by simp⟩
  · have hl : (z.take len).length = len := by simp; omega
    refine ⟨fun h0 => ?_, hl, h1, h2, (fun e => by cases e), fun y hy => h5 y (List.mem_of_mem_take hy)⟩
    have c0 := h4 0 (by omega)
    obtain ⟨b, off, sp⟩ := x
    have hs : sp = none := by
      cases sp with
      | none => rfl
      | some s =>
        exfalso
        simp only [Addr.add, if_true] at c0
        unfold World.cell? at c0
        simp only [Option.isSome_some, if_true] at c0
        split at c0 <;> simp at c0
    subst hs
    refine ⟨b, off, rfl, ?_, fun j hj => ?_⟩
    · rw [add_off] at c0
      exact World.block_lt_of_cell? w _ c0
    · have c := h4 j (by omega)
      rw [add_off] at c
      rw [c]
      have hj2 : j < len := by omega
      simp [List.getD, hj2]

end Go.Proofs.YtponbnbgiiepdaaGreat

namespace Go.Proofs.YtponbnbgiiepdaaGreat
open Go.RowKit
set_option linter.unusedVariables false
set_option linter.unusedSimpArgs false

/-- What an element's type must be: one cell. -/
structure ElT (t e : TypeId) (z : Value) (by' : Nat) : Prop where
  u : Tryz.prog.underlying t = some (.slice e)
  i : (Tryz.prog.info? e).map (fun i => (i.zero, i.size, i.bytes)) = some (some z, 1, by')
  z : z.cells.size = 1
  b : by' ≤ 64
/-- A row in block b. -/
def QV (e : TypeId) (b : Nat) (w : World) (v : Value) (Q : List Value) : Prop :=
  ∃ off cap cur, v = .slice (some ⟨b, off, none⟩) Q.length cap ∧ w.heap[b]? = some (.cells cur e (0, 0)) ∧ off + cap ≤ cur.size ∧ Q.length ≤ cap ∧ cap ≤ maxLen ∧ ∀ j, j < Q.length → cur[off + j]? = some (Q.getD j undef)
/-- A row that is nil yet, or in a block. -/
def QVO (e : TypeId) (o : Option Nat) (w : World) (v : Value) (Q : List Value) : Prop :=
  match o with
  | none => v = .slice none 0 0 ∧ Q = []
  | some b => QV e b w v Q
section
variable {e t : TypeId} {b : Nat} {o : Option Nat} {w w' : World} {v : Value} {Q : List Value}
theorem QV.lt (h : QV e b w v Q) : b < w.heap.size := by obtain ⟨_, _, _, _, h, _⟩ := h; exact (Array.getElem?_eq_some_iff.1 h).1
theorem QV.same (h : QV e b w v Q) (k : w'.heap[b]? = w.heap[b]?) : QV e b w' v Q := by
  obtain ⟨off, cap, cur, h1, h2, h3⟩ := h
  exact ⟨off, cap, cur, h1, k.trans h2, h3⟩
theorem QV.below (h : QV e b w v Q) (hb : Below w.heap.size w w') : QV e b w' v Q := h.same (hb.block b h.lt)
theorem QVO.same (h : QVO e o w v Q) (k : ∀ b, o = some b → w'.heap[b]? = w.heap[b]?) : QVO e o w' v Q := by
  cases o with
  | none => exact h
  | some b => exact QV.same h (k b rfl)
theorem QVO.lt (h : QVO e o w v Q) : ∀ b, o = some b → b < w.heap.size := by
  intro b e; subst e; exact QV.lt h
theorem QVO.below (h : QVO e o w v Q) (hb : Below w.heap.size w w') : QVO e o w' v Q := h.same fun b e => hb.block b (h.lt b e)
theorem QVO.len (h : QVO e o w v Q) : ∃ A c, v = .slice A Q.length c := by
  cases o with
  | none => obtain ⟨h, rfl⟩ := h; exact ⟨_, _, h⟩
  | some b => obtain ⟨_, _, _, h, _⟩ := h; exact ⟨_, _, h⟩
theorem QV.cell (h : QV e b w v Q) : ∃ off cap, v = .slice (some ⟨b, off, none⟩) Q.length cap ∧ Q.length ≤ cap ∧ cap ≤ maxLen ∧ ∀ j, j < Q.length → w.cell? ⟨b, off + j, none⟩ = some (Q.getD j undef) := by
  obtain ⟨off, cap, cur, h1, h3, h4, h5, h6, h7⟩ := h
  refine ⟨off, cap, h1, h5, h6, fun j hj => ?_⟩
  simp only [World.cell?, h3]
  simpa using h7 j hj
theorem QV.fro (h : QV e b w v Q) (j : Nat) : w.frozen? ⟨b, j, none⟩ = false := by
  obtain ⟨off, cap, cur, h1, h3, _⟩ := h
  exact frozen_of_row w b j _ _ h3
/-- Without the last one; without the first one. -/
theorem QV.init (h : QV e b w v Q) (hQ : 0 < Q.length) : ∃ off cap, v = .slice (some ⟨b, off, none⟩) Q.length cap ∧ Q.length ≤ cap ∧ cap ≤ maxLen ∧ (∀ j, j < Q.length → w.cell? ⟨b, off + j, none⟩ = some (Q.getD j undef)) ∧
    QV e b w (.slice (some ⟨b, off, none⟩) (Q.length - 1) cap) Q.dropLast ∧ QV e b w (.slice (some ⟨b, if cap = 1 then off else off + 1, none⟩) (Q.length - 1) (cap - 1)) Q.tail := by
  obtain ⟨off, cap, cur, h1, h3, h4, h5, h6, h7⟩ := h
  refine ⟨off, cap, h1, h5, h6, fun j hj => ?_, ⟨off, cap, cur, by simp, h3, h4, by simp; omega, h6, fun j hj => ?_⟩, ⟨if cap = 1 then off else off + 1, cap - 1, cur, by simp, h3, ?_, by simp; omega, by omega, fun j hj => ?_⟩⟩
  · simp only [World.cell?, h3]
    simpa using h7 j hj
  · simp at hj
    rw [h7 j (by omega)]
    have e : Q.dropLast.getD j undef = Q.getD j undef := by
      rw [List.getD, List.getD, List.getElem?_dropLast, if_pos hj]
    rw [e]
  · split <;> omega
  · simp at hj
    rw [if_neg (by omega), show off + 1 + j = off + (j + 1) by omega, h7 (j + 1) (by omega)]
    simp [List.getD, List.getElem?_tail]
theorem QVO.has (h : QVO e o w v Q) (hQ : 0 < Q.length) : ∃ b, o = some b ∧ QV e b w v Q := by
  cases o with
  | none => obtain ⟨_, rfl⟩ := h; simp at hQ
  | some b => exact ⟨b, rfl, h⟩
/-- One element changes. -/
theorem QV.set (h : QV e b w v Q) {off cap : Nat} (hv : v = .slice (some ⟨b, off, none⟩) Q.length cap) (i : Nat) (hi : i < Q.length) (x : Value) : QV e b (w.setCell ⟨b, off + i, none⟩ x) v (Q.set i x) := by
  obtain ⟨off', cap', cur, h1, h3, h4, h5, h6, h7⟩ := h
  rw [hv] at h1; cases h1
  refine ⟨off, cap, cur.setIfInBounds (off + i) x, by rw [hv]; simp, heap_setCell_same w b _ _ e _ h3, by simpa using h4, by simpa using h5, h6, fun j hj => ?_⟩
  simp at hj
  by_cases hj2 : j = i
  · subst hj2
    rw [Array.getElem?_setIfInBounds_self_of_lt (by omega)]
    simp [List.getD, hi]
  · rw [Array.getElem?_setIfInBounds_ne (by omega), h7 j hj]
    simp [List.getD, List.getElem?_set, Ne.symm hj2]
theorem qv_of_own {B n : Nat} (h : w'.ownsRow B e 1 v n Q) (hn : n = Q.length) (h0 : 0 < n) : ∃ b, B ≤ b ∧ QV e b w' v Q := by
  obtain ⟨hl, ⟨rfl, h⟩ | ⟨g, cap, cur, rfl, hg, hh, hc, hm, hs, ht⟩⟩ := h
  · omega
  · subst hn
    refine ⟨g, hg, 0, cap, cur, rfl, hh, by omega, hc, hm, fun j hj => ?_⟩
    have e : (cur.toList.take (Q.length * 1))[j]? = Q[j]? := congrArg (fun l => l[j]?) ht
    rw [List.getElem?_take, if_pos (by omega), List.getElem?_eq_getElem hj] at e
    simpa [List.getD, List.getElem?_eq_getElem hj] using e
theorem setCells_one (w : World) (b o : Nat) (v : Value) : w.setCells b o [v] = w.setCell ⟨b, o, none⟩ v := rfl

/-- What an append leaves: in the same block, or in a new one. -/
def GrewV (e : TypeId) (o : Option Nat) (w w' : World) (v' : Value) (Q : List Value) : Prop := ∃ b, (o = some b ∨ w.heap.size ≤ b) ∧ QV e b w' v' Q ∧ Upd b b w w'
/-- One value comes behind. -/
theorem run_append_v {x : Nat} {z y : Value} {by' : Nat} (E : ElT t e z by') (ty : TypeId) (h : QVO e o w v Q) (hx : w.cell? ⟨x, 0, none⟩ = some y) (hy : y.oneCell' = true) (hq : Q.length ≤ 100000) :
    ∃ v' w', (Builtin.append_ #[t, t] ty #[v, .slice (some ⟨x, 0, none⟩) 1 1]).run Tryz.prog w = .ok v' w' ∧ GrewV e o w w' v' (Q ++ [y]) := by
  obtain ⟨i0, hi0, hz0, hz1, hz2⟩ := info_parts E.i
  have hby := E.b
  have hnews : ∀ (j : Nat) (u : Value), ([y] : List Value)[j]? = some u → w.cell? ((⟨x, 0, none⟩ : Addr).add j) = some u := by
    intro j u hj
    match j, hj with
    | 0, hj =>
      simp at hj
      subst hj
      rw [add_off]; exact hx
  have h1 : ∀ u ∈ ([y] : List Value), u.oneCell' = true := by
    intro u hu; rw [List.mem_singleton.1 hu]; exact hy
  have fin : ∀ v' w', w'.ownsRow w.heap.size e 1 v' (Q.length + 1) (Q ++ [y]) → w.grownBy w' none → GrewV e o w w' v' (Q ++ [y]) := by
    intro v' w' ho hg
    obtain ⟨b, hb, hqb⟩ := qv_of_own (n := Q.length + 1) (Q := Q ++ [y]) ho (by simp) (by omega)
    exact ⟨b, .inr hb, hqb, hg.os, hg.tape, hg.output, hg.size, fun k hk _ _ => hg.block k hk (by simp)⟩
  have hmul : (Q.length + 1) * by' ≤ 140737488355328 := by have := Nat.mul_le_mul (show Q.length + 1 ≤ 100001 by omega) hby; omega
  cases o with
  | none =>
    obtain ⟨rfl, rfl⟩ := h
    obtain ⟨v', w', hr, ho, hg, -⟩ := run_append_own (P := Tryz.prog) w w.heap.size t ty e i0 _ 1 by' E.u hi0 hz0 hz1 hz2 E.z (by decide) (.slice none 0 0) 0 [] (World.ownsRow_nil _ _ _ _) ⟨x, 0, none⟩ 1 1 [y] rfl hnews h1 (by unfold maxLen; omega) (by simpa using hmul) (Nat.le_refl _)
    exact ⟨v', w', hr, fin v' w' ho hg⟩
  | some b =>
    obtain ⟨off, cap, cur, rfl, hh, hoc, hqc, hcm, hcell⟩ := h
    have olds : ∀ (j : Nat) (u : Value), Q[j]? = some u → w.cell? ((⟨b, off, none⟩ : Addr).add j) = some u := by
      intro j u hj
      rcases Nat.lt_or_ge j Q.length with hj' | hj'
      · rw [add_off]
        simp only [World.cell?, hh]
        have := hcell j hj'
        rw [List.getD, hj] at this; simpa using this
      · rw [List.getElem?_eq_none hj'] at hj; cases hj
    by_cases hroom : Q.length + 1 ≤ cap
    · have hlt : off + Q.length < cur.size := by omega
      have hr := run_append_room_cells (P := Tryz.prog) w t ty e i0 E.u hi0 b off Q.length cap ⟨x, 0, none⟩ 1 1 [y] (by rw [hz1]; rfl) hnews h1 hroom (fun j hj => by
        have : j = 0 := by simp at hj; omega
        subst this
        simp only [World.cell?, hh, hz1]
        simp [hlt]) (fun j hj => frozen_of_row w b _ _ _ hh)
      rw [hz1, Nat.mul_one, setCells_one] at hr
      refine ⟨_, _, hr, b, .inl rfl, ⟨off, cap, cur.setIfInBounds (off + Q.length) y, by simp, heap_setCell_same w b _ _ e _ hh, by simpa using hoc, by simp; omega, hcm, fun j hj => ?_⟩, rfl, rfl, rfl, by simp, fun k hk h1 _ => heap_setCell_other w ⟨b, off + Q.length, none⟩ k _ h1⟩
      simp at hj
      by_cases hj2 : j = Q.length
      · subst hj2
        simp [List.getD, hlt]
      · have hj3 : j < Q.length := by omega
        rw [Array.getElem?_setIfInBounds_ne (by omega), hcell j hj3]
        simp [List.getD, List.getElem?_append_left hj3]
    · obtain ⟨v', w', hr, ho, hg⟩ := run_append_arg_grows (P := Tryz.prog) w t ty e i0 _ 1 by' E.u hi0 hz0 hz1 hz2 E.z (by decide) ⟨b, off, none⟩ Q.length cap Q (by simp) olds ⟨x, 0, none⟩ 1 1 [y] rfl hnews (by omega) (by unfold maxLen; omega) hmul
      exact ⟨v', w', hr, fin v' w' ho hg⟩
theorem append_v {x : Nat} {o' : Option Nat} {ops : Array Oper} {rest : List Oper} {o : Oper} {a : Act} {R : Exit → Act → World → Prop} (hg : o.guard = none) (s y : Operand) {z u : Value} {by' : Nat} (E : ElT t e z by')
    (ho : o.op = .call { callee := .builtin .append, args := #[s, y], argTypes := #[t, t] }) (h : QVO e o' w v Q) (hx : w.cell? ⟨x, 0, none⟩ = some u) (hu : u.oneCell' = true) (hq : Q.length ≤ 100000)
    (hs : a.eval s = v) (hy : a.eval y = .slice (some ⟨x, 0, none⟩) 1 1)
    (k : ∀ v' w', GrewV e o' w w' v' (Q ++ [u]) → wpList Tryz.prog ops R rest (a.put o.dst v') w') : wpList Tryz.prog ops R (o :: rest) a w := by
  refine wpList_plain hg fun K hK => ?_
  obtain ⟨v', w', hr, h3⟩ := run_append_v E o.type h hx hu hq
  unfold Oper.wp execOp
  simp only [ho, resolve, invoke, builtin, Sem.run_bind, Sem.run_pure, Result.andThen_ok, List.map_toArray, List.map_cons, List.map_nil, hs, hy, hr]
  exact hK _ _ (k v' w' h3)
set_option maxRecDepth 100000 in
theorem slice_dropV (ht : Tryz.prog.underlying t = some (.slice e)) (he : Tryz.prog.elem t = e) (hs : ∀ w, (sizeOf e).run Tryz.prog w = .ok 1 w) (b off p q : Nat) (h : p + 1 ≤ q) (w : World) : (Instr.slice t (.slice (some ⟨b, off, none⟩) (p + 1) q) none (some (.int .i64 (p : Int))) none).run Tryz.prog w = .ok (.slice (some ⟨b, off, none⟩) p q) w := by
  have e := run_slice_h (P := Tryz.prog) w t (some ⟨b, off, none⟩) (p + 1) q (by rw [he]; exact ht) .i64 (p : Int) (by omega) (by omega)
  rw [e, he, hs]
  have hq : ¬ q = 0 := by omega
  simp [sliced, Result.andThen, hq, Addr.add]
set_option maxRecDepth 100000 in
theorem slice_tailV (ht : Tryz.prog.underlying t = some (.slice e)) (he : Tryz.prog.elem t = e) (hs : ∀ w, (sizeOf e).run Tryz.prog w = .ok 1 w) (b off n c : Nat) (h : 0 < n) (hc : n ≤ c) (w : World) : (Instr.slice t (.slice (some ⟨b, off, none⟩) n c) (some (.int .i64 1)) none none).run Tryz.prog w = .ok (.slice (some ⟨b, if c = 1 then off else off + 1, none⟩) (n - 1) (c - 1)) w := by
  have e := run_slice_l (P := Tryz.prog) w t (some ⟨b, off, none⟩) n c (by rw [he]; exact ht) .i64 1 (by omega) (by omega)
  rw [e, he, hs]
  by_cases hq : c = 1
  · simp [sliced, Result.andThen, hq, Addr.add]
  · simp [sliced, Result.andThen, hq, Addr.add]
end
end Go.Proofs.YtponbnbgiiepdaaGreat

namespace Go.Proofs.YtponbnbgiiepdaaGreat.Lay
open Go.ChangeShapes Go.WideShapes Go.RowKit
set_option linter.constructorNameAsVariable false
set_option maxRecDepth 100000

section
variable {H : Type} {enc : TypeId × Value → H} {w : World} {base : Nat} {spare : Nat → Bool} {held : Bool}

theorem one_cell {fuel : Nat} {cs : List Value} {i : Nat} {y : DataW H × List MemPlace} (h : DataW.trod enc Tryz.prog w base spare held fuel 3 ((cs.drop i).take 1) = some y) : ∃ x : Int, cs[i]? = some (.int .i64 x) := by
  obtain ⟨x, h1, _, _⟩ := DataW.trod_int Tryz.underlying3 h
  have := congrArg (fun l => l[0]?) h1
  exact ⟨x, by simpa [List.getElem?_take, List.getElem?_drop] using this⟩
theorem open_cfg {r : Reach} {b0 : Nat} {v : Value} {d : DataW H} {p : List MemPlace} (hv : Value.okWide Tryz.prog w r b0 24 v) (h : DataW.Trod enc Tryz.prog w base spare held 24 v d p) : ∃ c : Cfg, v = cfgV c := by
  have ht := Tryz.underlying24
  obtain ⟨cs, rfl, hsz⟩ : ∃ cs, v = .agg cs ∧ cs.size = Tryz.prog.cellsOf 24 := by
    simp only [Value.okWide, ht] at hv
    obtain ⟨cs, h1, h2, _⟩ := hv
    exact ⟨cs, h1, h2⟩
  have hc24 : Tryz.prog.cellsOf 24 = 12 := by kernel_rfl
  have hc22 : Tryz.prog.cellsOf 22 = 5 := by kernel_rfl
  have hc3 : Tryz.prog.cellsOf 3 = 1 := by kernel_rfl
  obtain ⟨fuel, hf⟩ := h
  obtain ⟨xs, m, _, _, _, hl, hel⟩ := DataW.trod_struct ht hf
  have g0 : DataW.trod enc Tryz.prog w base spare held m 22 (List.take (Tryz.prog.cellsOf 22) (List.drop 0 _)) = xs[0]? := hel 0 _ rfl
  have g1 : DataW.trod enc Tryz.prog w base spare held m 3 (List.take (Tryz.prog.cellsOf 3) (List.drop 5 _)) = xs[1]? := hel 1 _ rfl
  have g2 : DataW.trod enc Tryz.prog w base spare held m 3 (List.take (Tryz.prog.cellsOf 3) (List.drop 6 _)) = xs[2]? := hel 2 _ rfl
  have g3 : DataW.trod enc Tryz.prog w base spare held m 3 (List.take (Tryz.prog.cellsOf 3) (List.drop 7 _)) = xs[3]? := hel 3 _ rfl
  have g4 : DataW.trod enc Tryz.prog w base spare held m 3 (List.take (Tryz.prog.cellsOf 3) (List.drop 8 _)) = xs[4]? := hel 4 _ rfl
  have g5 : DataW.trod enc Tryz.prog w base spare held m 3 (List.take (Tryz.prog.cellsOf 3) (List.drop 9 _)) = xs[5]? := hel 5 _ rfl
  have g6 : DataW.trod enc Tryz.prog w base spare held m 3 (List.take (Tryz.prog.cellsOf 3) (List.drop 10 _)) = xs[6]? := hel 6 _ rfl
  have g7 : DataW.trod enc Tryz.prog w base spare held m 3 (List.take (Tryz.prog.cellsOf 3) (List.drop 11 _)) = xs[7]? := hel 7 _ rfl
  have hx8 : xs.length = 8 := hl
  rw [hc22] at g0
  rw [hc3] at g1 g2 g3 g4 g5 g6 g7
  rw [List.getElem?_eq_getElem (by omega)] at g0 g1 g2 g3 g4 g5 g6 g7
  obtain ⟨xs0, m0, _, _, _, hl0, hel0⟩ := DataW.trod_array Tryz.underlying22 g0
  have key : ∀ i, i < 5 → ∃ x : Int, cs.toList[i]? = some (.int .i64 x) := fun i hi => by
    have e := hel0 i hi
    rw [hc3, List.getElem?_eq_getElem (by omega)] at e
    obtain ⟨x, hx⟩ := one_cell (by simpa using e)
    refine ⟨x, ?_⟩
    simpa [Value.cells, List.getElem?_take, hi] using hx
  obtain ⟨a, ha⟩ := key 0 (by omega)
  obtain ⟨b, hb⟩ := key 1 (by omega)
  obtain ⟨c, hc⟩ := key 2 (by omega)
  obtain ⟨d', hd⟩ := key 3 (by omega)
  obtain ⟨e, he⟩ := key 4 (by omega)
  obtain ⟨f1, h1⟩ := one_cell g1
  obtain ⟨f2, h2⟩ := one_cell g2
  obtain ⟨f3, h3⟩ := one_cell g3
  obtain ⟨f4, h4⟩ := one_cell g4
  obtain ⟨f5, h5⟩ := one_cell g5
  obtain ⟨f6, h6⟩ := one_cell g6
  obtain ⟨f7, h7⟩ := one_cell g7
  refine ⟨⟨a, b, c, d', e, f1, f2, f3, f4, f5, f6, f7⟩, ?_⟩
  show Value.agg cs = Value.agg _
  congr 1
  apply Array.ext'
  apply List.ext_getElem?
  intro i
  have hn : cs.toList.length = 12 := by simpa [hc24] using hsz
  match i with
  | 0 => exact ha
  | 1 => exact hb
  | 2 => exact hc
  | 3 => exact hd
  | 4 => exact he
  | 5 => exact h1
  | 6 => exact h2
  | 7 => exact h3
  | 8 => exact h4
  | 9 => exact h5
  | 10 => exact h6
  | 11 => exact h7
  | i + 12 => rw [List.getElem?_eq_none (by omega)]; rfl
end
end Go.Proofs.YtponbnbgiiepdaaGreat.Lay

namespace Go.Proofs.YtponbnbgiiepdaaGreat
open Go.ChangeShapes Go.WideShapes Go.RowKit
set_option linter.constructorNameAsVariable false
set_option maxRecDepth 100000
abbrev Cfg := Lay.Cfg
abbrev cfgV (c : Cfg) : Value := Lay.cfgV c
theorem open_cfg {H : Type} {enc : TypeId × Value → H} {w : World} {base : Nat} {spare : Nat → Bool} {held : Bool} {r : Reach} {b0 : Nat} {v : Value} {d : DataW H} {p : List MemPlace} (hv : Value.okWide Tryz.prog w r b0 24 v) (h : DataW.Trod enc Tryz.prog w base spare held 24 v d p) : ∃ c : Cfg, v = cfgV c := Lay.open_cfg hv h
end Go.Proofs.YtponbnbgiiepdaaGreat
