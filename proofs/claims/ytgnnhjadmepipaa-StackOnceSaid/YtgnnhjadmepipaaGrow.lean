/- A list of numbers in memory that grows behind, and is cut in front and behind; a row of bools. -/
import Derived.Test.YtgnnhjadmepipaaUp
import Derived.Test.YtgnnhjadmepipaaAid
import Derived.ArgAppend
namespace Go.Proofs.Ytgnnhjadmepipaa
open Go.RowKit
set_option linter.unusedVariables false
set_option linter.unusedSimpArgs false

theorem info4 : (Try.prog.info? 4).map (fun i => (i.zero, i.size, i.bytes)) = some (some (.bool false), 1, 1) := by kernel_rfl
theorem made_any (x : Value) (hx : x.cells = #[x]) (n : Nat) : madeCells x.cells n = (List.replicate n x).toArray := by
  apply Array.ext'
  apply List.ext_getElem?
  intro j
  rw [hx]
  by_cases hj : j < n
  · simp [madeCells, hj, Nat.mod_one]
  · simp [madeCells, hj]
theorem make_bools (n : Nat) (w : World) (hn : n ≤ 1000000) : (Instr.makeSlice 60 (.int .i64 (n : Int)) (.int .i64 (n : Int))).run Try.prog w = .ok (.slice (some ⟨w.heap.size, 0, none⟩) n n) (w.alloc (.cells ((List.replicate n false).map Value.bool).toArray 4)) := by
  obtain ⟨i0, hi, hz0, hz1, hz2⟩ := info_parts info4
  have := run_make w 60 4 i0 (.bool false) Try.underlying60 hi hz0 .i64 .i64 n n (by omega) (Int.le_refl _) (by rw [hz2]; omega) (by omega)
  rw [made_any _ rfl] at this
  simpa [hz1] using this

/-- A row of bools. -/
def BR (wr : World) (T : Nat) (l : List Bool) : Prop := wr.heap[T]? = some (.cells (l.map Value.bool).toArray 4 (0, 0))
section
variable {wr w' : World} {T : Nat} {bs : List Bool}
theorem BR.cell (h : BR wr T bs) (j : Nat) (hj : j < bs.length) : wr.cell? ⟨T, j, none⟩ = some (.bool (bs.getD j false)) := by
  unfold BR at h
  simp only [World.cell?, h]
  simp [List.getD, List.getElem?_eq_getElem hj]
theorem BR.fro (h : BR wr T bs) (j : Nat) : wr.frozen? ⟨T, j, none⟩ = false := frozen_of_row wr T j _ _ h
theorem BR.same (h : BR wr T bs) (k : w'.heap[T]? = wr.heap[T]?) : BR w' T bs := k.trans h
theorem BR.below (h : BR wr T bs) (hb : Below wr.heap.size wr w') : BR w' T bs := (hb.block T (Array.getElem?_eq_some_iff.1 h).1).trans h
theorem BR.set (h : BR wr T bs) (i : Nat) (x : Bool) : BR (wr.setCell ⟨T, i, none⟩ (.bool x)) T (bs.set i x) := by
  unfold BR at *; rw [heap_setCell_same wr T i _ 4 _ h, List.map_set]; simp
theorem BR.other (h : BR wr T bs) {V : Nat} (hV : T ≠ V) (i : Nat) (v : Value) : BR (wr.setCell ⟨V, i, none⟩ v) T bs := (heap_setCell_other wr ⟨V, i, none⟩ T v hV).trans h
theorem BR.lt (h : BR wr T bs) : T < wr.heap.size := (Array.getElem?_eq_some_iff.1 h).1
end
theorem br_new (w : World) (L : List Bool) : BR (w.alloc (.cells (L.map Value.bool).toArray 4)) w.heap.size L := by
  show (w.heap.push _)[w.heap.size]? = _
  exact Array.getElem?_push_size

/-- A list in block b. -/
def QB (b : Nat) (w : World) (v : Value) (Q : List Int) : Prop :=
  ∃ off cap cur, v = .slice (some ⟨b, off, none⟩) Q.length cap ∧ w.heap[b]? = some (.cells cur 3 (0, 0)) ∧ off + cap ≤ cur.size ∧ Q.length ≤ cap ∧ cap ≤ maxLen ∧ ∀ j, j < Q.length → cur[off + j]? = some (.int .i64 (Q.getD j 0))
/-- A list that is nil yet, or in a block. -/
def QO (o : Option Nat) (w : World) (v : Value) (Q : List Int) : Prop :=
  match o with
  | none => v = .slice none 0 0 ∧ Q = []
  | some b => QB b w v Q
section
variable {b : Nat} {o : Option Nat} {w w' : World} {v : Value} {Q : List Int}
theorem QB.lt (h : QB b w v Q) : b < w.heap.size := by obtain ⟨_, _, _, _, h, _⟩ := h; exact (Array.getElem?_eq_some_iff.1 h).1
theorem QB.same (h : QB b w v Q) (k : w'.heap[b]? = w.heap[b]?) : QB b w' v Q := by
  obtain ⟨off, cap, cur, h1, h2, h3⟩ := h
  exact ⟨off, cap, cur, h1, k.trans h2, h3⟩
theorem QB.below (h : QB b w v Q) (hb : Below w.heap.size w w') : QB b w' v Q := h.same (hb.block b h.lt)
theorem QO.same (h : QO o w v Q) (k : ∀ b, o = some b → w'.heap[b]? = w.heap[b]?) : QO o w' v Q := by
  cases o with
  | none => exact h
  | some b => exact QB.same h (k b rfl)
theorem QO.lt (h : QO o w v Q) : ∀ b, o = some b → b < w.heap.size := by
  intro b e; subst e; exact QB.lt h
theorem QO.below (h : QO o w v Q) (hb : Below w.heap.size w w') : QO o w' v Q := h.same fun b e => hb.block b (h.lt b e)
theorem QO.len (h : QO o w v Q) : ∃ A c, v = .slice A Q.length c := by
  cases o with
  | none => obtain ⟨h, rfl⟩ := h; exact ⟨_, _, h⟩
  | some b => obtain ⟨_, _, _, h, _⟩ := h; exact ⟨_, _, h⟩
theorem QB.has (h : QB b w v Q) (hQ : 0 < Q.length) : ∃ off cap, v = .slice (some ⟨b, off, none⟩) Q.length cap ∧ Q.length ≤ cap ∧ cap ≤ maxLen ∧ (∀ j, j < Q.length → w.cell? ⟨b, off + j, none⟩ = some (.int .i64 (Q.getD j 0))) ∧
    QB b w (.slice (some ⟨b, off, none⟩) (Q.length - 1) cap) Q.dropLast ∧ QB b w (.slice (some ⟨b, if cap = 1 then off else off + 1, none⟩) (Q.length - 1) (cap - 1)) Q.tail := by
  obtain ⟨off, cap, cur, h1, h3, h4, h5, h6, h7⟩ := h
  refine ⟨off, cap, h1, h5, h6, fun j hj => ?_, ⟨off, cap, cur, by simp, h3, h4, by simp; omega, h6, fun j hj => ?_⟩, ⟨if cap = 1 then off else off + 1, cap - 1, cur, by simp, h3, ?_, by simp; omega, by omega, fun j hj => ?_⟩⟩
  · simp only [World.cell?, h3]
    simpa using h7 j hj
  · simp at hj
    rw [h7 j (by omega)]
    have e : Q.dropLast.getD j 0 = Q.getD j 0 := by
      rw [List.getD, List.getD, List.getElem?_dropLast, if_pos hj]
    rw [e]
  · split <;> omega
  · simp at hj
    rw [if_neg (by omega), show off + 1 + j = off + (j + 1) by omega, h7 (j + 1) (by omega)]
    simp [List.getD, List.getElem?_tail]
/-- What it reads as. -/
theorem QO.reads (h : QO o w v Q) : ∃ A c, v = .slice A Q.length c ∧ Reads .i64 w A Q := by
  cases o with
  | none => obtain ⟨h, rfl⟩ := h; exact ⟨_, _, h, fun h0 => by simp at h0⟩
  | some b =>
    obtain ⟨off, cap, cur, h1, h3, h4, h5, h6, h7⟩ := h
    refine ⟨_, _, h1, fun _ => ⟨b, off, rfl, (Array.getElem?_eq_some_iff.1 h3).1, fun j hj => ?_⟩⟩
    simp only [World.cell?, h3]
    simpa using h7 j hj
theorem QO.has (h : QO o w v Q) (hQ : 0 < Q.length) : ∃ b, o = some b ∧ QB b w v Q := by
  cases o with
  | none => obtain ⟨_, rfl⟩ := h; simp at hQ
  | some b => exact ⟨b, rfl, h⟩
theorem qb_of_own {B n : Nat} (h : w'.ownsRow B 3 1 v n (Q.map (Value.int .i64))) (hn : n = Q.length) (h0 : 0 < n) : ∃ b, B ≤ b ∧ QB b w' v Q := by
  obtain ⟨hl, ⟨rfl, h⟩ | ⟨g, cap, cur, rfl, hg, hh, hc, hm, hs, ht⟩⟩ := h
  · omega
  · subst hn
    refine ⟨g, hg, 0, cap, cur, rfl, hh, by omega, hc, hm, fun j hj => ?_⟩
    have e : (cur.toList.take (Q.length * 1))[j]? = (Q.map (Value.int .i64))[j]? := congrArg (fun l => l[j]?) ht
    rw [List.getElem?_take, if_pos (by omega), map_get .i64 Q j hj] at e
    simpa using e
theorem setCells_one (w : World) (b o : Nat) (v : Value) : w.setCells b o [v] = w.setCell ⟨b, o, none⟩ v := rfl
end

/-- What an append leaves: in the same block, or in a new one. -/
def Grew (o : Option Nat) (w w' : World) (v' : Value) (Q : List Int) : Prop := ∃ b, (o = some b ∨ w.heap.size ≤ b) ∧ QB b w' v' Q ∧ Upd b b w w'
/-- One number comes behind. -/
theorem run_append_q {x : Nat} {o : Option Nat} {w : World} {v : Value} {Q : List Int} {z : Int} (ty : TypeId) (h : QO o w v Q) (hx : w.cell? ⟨x, 0, none⟩ = some (.int .i64 z)) (hq : Q.length ≤ 1000) :
    ∃ v' w', (Builtin.append_ #[23, 23] ty #[v, .slice (some ⟨x, 0, none⟩) 1 1]).run Try.prog w = .ok v' w' ∧ Grew o w w' v' (Q ++ [z]) := by
  obtain ⟨i0, hi0, hz0, hz1, hz2⟩ := info_parts info3
  have hnews : ∀ (j : Nat) (u : Value), ([Value.int .i64 z] : List Value)[j]? = some u → w.cell? ((⟨x, 0, none⟩ : Addr).add j) = some u := by
    intro j u hj
    match j, hj with
    | 0, hj =>
      simp at hj
      subst hj
      rw [add_off]; exact hx
  have h1 : ∀ u ∈ ([Value.int .i64 z] : List Value), u.oneCell' = true := by
    intro u hu; rw [List.mem_singleton.1 hu]; rfl
  have fin : ∀ v' w', w'.ownsRow w.heap.size 3 1 v' (Q.length + 1) (Q.map (Value.int .i64) ++ [.int .i64 z]) → w.grownBy w' none → Grew o w w' v' (Q ++ [z]) := by
    intro v' w' ho hg
    obtain ⟨b, hb, hqb⟩ := qb_of_own (n := Q.length + 1) (Q := Q ++ [z]) (by rw [List.map_append]; exact ho) (by simp) (by omega)
    exact ⟨b, .inr hb, hqb, hg.os, hg.tape, hg.output, hg.size, fun k hk _ _ => hg.block k hk (by simp)⟩
  cases o with
  | none =>
    obtain ⟨rfl, rfl⟩ := h
    obtain ⟨v', w', hr, ho, hg, -⟩ := run_append_own (P := Try.prog) w w.heap.size 23 ty 3 i0 _ 1 8 Try.underlying23 hi0 hz0 hz1 hz2 rfl (by decide) (.slice none 0 0) 0 [] (World.ownsRow_nil _ _ _ _) ⟨x, 0, none⟩ 1 1 [.int .i64 z] rfl hnews h1 (by unfold maxLen; omega) (by omega) (Nat.le_refl _)
    exact ⟨v', w', hr, fin v' w' ho hg⟩
  | some b =>
    obtain ⟨off, cap, cur, rfl, hh, hoc, hqc, hcm, hcell⟩ := h
    have olds : ∀ (j : Nat) (u : Value), (Q.map (Value.int .i64))[j]? = some u → w.cell? ((⟨b, off, none⟩ : Addr).add j) = some u := by
      intro j u hj
      rcases Nat.lt_or_ge j Q.length with hj' | hj'
      · rw [map_get .i64 Q j hj'] at hj
        rw [add_off]
        simp only [World.cell?, hh]
        have := hcell j hj'
        rw [← hj]; simpa using this
      · rw [List.getElem?_eq_none (by simpa using hj')] at hj; cases hj
    by_cases hroom : Q.length + 1 ≤ cap
    · have hlt : off + Q.length < cur.size := by omega
      have hr := run_append_room_cells (P := Try.prog) w 23 ty 3 i0 Try.underlying23 hi0 b off Q.length cap ⟨x, 0, none⟩ 1 1 [.int .i64 z] (by rw [hz1]; rfl) hnews h1 hroom (fun j hj => by
        have : j = 0 := by simp at hj; omega
        subst this
        simp only [World.cell?, hh, hz1]
        simp [hlt]) (fun j hj => frozen_of_row w b _ _ _ hh)
      rw [hz1, Nat.mul_one, setCells_one] at hr
      refine ⟨_, _, hr, b, .inl rfl, ⟨off, cap, cur.setIfInBounds (off + Q.length) (.int .i64 z), by simp, heap_setCell_same w b _ _ 3 _ hh, by simpa using hoc, by simp; omega, hcm, fun j hj => ?_⟩, rfl, rfl, rfl, by simp, fun k hk h1 _ => heap_setCell_other w ⟨b, off + Q.length, none⟩ k _ h1⟩
      simp at hj
      by_cases hj2 : j = Q.length
      · subst hj2
        simp [List.getD, hlt]
      · have hj3 : j < Q.length := by omega
        rw [Array.getElem?_setIfInBounds_ne (by omega), hcell j hj3]
        simp [List.getD, List.getElem?_append_left hj3]
    · obtain ⟨v', w', hr, ho, hg⟩ := run_append_arg_grows (P := Try.prog) w 23 ty 3 i0 _ 1 8 Try.underlying23 hi0 hz0 hz1 hz2 rfl (by decide) ⟨b, off, none⟩ Q.length cap (Q.map (Value.int .i64)) (by simp) olds ⟨x, 0, none⟩ 1 1 [.int .i64 z] rfl hnews (by omega) (by unfold maxLen; omega) (by omega)
      exact ⟨v', w', hr, fin v' w' ho hg⟩
theorem append_q {x : Nat} {o' : Option Nat} {w : World} {ops : Array Oper} {rest : List Oper} {o : Oper} {a : Act} {R : Exit → Act → World → Prop} (hg : o.guard = none) (s y : Operand)
    (ho : o.op = .call { callee := .builtin .append, args := #[s, y], argTypes := #[23, 23] }) {v : Value} {Q : List Int} {z : Int} (h : QO o' w v Q) (hx : w.cell? ⟨x, 0, none⟩ = some (.int .i64 z)) (hq : Q.length ≤ 1000)
    (hs : a.eval s = v) (hy : a.eval y = .slice (some ⟨x, 0, none⟩) 1 1)
    (k : ∀ v' w', Grew o' w w' v' (Q ++ [z]) → wpList Try.prog ops R rest (a.put o.dst v') w') : wpList Try.prog ops R (o :: rest) a w := by
  refine wpList_plain hg fun K hK => ?_
  obtain ⟨v', w', hr, h3⟩ := run_append_q o.type h hx hq
  unfold Oper.wp execOp
  simp only [ho, resolve, invoke, builtin, Sem.run_bind, Sem.run_pure, Result.andThen_ok, List.map_toArray, List.map_cons, List.map_nil, hs, hy, hr]
  exact hK _ _ (k v' w' h3)

set_option maxRecDepth 100000 in
theorem slice_drop (b off p q : Nat) (h : p + 1 ≤ q) (w : World) : (Instr.slice 23 (.slice (some ⟨b, off, none⟩) (p + 1) q) none (some (.int .i64 (p : Int))) none).run Try.prog w = .ok (.slice (some ⟨b, off, none⟩) p q) w := by
  have e := run_slice_h (P := Try.prog) w 23 (some ⟨b, off, none⟩) (p + 1) q Try.underlying23 .i64 (p : Int) (by omega) (by omega)
  rw [e]
  have hq : ¬ q = 0 := by omega
  simp [sliced, go_sem, hq]
set_option maxRecDepth 100000 in
theorem slice_tail (b off n c : Nat) (h : 0 < n) (hc : n ≤ c) (w : World) : (Instr.slice 23 (.slice (some ⟨b, off, none⟩) n c) (some (.int .i64 1)) none none).run Try.prog w = .ok (.slice (some ⟨b, if c = 1 then off else off + 1, none⟩) (n - 1) (c - 1)) w := by
  have e := run_slice_l (P := Try.prog) w 23 (some ⟨b, off, none⟩) n c Try.underlying23 .i64 1 (by omega) (by omega)
  rw [e]
  by_cases hq : c = 1
  · simp [sliced, go_sem, hq]
  · simp [sliced, go_sem, hq]
end Go.Proofs.Ytgnnhjadmepipaa
