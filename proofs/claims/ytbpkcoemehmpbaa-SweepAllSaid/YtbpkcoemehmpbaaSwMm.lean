/- Three machines that sweep, a store, and rows of the call's own, apart; walked. -/
import Derived.Test.YtbpkcoemehmpbaaSwTw
import Derived.Test.YtbpkcoemehmpbaaSwEnd
import Derived.Laws.MakeOwn
namespace Go.Proofs.Ytbpkcoemehmpbaa
open Go.RowKit
set_option linter.unusedVariables false
set_option linter.unusedSimpArgs false
set_option maxRecDepth 100000
open Lay (plcc plc shOf nodesN OkC Cfg Norm firstV Rep lenL partsC)

/-! A row of integers, by a function. -/
structure IR (w : World) (b n : Nat) (f : Nat → Int) : Prop where
  ex : ∃ (V : Array Value) (T : TypeId), w.heap[b]? = some (.cells V T (0, 0)) ∧ V.size = n ∧ ∀ i, i < n → V[i]? = some (.int .i64 (f i))
section
variable {w w' : World} {b n : Nat} {f : Nat → Int}
theorem IR.lt (h : IR w b n f) : b < w.heap.size := by obtain ⟨V, T, h, _⟩ := h.ex; exact (Array.getElem?_eq_some_iff.1 h).1
theorem IR.same (h : IR w b n f) (k : w'.heap[b]? = w.heap[b]?) : IR w' b n f := by obtain ⟨V, T, h, a⟩ := h.ex; exact ⟨V, T, k.trans h, a⟩
theorem IR.below (h : IR w b n f) (hb : Below w.heap.size w w') : IR w' b n f := h.same (hb.block b h.lt)
theorem IR.cell (h : IR w b n f) {i : Nat} (hi : i < n) : w.cell? ⟨b, i, none⟩ = some (.int .i64 (f i)) := by
  obtain ⟨V, T, h, a, d⟩ := h.ex
  exact (cell_of_row w b i V T _ h).trans (d i hi)
theorem IR.fro (h : IR w b n f) (i : Nat) : w.frozen? ⟨b, i, none⟩ = false := by obtain ⟨V, T, h, _⟩ := h.ex; exact frozen_of_row w b i _ _ h
theorem IR.put (h : IR w b n f) {i : Nat} (hi : i < n) (x : Int) : IR (w.setCell ⟨b, i, none⟩ (.int .i64 x)) b n (fset f i x) := by
  obtain ⟨V, T, h, a, d⟩ := h.ex
  refine ⟨V.setIfInBounds i (.int .i64 x), T, heap_setCell_same w b i _ T _ h, by simpa using a, fun j hj => ?_⟩
  by_cases e : j = i
  · subst e
    rw [fset_same, Array.getElem?_setIfInBounds_self, if_pos (by omega)]
  · rw [fset_other _ e, Array.getElem?_setIfInBounds_ne (Ne.symm e)]; exact d j hj
theorem made_i (n : Nat) : (madeCells (Value.int .i64 0).cells n).toList = List.replicate n (.int .i64 0) := by
  apply List.ext_getElem?
  intro j
  by_cases hj : j < n
  · simp [madeCells, hj, Value.cells, Nat.mod_one]
  · simp [madeCells, hj]
theorem make_i (n : Nat) (w : World) (hn : n ≤ 1000000) : (Instr.makeSlice 42 (.int .i64 (n : Int)) (.int .i64 (n : Int))).run Try.prog w = .ok (.slice (some ⟨w.heap.size, 0, none⟩) n n) (w.alloc (.cells (List.replicate n (Value.int .i64 0)).toArray 3)) := by
  obtain ⟨i0, hi, hz0, hz1, hz2⟩ := info_parts info3
  have := run_make w 42 3 i0 (.int .i64 0) Try.underlying42 hi hz0 .i64 .i64 n n (by omega) (Int.le_refl _) (by rw [hz2]; omega) (by omega)
  have e : madeCells (Value.int .i64 0).cells n = (List.replicate n (Value.int .i64 0)).toArray := by
    apply Array.ext'
    rw [made_i]
  simpa [hz1, e] using this
theorem IR.new (w : World) (n : Nat) (T : TypeId) : IR (w.alloc (.cells (List.replicate n (Value.int .i64 0)).toArray T)) w.heap.size n (fun _ => 0) :=
  ⟨_, _, Go.heap_alloc_new _ _, by simp, fun i hi => by simp [hi]⟩
end
/-- The three pointers. -/
def W3 (w : World) (b : Nat) (X : Nat → Nat) : Prop := w.heap[b]? = some (.cells #[ptr (X 0), ptr (X 1), ptr (X 2)] 39 (0, 0))
section
variable {w w' : World} {b : Nat} {X : Nat → Nat}
theorem W3.lt (h : W3 w b X) : b < w.heap.size := (Array.getElem?_eq_some_iff.1 h).1
theorem W3.cell (h : W3 w b X) {k : Nat} (hk : k < 3) : w.cell? ⟨b, k, none⟩ = some (ptr (X k)) := by
  rw [cell_of_row w b k _ _ _ h]
  have : k = 0 ∨ k = 1 ∨ k = 2 := by omega
  rcases this with rfl | rfl | rfl <;> rfl
theorem W3.fro (h : W3 w b X) (i : Nat) : w.frozen? ⟨b, i, none⟩ = false := frozen_of_row w b i _ _ h
theorem W3.put (h : W3 w b X) {k : Nat} (hk : k < 3) (Y : Nat) : W3 (w.setCell ⟨b, k, none⟩ (ptr Y)) b (fset X k Y) := by
  unfold W3
  rw [heap_setCell_same w b k _ _ _ h]
  have : k = 0 ∨ k = 1 ∨ k = 2 := by omega
  rcases this with rfl | rfl | rfl <;> rfl
end
/-- Blocks that no machine has. -/
def Fr (S D N bs bw bp bf lo b : Nat) : Prop := lo ≤ b ∧ b ≠ S ∧ b ≠ D ∧ b ≠ N ∧ b ≠ bs ∧ b ≠ bw ∧ b ≠ bp ∧ b ≠ bf
/-- A store, three machines, the words as they were, the row of machines, rows of parts and of nodes. -/
structure AW (B S D N : Nat) (c : Cfg) (w0 w : World) (bs bw bp bf : Nat) (P n1 : Nat) (X : Nat → Nat) (M : Nat → Wn) (L L0 : List Int) (k : Int) (pf ff : Nat → Int) : Prop where
  po : PO B S D N c w0 w L k
  ma : ∃ O Dp : Nat → Nat → Prop, (∀ i, i < 3 → WKM w (X i) (O i) (Dp i) N (M i)) ∧ (∀ i j, i < 3 → j < 3 → i ≠ j → ∀ b, O i b → ¬ Dp j b) ∧ (∀ i, i < 3 → ∀ b, Dp i b → Fr S D N bs bw bp bf B b)
  ord : S < bs ∧ D < bs ∧ N < bs ∧ bs < bw ∧ bw < bp ∧ bp < bf ∧ B ≤ bs
  rs : Reads .u64 w (some ⟨bs, 0, none⟩) L0 ∧ bs < w.heap.size
  rw : W3 w bw X
  rp : IR w bp P pf
  rf : IR w bf n1 ff
theorem reads_same {k : IntKind} {b : Nat} {w w' : World} {L : List Int} (h : Reads k w (some ⟨b, 0, none⟩) L) (hs : w.heap.size ≤ w'.heap.size) (e : w'.heap[b]? = w.heap[b]?) : Reads k w' (some ⟨b, 0, none⟩) L := fun h0 => by
  obtain ⟨b', off, e1, hlt, hc⟩ := h h0
  injection e1 with e1
  injection e1 with e2 e3
  subst e2
  subst e3
  exact ⟨b, 0, rfl, Nat.lt_of_lt_of_le hlt hs, fun j hj => (World.cell?_of_block (w := w) (a := ⟨b, 0 + j, none⟩) e).trans (hc j hj)⟩
section
variable {B S D N : Nat} {c : Cfg} {w0 w w' : World} {bs bw bp bf P n1 : Nat} {X : Nat → Nat} {M : Nat → Wn} {L L0 : List Int} {k t : Int} {pf ff : Nat → Int} {i : Nat}
theorem AW.below (h : AW B S D N c w0 w bs bw bp bf P n1 X M L L0 k pf ff) (hb : Below w.heap.size w w') : AW B S D N c w0 w' bs bw bp bf P n1 X M L L0 k pf ff := by
  obtain ⟨O, Dp, a, d, e⟩ := h.ma
  exact ⟨h.po.step hb, ⟨O, Dp, fun i hi => (a i hi).below hb, d, e⟩, h.ord, ⟨reads_same h.rs.1 hb.size (hb.block bs h.rs.2), Nat.lt_of_lt_of_le h.rs.2 hb.size⟩, (hb.block bw h.rw.lt).trans h.rw, h.rp.below hb, h.rf.below hb⟩
theorem AW.more (h : AW B S D N c w0 w bs bw bp bf P n1 X M L L0 k pf ff) {k' : Int} (hk : k ≤ k') : AW B S D N c w0 w bs bw bp bf P n1 X M L L0 k' pf ff := ⟨h.po.more hk, h.ma, h.ord, h.rs, h.rw, h.rp, h.rf⟩
theorem AW.ev (h : AW B S D N c w0 w bs bw bp bf P n1 X M L L0 k pf ff) (hi : i < 3) : Calls Try.prog 17 #[ptr (X i)] w fun a w' => a = .returned (evA (M i).ek (M i).ea) ∧ Below w.heap.size w w' := by
  obtain ⟨O, Dp, a, d, e⟩ := h.ma
  exact (a i hi).event
/-- An access beside. -/
theorem AW.left (h : AW B S D N c w0 w bs bw bp bf P n1 X M L L0 k pf ff) {k' : Int} {L' : List Int} (hp : PO B S D N c w0 w' L' k') (u : UF (fun b => b = S ∨ b = D) w w') : AW B S D N c w0 w' bs bw bp bf P n1 X M L' L0 k' pf ff := by
  obtain ⟨O, Dp, a, d, e⟩ := h.ma
  have ho := h.ord
  refine ⟨hp, ⟨O, Dp, fun i hi => (a i hi).keep u.size fun q hq => u.block q ((a i hi).ins.2.2 q hq) (fun x => ?_), d, e⟩, h.ord, ⟨reads_same h.rs.1 u.size (u.block bs h.rs.2 (by omega)), Nat.lt_of_lt_of_le h.rs.2 u.size⟩, (u.block bw h.rw.lt (by omega)).trans h.rw, h.rp.same (u.block bp h.rp.lt (by omega)), h.rf.same (u.block bf h.rf.lt (by omega))⟩
  obtain ⟨_, f1, f2, _⟩ := e i hi q hq
  rcases x with x | x
  · exact f1 x
  · exact f2 x
/-- A step of one. -/
theorem AW.step (h : AW B S D N c w0 w bs bw bp bf P n1 X M L L0 k pf ff) (hi : i < 3) (wm : WKW c t (M i)) (hk : k ≤ 800000000) (ht : t ≤ 800000000) :
    Calls Try.prog 16 #[ptr (X i), ptr S] w fun e w' => e = .returned (.bool (decide ((wstp (wOf c) L (M i)).2.pc = 0))) ∧ AW B S D N c w0 w' bs bw bp bf P n1 X (fset M i (wstp (wOf c) L (M i)).2) (wstp (wOf c) L (M i)).1 L0 (k + 1) pf ff := by
  obtain ⟨cc, h0, h1, hs⟩ := h.po.st
  obtain ⟨O, Dp, hm, hd, hf⟩ := h.ma
  have hl := h.po.lt
  have hB := h.po.lo
  have hp := hm i hi
  have ho := h.ord
  have fN : ∀ b, Dp i b → Fr S D N bs bw bp bf B b := hf i hi
  refine (step_wk h.po.ok hp hs h.po.mp (fun e => (fN S e).2.1 rfl) (fun e => (fN D e).2.2.1 rfl) (fun e => (fN N (hp.ins.2.1 N e)).2.2.2.1 rfl) h.po.ns.1 h.po.ns.2 wm h.po.ww h0 (by omega) (by omega)).mono ?_
  rintro e w' ⟨rfl, ⟨O', D', hp', ho', hd'⟩, hs', u⟩
  have fO : ∀ b, O i b → Fr S D N bs bw bp bf B b := fun b hb => fN b (hp.ins.2.1 b hb)
  have kp : ∀ b, b < w.heap.size → b ≠ S → b ≠ D → ¬ O i b → w'.heap[b]? = w.heap[b]? := fun b hb e1 e2 e3 => u.block b hb (by rintro (x | x | x); exact e1 x; exact e2 x; exact e3 x)
  have rw1 := h.rw.lt; have rp1 := h.rp.lt; have rf1 := h.rf.lt; have rs1 := h.rs.2
  refine ⟨rfl, ⟨⟨wcost (M i) cc, ?_, ?_, hs'⟩, IsMap_same h.po.mp u.size (kp N hl.2.2 (fun e => h.po.ns.1 e) (fun e => h.po.ns.2 e) (fun e => (fO N e).2.2.2.1 rfl)), h.po.ok, h.po.ns, h.po.lo, (wm.step h.po.ok h.po.ww).2, below_uf h.po.bel h.po.lo.2.2 u (fun b hb => ?_)⟩, ⟨fset O i O', fset Dp i D', fun j hj => ?_, fun a b ha hb hab x hx hy => ?_, fun j hj b hb => ?_⟩, h.ord, ⟨reads_same h.rs.1 u.size (kp bs rs1 (by omega) (by omega) (fun e => (fO bs e).2.2.2.2.1 rfl)), Nat.lt_of_lt_of_le rs1 u.size⟩, (kp bw rw1 (by omega) (by omega) (fun e => (fO bw e).2.2.2.2.2.1 rfl)).trans h.rw, h.rp.same (kp bp rp1 (by omega) (by omega) (fun e => (fO bp e).2.2.2.2.2.2.1 rfl)), h.rf.same (kp bf rf1 (by omega) (by omega) (fun e => (fO bf e).2.2.2.2.2.2.2 rfl))⟩
  · unfold wcost; split <;> omega
  · unfold wcost; split <;> omega
  · rcases hb with hb | hb | hb
    · omega
    · omega
    · exact (fO b hb).1
  · by_cases e : j = i
    · subst e; rw [fset_same, fset_same, fset_same]; exact hp'
    · rw [fset_other _ e, fset_other _ e, fset_other _ e]
      refine (hm j hj).keep u.size fun q hq => kp q ((hm j hj).ins.2.2 q hq) (hf j hj q hq).2.1 (hf j hj q hq).2.2.1 (fun x => hd i j hi hj (Ne.symm e) q x hq)
  · by_cases e : a = i
    · have eb : b ≠ i := fun e2 => hab (e.trans e2.symm)
      subst e
      rw [fset_same] at hx; rw [fset_other _ eb] at hy
      rcases ho' x hx with z | z
      · exact hd a b ha hb hab x z hy
      · have := (hm b hb).ins.2.2 x hy; omega
    · rw [fset_other _ e] at hx
      by_cases eb : b = i
      · subst eb
        rw [fset_same] at hy
        rcases hd' x hy with z | z
        · exact hd a b ha hb hab x hx z
        · have := (hm a ha).ins.2.2 x ((hm a ha).ins.2.1 x hx); omega
      · rw [fset_other _ eb] at hy; exact hd a b ha hb hab x hx hy
  · by_cases e : j = i
    · subst e
      rw [fset_same] at hb
      rcases hd' b hb with z | z
      · exact hf j hj b z
      · exact ⟨by omega, by omega, by omega, by omega, by omega, by omega, by omega, by omega⟩
    · rw [fset_other _ e] at hb; exact hf j hj b hb
/-- A row is written. -/
theorem AW.row (h : AW B S D N c w0 w bs bw bp bf P n1 X M L L0 k pf ff) {b : Nat} (u : Upd b b w w') (hb : b = bw ∨ b = bp ∨ b = bf) {X' : Nat → Nat} {pf' ff' : Nat → Int} (e1 : W3 w' bw X') (e2 : IR w' bp P pf') (e3 : IR w' bf n1 ff') (eX : X' = X) : AW B S D N c w0 w' bs bw bp bf P n1 X M L L0 k pf' ff' := by
  subst eX
  obtain ⟨O, Dp, a, d, e⟩ := h.ma
  have ho := h.ord
  have hl := h.po.lt
  refine ⟨h.po.uf (UF.of_upd u) (by omega) (by omega) (by omega) (fun x hx => by omega), ⟨O, Dp, fun i hi => (a i hi).keep u.size fun q hq => ?_, d, e⟩, h.ord, ⟨reads_same h.rs.1 u.size (u.block bs h.rs.2 (by omega) (by omega)), Nat.lt_of_lt_of_le h.rs.2 u.size⟩, e1, e2, e3⟩
  have fq := e i hi q hq
  unfold Fr at fq
  exact u.block q ((a i hi).ins.2.2 q hq) (by omega) (by omega)
theorem upd_one' (w : World) (b i : Nat) (v : Value) : Upd b b w (w.setCell ⟨b, i, none⟩ v) := ⟨rfl, rfl, rfl, by simp, fun k hk h1 _ => heap_setCell_other w ⟨b, i, none⟩ k v h1⟩
theorem AW.setp (h : AW B S D N c w0 w bs bw bp bf P n1 X M L L0 k pf ff) {j : Nat} (hj : j < P) (x : Int) : AW B S D N c w0 (w.setCell ⟨bp, j, none⟩ (.int .i64 x)) bs bw bp bf P n1 X M L L0 k (fset pf j x) ff := by
  have ho := h.ord
  have u := upd_one' w bp j (.int .i64 x)
  exact h.row u (.inr (.inl rfl)) ((u.block bw h.rw.lt (by omega) (by omega)).trans h.rw) (h.rp.put hj x) (h.rf.same (u.block bf h.rf.lt (by omega) (by omega))) rfl
theorem AW.setf (h : AW B S D N c w0 w bs bw bp bf P n1 X M L L0 k pf ff) {j : Nat} (hj : j < n1) (x : Int) : AW B S D N c w0 (w.setCell ⟨bf, j, none⟩ (.int .i64 x)) bs bw bp bf P n1 X M L L0 k pf (fset ff j x) := by
  have ho := h.ord
  have u := upd_one' w bf j (.int .i64 x)
  exact h.row u (.inr (.inr rfl)) ((u.block bw h.rw.lt (by omega) (by omega)).trans h.rw) (h.rp.same (u.block bp h.rp.lt (by omega) (by omega))) (h.rf.put hj x) rfl
/-- One begins anew. -/
theorem AW.renew (h : AW B S D N c w0 w bs bw bp bf P n1 X M L L0 k pf ff) (hi : i < 3) (cy : Int) :
    Calls Try.prog 13 #[Lay.mapP N, .int .u64 cy] w fun e w' => ∃ Y, e = .returned (ptr Y) ∧ AW B S D N c w0 w' bs bw bp bf P n1 X M L L0 k pf ff ∧ AW B S D N c w0 (w'.setCell ⟨bw, i, none⟩ (ptr Y)) bs bw bp bf P n1 (fset X i Y) (fset M i (wNew cy)) L L0 k pf ff := by
  refine (newS_map N cy w).mono ?_
  rintro e w' ⟨Y, rfl, hY, hz, hb⟩
  have h' := h.below hb
  refine ⟨Y, rfl, h', ?_⟩
  obtain ⟨O, Dp, a, d, e⟩ := h.ma
  have ho := h'.ord
  have hl := h.po.lt
  have hB := h.po.lo
  have hw := h.rw.lt; have hp1 := h.rp.lt; have hf1 := h.rf.lt; have hs1 := h.rs.2
  have hbe := h.po.bel.size
  have u := upd_one' w' bw i (ptr Y)
  have new : WKM w' Y (fun k => k = Y) (fun k => k = Y) N (wNew cy) := wkm_new hz (by omega)
  refine ⟨h'.po.uf (UF.of_upd u) (by omega) (by omega) (by omega) (fun x hx => by omega), ⟨fset O i (fun k => k = Y), fset Dp i (fun k => k = Y), fun j hj => ?_, fun x y hx hy hxy q hq hr => ?_, fun j hj q hq => ?_⟩, h'.ord, ⟨reads_same h'.rs.1 u.size (u.block bs h'.rs.2 (by omega) (by omega)), Nat.lt_of_lt_of_le h'.rs.2 u.size⟩, h'.rw.put hi Y, h'.rp.same (u.block bp h'.rp.lt (by omega) (by omega)), h'.rf.same (u.block bf h'.rf.lt (by omega) (by omega))⟩
  · by_cases ej : j = i
    · subst ej; rw [fset_same, fset_same, fset_same, fset_same]
      exact new.keep u.size fun q hq => u.block q (by subst hq; exact hz.lt) (by subst hq; omega) (by subst hq; omega)
    · rw [fset_other _ ej, fset_other _ ej, fset_other _ ej, fset_other _ ej]
      refine ((a j hj).below hb).keep u.size fun q hq => ?_
      have fq := e j hj q hq
      unfold Fr at fq
      have := ((a j hj).below hb).ins.2.2 q hq
      exact u.block q this (by omega) (by omega)
  · by_cases ex : x = i
    · subst ex
      rw [fset_same] at hq
      rw [fset_other _ (Ne.symm hxy)] at hr
      have := (a y hy).ins.2.2 q hr
      subst hq; omega
    · rw [fset_other _ ex] at hq
      by_cases ey : y = i
      · subst ey
        rw [fset_same] at hr
        have := (a x hx).ins.2.2 q ((a x hx).ins.2.1 q hq)
        subst hr; omega
      · rw [fset_other _ ey] at hr; exact d x y hx hy hxy q hq hr
  · by_cases ej : j = i
    · subst ej
      rw [fset_same] at hq
      subst hq
      exact ⟨by omega, by omega, by omega, by omega, by omega, by omega, by omega, by omega⟩
    · rw [fset_other _ ej] at hq; exact e j hj q hq
end
end Go.Proofs.Ytbpkcoemehmpbaa
