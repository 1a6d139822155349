/- Many machines, and rows of the call's own beside them. -/
import Derived.Test.YtbjhciccpkbmoaaOnceLaw
namespace Go.Proofs.Ytbjhciccpkbmoaa
open Go.RowKit
set_option linter.unusedVariables false
set_option linter.unusedSimpArgs false
set_option maxRecDepth 100000
open Lay (plcc plc shOf packN nodesN OkC Cfg Norm firstV Rep lenL things)

section
variable {w0 wr w' : World} {S D N : Nat} {c : Cfg} {o : Option Nat} {v : Value} {xs : List Nat} {ms : List Cm} {L L' : List Int} {cc cc' : Int} {x j : Nat} {m : Cm}
/-- A new one comes behind. -/
theorem MR.push2 {X : Nat} {m' : Cm} {v' : Value} {wa : World} (h : MR w0 wr S D N c o v xs ms L cc) (hm : MS w0 w' S D N c (xs ++ [X]) (ms ++ [m']) L cc) (hX : wr.heap.size ≤ X ∧ X < w'.heap.size) (hb : Below wr.heap.size wr w') (hb2 : Below w'.heap.size w' wa) {w2 : World} (g : GrewV 43 o wa w2 v' (xs.map ptr ++ [ptr X])) :
    ∃ b, MR w0 w2 S D N c (some b) v' (xs ++ [X]) (ms ++ [m']) L cc ∧ (o = some b ∨ wa.heap.size ≤ b) ∧ Upd b b wa w2 := by
  obtain ⟨b, hb3, hq, u⟩ := g
  have hm2 := hm.below hb2
  have hS := hm2.st.ltS; have hD := hm2.st.row.lt; have hN := hm2.mp.1; have hz := hm2.bel.size
  have old : ∀ y ∈ xs ++ [X], y < wa.heap.size := fun y hy => by
    obtain ⟨i, hi⟩ := List.getElem?_of_mem hy
    have hl := (List.getElem?_eq_some_iff.1 hi).1
    exact (hm2.cm i _ y (List.getElem?_eq_getElem (by have := hm2.len; omega)) hi).lt
  have ha : w0.heap.size ≤ b ∧ b ≠ S ∧ b ≠ D ∧ b ≠ N ∧ b ∉ xs ++ [X] := by
    rcases hb3 with e | e
    · obtain ⟨a1, a2, a3, a4, a5⟩ := h.a b e
      have hlt := h.q.lt b e
      refine ⟨a1, a2, a3, a4, fun k => ?_⟩
      rcases List.mem_append.1 k with k | k
      · exact a5 k
      · obtain rfl : b = X := by simpa using k
        omega
    · exact ⟨by omega, by omega, by omega, by omega, fun k => by have := old b k; omega⟩
  have uf : UF (fun k => k = b ∨ k = b) wa w2 := UF.of_upd u
  refine ⟨b, ⟨⟨St_same hm2.st (u.block S hS (Ne.symm ha.2.1) (Ne.symm ha.2.1)) (u.block D hD (Ne.symm ha.2.2.1) (Ne.symm ha.2.2.1)), hm2.c0, below_uf hm2.bel (Nat.le_refl _) uf (fun k e => by rcases e with rfl | rfl <;> exact ha.1), IsMap_same hm2.mp u.size (u.block N hN (Ne.symm ha.2.2.2.1) (Ne.symm ha.2.2.2.1)), hm2.ok, hm2.lo, hm2.len, fun i m'' y h1 h2 => ?_, hm2.ge, hm2.inj⟩, ?_, fun b' e => by cases e; exact ha⟩, hb3, u⟩
  · have hy := List.mem_of_getElem? h2
    have hne : y ≠ b := fun e => ha.2.2.2.2 (e ▸ hy)
    exact (hm2.cm i m'' y h1 h2).keep (u.block y (old y hy) hne hne)
  · show QV 43 b w2 v' _
    rw [List.map_append]; exact hq
end
def esSet (es : Nat → Option Obj) (k : Nat) (ob : Obj) : Nat → Option Obj := fun b => if b = k then some ob else es b
theorem esSet_same (es : Nat → Option Obj) (k : Nat) (ob : Obj) : esSet es k ob k = some ob := if_pos rfl
theorem esSet_other {es : Nat → Option Obj} {k b : Nat} {ob : Obj} (h : b ≠ k) : esSet es k ob b = es b := if_neg h
/-- Machines, a store, a map and the slice; and blocks of the call's own that are none of these. -/
structure MX (w0 wr : World) (S D N : Nat) (c : Cfg) (o : Option Nat) (v : Value) (xs : List Nat) (ms : List Cm) (L : List Int) (cc : Int) (es : Nat → Option Obj) : Prop where
  m : MR w0 wr S D N c o v xs ms L cc
  e : ∀ b ob, es b = some ob → wr.heap[b]? = some ob ∧ w0.heap.size ≤ b ∧ b ≠ S ∧ b ≠ D ∧ b ∉ xs ∧ o ≠ some b ∧ b ≠ N
section
variable {w0 wr w' : World} {S D N : Nat} {c : Cfg} {o : Option Nat} {v : Value} {xs : List Nat} {ms : List Cm} {L L' : List Int} {cc cc' : Int} {x j : Nat} {m : Cm} {es : Nat → Option Obj}
theorem MX.start (h : MR w0 wr S D N c o v xs ms L cc) : MX w0 wr S D N c o v xs ms L cc (fun _ => none) := ⟨h, fun b ob e => by cases e⟩
theorem MX.lt (h : MX w0 wr S D N c o v xs ms L cc es) {b : Nat} {ob : Obj} (e : es b = some ob) : b < wr.heap.size := (Array.getElem?_eq_some_iff.1 (h.e b ob e).1).1
theorem MX.below (h : MX w0 wr S D N c o v xs ms L cc es) (hb : Below wr.heap.size wr w') : MX w0 w' S D N c o v xs ms L cc es := ⟨h.m.below hb, fun b ob e => ⟨(hb.block b (h.lt e)).trans (h.e b ob e).1, (h.e b ob e).2⟩⟩
theorem MX.drew (h : MX w0 wr S D N c o v xs ms L cc es) : MX w0 wr.drew S D N c o v xs ms L cc es := h.below (Below.refl _ _).drew
theorem MX.load (h : MX w0 wr S D N c o v xs ms L cc es) (p : Int) (hc : cc ≤ 900000000) : Calls Try.prog 26 #[ptr S, .int .i64 p] wr fun e w' => e = .returned (.int .u64 (ldc L p)) ∧ MX w0 w' S D N c o v xs ms L (cc + 1) es := by
  have h0 := h.m.m.c0
  refine (load_any p wr h.m.m.st h0 (by omega)).mono ?_
  rintro e w1 ⟨rfl, l⟩
  rw [ldv_eq]
  exact ⟨rfl, h.m.left l (by omega), fun b ob e => ⟨(l.2.block b (h.lt e) (h.e b ob e).2.2.1 (h.e b ob e).2.2.2.1).trans (h.e b ob e).1, (h.e b ob e).2⟩⟩
theorem MX.step (h : MX w0 wr S D N c o v xs ms L cc es) (hj : ms[j]? = some m) (hx : xs[j]? = some x) (hc : cc ≤ 900000000) :
    Calls Try.prog 22 #[ptr x, ptr S] wr fun e w' => e = .returned (.bool (decide ((cstp 1 L m).2.pc = 0))) ∧ MX w0 w' S D N c o v xs (ms.set j (cstp 1 L m).2) (cstp 1 L m).1 (ccost m cc) es := by
  refine (h.m.step hj hx hc).mono ?_
  rintro e w1 ⟨rfl, hm, u⟩
  refine ⟨rfl, hm, fun b ob e => ⟨(u.block b (h.lt e) (fun k => ?_)).trans (h.e b ob e).1, (h.e b ob e).2⟩⟩
  obtain ⟨_, _, h3, h4, h5, _⟩ := h.e b ob e
  rcases k with rfl | rfl | rfl
  · exact h5 (List.mem_of_getElem? hx)
  · exact h3 rfl
  · exact h4 rfl
theorem MX.done (h : MX w0 wr S D N c o v xs ms L cc es) (hj : ms[j]? = some m) (hx : xs[j]? = some x) (hc : cc ≤ 900000000) (hp : m.pc = 0) :
    Calls Try.prog 22 #[ptr x, ptr S] wr fun e w' => e = .returned (.bool true) ∧ MX w0 w' S D N c o v xs ms L cc es := by
  have k := h.step hj hx hc
  rw [cstp_done hp] at k
  dsimp only at k
  rw [set_same hj] at k
  have e : ccost m cc = cc := by unfold ccost; rw [if_pos hp]
  have e2 : decide (m.pc = 0) = true := by simpa using hp
  rw [e, e2] at k
  exact k
theorem MX.won (h : MX w0 wr S D N c o v xs ms L cc es) (hj : ms[j]? = some m) (hx : xs[j]? = some x) : Calls Try.prog 24 #[ptr x] wr fun e w' => e = .returned (.bool m.won) ∧ wr = w' := h.m.won hj hx
/-- A new machine comes behind. -/
theorem MX.push {X : Nat} {m' : Cm} {v' : Value} {wa : World} (h : MX w0 wr S D N c o v xs ms L cc es) (hm : MS w0 w' S D N c (xs ++ [X]) (ms ++ [m']) L cc) (hX : wr.heap.size ≤ X ∧ X < w'.heap.size) (hb : Below wr.heap.size wr w') (hb2 : Below w'.heap.size w' wa) {w2 : World} (g : GrewV 43 o wa w2 v' (xs.map ptr ++ [ptr X])) :
    ∃ o', MX w0 w2 S D N c o' v' (xs ++ [X]) (ms ++ [m']) L cc es := by
  obtain ⟨b, hr, hb3, u⟩ := h.m.push2 hm hX hb hb2 g
  have hz := hb.size; have hz2 := hb2.size
  refine ⟨some b, hr, fun k ob e => ?_⟩
  obtain ⟨h1, h2, h3, h4, h5, h6, h7⟩ := h.e k ob e
  have hlt := h.lt e
  have hne : k ≠ b := fun e2 => by
    rcases hb3 with e3 | e3
    · exact h6 (by rw [e3, e2])
    · omega
  refine ⟨?_, h2, h3, h4, fun hx => ?_, (fun e2 => hne (Option.some.inj e2).symm), h7⟩
  · rw [u.block k (by omega) hne hne, hb2.block k (by omega), hb.block k hlt]; exact h1
  · rcases List.mem_append.1 hx with hx | hx
    · exact h5 hx
    · obtain rfl : k = X := by simpa using hx
      omega
/-- A new block. -/
theorem MX.alloc (h : MX w0 wr S D N c o v xs ms L cc es) (ob : Obj) : MX w0 (wr.alloc ob) S D N c o v xs ms L cc (esSet es wr.heap.size ob) := by
  have hb := below_alloc0 (Below.refl wr.heap.size wr) ob
  have h' := h.below hb
  have hS := h.m.m.st.ltS; have hD := h.m.m.st.row.lt; have hN := h.m.m.mp.1; have hz := h.m.m.bel.size
  refine ⟨h'.m, fun b ob' e => ?_⟩
  by_cases hbz : b = wr.heap.size
  · subst hbz
    rw [esSet_same] at e
    cases e
    refine ⟨Array.getElem?_push_size, by omega, by omega, by omega, fun hx => ?_, fun e => ?_, by omega⟩
    · obtain ⟨i, hi⟩ := List.getElem?_of_mem hx
      have hl := (List.getElem?_eq_some_iff.1 hi).1
      have hi2 : i < ms.length := by have := h.m.m.len; omega
      have := (h.m.m.cm i _ _ (List.getElem?_eq_getElem hi2) hi).lt
      omega
    · have := h.m.q.lt _ e; omega
  · rw [esSet_other hbz] at e
    exact h'.e b ob' e
/-- A cell of one of them changes. -/
theorem MX.set (h : MX w0 wr S D N c o v xs ms L cc es) {k i : Nat} {cur : Array Value} {t : TypeId} {y : Value} (hk : es k = some (.cells cur t (0, 0))) : MX w0 (wr.setCell ⟨k, i, none⟩ y) S D N c o v xs ms L cc (esSet es k (.cells (cur.setIfInBounds i y) t (0, 0))) := by
  obtain ⟨h1, h2, h3, h4, h5, h6, h7⟩ := h.e k _ hk
  have oth : ∀ b, b ≠ k → (wr.setCell ⟨k, i, none⟩ y).heap[b]? = wr.heap[b]? := fun b hb => heap_setCell_other wr ⟨k, i, none⟩ b y hb
  have hm := h.m.m
  refine ⟨⟨⟨St_same hm.st (oth S (Ne.symm h3)) (oth D (Ne.symm h4)), hm.c0, below_uf hm.bel (Nat.le_refl _) (UF.set wr k i y) (fun b e => by subst e; exact h2), IsMap_same hm.mp (by simp) (oth N (Ne.symm h7)), hm.ok, hm.lo, hm.len, fun j m x e1 e2 => (hm.cm j m x e1 e2).keep (oth x (fun e => h5 (e ▸ List.mem_of_getElem? e2))), hm.ge, hm.inj⟩, h.m.q.same fun b e => oth b (fun e2 => h6 (e2 ▸ e)), h.m.a⟩, fun b ob e => ?_⟩
  by_cases hb : b = k
  · subst hb
    rw [esSet_same] at e
    cases e
    exact ⟨heap_setCell_same wr b i _ t y h1, h2, h3, h4, h5, h6, h7⟩
  · rw [esSet_other hb] at e
    exact ⟨(oth b hb).trans (h.e b ob e).1, (h.e b ob e).2⟩
theorem MX.fro (h : MX w0 wr S D N c o v xs ms L cc es) {k : Nat} {cur : Array Value} {t : TypeId} (hk : es k = some (.cells cur t (0, 0))) (i : Nat) : wr.frozen? ⟨k, i, none⟩ = false := frozen_of_row wr k i _ _ (h.e k _ hk).1
end
/-! Rows of bools and of integers as blocks. -/
def bO (B : List Bool) : Obj := .cells (B.map Value.bool).toArray 4 (0, 0)
def iO (W : List Int) : Obj := .cells (W.map (Value.int .i64)).toArray 3 (0, 0)
def uO (W : List Int) : Obj := .cells (W.map (Value.int .u64)).toArray 25 (0, 0)
section
variable {w0 wr w' : World} {S D N : Nat} {c : Cfg} {o : Option Nat} {v : Value} {xs : List Nat} {ms : List Cm} {L L' : List Int} {cc cc' : Int} {x j : Nat} {m : Cm} {es : Nat → Option Obj}
theorem MX.cellB (h : MX w0 wr S D N c o v xs ms L cc es) {k : Nat} {B : List Bool} (hk : es k = some (bO B)) (i : Nat) (hi : i < B.length) : wr.cell? ⟨k, i, none⟩ = some (.bool (B.getD i false)) ∧ wr.frozen? ⟨k, i, none⟩ = false := by
  refine ⟨?_, h.fro hk i⟩
  have := (h.e k _ hk).1
  simp [World.cell?, this, bO, List.getD, hi]
theorem MX.cellI (h : MX w0 wr S D N c o v xs ms L cc es) {k : Nat} {W : List Int} (hk : es k = some (iO W)) (i : Nat) (hi : i < W.length) : wr.cell? ⟨k, i, none⟩ = some (.int .i64 (W.getD i 0)) ∧ wr.frozen? ⟨k, i, none⟩ = false := by
  refine ⟨?_, h.fro hk i⟩
  have := (h.e k _ hk).1
  simp [World.cell?, this, iO, List.getD, hi]
theorem MX.cellU (h : MX w0 wr S D N c o v xs ms L cc es) {k : Nat} {W : List Int} (hk : es k = some (uO W)) (i : Nat) (hi : i < W.length) : wr.cell? ⟨k, i, none⟩ = some (.int .u64 (W.getD i 0)) := by
  have := (h.e k _ hk).1
  simp [World.cell?, this, uO, List.getD, hi]
theorem MX.setB (h : MX w0 wr S D N c o v xs ms L cc es) {k : Nat} {B : List Bool} (hk : es k = some (bO B)) (i : Nat) (y : Bool) : MX w0 (wr.setCell ⟨k, i, none⟩ (.bool y)) S D N c o v xs ms L cc (esSet es k (bO (B.set i y))) := by
  have h2 := h.set (i := i) (y := .bool y) hk
  have e : (B.map Value.bool).toArray.setIfInBounds i (.bool y) = ((B.set i y).map Value.bool).toArray := by rw [List.map_set]; simp
  rw [e] at h2
  exact h2
theorem MX.setI (h : MX w0 wr S D N c o v xs ms L cc es) {k : Nat} {W : List Int} (hk : es k = some (iO W)) (i : Nat) (y : Int) : MX w0 (wr.setCell ⟨k, i, none⟩ (.int .i64 y)) S D N c o v xs ms L cc (esSet es k (iO (W.set i y))) := by
  have h2 := h.set (i := i) (y := .int .i64 y) hk
  have e : (W.map (Value.int .i64)).toArray.setIfInBounds i (.int .i64 y) = ((W.set i y).map (Value.int .i64)).toArray := by rw [List.map_set]; simp
  rw [e] at h2
  exact h2
/-- All words, in a block of the call's own. -/
theorem MX.all (h : MX w0 wr S D N c o v xs ms L cc es) (hl : L.length ≤ 1000000) :
    Calls Try.prog 15 #[ptr S] wr fun a w' => ∃ WB, a = .returned (.slice (some ⟨WB, 0, none⟩) L.length L.length) ∧ MX w0 w' S D N c o v xs ms L cc (esSet es WB (uO L)) := by
  refine (all_any wr h.m.m.st hl).mono ?_
  rintro a w1 ⟨rfl, hr, hb⟩
  have h' := h.below hb
  have hS := h.m.m.st.ltS; have hD := h.m.m.st.row.lt; have hN := h.m.m.mp.1; have hz := h.m.m.bel.size
  refine ⟨_, rfl, h'.m, fun b ob' e => ?_⟩
  by_cases hbz : b = wr.heap.size
  · subst hbz
    rw [esSet_same] at e
    cases e
    refine ⟨hr, by omega, by omega, by omega, fun hx => ?_, fun e => ?_, by omega⟩
    · obtain ⟨i, hi⟩ := List.getElem?_of_mem hx
      have hl := (List.getElem?_eq_some_iff.1 hi).1
      have hi2 : i < ms.length := by have := h.m.m.len; omega
      have := (h.m.m.cm i _ _ (List.getElem?_eq_getElem hi2) hi).lt
      omega
    · have := h.m.q.lt _ e; omega
  · rw [esSet_other hbz] at e
    exact h'.e b ob' e
end
theorem made_b (n : Nat) : (madeCells (Value.bool false).cells n).toList = List.replicate n (.bool false) := by
  apply List.ext_getElem?
  intro j
  by_cases hj : j < n
  · simp [madeCells, hj, Value.cells, Nat.mod_one]
  · simp [madeCells, hj]
theorem made_i (n : Nat) : (madeCells (Value.int .i64 0).cells n).toList = List.replicate n (.int .i64 0) := by
  apply List.ext_getElem?
  intro j
  by_cases hj : j < n
  · simp [madeCells, hj, Value.cells, Nat.mod_one]
  · simp [madeCells, hj]
theorem make_bools5 (w : World) : (Instr.makeSlice 64 (.int .i64 5) (.int .i64 5)).run Try.prog w = .ok (.slice (some ⟨w.heap.size, 0, none⟩) 5 5) (w.alloc (bO [false, false, false, false, false])) := by
  obtain ⟨i0, hi, hz0, hz1, hz2⟩ := info_parts (show (Try.prog.info? 4).map (fun i => (i.zero, i.size, i.bytes)) = some (some (.bool false), 1, 1) by kernel_rfl)
  have := run_make w 64 4 i0 (.bool false) Try.underlying64 hi hz0 .i64 .i64 5 5 (by omega) (Int.le_refl _) (by rw [hz2]; omega) (by omega)
  have e : madeCells (Value.bool false).cells 5 = (([false, false, false, false, false] : List Bool).map Value.bool).toArray := by
    apply Array.ext'
    rw [made_b]; rfl
  simpa [hz1, e, bO] using this
theorem make_ints5 (w : World) : (Instr.makeSlice 65 (.int .i64 5) (.int .i64 5)).run Try.prog w = .ok (.slice (some ⟨w.heap.size, 0, none⟩) 5 5) (w.alloc (iO [0, 0, 0, 0, 0])) := by
  obtain ⟨i0, hi, hz0, hz1, hz2⟩ := info_parts (show (Try.prog.info? 3).map (fun i => (i.zero, i.size, i.bytes)) = some (some (.int .i64 0), 1, 8) by kernel_rfl)
  have := run_make w 65 3 i0 (.int .i64 0) Try.underlying65 hi hz0 .i64 .i64 5 5 (by omega) (Int.le_refl _) (by rw [hz2]; omega) (by omega)
  have e : madeCells (Value.int .i64 0).cells 5 = (([0, 0, 0, 0, 0] : List Int).map (Value.int .i64)).toArray := by
    apply Array.ext'
    rw [made_i]; rfl
  simpa [hz1, e, iO] using this
/-! Who wins, as rows of bools and numbers. -/

/-- Is a node tried by one of these, and was it not marked? -/
def wantB (ns : List Int) (L1 : List Int) (cy : Int) (v : Nat) : Bool := (ns.any fun x => decide (x % 4 + 1 = (v : Int))) && decide (L1.getD (79 + 5 * v) 0 < cy)
theorem want_nil (L1 : List Int) (cy : Int) (v : Nat) : wantB [] L1 cy v = false := by simp [wantB]
theorem want_step {ns L1 : List Int} {cy x : Int} {j vn : Nat} {B : List Bool} (h : ∀ v, 1 ≤ v → v ≤ 4 → B.getD v false = wantB (ns.take j) L1 cy v) (hx : ns[j]? = some x) (hv : x % 4 + 1 = (vn : Int)) (hl : B.length = 5) (h4 : vn ≤ 4) :
    ∀ v, 1 ≤ v → v ≤ 4 → (B.set vn (decide (L1.getD (79 + 5 * vn) 0 < cy))).getD v false = wantB (ns.take (j + 1)) L1 cy v := fun v v1 v4 => by
  have e : ns.take (j + 1) = ns.take j ++ [x] := by rw [List.take_add_one, hx]; rfl
  have hw : wantB (ns.take (j + 1)) L1 cy v = ((((ns.take j).any fun x => decide (x % 4 + 1 = (v : Int))) || decide (x % 4 + 1 = (v : Int))) && decide (L1.getD (79 + 5 * v) 0 < cy)) := by
    unfold wantB; rw [e, List.any_append]; simp
  rw [hw]
  by_cases hvv : v = vn
  · subst hvv
    have : (B.set v (decide (L1.getD (79 + 5 * v) 0 < cy))).getD v false = decide (L1.getD (79 + 5 * v) 0 < cy) := by
      simp only [List.getD, List.getElem?_set, if_true]; rw [if_pos (by omega)]; rfl
    rw [this]
    simp [hv]
  · have : (B.set vn (decide (L1.getD (79 + 5 * vn) 0 < cy))).getD v false = B.getD v false := by
      simp only [List.getD, List.getElem?_set]; rw [if_neg (Ne.symm hvv)]
    rw [this, h v v1 v4]
    have hne : ¬ (x % 4 + 1 = (v : Int)) := by omega
    unfold wantB
    simp [hne]
theorem sumf_add (f g : Cm → Int) : ∀ (l : List Cm), sumf (fun m => f m + g m) l = sumf f l + sumf g l
  | [] => rfl
  | m :: l => by
    have := sumf_add f g l
    simp only [sumf]; omega
abbrev marksP : List Int := [84, 89, 94, 99]
/-- How many won, by node, as a row. -/
theorem won_step {ms : List Cm} {W : List Int} {i vn : Nat} {m : Cm} (h : ∀ v : Nat, 1 ≤ v → v ≤ 4 → W.getD v 0 = sumf (wonAt (79 + 5 * (v : Int))) (ms.take i)) (hm : ms[i]? = some m) (hp : m.p = 79 + 5 * (vn : Int)) (hl : W.length = 5) (h4 : vn ≤ 4) (hw : m.won = true) :
    ∀ v : Nat, 1 ≤ v → v ≤ 4 → (W.set vn (W.getD vn 0 + 1)).getD v 0 = sumf (wonAt (79 + 5 * (v : Int))) (ms.take (i + 1)) := fun v v1 v4 => by
  rw [sumf_take _ hm]
  by_cases hv : v = vn
  · subst hv
    have : (W.set v (W.getD v 0 + 1)).getD v 0 = W.getD v 0 + 1 := by
      simp only [List.getD, List.getElem?_set, if_true]; rw [if_pos (by omega)]; rfl
    rw [this, h v v1 v4]
    simp [wonAt, hw, hp]
  · have : (W.set vn (W.getD vn 0 + 1)).getD v 0 = W.getD v 0 := by
      simp only [List.getD, List.getElem?_set]; rw [if_neg (Ne.symm hv)]
    rw [this, h v v1 v4]
    have : wonAt (79 + 5 * (v : Int)) m = 0 := by unfold wonAt; rw [if_neg (by rw [hp]; omega)]
    omega
theorem won_stay {ms : List Cm} {W : List Int} {i : Nat} {m : Cm} (h : ∀ v : Nat, 1 ≤ v → v ≤ 4 → W.getD v 0 = sumf (wonAt (79 + 5 * (v : Int))) (ms.take i)) (hm : ms[i]? = some m) (hw : m.won = false) :
    ∀ v : Nat, 1 ≤ v → v ≤ 4 → W.getD v 0 = sumf (wonAt (79 + 5 * (v : Int))) (ms.take (i + 1)) := fun v v1 v4 => by
  rw [sumf_take _ hm, h v v1 v4]
  simp [wonAt, hw]
/-- At the end of all. -/
theorem many_end {L1 L ns : List Int} {ms : List Cm} {fl : Int → Bool} {cy : Int} (H : CI marksP 1 cy (fun q => L1.getD q.toNat 0) 102 L ms fl) (hd : ∀ m ∈ ms, m.pc = 0) (hl : ms.length = ns.length) (hp : ∀ (j : Nat) (m : Cm), ms[j]? = some m → m.p = 84 + 5 * (ns.getD j 0 % 4)) :
    (∀ v : Nat, 1 ≤ v → v ≤ 4 → sumf (wonAt (79 + 5 * (v : Int))) ms = (if wantB ns L1 cy v = true then 1 else 0) ∧ ldc L (79 + 5 * (v : Int)) = if wantB ns L1 cy v = true then cy else L1.getD (79 + 5 * v) 0) ∧
    ldc L 1 = (if wantB ns L1 cy 1 = true then 1 else 0) + (if wantB ns L1 cy 2 = true then 1 else 0) + (if wantB ns L1 cy 3 = true then 1 else 0) + (if wantB ns L1 cy 4 = true then 1 else 0) := by
  have hlen := H.len
  have key : ∀ v : Nat, 1 ≤ v → v ≤ 4 → sumf (wonAt (79 + 5 * (v : Int))) ms = (if wantB ns L1 cy v = true then 1 else 0) ∧ ldc L (79 + 5 * (v : Int)) = if wantB ns L1 cy v = true then cy else L1.getD (79 + 5 * v) 0 := fun v v1 v4 => by
    have hP : (79 + 5 * (v : Int)) ∈ marksP := by
      have hv : v = 1 ∨ v = 2 ∨ v = 3 ∨ v = 4 := by omega
      rcases hv with rfl | rfl | rfl | rfl <;> simp
    have en : (79 + 5 * (v : Int)).toNat = 79 + 5 * v := by omega
    have eld : ldc L (79 + 5 * (v : Int)) = L.getD (79 + 5 * (v : Int)).toNat 0 := lc_in (by omega)
    rw [eld]
    by_cases hex : ∃ m ∈ ms, m.p = 79 + 5 * (v : Int)
    · obtain ⟨m, hm, hmp⟩ := hex
      obtain ⟨j, hj⟩ := List.getElem?_of_mem hm
      have hjl := (List.getElem?_eq_some_iff.1 hj).1
      have e := hp j m hj
      have hany : (ns.any fun x => decide (x % 4 + 1 = (v : Int))) = true := by
        refine List.any_eq_true.2 ⟨ns.getD j 0, ?_, decide_eq_true (by omega)⟩
        rw [List.getD, List.getElem?_eq_getElem (by omega)]; exact List.getElem_mem (by omega)
      have w : wantB ns L1 cy v = decide (L1.getD (79 + 5 * v) 0 < cy) := by unfold wantB; rw [hany]; simp
      have h := (H.end hd).1 m hm
      rw [hmp] at h
      simp only [en] at h ⊢
      rw [w]
      by_cases hc : L1.getD (79 + 5 * v) 0 < cy
      · rw [if_pos hc, if_pos hc] at h
        rw [if_pos (by simpa using hc), if_pos (by simpa using hc)]; exact h
      · rw [if_neg hc, if_neg hc] at h
        rw [if_neg (by simpa using hc), if_neg (by simpa using hc)]; exact h
    · have hno : ∀ m ∈ ms, m.p ≠ 79 + 5 * (v : Int) := fun m hm e => hex ⟨m, hm, e⟩
      have hany : (ns.any fun x => decide (x % 4 + 1 = (v : Int))) = false := by
        refine List.any_eq_false.2 fun x hx => ?_
        obtain ⟨j, hj⟩ := List.getElem?_of_mem hx
        have hjl := (List.getElem?_eq_some_iff.1 hj).1
        have hjm : j < ms.length := by omega
        have e := hp j _ (List.getElem?_eq_getElem hjm)
        have ne := hno _ (List.getElem_mem hjm)
        rw [e, List.getD, hj] at ne
        simp only [Option.getD_some] at ne
        simp only [decide_eq_true_eq]
        omega
      have w : wantB ns L1 cy v = false := by unfold wantB; rw [hany]; rfl
      have h := (H.end hd).2 _ hP hno
      simp only [en] at h ⊢
      rw [w]
      simpa using h
  refine ⟨key, ?_⟩
  have w := H.work_end hd
  have sm : sumf (fun m => if m.won = true then 1 else 0) ms = sumf (fun m => (wonAt 84 m + wonAt 89 m) + (wonAt 94 m + wonAt 99 m)) ms := sumf_same _ _ fun m hm => by
    have := (H.each m hm).1
    simp only [List.mem_cons, List.not_mem_nil, or_false] at this
    rcases this with e | e | e | e <;> simp [wonAt, e]
  rw [sm, sumf_add (fun m => wonAt 84 m + wonAt 89 m) (fun m => wonAt 94 m + wonAt 99 m), sumf_add (wonAt 84), sumf_add (wonAt 94)] at w
  have k1 := (key 1 (by omega) (by omega)).1
  have k2 := (key 2 (by omega) (by omega)).1
  have k3 := (key 3 (by omega) (by omega)).1
  have k4 := (key 4 (by omega) (by omega)).1
  have a1 : (79 + 5 * ((1 : Nat) : Int)) = 84 := by omega
  have a2 : (79 + 5 * ((2 : Nat) : Int)) = 89 := by omega
  have a3 : (79 + 5 * ((3 : Nat) : Int)) = 94 := by omega
  have a4 : (79 + 5 * ((4 : Nat) : Int)) = 99 := by omega
  rw [a1] at k1; rw [a2] at k2; rw [a3] at k3; rw [a4] at k4
  rw [lc_in (by omega), w, k1, k2, k3, k4]
  omega
end Go.Proofs.Ytbjhciccpkbmoaa
