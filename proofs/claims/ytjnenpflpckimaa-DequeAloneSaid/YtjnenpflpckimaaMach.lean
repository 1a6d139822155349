/- A deque's machine in memory: what it holds, and what stays while it goes on. -/
import Derived.Test.YtjnenpflpckimaaTwo
import Derived.Test.YtjnenpflpckimaaWords
import Derived.Laws.EntriesVeiled
namespace Go.Proofs.Ytjnenpflpckimaa
open Go.RowKit
set_option linter.unusedVariables false

/-- Where a deque stands. -/
structure En where
  top : Int
  bot : Int
  ent : Int
  room : Int
def roomOf (e : En) : Int := if e.room < 1 then 1 else e.room
abbrev fnv (n M : Nat) : Value := .func (.func n) #[ptr M] #[]

/-- All blocks but these three are as they were. -/
structure U3 (M S D : Nat) (w w' : World) : Prop where
  os : w'.os = w.os
  tape : w'.tape = w.tape
  output : w'.output = w.output
  size : w.heap.size ≤ w'.heap.size
  block : ∀ k, k < w.heap.size → k ≠ M → k ≠ S → k ≠ D → w'.heap[k]? = w.heap[k]?
theorem U3.refl (M S D : Nat) (w : World) : U3 M S D w w := ⟨rfl, rfl, rfl, Nat.le_refl _, fun _ _ _ _ _ => rfl⟩
theorem U3.trans {M S D : Nat} {a b c : World} (h : U3 M S D a b) (k : U3 M S D b c) : U3 M S D a c :=
  ⟨k.os.trans h.os, k.tape.trans h.tape, k.output.trans h.output, Nat.le_trans h.size k.size, fun i hi h0 h1 h2 => (k.block i (Nat.lt_of_lt_of_le hi h.size) h0 h1 h2).trans (h.block i hi h0 h1 h2)⟩
theorem U3.of_upd {M S D : Nat} {w w' : World} (h : Upd S D w w') : U3 M S D w w' := ⟨h.os, h.tape, h.output, h.size, fun k hk _ h1 h2 => h.block k hk h1 h2⟩
theorem U3.of_below {M S D : Nat} {w w' : World} (h : Below w.heap.size w w') : U3 M S D w w' := ⟨h.os, h.tape, h.output, h.size, fun k hk _ _ _ => h.block k hk⟩
theorem U3.setM {M S D : Nat} {a w : World} (h : U3 M S D a w) (i : Nat) (v : Value) : U3 M S D a (w.setCell ⟨M, i, none⟩ v) :=
  h.trans ⟨rfl, rfl, rfl, by simp, fun k hk h1 _ _ => heap_setCell_other w ⟨M, i, none⟩ k v h1⟩
theorem below_u3 {B M S D : Nat} {w0 w w' : World} (h : Below B w0 w) (hB : B ≤ w0.heap.size) (u : U3 M S D w w') (hM : B ≤ M) (hS : B ≤ S) (hD : B ≤ D) : Below B w0 w' :=
  h.trans ⟨u.os, u.tape, u.output, u.size, fun k hk => u.block k (Nat.lt_of_lt_of_le hk (Nat.le_trans hB h.size)) (by omega) (by omega) (by omega)⟩

/-- A machine's block. -/
def Mem (w : World) (M : Nat) (e : En) (nx : Value) (t b v r x : Int) : Prop :=
  w.heap[M]? = some (.cells #[.int .i64 e.top, .int .i64 e.bot, .int .i64 e.ent, .int .i64 (roomOf e), nx, .int .u64 t, .int .u64 b, .int .u64 v, .int .i64 r, .int .u64 x] 63 (0, 0))
/-- A machine and a store, apart. -/
structure Mst (w0 w : World) (M S D : Nat) (e : En) (nx : Value) (t b v r x : Int) (L : List Int) (c : Int) : Prop where
  mem : Mem w M e nx t b v r x
  st : St w S D L c
  n1 : M ≠ S
  n2 : M ≠ D
  u : U3 M S D w0 w
section
variable {w0 w w' : World} {M S D : Nat} {e : En} {nx : Value} {t b v r x : Int} {L : List Int} {c : Int}
theorem Mst.lt (h : Mst w0 w M S D e nx t b v r x L c) : M < w.heap.size := (Array.getElem?_eq_some_iff.1 h.mem).1
theorem Mst.f (h : Mst w0 w M S D e nx t b v r x L c) (j : Nat) : w.frozen? ⟨M, j, none⟩ = false := frozen_of_row w M j _ _ h.mem
theorem Mst.c0 (h : Mst w0 w M S D e nx t b v r x L c) : w.cell? ⟨M, 0, none⟩ = some (.int .i64 e.top) := by have := h.mem; unfold Mem at this; simp [World.cell?, this]
theorem Mst.c1 (h : Mst w0 w M S D e nx t b v r x L c) : w.cell? ⟨M, 1, none⟩ = some (.int .i64 e.bot) := by have := h.mem; unfold Mem at this; simp [World.cell?, this]
theorem Mst.c2 (h : Mst w0 w M S D e nx t b v r x L c) : w.cell? ⟨M, 2, none⟩ = some (.int .i64 e.ent) := by have := h.mem; unfold Mem at this; simp [World.cell?, this]
theorem Mst.c3 (h : Mst w0 w M S D e nx t b v r x L c) : w.cell? ⟨M, 3, none⟩ = some (.int .i64 (roomOf e)) := by have := h.mem; unfold Mem at this; simp [World.cell?, this]
theorem Mst.c4 (h : Mst w0 w M S D e nx t b v r x L c) : w.cell? ⟨M, 4, none⟩ = some nx := by have := h.mem; unfold Mem at this; simp [World.cell?, this]
theorem Mst.c5 (h : Mst w0 w M S D e nx t b v r x L c) : w.cell? ⟨M, 5, none⟩ = some (.int .u64 t) := by have := h.mem; unfold Mem at this; simp [World.cell?, this]
theorem Mst.c6 (h : Mst w0 w M S D e nx t b v r x L c) : w.cell? ⟨M, 6, none⟩ = some (.int .u64 b) := by have := h.mem; unfold Mem at this; simp [World.cell?, this]
theorem Mst.c7 (h : Mst w0 w M S D e nx t b v r x L c) : w.cell? ⟨M, 7, none⟩ = some (.int .u64 v) := by have := h.mem; unfold Mem at this; simp [World.cell?, this]
theorem Mst.c8 (h : Mst w0 w M S D e nx t b v r x L c) : w.cell? ⟨M, 8, none⟩ = some (.int .i64 r) := by have := h.mem; unfold Mem at this; simp [World.cell?, this]
theorem Mst.c9 (h : Mst w0 w M S D e nx t b v r x L c) : w.cell? ⟨M, 9, none⟩ = some (.int .u64 x) := by have := h.mem; unfold Mem at this; simp [World.cell?, this]
theorem Mst.left (h : Mst w0 w M S D e nx t b v r x L c) {L' : List Int} {c' : Int} (k : Left S D L' c' w w') : Mst w0 w' M S D e nx t b v r x L' c' :=
  ⟨(k.2.block M h.lt h.n1 h.n2).trans h.mem, k.1, h.n1, h.n2, h.u.trans (.of_upd k.2)⟩
theorem Mst.step (h : Mst w0 w M S D e nx t b v r x L c) (k : Below w.heap.size w w') : Mst w0 w' M S D e nx t b v r x L c :=
  ⟨(k.block M h.lt).trans h.mem, h.st.below k, h.n1, h.n2, h.u.trans (.of_below k)⟩
theorem Mst.drew (h : Mst w0 w M S D e nx t b v r x L c) : Mst w0 w.drew M S D e nx t b v r x L c := h.step (Below.refl _ _).drew
theorem Mst.put (h : Mst w0 w M S D e nx t b v r x L c) (i : Nat) (y : Value) {nx' : Value} {t' b' v' r' x' : Int}
    (hh : (#[.int .i64 e.top, .int .i64 e.bot, .int .i64 e.ent, .int .i64 (roomOf e), nx, .int .u64 t, .int .u64 b, .int .u64 v, .int .i64 r, .int .u64 x] : Array Value).setIfInBounds i y = #[.int .i64 e.top, .int .i64 e.bot, .int .i64 e.ent, .int .i64 (roomOf e), nx', .int .u64 t', .int .u64 b', .int .u64 v', .int .i64 r', .int .u64 x']) :
    Mst w0 (w.setCell ⟨M, i, none⟩ y) M S D e nx' t' b' v' r' x' L c := by
  refine ⟨?_, ?_, h.n1, h.n2, h.u.setM i y⟩
  · unfold Mem
    rw [heap_setCell_same w M i _ 63 _ h.mem, hh]
  · have u : Upd M M w (w.setCell ⟨M, i, none⟩ y) := ⟨rfl, rfl, rfl, by simp, fun k hk h1 _ => heap_setCell_other w ⟨M, i, none⟩ k y h1⟩
    exact h.st.upd u (Ne.symm h.n1) (Ne.symm h.n1) (Ne.symm h.n2) (Ne.symm h.n2)
theorem Mst.p4 (h : Mst w0 w M S D e nx t b v r x L c) (y : Value) : Mst w0 (w.setCell ⟨M, 4, none⟩ y) M S D e y t b v r x L c := h.put 4 y rfl
theorem Mst.p5 (h : Mst w0 w M S D e nx t b v r x L c) (y : Int) : Mst w0 (w.setCell ⟨M, 5, none⟩ (.int .u64 y)) M S D e nx y b v r x L c := h.put 5 _ rfl
theorem Mst.p6 (h : Mst w0 w M S D e nx t b v r x L c) (y : Int) : Mst w0 (w.setCell ⟨M, 6, none⟩ (.int .u64 y)) M S D e nx t y v r x L c := h.put 6 _ rfl
theorem Mst.p7 (h : Mst w0 w M S D e nx t b v r x L c) (y : Int) : Mst w0 (w.setCell ⟨M, 7, none⟩ (.int .u64 y)) M S D e nx t b y r x L c := h.put 7 _ rfl
theorem Mst.p8 (h : Mst w0 w M S D e nx t b v r x L c) (y : Int) : Mst w0 (w.setCell ⟨M, 8, none⟩ (.int .i64 y)) M S D e nx t b v y x L c := h.put 8 _ rfl
theorem Mst.p9 (h : Mst w0 w M S D e nx t b v r x L c) (y : Int) : Mst w0 (w.setCell ⟨M, 9, none⟩ (.int .u64 y)) M S D e nx t b v r y L c := h.put 9 _ rfl
end
end Go.Proofs.Ytjnenpflpckimaa
