/- The program's graph, and the document's beside it, in a box of the call's own; an operation in a box of its own. -/
import Derived.Test.YtjnkcomedcbenaaGTwo
import Derived.Test.YtjnkcomedcbenaaGGone
import Derived.Test.YtjnkcomedcbenaaGNew
import Derived.Test.YtjnkcomedcbenaaGRead
import Derived.Test.YtjnkcomedcbenaaGWrite
import Derived.Test.YtjnkcomedcbenaaGReach
import Derived.Test.YtjnkcomedcbenaaPNil
import Derived.Deep.CutBlock
namespace Go.Proofs.Ytjnkcomedcbenaa
open Go.RowKit
set_option linter.unusedVariables false

/-- What isn't written by the program, nor the box. -/
def Offs (F : Nat → Prop) (D : Nat) : Nat → Prop := fun k => ¬ F k ∧ k ≠ D
structure Sd (w0 wr : World) (S D : Nat) (T F : Nat → Prop) (G : Gr) (A : Option Addr) (rn c : Nat) (B : Option Addr) (nn d : Nat) (mo : Int) (H : Gr) : Prop where
  own : GOwn w0 wr S T F G
  gm : GM (Offs F D) wr A rn c B nn d mo H
  box : wr.heap[D]? = some (.cells #[.slice A rn c, .slice B nn d, .int .i64 mo] 28 (0, 0))
  nT : ¬ T D
  lo : w0.heap.size ≤ D
section
variable {w0 wr w' : World} {S D E : Nat} {T F T' F' : Nat → Prop} {G G' H H' : Gr} {A A' : Option Addr} {rn c rn' c' : Nat} {B B' : Option Addr} {nn d nn' d' : Nat} {mo mo' : Int} {x : Op5}
theorem Sd.step (h : Sd w0 wr S D T F G A rn c B nn d mo H) (hb : Below wr.heap.size wr w') : Sd w0 w' S D T F G A rn c B nn d mo H :=
  ⟨h.own.step hb, h.gm.below hb, (hb.block D (lt_of h.box)).trans h.box, h.nT, h.lo⟩
theorem Sd.op (h : Sd w0 wr S D T F G A rn c B nn d mo H) (hg : GOwn w0 w' S T' F' G') (hu : UpdF F wr w') (hF : ∀ k, F' k → F k ∨ wr.heap.size ≤ k) (hT : ∀ k, T' k → T k ∨ wr.heap.size ≤ k) : Sd w0 w' S D T' F' G' A rn c B nn d mo H := by
  have hD := lt_of h.box
  refine ⟨hg, ((h.gm.to (Q := fun k => (¬ F k) ∧ Offs F' D k) fun b hlt hb => ⟨hb.1, ⟨fun hf => ?_, hb.2⟩⟩).kept ⟨hu.size, fun k hk hp => hu.block k hk hp.1⟩).to fun b _ hb => hb.2, (hu.block D hD fun hf => h.nT (gp_sub h.own.gp D hf)).trans h.box, fun ht => ?_, h.lo⟩
  · rcases hF b hf with h1 | h1
    · exact hb.1 h1
    · omega
  · rcases hT D ht with h1 | h1
    · exact h.nT h1
    · omega
theorem Sd.dcells (h : Sd w0 wr S D T F G A rn c B nn d mo H) : wr.cell? ⟨D, 0, none⟩ = some (.slice A rn c) ∧ wr.cell? ⟨D, 1, none⟩ = some (.slice B nn d) ∧ wr.cell? ⟨D, 2, none⟩ = some (.int .i64 mo) := by
  refine ⟨?_, ?_, ?_⟩ <;> rw [cell_of h.box] <;> rfl
theorem Sd.dfro (h : Sd w0 wr S D T F G A rn c B nn d mo H) (j : Nat) : wr.frozen? ⟨D, j, none⟩ = false := frozen_of_row wr D j _ _ h.box
/-- The box, stored to. -/
abbrev putD (w : World) (D : Nat) (A : Option Addr) (rn c : Nat) (B : Option Addr) (nn d : Nat) (mo : Int) : World := ((w.setCell ⟨D, 0, none⟩ (.slice A rn c)).setCell ⟨D, 1, none⟩ (.slice B nn d)).setCell ⟨D, 2, none⟩ (.int .i64 mo)
theorem putD_block (w : World) (k : Nat) (hk : k ≠ D) : (putD w D A rn c B nn d mo).heap[k]? = w.heap[k]? := by
  rw [heap_setCell_other _ _ _ _ hk, heap_setCell_other _ _ _ _ hk, heap_setCell_other _ _ _ _ hk]
theorem putD_size (w : World) : (putD w D A rn c B nn d mo).heap.size = w.heap.size := by simp
theorem Sd.put (h : Sd w0 wr S D T F G A rn c B nn d mo H) (hg : GM (Offs F D) wr A' rn' c' B' nn' d' mo' H') : Sd w0 (putD wr D A' rn' c' B' nn' d' mo') S D T F G A' rn' c' B' nn' d' mo' H' := by
  have hb := h.box
  refine ⟨⟨gp_kept h.own.gp (by rw [putD_size]; exact Nat.le_refl _) fun k hk => putD_block _ k fun e => h.nT (e ▸ hk), ?_, h.own.lo, h.own.ok, h.own.mo⟩, hg.kept ⟨by rw [putD_size]; exact Nat.le_refl _, fun k _ hp => putD_block _ k hp.2⟩, ?_, h.nT, h.lo⟩
  · exact ((h.own.bel.setCell h.lo _).setCell h.lo _).setCell h.lo _
  · have e1 := heap_setCell_same wr D 0 _ 28 (.slice A' rn' c') hb
    have e2 := heap_setCell_same _ D 1 _ 28 (.slice B' nn' d') e1
    have e3 := heap_setCell_same _ D 2 _ 28 (.int .i64 mo') e2
    rw [e3]; rfl
theorem Sd.ref (h : Sd w0 wr S D T F G A rn c B nn d mo H) (hb : Below wr.heap.size wr w') (hg : GM (Offs F D) w' A' rn' c' B' nn' d' mo' H') : Sd w0 (putD w' D A' rn' c' B' nn' d' mo') S D T F G A' rn' c' B' nn' d' mo' H' := (h.step hb).put hg
theorem Sd.new' (h : Sd w0 wr S D T F G A rn c B nn d mo H) : ∀ b, wr.heap.size ≤ b → Offs F D b := fun b hb => ⟨fun hf => by have := gp_lt h.own.gp b (gp_sub h.own.gp b hf); omega, fun e => by have := lt_of h.box; omega⟩
/-- And an operation in a box. -/
structure Rd (w0 wr : World) (S D : Nat) (T F : Nat → Prop) (G : Gr) (A : Option Addr) (rn c : Nat) (B : Option Addr) (nn d : Nat) (mo : Int) (H : Gr) (E : Nat) (x : Op5) : Prop where
  sd : Sd w0 wr S D T F G A rn c B nn d mo H
  blk : wr.heap[E]? = some (.cells #[.int .u8 x.d, .int .i64 x.m, .int .i64 x.a, .int .i64 x.i, .int .i64 x.b] 31 (0, 0))
  nE : ¬ T E
  ED : E ≠ D
theorem Rd.start (h : Sd w0 wr S D T F G A rn c B nn d mo H) (x : Op5) : Rd w0 (wr.alloc (.cells #[.int .u8 x.d, .int .i64 x.m, .int .i64 x.a, .int .i64 x.i, .int .i64 x.b] 31)) S D T F G A rn c B nn d mo H wr.heap.size x :=
  ⟨h.step (below_alloc0 (Below.refl _ _) _), (First.start wr _).at0, fun ht => by have := gp_lt h.own.gp _ ht; omega, fun e => by have := lt_of h.box; omega⟩
theorem Rd.step (h : Rd w0 wr S D T F G A rn c B nn d mo H E x) (hb : Below wr.heap.size wr w') : Rd w0 w' S D T F G A rn c B nn d mo H E x :=
  ⟨h.sd.step hb, (hb.block E (lt_of h.blk)).trans h.blk, h.nE, h.ED⟩
theorem Rd.op (h : Rd w0 wr S D T F G A rn c B nn d mo H E x) (hg : GOwn w0 w' S T' F' G') (hu : UpdF F wr w') (hF : ∀ k, F' k → F k ∨ wr.heap.size ≤ k) (hT : ∀ k, T' k → T k ∨ wr.heap.size ≤ k) : Rd w0 w' S D T' F' G' A rn c B nn d mo H E x := by
  have hE := lt_of h.blk
  refine ⟨h.sd.op hg hu hF hT, (hu.block E hE fun hf => h.nE (gp_sub h.sd.own.gp E hf)).trans h.blk, fun ht => ?_, h.ED⟩
  rcases hT E ht with h1 | h1
  · exact h.nE h1
  · omega
theorem Rd.ref (h : Rd w0 wr S D T F G A rn c B nn d mo H E x) (hb : Below wr.heap.size wr w') (hg : GM (Offs F D) w' A' rn' c' B' nn' d' mo' H') : Rd w0 (putD w' D A' rn' c' B' nn' d' mo') S D T F G A' rn' c' B' nn' d' mo' H' E x :=
  ⟨h.sd.ref hb hg, (putD_block _ E h.ED).trans ((hb.block E (lt_of h.blk)).trans h.blk), h.nE, h.ED⟩
theorem Rd.ecells (h : Rd w0 wr S D T F G A rn c B nn d mo H E x) : wr.cell? ⟨E, 0, none⟩ = some (.int .u8 x.d) ∧ wr.cell? ⟨E, 1, none⟩ = some (.int .i64 x.m) ∧ wr.cell? ⟨E, 2, none⟩ = some (.int .i64 x.a) ∧ wr.cell? ⟨E, 3, none⟩ = some (.int .i64 x.i) ∧ wr.cell? ⟨E, 4, none⟩ = some (.int .i64 x.b) := by
  refine ⟨?_, ?_, ?_, ?_, ?_⟩ <;> rw [cell_of h.blk] <;> rfl
end

section
variable {P : Nat → Prop} {A : Option Addr} {rn c : Nat} {B : Option Addr} {nn d : Nat} {mo : Int} {g g' : Gr} {w : World} {y : Int} {z : Bool}
theorem ralloc_x (h : GM P w A rn c B nn d mo g) (hk : Ok g) (hmo : g.most ≤ 1000) (hnn : nn ≤ 1000) (hP : ∀ b, w.heap.size ≤ b → P b) (m n : Int) (e : gAlloc g m n = (g', y, z)) : Calls Try.prog 14 #[gV A rn c B nn d mo, .int .i64 m, .int .i64 n] w (SomeGIB P w g' y z) := by
  have := alloc_any A rn c B nn d mo g m n w h hk hmo hnn hP; rw [e] at this; exact this
theorem rread_x (h : GM P w A rn c B nn d mo g) (hk : Ok g) (hmo : g.most ≤ 1000) (hnn : nn ≤ 1000) (hP : ∀ b, w.heap.size ≤ b → P b) (m a i : Int) (e : gRead g m a i = (g', y, z)) : Calls Try.prog 15 #[gV A rn c B nn d mo, .int .i64 m, .int .i64 a, .int .i64 i] w (SomeGIB P w g' y z) := by
  have := read_any A rn c B nn d mo g m a i w h hk hmo hnn hP; rw [e] at this; exact this
theorem rwrite_x (h : GM P w A rn c B nn d mo g) (hk : Ok g) (hnn : nn ≤ 1000) (hP : ∀ b, w.heap.size ≤ b → P b) (m a i b : Int) (e : gWrite g m a i b = (g', z)) : Calls Try.prog 16 #[gV A rn c B nn d mo, .int .i64 m, .int .i64 a, .int .i64 i, .int .i64 b] w (SomeGB P w g' z) := by
  have := write_any A rn c B nn d mo g m a i b w h hk hnn hP; rw [e] at this; exact this
theorem rpop_x (h : GM P w A rn c B nn d mo g) (hk : Ok g) (hmo : g.most ≤ 1000) (hP : ∀ b, w.heap.size ≤ b → P b) (m : Int) (e : gPop g m = (g', z)) : Calls Try.prog 17 #[gV A rn c B nn d mo, .int .i64 m] w (SomeGB P w g' z) := by
  have := pop_any A rn c B nn d mo g m w h hk hmo hP; rw [e] at this; exact this
theorem rdup_x (h : GM P w A rn c B nn d mo g) (hk : Ok g) (hmo : g.most ≤ 1000) (hP : ∀ b, w.heap.size ≤ b → P b) (m a : Int) (e : gDup g m a = (g', z)) : Calls Try.prog 18 #[gV A rn c B nn d mo, .int .i64 m, .int .i64 a] w (SomeGB P w g' z) := by
  have := dup_any A rn c B nn d mo g m a w h hk hmo hP; rw [e] at this; exact this
end
end Go.Proofs.Ytjnkcomedcbenaa
