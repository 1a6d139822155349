/- Lists of lists in memory: what reads as them, what is the call's own. -/
import Derived.Test.YtjnkcomedcbenaaRows
import Derived.WalkKit
import Derived.WalkSpells
import Derived.WalkLawsBesides
import Derived.WalkSmall
import Derived.BigQuiet
import Derived.BigRegion
import Derived.StillTailTactics
import Derived.Deep.QuietTactic
import Derived.Deep.RegionWith
import Derived.Deep.RegionHeld3
import Derived.Deep.DeepCutAuto
import Derived.Deep.AppendLies
import Derived.Deep.Onto
import Derived.Lib.Hide
import Derived.Lib.SmallJoins
import Derived.Handy
import Derived.IntWalk
import Derived.Below
import Derived.Laws.ResultCell
import Derived.Laws.StructEq
import Derived.Laws.CopyOwn
import Derived.LoopN
import Derived.OpenShut
import Derived.OwnWalk
import Derived.Laws.AppendOwn
import Derived.Laws.AppendOwnNone

import Derived.Test.YtjnkcomedcbenaaGrReach
namespace Go.Proofs.Ytjnkcomedcbenaa
open Go.RowKit
set_option linter.unusedVariables false

theorem info3 : (Try.prog.info? 3).map (fun i => (i.zero, i.size, i.bytes)) = some (some (.int .i64 0), 1, 8) := by kernel_rfl
theorem info43 : (Try.prog.info? 43).map (fun i => (i.zero, i.size, i.bytes)) = some (some (.slice none 0 0), 1, 24) := by kernel_rfl
theorem info4 : (Try.prog.info? 4).map (fun i => (i.zero, i.size, i.bytes)) = some (some (.bool false), 1, 1) := by kernel_rfl

theorem ret_int {k : IntKind} {a b : Int} (h : a = b) : Ending.returned (.int k a) = .returned (.int k b) := by rw [h]
theorem ret_bool {a b : Bool} (h : a = b) : Ending.returned (.bool a) = .returned (.bool b) := by rw [h]
theorem below_step {B : Nat} {a w w' : World} (h : Below B a w) (hB : B ≤ w.heap.size) (k : Below w.heap.size w w') : Below B a w' := h.trans (k.mono hB)
theorem below_drewN {B : Nat} {a w : World} (h : Below B a w) : ∀ n, Below B a (w.drewN n)
  | 0 => h
  | n + 1 => (below_drewN h n).drew
theorem below_alloc0 {w w' : World} (h : Below w.heap.size w w') (o : Obj) : Below w.heap.size w (w'.alloc o) := h.alloc h.size o
theorem below_then {w w1 w2 : World} (h : Below w.heap.size w w1) (k : Below w1.heap.size w1 w2) : Below w.heap.size w w2 := below_step h h.size k
theorem add_off (b off j : Nat) : (⟨b, off, none⟩ : Addr).add j = ⟨b, off + j, none⟩ := by
  unfold Addr.add
  split
  · rename_i e; subst e; rfl
  · rfl
theorem map_get (k : IntKind) (l : List Int) (u : Nat) (h : u < l.length) : (l.map (Value.int k))[u]? = some (.int k (l.getD u 0)) := by
  simp [List.getElem?_map, List.getElem?_eq_getElem h, List.getD]
theorem ints_ext (xs ys : List Int) (h : xs.length = ys.length) (h2 : ∀ j, j < xs.length → xs.getD j 0 = ys.getD j 0) : xs = ys := by
  apply List.ext_getElem h
  intro i h3 h4
  have := h2 i h3
  simpa [List.getD, List.getElem?_eq_getElem h3, List.getElem?_eq_getElem h4] using this

/-- A slice of numbers that reads as these, nil let in; its block is one of these. -/
def Reads (P : Nat → Prop) (w : World) (A : Option Addr) (zs : List Int) : Prop :=
  0 < zs.length → ∃ b off, A = some ⟨b, off, none⟩ ∧ (b < w.heap.size ∧ P b) ∧ ∀ j, j < zs.length → w.cell? ⟨b, off + j, none⟩ = some (.int .i64 (zs.getD j 0))
/-- What was there is there still, and none of it has turned that stands in such a block. -/
structure Kept (P : Nat → Prop) (w w' : World) : Prop where
  size : w.heap.size ≤ w'.heap.size
  block : ∀ k, k < w.heap.size → P k → w'.heap[k]? = w.heap[k]?
theorem Kept.below {P : Nat → Prop} {w w' : World} (h : Below w.heap.size w w') : Kept P w w' := ⟨h.size, fun k hk _ => h.block k hk⟩
theorem Kept.cell {P : Nat → Prop} {w w' : World} (h : Kept P w w') {b : Nat} (hb : b < w.heap.size ∧ P b) (o : Nat) : w'.cell? ⟨b, o, none⟩ = w.cell? ⟨b, o, none⟩ := World.cell?_of_block (w := w) (a := ⟨b, o, none⟩) (h.block b hb.1 hb.2)
theorem Kept.set {P : Nat → Prop} {w w' : World} (h : Kept P w w') {g : Nat} (hg : ¬ P g) (i : Nat) (u : Value) : Kept P w (w'.setCell ⟨g, i, none⟩ u) :=
  ⟨by simpa using h.size, fun k hk hp => (heap_setCell_other w' ⟨g, i, none⟩ k u (fun e => hg (by have e' : k = g := e; rw [← e']; exact hp))).trans (h.block k hk hp)⟩
theorem Kept.imp {P Q : Nat → Prop} {w w' : World} (h : Kept P w w') (hq : ∀ b, Q b → P b) : Kept Q w w' := ⟨h.size, fun k hk hp => h.block k hk (hq k hp)⟩
theorem Kept.refl (P : Nat → Prop) (w : World) : Kept P w w := ⟨Nat.le_refl _, fun _ _ _ => rfl⟩
theorem Reads.kept {P : Nat → Prop} {w w' : World} {A : Option Addr} {zs : List Int} (h : Reads P w A zs) (hb : Kept P w w') : Reads P w' A zs := fun h0 => by
  obtain ⟨b, off, e, hlt, hc⟩ := h h0
  exact ⟨b, off, e, ⟨Nat.lt_of_lt_of_le hlt.1 hb.size, hlt.2⟩, fun j hj => (hb.cell hlt _).trans (hc j hj)⟩
theorem Reads.to {P Q : Nat → Prop} {w : World} {A : Option Addr} {zs : List Int} (h : Reads P w A zs) (hq : ∀ b, b < w.heap.size → P b → Q b) : Reads Q w A zs := fun h0 => by
  obtain ⟨b, off, e, hlt, hc⟩ := h h0
  exact ⟨b, off, e, ⟨hlt.1, hq b hlt.1 hlt.2⟩, hc⟩
theorem bcell {W w1 : World} (hb : Below W.heap.size W w1) : (∀ b o, b < W.heap.size → w1.cell? ⟨b, o, none⟩ = W.cell? ⟨b, o, none⟩) ∧ (∀ b o, b < W.heap.size → w1.frozen? ⟨b, o, none⟩ = W.frozen? ⟨b, o, none⟩) :=
  ⟨fun b o h => hb.cell (p := ⟨b, o, none⟩) h, fun b o h => hb.frozen (p := ⟨b, o, none⟩) h⟩
/-- A slice of numbers, as a value. -/
def RowV (P : Nat → Prop) (w : World) (v : Value) (zs : List Int) : Prop := ∃ B c, v = .slice B zs.length c ∧ Reads P w B zs ∧ zs.length ≤ c ∧ c ≤ maxLen ∧ (B = none → c = 0)
theorem RowV.kept {P : Nat → Prop} {w w' : World} {v : Value} {zs : List Int} (h : RowV P w v zs) (hb : Kept P w w') : RowV P w' v zs := by
  obtain ⟨B, c, h1, h2, h3⟩ := h
  exact ⟨B, c, h1, h2.kept hb, h3⟩
theorem RowV.to {P Q : Nat → Prop} {w : World} {v : Value} {zs : List Int} (h : RowV P w v zs) (hq : ∀ b, b < w.heap.size → P b → Q b) : RowV Q w v zs := by
  obtain ⟨B, c, h1, h2, h3⟩ := h
  exact ⟨B, c, h1, h2.to hq, h3⟩
theorem RowV.one {P : Nat → Prop} {w : World} {v : Value} {zs : List Int} (h : RowV P w v zs) : v.oneCell' = true := by
  obtain ⟨B, c, rfl, _⟩ := h; rfl
theorem RowV.nil (P : Nat → Prop) (w : World) : RowV P w (.slice none 0 0) [] := ⟨none, 0, rfl, fun h => by simp at h, Nat.le_refl _, Nat.zero_le _, fun _ => rfl⟩
/-- The cells at an address. -/
def Cells (P : Nat → Prop) (w : World) (A : Option Addr) (vs : List Value) : Prop := 0 < vs.length → ∃ b off, A = some ⟨b, off, none⟩ ∧ (b < w.heap.size ∧ P b) ∧ ∀ j, j < vs.length → w.cell? ⟨b, off + j, none⟩ = some (vs.getD j undef)
theorem Cells.kept {P : Nat → Prop} {w w' : World} {A : Option Addr} {vs : List Value} (h : Cells P w A vs) (hb : Kept P w w') : Cells P w' A vs := fun h0 => by
  obtain ⟨b, off, e, hlt, hc⟩ := h h0
  exact ⟨b, off, e, ⟨Nat.lt_of_lt_of_le hlt.1 hb.size, hlt.2⟩, fun j hj => (hb.cell hlt _).trans (hc j hj)⟩
theorem Cells.to {P Q : Nat → Prop} {w : World} {A : Option Addr} {vs : List Value} (h : Cells P w A vs) (hq : ∀ b, b < w.heap.size → P b → Q b) : Cells Q w A vs := fun h0 => by
  obtain ⟨b, off, e, hlt, hc⟩ := h h0
  exact ⟨b, off, e, ⟨hlt.1, hq b hlt.1 hlt.2⟩, hc⟩
/-- Lists of numbers, as slices. -/
def RowsV (P : Nat → Prop) (w : World) (vs : List Value) (ls : List (List Int)) : Prop := vs.length = ls.length ∧ ∀ j, j < ls.length → RowV P w (vs.getD j undef) (row ls j)
theorem RowsV.kept {P : Nat → Prop} {w w' : World} {vs : List Value} {ls : List (List Int)} (h : RowsV P w vs ls) (hb : Kept P w w') : RowsV P w' vs ls := ⟨h.1, fun j hj => (h.2 j hj).kept hb⟩
theorem RowsV.to {P Q : Nat → Prop} {w : World} {vs : List Value} {ls : List (List Int)} (h : RowsV P w vs ls) (hq : ∀ b, b < w.heap.size → P b → Q b) : RowsV Q w vs ls := ⟨h.1, fun j hj => (h.2 j hj).to hq⟩
/-- A slice of slices that reads as these lists. -/
def RowsAt (P : Nat → Prop) (w : World) (A : Option Addr) (n c : Nat) (ls : List (List Int)) : Prop := n = ls.length ∧ n ≤ c ∧ c ≤ maxLen ∧ (A = none → c = 0) ∧ ∃ vs, RowsV P w vs ls ∧ Cells P w A vs
section
variable {P Q : Nat → Prop} {w w' : World} {A : Option Addr} {n c : Nat} {ls : List (List Int)}
theorem RowsAt.kept (h : RowsAt P w A n c ls) (hb : Kept P w w') : RowsAt P w' A n c ls := by
  obtain ⟨h1, h2, h3, h4, vs, h5, h6⟩ := h
  exact ⟨h1, h2, h3, h4, vs, h5.kept hb, h6.kept hb⟩
theorem RowsAt.to (h : RowsAt P w A n c ls) (hq : ∀ b, b < w.heap.size → P b → Q b) : RowsAt Q w A n c ls := by
  obtain ⟨h1, h2, h3, h4, vs, h5, h6⟩ := h
  exact ⟨h1, h2, h3, h4, vs, h5.to hq, h6.to hq⟩
/-- The i-th of them. -/
theorem RowsAt.get (h : RowsAt P w A n c ls) (i : Nat) (hi : i < n) :
    ∃ b off B d, A = some ⟨b, off, none⟩ ∧ b < w.heap.size ∧ w.cell? ⟨b, off + i, none⟩ = some (.slice B (row ls i).length d) ∧ Reads P w B (row ls i) ∧ (row ls i).length ≤ d ∧ d ≤ maxLen ∧ (B = none → d = 0) := by
  obtain ⟨h1, h2, h3, h4, vs, h5, h6⟩ := h
  obtain ⟨b, off, e, hlt, hc⟩ := h6 (by rw [h5.1]; omega)
  obtain ⟨B, d, hv, hr, hd⟩ := h5.2 i (by omega)
  exact ⟨b, off, B, d, e, hlt.1, by rw [hc i (by rw [h5.1]; omega), hv], hr, hd⟩
end
/-- A graph of the document's, by value. -/
abbrev gV (A : Option Addr) (rn c : Nat) (B : Option Addr) (nn d : Nat) (mo : Int) : Value := .agg #[.slice A rn c, .slice B nn d, .int .i64 mo]
def Any : Nat → Prop := fun _ => True
structure GM (P : Nat → Prop) (w : World) (A : Option Addr) (rn c : Nat) (B : Option Addr) (nn d : Nat) (mo : Int) (g : Gr) : Prop where
  mo : mo = g.most
  ra : RowsAt P w A rn c g.roots
  rb : RowsAt P w B nn d g.nodes
section
variable {P Q : Nat → Prop} {w w' : World} {A : Option Addr} {rn c : Nat} {B : Option Addr} {nn d : Nat} {mo : Int} {g : Gr}
theorem GM.kept (h : GM P w A rn c B nn d mo g) (hb : Kept P w w') : GM P w' A rn c B nn d mo g := ⟨h.mo, h.ra.kept hb, h.rb.kept hb⟩
theorem GM.below (h : GM P w A rn c B nn d mo g) (hb : Below w.heap.size w w') : GM P w' A rn c B nn d mo g := h.kept (Kept.below hb)
theorem GM.to (h : GM P w A rn c B nn d mo g) (hq : ∀ b, b < w.heap.size → P b → Q b) : GM Q w A rn c B nn d mo g := ⟨h.mo, h.ra.to hq, h.rb.to hq⟩
end
end Go.Proofs.Ytjnkcomedcbenaa
