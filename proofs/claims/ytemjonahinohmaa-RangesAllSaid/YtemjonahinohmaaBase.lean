/- Slices of picks, of bytes and of turns in memory: what reads as a list, what is the call's own, and an append to it. -/
import Derived.Test.YtemjonahinohmaaRows
import Derived.Test.YtemjonahinohmaaRgPure
import Derived.WalkKit
import Derived.WalkSpells
import Derived.WalkLawsBesides
import Derived.WalkSmall
import Derived.BigQuiet
import Derived.BigRegion
import Derived.StillTailTactics
import Derived.Deep.QuietTactic
import Derived.Deep.RegionWith
import Derived.Deep.RegionHeld3
import Derived.Deep.DeepCutAuto
import Derived.Deep.AppendLies
import Derived.Deep.Onto
import Derived.Lib.Hide
import Derived.Lib.SmallJoins
import Derived.Handy
import Derived.IntWalk
import Derived.Below
import Derived.Laws.ResultCell
import Derived.Laws.StructEq
import Derived.LoopN
import Derived.OwnWalk
import Derived.Laws.AppendOwn
import Derived.Laws.AppendOwnNone

namespace Go.Proofs.Ytemjonahinohmaa
open Go.RowKit
set_option linter.unusedVariables false

/-- A piece: from one slot on, ahead of another. -/
abbrev Pk := Int × Int
abbrev at_ (l : List Pk) (i : Nat) : Pk := l.getD i (0, 0)

theorem info3 : (Try.prog.info? 3).map (fun i => (i.zero, i.size, i.bytes)) = some (some (.int .i64 0), 1, 8) := by kernel_rfl
theorem info5 : (Try.prog.info? 5).map (fun i => (i.zero, i.size, i.bytes)) = some (some (.int .u8 0), 1, 1) := by kernel_rfl
theorem info24 : (Try.prog.info? 24).map (fun i => (i.zero, i.size, i.bytes)) = some (some (.agg #[.int .i64 0, .int .i64 0]), 2, 16) := by kernel_rfl

theorem ret_int {k : IntKind} {a b : Int} (h : a = b) : Ending.returned (.int k a) = .returned (.int k b) := by rw [h]
theorem ret_bool {a b : Bool} (h : a = b) : Ending.returned (.bool a) = .returned (.bool b) := by rw [h]
/-- Below a block's number, through a callee's own. -/
theorem below_step {B : Nat} {a w w' : World} (h : Below B a w) (hB : B ≤ w.heap.size) (k : Below w.heap.size w w') : Below B a w' := h.trans (k.mono hB)
theorem below_drewN {B : Nat} {a w : World} (h : Below B a w) : ∀ n, Below B a (w.drewN n)
  | 0 => h
  | n + 1 => (below_drewN h n).drew

theorem add_off (b off j : Nat) : (⟨b, off, none⟩ : Addr).add j = ⟨b, off + j, none⟩ := by
  unfold Addr.add
  split
  · rename_i e; subst e; rfl
  · rfl

/-- A slice of integers of this kind that reads as these, nil let in. -/
def Reads (k : IntKind) (w : World) (A : Option Addr) (zs : List Int) : Prop :=
  0 < zs.length → ∃ b off, A = some ⟨b, off, none⟩ ∧ b < w.heap.size ∧ ∀ j, j < zs.length → w.cell? ⟨b, off + j, none⟩ = some (.int k (zs.getD j 0))
theorem Reads.below {k : IntKind} {w w' : World} {A : Option Addr} {zs : List Int} (h : Reads k w A zs) (hb : Below w.heap.size w w') : Reads k w' A zs := fun h0 => by
  obtain ⟨b, off, e, hlt, hc⟩ := h h0
  exact ⟨b, off, e, Nat.lt_of_lt_of_le hlt hb.size, fun j hj => (hb.cell (p := ⟨b, off + j, none⟩) hlt).trans (hc j hj)⟩

/-- A slice of picks that reads as these, nil let in. -/
def ReadsP (w : World) (A : Option Addr) (l : List Pk) : Prop :=
  0 < l.length → ∃ b off, A = some ⟨b, off, none⟩ ∧ b < w.heap.size ∧ ∀ j, j < l.length → w.cell? ⟨b, off + j * 2, none⟩ = some (.int .i64 (at_ l j).1) ∧ w.cell? ⟨b, off + (j * 2 + 1), none⟩ = some (.int .i64 (at_ l j).2)
theorem ReadsP.below {w w' : World} {A : Option Addr} {l : List Pk} (h : ReadsP w A l) (hb : Below w.heap.size w w') : ReadsP w' A l := fun h0 => by
  obtain ⟨b, off, e, hlt, hc⟩ := h h0
  exact ⟨b, off, e, Nat.lt_of_lt_of_le hlt hb.size, fun j hj => ⟨(hb.cell (p := ⟨b, off + j * 2, none⟩) hlt).trans (hc j hj).1, (hb.cell (p := ⟨b, off + (j * 2 + 1), none⟩) hlt).trans (hc j hj).2⟩⟩

def flat (l : List Pk) : List Value := l.flatMap fun x => [.int .i64 x.1, .int .i64 x.2]
theorem flat_len (l : List Pk) : (flat l).length = l.length * 2 := by
  induction l with
  | nil => rfl
  | cons a l ih => simp [flat] at ih ⊢; omega
theorem flat_app (l m : List Pk) : flat (l ++ m) = flat l ++ flat m := by simp [flat]
theorem flat_get : ∀ (l : List Pk) (i : Nat), i < l.length → (flat l)[i * 2]? = some (.int .i64 (at_ l i).1) ∧ (flat l)[i * 2 + 1]? = some (.int .i64 (at_ l i).2)
  | [], i, h => by simp at h
  | a :: l, 0, _ => ⟨rfl, rfl⟩
  | a :: l, i + 1, h => by
    have ih := flat_get l i (by simpa using h)
    have e : flat (a :: l) = .int .i64 a.1 :: .int .i64 a.2 :: flat l := rfl
    rw [e, show (i + 1) * 2 = i * 2 + 1 + 1 by omega, show (i * 2 + 1 + 1) + 1 = (i * 2 + 1) + 1 + 1 by omega]
    simpa [at_] using ih
theorem flat_set : ∀ (l : List Pk) (i : Nat) (x : Pk), i < l.length → flat (l.set i x) = ((flat l).set (i * 2) (.int .i64 x.1)).set (i * 2 + 1) (.int .i64 x.2)
  | [], i, x, h => by simp at h
  | a :: l, 0, x, _ => rfl
  | a :: l, i + 1, x, h => by
    have ih := flat_set l i x (by simpa using h)
    have e : ∀ (a : Pk) (l : List Pk), flat (a :: l) = .int .i64 a.1 :: .int .i64 a.2 :: flat l := fun _ _ => rfl
    rw [List.set_cons_succ, e, e, ih, show (i + 1) * 2 = i * 2 + 1 + 1 by omega, show (i * 2 + 1 + 1) + 1 = (i * 2 + 1) + 1 + 1 by omega]
    simp
theorem flat_cells (l : List Pk) : ∀ u ∈ flat l, u.oneCell' = true := by
  intro u hu
  simp only [flat, List.mem_flatMap] at hu
  obtain ⟨p, _, hu⟩ := hu
  simp at hu
  rcases hu with rfl | rfl <;> rfl

/-- A row of picks of the call's own. -/
def OwnP (e : TypeId) (B : Nat) (w0 wr : World) (v : Value) (l : List Pk) : Prop :=
  wr.ownsRow B e 2 v l.length (flat l) ∧ Below B w0 wr
theorem OwnP.nil {e : TypeId} {B : Nat} {w0 wr : World} (h : Below B w0 wr) : OwnP e B w0 wr (.slice none 0 0) [] := ⟨World.ownsRow_nil _ _ _ _, h⟩
theorem OwnP.drewN {e : TypeId} {B : Nat} {w0 wr : World} {v : Value} {l : List Pk} (h : OwnP e B w0 wr v l) (n : Nat) : OwnP e B w0 (wr.drewN n) v l := ⟨h.1, below_drewN h.2 n⟩
theorem OwnP.drew {e : TypeId} {B : Nat} {w0 wr : World} {v : Value} {l : List Pk} (h : OwnP e B w0 wr v l) : OwnP e B w0 wr.drew v l := ⟨h.1, h.2.drew⟩
theorem grown_of_below {a b : World} {row : Option Nat} (h : Below a.heap.size a b) : a.grownBy b row :=
  ⟨h.os, h.tape, h.output, h.size, fun i hi _ => h.block i hi⟩
theorem OwnP.step {e : TypeId} {B : Nat} {w0 wr w' : World} {v : Value} {l : List Pk} (h : OwnP e B w0 wr v l) (hB : B ≤ w0.heap.size) (k : Below wr.heap.size wr w') : OwnP e B w0 w' v l :=
  ⟨h.1.kept (grown_of_below (row := none) k) (by cases v.ownBlock <;> simp), below_step h.2 (Nat.le_trans hB h.2.size) k⟩
theorem OwnP.alloc {e : TypeId} {B : Nat} {w0 wr : World} {v : Value} {l : List Pk} (h : OwnP e B w0 wr v l) (hB : B ≤ w0.heap.size) (o : Obj) : OwnP e B w0 (wr.alloc o) v l :=
  ⟨h.1.alloc o, h.2.alloc (Nat.le_trans hB h.2.size) o⟩

/-- What it reads as. -/
theorem OwnP.reads {e : TypeId} {B : Nat} {w0 wr : World} {v : Value} {l : List Pk} (h : OwnP e B w0 wr v l) : ∃ A cap, v = .slice A l.length cap ∧ ReadsP wr A l ∧ (A = none → cap = 0) ∧ l.length ≤ cap ∧ cap ≤ maxLen := by
  obtain ⟨ho, hb⟩ := h
  have hlt := ho.lt
  have hcell := fun g (hg : v.ownBlock = some g) => ho.cells hg
  obtain ⟨hl, ⟨h1, h2⟩ | ⟨g, cap, cur, h1, h2, h3, h4, h5, h6, h7⟩⟩ := ho
  · exact ⟨none, 0, by rw [h1, h2], fun h => by omega, fun _ => rfl, by omega, by unfold maxLen; omega⟩
  · refine ⟨_, cap, h1, fun _ => ⟨g, 0, rfl, (hlt g (by rw [h1]; rfl)).2, fun i hi => ?_⟩, (fun e => by cases e), h4, h5⟩
    have hc := hcell g (by rw [h1]; rfl)
    obtain ⟨f0, f1⟩ := flat_get l i hi
    have c0 := hc (i * 2) _ f0
    have c1 := hc (i * 2 + 1) _ f1
    rw [add_off] at c0 c1
    exact ⟨c0, c1⟩

/-- An append of one pick that has just been built. -/
theorem append_one {wr : World} {T : TypeId} {x y : Int} {ops : Array Oper} {rest : List Oper} {o : Oper} {a : Act} {Q : Exit → Act → World → Prop} (hg : o.guard = none) (s c : Operand) (t e : TypeId)
    (ho : o.op = .call { callee := .builtin .append, args := #[s, c], argTypes := #[t, t] }) (ht : Try.prog.underlying t = some (.slice e))
    (hi : (Try.prog.info? e).map (fun i => (i.zero, i.size, i.bytes)) = some (some (.agg #[.int .i64 0, .int .i64 0]), 2, 16))
    (B : Nat) (w0 : World) (v : Value) (l : List Pk) (hs : a.eval s = v) (hown : OwnP e B w0 wr v l) (hx : a.eval c = .slice (some ⟨wr.heap.size, 0, none⟩) 1 1) (hl : l.length ≤ 100000) (hB : B ≤ w0.heap.size)
    (h : ∀ v' w', OwnP e B w0 w' v' (l ++ [(x, y)]) → wpList Try.prog ops Q rest (a.put o.dst v') w') :
    wpList Try.prog ops Q (o :: rest) a (wr.alloc (.cells #[.int .i64 x, .int .i64 y] T)) := by
  obtain ⟨i0, hi0, hz0, hz1, hz2⟩ := info_parts hi
  have hsz := hown.2.size
  have hn := hown.alloc hB (.cells #[.int .i64 x, .int .i64 y] T)
  refine wpList_append_own _ hg s c t ho B e i0 _ 2 16 ht hi0 hz0 hz1 hz2 rfl (by decide) v l.length _ hs hn.1 ⟨wr.heap.size, 0, none⟩ 1 1 [.int .i64 x, .int .i64 y] hx rfl ?_ ?_ (by unfold maxLen; omega) (by omega) (by simp; omega) ?_
  · intro j u hj
    rw [add_off, World.cell?_alloc_at _ _ _ _ rfl]
    match j, hj with
    | 0, hj => simp at hj; subst hj; rfl
    | 1, hj => simp at hj; subst hj; rfl
  · intro u hu
    simp at hu
    rcases hu with rfl | rfl <;> rfl
  · intro v' w' h1 h2 _
    refine h v' w' ⟨by rw [List.length_append, flat_app]; exact h1, hn.2.grown h2 (by simp; omega) (fun b hb => (hn.1.lt b hb).1)⟩

/-- The same at a step of a region that draws its order. -/
theorem step_append_one {wr : World} {T : TypeId} {x y : Int} {ops : Array Oper} {o : Oper} {a : Act} {K : Act → World → Prop} {Q : Exit → Act → World → Prop} {E : Prop} (hg : o.guard = none) (s c : Operand) (t e : TypeId)
    (ho : o.op = .call { callee := .builtin .append, args := #[s, c], argTypes := #[t, t] }) (ht : Try.prog.underlying t = some (.slice e))
    (hi : (Try.prog.info? e).map (fun i => (i.zero, i.size, i.bytes)) = some (some (.agg #[.int .i64 0, .int .i64 0]), 2, 16))
    (B : Nat) (w0 : World) (v : Value) (l : List Pk) (hs : a.eval s = v) (hown : OwnP e B w0 wr v l) (hx : a.eval c = .slice (some ⟨wr.heap.size, 0, none⟩) 1 1) (hl : l.length ≤ 100000) (hB : B ≤ w0.heap.size)
    (h : ∀ v' w', OwnP e B w0 w' v' (l ++ [(x, y)]) → K (a.put o.dst v') w') :
    if Region.wanted o (yielded ops a.tmps) = true then Oper.wp Try.prog o a (wr.alloc (.cells #[.int .i64 x, .int .i64 y] T)) K Q else E := by
  obtain ⟨i0, hi0, hz0, hz1, hz2⟩ := info_parts hi
  have hsz := hown.2.size
  have hn := hown.alloc hB (.cells #[.int .i64 x, .int .i64 y] T)
  refine step_append_lies _ hg s c t ho B e i0 _ 2 16 ht hi0 hz0 hz1 hz2 rfl (by decide) v l.length _ hs hn.1 ⟨wr.heap.size, 0, none⟩ 1 1 [.int .i64 x, .int .i64 y] hx rfl ?_ ?_ (by decide) (by unfold maxLen; omega) (by omega) (by simp; omega) _ rfl ?_
  · intro j u hj
    rw [add_off, World.cell?_alloc_at _ _ _ _ rfl]
    match j, hj with
    | 0, hj => simp at hj; subst hj; rfl
    | 1, hj => simp at hj; subst hj; rfl
  · intro u hu
    simp at hu
    rcases hu with rfl | rfl <;> rfl
  · intro g cap w' h1 h2 _ _
    refine h _ w' ⟨by rw [List.length_append, flat_app]; exact h1, hn.2.grown h2 (by simp; omega) (fun b hb => (hn.1.lt b hb).1)⟩


theorem below_alloc0 {w w' : World} (h : Below w.heap.size w w') (o : Obj) : Below w.heap.size w (w'.alloc o) := h.alloc h.size o
theorem below_then {w w1 w2 : World} (h : Below w.heap.size w w1) (k : Below w1.heap.size w1 w2) : Below w.heap.size w w2 := below_step h h.size k

def imax (x y : Int) : Int := if y > x then y else x
def imin (x y : Int) : Int := if y < x then y else x
@[go_sem ↓ high] theorem run_imax {P : Program} {w : World} (ts : Array TypeId) (t : TypeId) (k k' : IntKind) (x y : Int) : (Builtin.max_ ts t #[.int k x, .int k' y]).run P w = .ok (.int k (imax x y)) w := run_max_int2 ..
@[go_sem ↓ high] theorem run_imin {P : Program} {w : World} (ts : Array TypeId) (t : TypeId) (k k' : IntKind) (x y : Int) : (Builtin.min_ ts t #[.int k x, .int k' y]).run P w = .ok (.int k (imin x y)) w := run_min_int2 ..
theorem bnd_is {n lo hi : Int} (h : lo ≤ hi) : imin (imax n lo) hi = bnd n lo hi := by
  unfold imin imax bnd
  (repeat' split) <;> omega

/-- All blocks but these two are as they were. -/
structure Upd (S D : Nat) (w w' : World) : Prop where
  os : w'.os = w.os
  tape : w'.tape = w.tape
  output : w'.output = w.output
  size : w.heap.size ≤ w'.heap.size
  block : ∀ k, k < w.heap.size → k ≠ S → k ≠ D → w'.heap[k]? = w.heap[k]?
theorem Upd.refl (S D : Nat) (w : World) : Upd S D w w := ⟨rfl, rfl, rfl, Nat.le_refl _, fun _ _ _ _ => rfl⟩
theorem Upd.trans {S D : Nat} {a b c : World} (h : Upd S D a b) (k : Upd S D b c) : Upd S D a c :=
  ⟨k.os.trans h.os, k.tape.trans h.tape, k.output.trans h.output, Nat.le_trans h.size k.size, fun i hi h1 h2 => (k.block i (Nat.lt_of_lt_of_le hi h.size) h1 h2).trans (h.block i hi h1 h2)⟩
theorem Upd.of_below {S D : Nat} {w w' : World} (h : Below w.heap.size w w') : Upd S D w w' := ⟨h.os, h.tape, h.output, h.size, fun k hk _ _ => h.block k hk⟩
theorem Upd.setS {S D : Nat} {a w : World} (h : Upd S D a w) (i : Nat) (v : Value) : Upd S D a (w.setCell ⟨S, i, none⟩ v) :=
  h.trans ⟨rfl, rfl, rfl, by simp, fun k hk h1 _ => heap_setCell_other w ⟨S, i, none⟩ k v h1⟩
theorem Upd.setD {S D : Nat} {a w : World} (h : Upd S D a w) (i : Nat) (v : Value) : Upd S D a (w.setCell ⟨D, i, none⟩ v) :=
  h.trans ⟨rfl, rfl, rfl, by simp, fun k hk _ h2 => heap_setCell_other w ⟨D, i, none⟩ k v h2⟩
theorem below_upd {B S D : Nat} {w0 w w' : World} (h : Below B w0 w) (hB : B ≤ w0.heap.size) (u : Upd S D w w') (hS : B ≤ S) (hD : B ≤ D) : Below B w0 w' :=
  h.trans ⟨u.os, u.tape, u.output, u.size, fun k hk => u.block k (Nat.lt_of_lt_of_le hk (Nat.le_trans hB h.size)) (by omega) (by omega)⟩
theorem OwnP.upd {e : TypeId} {B S D : Nat} {w0 wr w' : World} {v : Value} {l : List Pk} (h : OwnP e B w0 wr v l) (hB : B ≤ w0.heap.size) (u : Upd S D wr w') (hS : B ≤ S) (hD : B ≤ D) (h1 : v.ownBlock ≠ some S) (h2 : v.ownBlock ≠ some D) : OwnP e B w0 w' v l := by
  refine ⟨?_, below_upd h.2 hB u hS hD⟩
  obtain ⟨ho, _⟩ := h
  refine ⟨ho.1, ?_⟩
  rcases ho.2 with hn | ⟨g, cap, cur, rfl, hb, hgg, rest⟩
  · exact .inl hn
  · refine .inr ⟨g, cap, cur, rfl, hb, ?_, rest⟩
    rw [u.block g (Array.getElem?_eq_some_iff.1 hgg).1 (by simpa [Value.ownBlock] using h1) (by simpa [Value.ownBlock] using h2)]
    exact hgg
abbrev ptr (N : Nat) : Value := .pointer (some ⟨N, 0, none⟩)
end Go.Proofs.Ytemjonahinohmaa
