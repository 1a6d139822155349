/- Operations that come in: one by one, from a slice; and what a graph is behind some of them. -/
import Derived.ProofKit
import Derived.OpenShut
import Derived.ChangeOld
import Derived.Deep.SlicePairs
import Derived.Test.YtjnkcomedcbenaaGOwn
namespace Go.Proofs.Ytjnkcomedcbenaa
open Go.ChangeShapes Go.WideShapes Go.RowKit
set_option linter.unusedVariables false

def WfOp (x : Op5) : Prop := 0 ≤ x.d ∧ x.d ≤ 255
section
variable {H : Type} {enc : TypeId × Value → H} {w : World} {base : Nat} {spare : Nat → Bool} {held : Bool}
set_option maxRecDepth 100000 in
theorem op_cells {fuel : Nat} {cs : List Value} {y : DataW H × List MemPlace} (hn : cs.length = 5) (hf : DataW.trod enc Try.prog w base spare held fuel 31 cs = some y) :
    ∃ x : Op5, cs = [.int .u8 x.d, .int .i64 x.m, .int .i64 x.a, .int .i64 x.i, .int .i64 x.b] ∧ WfOp x := by
  obtain ⟨xs, m, _, _, _, hl, hel⟩ := DataW.trod_struct Try.underlying31 hf
  have g0 : DataW.trod enc Try.prog w base spare held m 5 (List.take (Try.prog.cellsOf 5) (List.drop 0 _)) = xs[0]? := hel 0 _ rfl
  have g1 : DataW.trod enc Try.prog w base spare held m 3 (List.take (Try.prog.cellsOf 3) (List.drop 1 _)) = xs[1]? := hel 1 _ rfl
  have g2 : DataW.trod enc Try.prog w base spare held m 3 (List.take (Try.prog.cellsOf 3) (List.drop 2 _)) = xs[2]? := hel 2 _ rfl
  have g3 : DataW.trod enc Try.prog w base spare held m 3 (List.take (Try.prog.cellsOf 3) (List.drop 3 _)) = xs[3]? := hel 3 _ rfl
  have g4 : DataW.trod enc Try.prog w base spare held m 3 (List.take (Try.prog.cellsOf 3) (List.drop 4 _)) = xs[4]? := hel 4 _ rfl
  have hc5 : Try.prog.cellsOf 5 = 1 := by kernel_rfl
  have hc3 : Try.prog.cellsOf 3 = 1 := by kernel_rfl
  have hx5 : xs.length = 5 := hl
  rw [hc5] at g0
  rw [hc3] at g1 g2 g3 g4
  match cs, hn with
  | [v0, v1, v2, v3, v4], _ =>
    rw [List.getElem?_eq_getElem (by omega)] at g0 g1 g2 g3 g4
    obtain ⟨d, hd, _, wd⟩ := DataW.trod_int Try.underlying5 g0
    obtain ⟨p, hp, _, _⟩ := DataW.trod_int Try.underlying3 g1
    obtain ⟨o, ho, _, _⟩ := DataW.trod_int Try.underlying3 g2
    obtain ⟨v, hv, _, _⟩ := DataW.trod_int Try.underlying3 g3
    obtain ⟨b, hb, _, _⟩ := DataW.trod_int Try.underlying3 g4
    simp at hd hp ho hv hb
    refine ⟨⟨d, p, o, v, b⟩, by rw [hd, hp, ho, hv, hb], ?_⟩
    simp [Lit.wf] at wd
    exact ⟨wd.1, wd.2⟩
end
/-- The i-th operation. -/
def atO (l : List Op5) (i : Nat) : Op5 := l.getD i ⟨0, 0, 0, 0, 0⟩
theorem mem_atO {l : List Op5} {i : Nat} (h : i < l.length) : atO l i ∈ l := by
  have : atO l i = l[i] := by simp [atO, List.getD, h]
  rw [this]; exact List.getElem_mem h
/-- A slice of operations that reads as these, nil let in. -/
def ReadsO (w : World) (A : Option Addr) (l : List Op5) : Prop :=
  0 < l.length → ∃ b off, A = some ⟨b, off, none⟩ ∧ b < w.heap.size ∧ ∀ j, j < l.length → w.cell? ⟨b, off + j * 5, none⟩ = some (.int .u8 (atO l j).d) ∧ w.cell? ⟨b, off + (j * 5 + 1), none⟩ = some (.int .i64 (atO l j).m) ∧ w.cell? ⟨b, off + (j * 5 + 2), none⟩ = some (.int .i64 (atO l j).a) ∧ w.cell? ⟨b, off + (j * 5 + 3), none⟩ = some (.int .i64 (atO l j).i) ∧ w.cell? ⟨b, off + (j * 5 + 4), none⟩ = some (.int .i64 (atO l j).b)
theorem ReadsO.below {w w' : World} {A : Option Addr} {l : List Op5} (h : ReadsO w A l) (hb : Below w.heap.size w w') : ReadsO w' A l := fun h0 => by
  obtain ⟨b, off, e, hlt, hc⟩ := h h0
  refine ⟨b, off, e, Nat.lt_of_lt_of_le hlt hb.size, fun j hj => ?_⟩
  have c := fun o => hb.cell (p := ⟨b, o, none⟩) hlt
  exact ⟨(c _).trans (hc j hj).1, (c _).trans (hc j hj).2.1, (c _).trans (hc j hj).2.2.1, (c _).trans (hc j hj).2.2.2.1, (c _).trans (hc j hj).2.2.2.2⟩
/-- The five cells of the j-th, as the walk spells them. -/
theorem ReadsO.at' {w : World} {A : Option Addr} {l : List Op5} (h : ReadsO w A l) (j : Nat) (hj : j < l.length) : ∃ b off, A = some ⟨b, off, none⟩ ∧ w.cell? ⟨b, off + j * 5, none⟩ = some (.int .u8 (atO l j).d) ∧ w.cell? ⟨b, off + j * 5 + 1, none⟩ = some (.int .i64 (atO l j).m) ∧ w.cell? ⟨b, off + j * 5 + 2, none⟩ = some (.int .i64 (atO l j).a) ∧ w.cell? ⟨b, off + j * 5 + 3, none⟩ = some (.int .i64 (atO l j).i) ∧ w.cell? ⟨b, off + j * 5 + 4, none⟩ = some (.int .i64 (atO l j).b) := by
  obtain ⟨b, off, e, _, hc⟩ := h (by omega)
  exact ⟨b, off, e, hc j hj⟩
def IsOps (w : World) (a : Option Addr) (len cap : Nat) (l : List Op5) : Prop := ReadsO w a l ∧ l.length = len ∧ len ≤ cap ∧ cap ≤ maxLen ∧ ∀ x ∈ l, WfOp x
section
variable {H : Type} {enc : TypeId × Value → H} {w : World} {held : Bool}
theorem open_ops {a : Option Addr} {len cap : Nat} {d : DataW H} {p : List MemPlace} (h : DataW.Trod enc Try.prog w 0 (fun _ => true) held 22 (.slice a len cap) d p) : ∃ l, IsOps w a len cap l := by
  obtain ⟨fuel, hf⟩ := h
  rcases Go.Deep.open_slice Try.underlying22 hf with ⟨hcs, _⟩ | ⟨x, l, c, m, n, D, Pl, hcs, _, hl, hm, hmm, _, hc⟩
  · simp [Value.cells] at hcs
    obtain ⟨rfl, rfl, rfl⟩ := hcs
    exact ⟨[], fun h => by simp at h, rfl, Nat.le_refl _, Nat.zero_le _, fun x hx => by simp at hx⟩
  · simp [Value.cells] at hcs
    obtain ⟨rfl, e1, e2⟩ := hcs
    simp at hmm
    rw [hmm] at hc
    clear hmm
    rw [← e1] at hl
    rw [← e2] at hl hm hc
    clear e1 e2
    have hc31 : Try.prog.cellsOf 31 = 5 := by kernel_rfl
    have key : ∀ i, i < cap → ∃ q : Op5, (w.cell? (x.add (i * 5)) = some (.int .u8 q.d) ∧ w.cell? ((x.add (i * 5)).add 1) = some (.int .i64 q.m) ∧ w.cell? ((x.add (i * 5)).add 2) = some (.int .i64 q.a) ∧ w.cell? ((x.add (i * 5)).add 3) = some (.int .i64 q.i) ∧ w.cell? ((x.add (i * 5)).add 4) = some (.int .i64 q.b)) ∧ WfOp q := fun i hi => by
      obtain ⟨cs', h1, h2⟩ := hc i hi
      rw [hc31] at h1
      obtain ⟨_, hlen, hcell⟩ := World.cells?_some h1
      obtain ⟨q, hq, hw⟩ := op_cells hlen h2
      subst hq
      have e0 := hcell 0 (by omega)
      have e1 := hcell 1 (by omega)
      have e2 := hcell 2 (by omega)
      have e3 := hcell 3 (by omega)
      have e4 := hcell 4 (by omega)
      refine ⟨q, ⟨?_, e1, e2, e3, e4⟩, hw⟩
      have : (x.add (i * 5)).add 0 = x.add (i * 5) := by simp [Addr.add]
      rw [this] at e0
      exact e0
    refine ⟨(List.range len).map fun i => if h : i < cap then (key i h).choose else ⟨0, 0, 0, 0, 0⟩, fun h0 => ?_, by simp, hl, hm, ?_⟩
    · have h0' : 0 < len := by simpa using h0
      obtain ⟨b, off, sp⟩ := x
      obtain ⟨q0, ⟨c0, _⟩, _⟩ := key 0 (by omega)
      have hs : sp = none := by
        cases sp with
        | none => rfl
        | some s =>
          exfalso
          simp only [Nat.zero_mul, Addr.add, if_true] at c0
          unfold World.cell? at c0
          simp only [Option.isSome_some, if_true] at c0
          split at c0 <;> simp at c0
      subst hs
      rw [add_off] at c0
      refine ⟨b, off, rfl, World.block_lt_of_cell? w _ c0, fun j hj => ?_⟩
      have hj' : j < len := by simpa using hj
      have hjc : j < cap := by omega
      have e : atO ((List.range len).map fun i => if h : i < cap then (key i h).choose else ⟨0, 0, 0, 0, 0⟩) j = (key j hjc).choose := by
        simp [atO, List.getD, hj', hjc]
      rw [e]
      have hk := (key j hjc).choose_spec.1
      generalize (key j hjc).choose = q at hk ⊢
      rw [add_off, add_off, add_off, add_off, add_off] at hk
      exact hk
    · intro y hy
      obtain ⟨i, hi, rfl⟩ := List.mem_map.1 hy
      have hi' : i < cap := by have := List.mem_range.1 hi; omega
      rw [dif_pos hi']
      exact (key i hi').choose_spec.2
end

/-- The graph behind the first k operations. -/
def opsTo (g : Gr) (l : List Op5) : Nat → Gr
  | 0 => g
  | k + 1 => (gPlay (opsTo g l k) (atO l k)).1
theorem opsTo_near (g : Gr) (l : List Op5) (k : Nat) : (opsTo g l k).nodes.length ≤ g.nodes.length + k ∧ g.nodes.length ≤ (opsTo g l k).nodes.length ∧ (opsTo g l k).roots.length = g.roots.length ∧ (opsTo g l k).most = g.most := by
  induction k with
  | zero => exact ⟨Nat.le_refl _, Nat.le_refl _, rfl, rfl⟩
  | succ k ih =>
    have h := play_near (opsTo g l k) (atO l k)
    obtain ⟨h1, h2, h3, h4⟩ := h
    obtain ⟨i1, i2, i3, i4⟩ := ih
    simp only [opsTo]
    exact ⟨by omega, by omega, by omega, by omega⟩
theorem opsTo_ok {g : Gr} (h : Ok g) (l : List Op5) (k : Nat) : Ok (opsTo g l k) := by
  induction k with
  | zero => exact h
  | succ k ih => exact ok_play ih _
end Go.Proofs.Ytjnkcomedcbenaa
