/- Words that others change, as they came in. -/
import Derived.Test.YtbjhciccpkbmoaaAid
import Derived.Deep.SlicePairs
import Derived.ProofKit
import Derived.OpenShut
import Derived.ChangeOld
namespace Go.Proofs.Ytbjhciccpkbmoaa
open Go.ChangeShapes Go.WideShapes Go.RowKit
set_option linter.unusedVariables false
set_option maxRecDepth 100000

/-- A word that another one changes. -/
structure Pok where
  p : Int
  v : Int
def WfPok (x : Pok) : Prop := 0 ≤ x.v ∧ x.v ≤ 18446744073709551615
section
variable {H : Type} {enc : TypeId × Value → H} {w : World} {base : Nat} {spare : Nat → Bool} {held : Bool}
theorem pok_cells {fuel : Nat} {cs : List Value} {y : DataW H × List MemPlace} (hn : cs.length = 2) (hf : DataW.trod enc Try.prog w base spare held fuel 49 cs = some y) :
    ∃ x : Pok, cs = [.int .i64 x.p, .int .u64 x.v] ∧ WfPok x := by
  obtain ⟨xs, m, _, _, _, hl, hel⟩ := DataW.trod_struct Try.underlying49 hf
  have g0 : DataW.trod enc Try.prog w base spare held m 3 (List.take (Try.prog.cellsOf 3) (List.drop 0 _)) = xs[0]? := hel 0 _ rfl
  have g1 : DataW.trod enc Try.prog w base spare held m 25 (List.take (Try.prog.cellsOf 25) (List.drop 1 _)) = xs[1]? := hel 1 _ rfl
  have hc3 : Try.prog.cellsOf 3 = 1 := by kernel_rfl
  have hc34 : Try.prog.cellsOf 25 = 1 := by kernel_rfl
  have hx2 : xs.length = 2 := hl
  rw [hc3] at g0
  rw [hc34] at g1
  match cs, hn with
  | [v0, v1], _ =>
    rw [List.getElem?_eq_getElem (by omega)] at g0 g1
    obtain ⟨p, hp, _, _⟩ := DataW.trod_int Try.underlying3 g0
    obtain ⟨v, hv, _, wv⟩ := DataW.trod_int Try.underlying25 g1
    simp at hp hv
    refine ⟨⟨p, v⟩, by rw [hp, hv], ?_⟩
    simp [Lit.wf, IntKind.min, IntKind.max, IntKind.bits, IntKind.signed] at wv
    show 0 ≤ v ∧ v ≤ 18446744073709551615
    omega
/-- The i-th one. -/
def atP (l : List Pok) (i : Nat) : Pok := l.getD i ⟨0, 0⟩
def ReadsP (w : World) (A : Option Addr) (l : List Pok) : Prop :=
  0 < l.length → ∃ b off, A = some ⟨b, off, none⟩ ∧ b < w.heap.size ∧ ∀ j, j < l.length → w.cell? ⟨b, off + j * 2, none⟩ = some (.int .i64 (atP l j).p) ∧ w.cell? ⟨b, off + (j * 2 + 1), none⟩ = some (.int .u64 (atP l j).v)
def IsPoks (w : World) (a : Option Addr) (len cap : Nat) (l : List Pok) : Prop := ReadsP w a l ∧ l.length = len ∧ len ≤ cap ∧ cap ≤ maxLen ∧ ∀ x ∈ l, WfPok x
end
section
variable {H : Type} {enc : TypeId × Value → H} {w : World} {held : Bool}
theorem open_poks {a : Option Addr} {len cap : Nat} {d : DataW H} {p : List MemPlace} (h : DataW.Trod enc Try.prog w 0 (fun _ => true) held 26 (.slice a len cap) d p) : ∃ l, IsPoks w a len cap l := by
  obtain ⟨fuel, hf⟩ := h
  rcases Go.Deep.open_slice Try.underlying26 hf with ⟨hcs, _⟩ | ⟨x, l, c, m, n, D, Pl, hcs, _, hl, hm, hmm, _, hc⟩
  · simp [Value.cells] at hcs
    obtain ⟨rfl, rfl, rfl⟩ := hcs
    exact ⟨[], fun h => by simp at h, rfl, Nat.le_refl _, Nat.zero_le _, fun x hx => by simp at hx⟩
  · simp [Value.cells] at hcs
    obtain ⟨rfl, e1, e2⟩ := hcs
    simp at hmm
    rw [hmm] at hc
    clear hmm
    rw [← e1] at hl
    rw [← e2] at hl hm hc
    clear e1 e2
    have hc51 : Try.prog.cellsOf 49 = 2 := by kernel_rfl
    have key : ∀ i, i < cap → ∃ q : Pok, (w.cell? (x.add (i * 2)) = some (.int .i64 q.p) ∧ w.cell? ((x.add (i * 2)).add 1) = some (.int .u64 q.v)) ∧ WfPok q := fun i hi => by
      obtain ⟨cs', h1, h2⟩ := hc i hi
      rw [hc51] at h1
      obtain ⟨_, hlen, hcell⟩ := World.cells?_some h1
      obtain ⟨q, hq, hw⟩ := pok_cells hlen h2
      subst hq
      have e0 := hcell 0 (by omega)
      have e1 := hcell 1 (by omega)
      refine ⟨q, ⟨?_, e1⟩, hw⟩
      have : (x.add (i * 2)).add 0 = x.add (i * 2) := by simp [Addr.add]
      rw [this] at e0
      exact e0
    refine ⟨(List.range len).map fun i => if h : i < cap then (key i h).choose else ⟨0, 0⟩, fun h0 => ?_, by simp, hl, hm, ?_⟩
    · have h0' : 0 < len := by simpa using h0
      obtain ⟨b, off, sp⟩ := x
      obtain ⟨q0, ⟨c0, _⟩, _⟩ := key 0 (by omega)
      have hs : sp = none := by
        cases sp with
        | none => rfl
        | some s =>
          exfalso
          simp only [Nat.zero_mul, Addr.add, if_true] at c0
          unfold World.cell? at c0
          simp only [Option.isSome_some, if_true] at c0
          split at c0 <;> simp at c0
      subst hs
      rw [add_off] at c0
      refine ⟨b, off, rfl, World.block_lt_of_cell? w _ c0, fun j hj => ?_⟩
      have hj' : j < len := by simpa using hj
      have hjc : j < cap := by omega
      have e : atP ((List.range len).map fun i => if h : i < cap then (key i h).choose else ⟨0, 0⟩) j = (key j hjc).choose := by
        simp [atP, List.getD, hj', hjc]
      rw [e]
      have hk := (key j hjc).choose_spec.1
      generalize (key j hjc).choose = q at hk ⊢
      rw [add_off, add_off] at hk
      exact hk
    · intro y hy
      obtain ⟨i, hi, rfl⟩ := List.mem_map.1 hy
      have hi' : i < cap := by have := List.mem_range.1 hi; omega
      rw [dif_pos hi']
      exact (key i hi').choose_spec.2
end
end Go.Proofs.Ytbjhciccpkbmoaa
