/- Accesses that come in: one by value, and a slice of them; opened. -/
import Derived.ProofKit
import Derived.OpenShut
import Derived.ChangeOld
import Derived.Deep.SlicePairs
import Derived.Test.YtenjjlopofkkgaaDoes
namespace Go.Proofs.Ytenjjlopofkkgaa
open Go.ChangeShapes Go.WideShapes Go.RowKit

/-- Its kind fits. -/
def WfAc (x : Ac) : Prop := 0 ≤ x.d ∧ x.d ≤ 255
section
variable {H : Type} {enc : TypeId × Value → H} {w : World} {base : Nat} {spare : Nat → Bool} {held : Bool}

theorem act_cells {fuel : Nat} {cs : List Value} {y : DataW H × List MemPlace} (hn : cs.length = 4) (hf : DataW.trod enc Try.prog w base spare held fuel 29 cs = some y) :
    ∃ x : Ac, cs = [.int .u8 x.d, .int .i64 x.p, .int .u64 x.o, .int .u64 x.v] ∧ WfAc x := by
  obtain ⟨xs, m, _, _, _, hl, hel⟩ := DataW.trod_struct Try.underlying29 hf
  have g0 : DataW.trod enc Try.prog w base spare held m 5 (List.take (Try.prog.cellsOf 5) (List.drop 0 _)) = xs[0]? := hel 0 _ rfl
  have g1 : DataW.trod enc Try.prog w base spare held m 3 (List.take (Try.prog.cellsOf 3) (List.drop 1 _)) = xs[1]? := hel 1 _ rfl
  have g2 : DataW.trod enc Try.prog w base spare held m 27 (List.take (Try.prog.cellsOf 27) (List.drop 2 _)) = xs[2]? := hel 2 _ rfl
  have g3 : DataW.trod enc Try.prog w base spare held m 27 (List.take (Try.prog.cellsOf 27) (List.drop 3 _)) = xs[3]? := hel 3 _ rfl
  have hc5 : Try.prog.cellsOf 5 = 1 := by kernel_rfl
  have hc3 : Try.prog.cellsOf 3 = 1 := by kernel_rfl
  have hc27 : Try.prog.cellsOf 27 = 1 := by kernel_rfl
  have hx4 : xs.length = 4 := hl
  rw [hc5] at g0
  rw [hc3] at g1
  rw [hc27] at g2 g3
  match cs, hn with
  | [v0, v1, v2, v3], _ =>
    rw [List.getElem?_eq_getElem (by omega)] at g0 g1 g2 g3
    obtain ⟨d, hd, _, wd⟩ := DataW.trod_int Try.underlying5 g0
    obtain ⟨p, hp, _, _⟩ := DataW.trod_int Try.underlying3 g1
    obtain ⟨o, ho, _, _⟩ := DataW.trod_int Try.underlying27 g2
    obtain ⟨v, hv, _, _⟩ := DataW.trod_int Try.underlying27 g3
    simp at hd hp ho hv
    refine ⟨⟨d, p, o, v⟩, by rw [hd, hp, ho, hv], ?_⟩
    simp [Lit.wf] at wd
    exact ⟨wd.1, wd.2⟩
theorem open_act {r : Reach} {b0 : Nat} {v : Value} {d : DataW H} {p : List MemPlace} (hv : Value.okWide Try.prog w r b0 29 v) (h : DataW.Trod enc Try.prog w base spare held 29 v d p) : ∃ x : Ac, v = acV x ∧ WfAc x := by
  have ht := Try.underlying29
  obtain ⟨cs, rfl, hsz⟩ : ∃ cs, v = .agg cs ∧ cs.size = Try.prog.cellsOf 29 := by
    simp only [Value.okWide, ht] at hv
    obtain ⟨cs, h1, h2, _⟩ := hv
    exact ⟨cs, h1, h2⟩
  have hc29 : Try.prog.cellsOf 29 = 4 := by kernel_rfl
  obtain ⟨fuel, hf⟩ := h
  obtain ⟨x, hx, hw⟩ := act_cells (cs := cs.toList) (by simpa [hc29] using hsz) hf
  refine ⟨x, ?_, hw⟩
  show Value.agg cs = Value.agg _
  congr 1
  apply Array.ext'
  rw [hx]

/-- The i-th access. -/
def atA (l : List Ac) (i : Nat) : Ac := l.getD i ⟨0, 0, 0, 0⟩
/-- A slice of accesses that reads as these, nil let in. -/
def ReadsA (w : World) (A : Option Addr) (l : List Ac) : Prop :=
  0 < l.length → ∃ b off, A = some ⟨b, off, none⟩ ∧ b < w.heap.size ∧ ∀ j, j < l.length → w.cell? ⟨b, off + j * 4, none⟩ = some (.int .u8 (atA l j).d) ∧ w.cell? ⟨b, off + (j * 4 + 1), none⟩ = some (.int .i64 (atA l j).p) ∧ w.cell? ⟨b, off + (j * 4 + 2), none⟩ = some (.int .u64 (atA l j).o) ∧ w.cell? ⟨b, off + (j * 4 + 3), none⟩ = some (.int .u64 (atA l j).v)
def IsActs (w : World) (a : Option Addr) (len cap : Nat) (l : List Ac) : Prop := ReadsA w a l ∧ l.length = len ∧ len ≤ cap ∧ cap ≤ maxLen ∧ ∀ x ∈ l, WfAc x
end
section
variable {H : Type} {enc : TypeId × Value → H} {w : World} {held : Bool}
theorem open_acts {a : Option Addr} {len cap : Nat} {d : DataW H} {p : List MemPlace} (h : DataW.Trod enc Try.prog w 0 (fun _ => true) held 23 (.slice a len cap) d p) : ∃ l, IsActs w a len cap l := by
  obtain ⟨fuel, hf⟩ := h
  rcases Go.Deep.open_slice Try.underlying23 hf with ⟨hcs, _⟩ | ⟨x, l, c, m, n, D, Pl, hcs, _, hl, hm, hmm, _, hc⟩
  · simp [Value.cells] at hcs
    obtain ⟨rfl, rfl, rfl⟩ := hcs
    exact ⟨[], fun h => by simp at h, rfl, Nat.le_refl _, Nat.zero_le _, fun x hx => by simp at hx⟩
  · simp [Value.cells] at hcs
    obtain ⟨rfl, e1, e2⟩ := hcs
    simp at hmm
    rw [hmm] at hc
    clear hmm
    rw [← e1] at hl
    rw [← e2] at hl hm hc
    clear e1 e2
    have hc29 : Try.prog.cellsOf 29 = 4 := by kernel_rfl
    have key : ∀ i, i < cap → ∃ q : Ac, (w.cell? (x.add (i * 4)) = some (.int .u8 q.d) ∧ w.cell? ((x.add (i * 4)).add 1) = some (.int .i64 q.p) ∧ w.cell? ((x.add (i * 4)).add 2) = some (.int .u64 q.o) ∧ w.cell? ((x.add (i * 4)).add 3) = some (.int .u64 q.v)) ∧ WfAc q := fun i hi => by
      obtain ⟨cs', h1, h2⟩ := hc i hi
      rw [hc29] at h1
      obtain ⟨_, hlen, hcell⟩ := World.cells?_some h1
      obtain ⟨q, hq, hw⟩ := act_cells hlen h2
      subst hq
      have e0 := hcell 0 (by omega)
      have e1 := hcell 1 (by omega)
      have e2 := hcell 2 (by omega)
      have e3 := hcell 3 (by omega)
      refine ⟨q, ⟨?_, e1, e2, e3⟩, hw⟩
      have : (x.add (i * 4)).add 0 = x.add (i * 4) := by simp [Addr.add]
      rw [this] at e0
      exact e0
    refine ⟨(List.range len).map fun i => if h : i < cap then (key i h).choose else ⟨0, 0, 0, 0⟩, fun h0 => ?_, by simp, hl, hm, ?_⟩
    · have h0' : 0 < len := by simpa using h0
      obtain ⟨b, off, sp⟩ := x
      obtain ⟨q0, ⟨c0, _⟩, _⟩ := key 0 (by omega)
      have hs : sp = none := by
        cases sp with
        | none => rfl
        | some s =>
          exfalso
          simp only [Nat.zero_mul, Addr.add, if_true] at c0
          unfold World.cell? at c0
          simp only [Option.isSome_some, if_true] at c0
          split at c0 <;> simp at c0
      subst hs
      rw [add_off] at c0
      refine ⟨b, off, rfl, World.block_lt_of_cell? w _ c0, fun j hj => ?_⟩
      have hj' : j < len := by simpa using hj
      have hjc : j < cap := by omega
      have e : atA ((List.range len).map fun i => if h : i < cap then (key i h).choose else ⟨0, 0, 0, 0⟩) j = (key j hjc).choose := by
        simp [atA, List.getD, hj', hjc]
      rw [e]
      have hk := (key j hjc).choose_spec.1
      generalize (key j hjc).choose = q at hk ⊢
      rw [add_off, add_off, add_off, add_off] at hk
      exact hk
    · intro y hy
      obtain ⟨i, hi, rfl⟩ := List.mem_map.1 hy
      have hi' : i < cap := by have := List.mem_range.1 hi; omega
      rw [dif_pos hi']
      exact (key i hi').choose_spec.2
end
end Go.Proofs.Ytenjjlopofkkgaa
