/- Arguments opened: arrays of integers, rows of integers. A configuration that comes in by value, opened. A configuration that comes in, under the names that a frame wants. -/
import Derived.Test.YtbpkcoemehmpbaaGreatJ1
import Derived.WalkKit
import Derived.ProofKit
import Derived.OpenShut
import Derived.ChangeSlices
import Derived.ChangeOld
import Derived.Below
import Derived.Test.YtbpkcoemehmpbaaGreatJ6
namespace Go.Proofs.YtbpkcoemehmpbaaGreat
open Go.ChangeShapes Go.WideShapes Go.RowKit

section
variable {H : Type} {enc : TypeId × Value → H} {P : Program} {w : World} {base : Nat} {spare : Nat → Bool} {held : Bool}

theorem open_arr {r : Reach} {b0 n : Nat} {t e : TypeId} {k : IntKind} {v : Value} {d : DataW H} {p : List MemPlace} (ht : P.underlying t = some (.array n e)) (he : P.underlying e = some (.int k)) (hce : P.cellsOf e = 1) (hC : P.cellsOf t = n)
    (hv : Value.okWide P w r b0 t v) (h : DataW.Trod enc P w base spare held t v d p) :
    ∃ l : List Int, l.length = n ∧ v = .agg (l.map (Value.int k)).toArray ∧ ∀ x ∈ l, (Lit.int k x).wf = true := by
  obtain ⟨cs, rfl, hsz⟩ : ∃ cs, v = .agg cs ∧ cs.size = P.cellsOf t := by
    simp only [Value.okWide, ht] at hv
    obtain ⟨cs, h1, h2, _⟩ := hv
    exact ⟨cs, h1, h2⟩
  obtain ⟨fuel, hf⟩ := h
  obtain ⟨xs, m, _, _, _, hl, hel⟩ := DataW.trod_array ht hf
  have key : ∀ i, i < n → ∃ x : Int, cs[i]? = some (.int k x) ∧ (Lit.int k x).wf = true := by
    intro i hi
    have h1 := hel i hi
    rw [hce, List.getElem?_eq_getElem (by omega)] at h1
    obtain ⟨x, h2, _, h3⟩ := DataW.trod_int he h1
    refine ⟨x, ?_, h3⟩
    simp only [Value.cells, Nat.mul_one] at h2
    have h4 := congrArg (fun l => l[0]?) h2
    simpa [List.getElem?_take, List.getElem?_drop] using h4
  have hn : cs.size = n := hsz.trans hC
  refine ⟨cs.toList.map fun v => match v with | .int _ x => x | _ => 0, by simpa using hn, ?_, ?_⟩
  · congr 1
    apply Array.ext'
    simp only [List.map_map]
    apply List.ext_getElem?
    intro i
    by_cases hi : i < n
    · obtain ⟨x, hx, _⟩ := key i hi
      simp only [List.getElem?_map, Array.getElem?_toList, hx, Option.map_some, Function.comp]
    · simp [List.getElem?_map, Array.getElem?_toList, Array.getElem?_eq_none (by omega : cs.size ≤ i)]
  · intro x hx
    obtain ⟨v, hv, rfl⟩ := List.mem_map.1 hx
    obtain ⟨i, hi, hvi⟩ := List.getElem_of_mem hv
    obtain ⟨y, hy, hw⟩ := key i (by simpa [hn] using hi)
    have : v = .int k y := by
      have h5 : cs.toList[i]? = some v := by rw [List.getElem?_eq_getElem hi, hvi]
      rw [Array.getElem?_toList, hy] at h5
      exact (Option.some.inj h5).symm
    subst this
    exact hw

/-- A slice of integers that came in: nil; or a row of 'cap' cells. -/
def IsRow (k : IntKind) (w : World) (a : Option Addr) (len cap : Nat) (zs : List Int) : Prop :=
  (a = none ∧ len = 0 ∧ cap = 0 ∧ zs = []) ∨
  ∃ x, a = some x ∧ len ≤ cap ∧ cap ≤ maxLen ∧ zs.length = cap ∧ (∀ i, i < zs.length → w.cell? (x.add i) = some (.int k (zs.getD i 0))) ∧ ∀ n ∈ zs, (Lit.int k n).wf = true

theorem open_row {t e : TypeId} {k : IntKind} {a : Option Addr} {len cap : Nat} {d : DataW H} {p : List MemPlace} (ht : P.underlying t = some (.slice e)) (he : P.underlying e = some (.int k)) (hce : P.cellsOf e = 1)
    (h : DataW.Trod enc P w 0 (fun _ => true) held t (.slice a len cap) d p) : ∃ zs, IsRow k w a len cap zs := by
  obtain ⟨fuel, hf⟩ := h
  rcases open_ints ht he hce hf with ⟨hcs, _⟩ | ⟨x, l, c, zs, hcs, _, hl, hm, hz, _, hcell, hwz⟩
  · simp [Value.cells] at hcs
    obtain ⟨rfl, rfl, rfl⟩ := hcs
    exact ⟨[], .inl ⟨rfl, rfl, rfl, rfl⟩⟩
  · simp [Value.cells] at hcs
    obtain ⟨rfl, rfl, rfl⟩ := hcs
    exact ⟨zs, .inr ⟨_, rfl, hl, hm, by simpa using hz, hcell, hwz⟩⟩
end
/-- What a slice of integers that came in reads as. -/
theorem reads_row {k : IntKind} {w : World} {a : Option Addr} {len cap : Nat} {z : List Int} (h : IsRow k w a len cap z) :
    Reads k w a (z.take len) ∧ (z.take len).length = len ∧ len ≤ cap ∧ cap ≤ maxLen ∧ (a = none → cap = 0) ∧ ∀ x ∈ z.take len, (Lit.int k x).wf = true := by
  rcases h with ⟨rfl, rfl, rfl, rfl⟩ | ⟨x, rfl, h1, h2, h3, h4, h5⟩
  · exact ⟨fun h => by simp at h, rfl, Nat.le_refl _, Nat.zero_le _, fun _ => rfl, by simp⟩
  · have hl : (z.take len).length = len := by simp; omega
    refine ⟨fun h0 => ?_, hl, h1, h2, (fun e => by cases e), fun y hy => h5 y (List.mem_of_mem_take hy)⟩
    have c0 := h4 0 (by omega)
    obtain ⟨b, off, sp⟩ := x
    have hs : sp = none := by
      cases sp with
      | none => rfl
      | some s =>
        exfalso
        simp only [Addr.add, if_true] at c0
        unfold World.cell? at c0
        simp only [Option.isSome_some, if_true] at c0
        split at c0 <;> simp at c0
    subst hs
    refine ⟨b, off, rfl, ?_, fun j hj => ?_⟩
    · rw [add_off] at c0
      exact World.block_lt_of_cell? w _ c0
    · have c := h4 j (by omega)
      rw [add_off] at c
      rw [c]
      have hj2 : j < len := by omega
      simp [List.getD, hj2]

end Go.Proofs.YtbpkcoemehmpbaaGreat

namespace Go.Proofs.YtbpkcoemehmpbaaGreat.Lay
open Go.ChangeShapes Go.WideShapes Go.RowKit
set_option linter.constructorNameAsVariable false
set_option maxRecDepth 100000

section
variable {H : Type} {enc : TypeId × Value → H} {w : World} {base : Nat} {spare : Nat → Bool} {held : Bool}

theorem one_cell {fuel : Nat} {cs : List Value} {i : Nat} {y : DataW H × List MemPlace} (h : DataW.trod enc Tryz.prog w base spare held fuel 3 ((cs.drop i).take 1) = some y) : ∃ x : Int, cs[i]? = some (.int .i64 x) := by
  obtain ⟨x, h1, _, _⟩ := DataW.trod_int Tryz.underlying3 h
  have := congrArg (fun l => l[0]?) h1
  exact ⟨x, by simpa [List.getElem?_take, List.getElem?_drop] using this⟩
theorem open_cfg {r : Reach} {b0 : Nat} {v : Value} {d : DataW H} {p : List MemPlace} (hv : Value.okWide Tryz.prog w r b0 24 v) (h : DataW.Trod enc Tryz.prog w base spare held 24 v d p) : ∃ c : Cfg, v = cfgV c := by
  have ht := Tryz.underlying24
  obtain ⟨cs, rfl, hsz⟩ : ∃ cs, v = .agg cs ∧ cs.size = Tryz.prog.cellsOf 24 := by
    simp only [Value.okWide, ht] at hv
    obtain ⟨cs, h1, h2, _⟩ := hv
    exact ⟨cs, h1, h2⟩
  have hc24 : Tryz.prog.cellsOf 24 = 12 := by kernel_rfl
  have hc22 : Tryz.prog.cellsOf 22 = 5 := by kernel_rfl
  have hc3 : Tryz.prog.cellsOf 3 = 1 := by kernel_rfl
  obtain ⟨fuel, hf⟩ := h
  obtain ⟨xs, m, _, _, _, hl, hel⟩ := DataW.trod_struct ht hf
  have g0 : DataW.trod enc Tryz.prog w base spare held m 22 (List.take (Tryz.prog.cellsOf 22) (List.drop 0 _)) = xs[0]? := hel 0 _ rfl
  have g1 : DataW.trod enc Tryz.prog w base spare held m 3 (List.take (Tryz.prog.cellsOf 3) (List.drop 5 _)) = xs[1]? := hel 1 _ rfl
  have g2 : DataW.trod enc Tryz.prog w base spare held m 3 (List.take (Tryz.prog.cellsOf 3) (List.drop 6 _)) = xs[2]? := hel 2 _ rfl
  have g3 : DataW.trod enc Tryz.prog w base spare held m 3 (List.take (Tryz.prog.cellsOf 3) (List.drop 7 _)) = xs[3]? := hel 3 _ rfl
  have g4 : DataW.trod enc Tryz.prog w base spare held m 3 (List.take (Tryz.prog.cellsOf 3) (List.drop 8 _)) = xs[4]? := hel 4 _ rfl
  have g5 : DataW.trod enc Tryz.prog w base spare held m 3 (List.take (Tryz.prog.cellsOf 3) (List.drop 9 _)) = xs[5]? := hel 5 _ rfl
  have g6 : DataW.trod enc Tryz.prog w base spare held m 3 (List.take (Tryz.prog.cellsOf 3) (List.drop 10 _)) = xs[6]? := hel 6 _ rfl
  have g7 : DataW.trod enc Tryz.prog w base spare held m 3 (List.take (Tryz.prog.cellsOf 3) (List.drop 11 _)) = xs[7]? := hel 7 _ rfl
  have hx8 : xs.length = 8 := hl
  rw [hc22] at g0
  rw [hc3] at g1 g2 g3 g4 g5 g6 g7
  rw [List.getElem?_eq_getElem (by omega)] at g0 g1 g2 g3 g4 g5 g6 g7
  obtain ⟨xs0, m0, _, _, _, hl0, hel0⟩ := DataW.trod_array Tryz.underlying22 g0
  have key : ∀ i, i < 5 → ∃ x : Int, cs.toList[i]? = some (.int .i64 x) := fun i hi => by
    have e := hel0 i hi
    rw [hc3, List.getElem?_eq_getElem (by omega)] at e
    obtain ⟨x, hx⟩ := one_cell (by simpa using e)
    refine ⟨x, ?_⟩
    simpa [Value.cells, List.getElem?_take, hi] using hx
  obtain ⟨a, ha⟩ := key 0 (by omega)
  obtain ⟨b, hb⟩ := key 1 (by omega)
  obtain ⟨c, hc⟩ := key 2 (by omega)
  obtain ⟨d', hd⟩ := key 3 (by omega)
  obtain ⟨e, he⟩ := key 4 (by omega)
  obtain ⟨f1, h1⟩ := one_cell g1
  obtain ⟨f2, h2⟩ := one_cell g2
  obtain ⟨f3, h3⟩ := one_cell g3
  obtain ⟨f4, h4⟩ := one_cell g4
  obtain ⟨f5, h5⟩ := one_cell g5
  obtain ⟨f6, h6⟩ := one_cell g6
  obtain ⟨f7, h7⟩ := one_cell g7
  refine ⟨⟨a, b, c, d', e, f1, f2, f3, f4, f5, f6, f7⟩, ?_⟩
  show Value.agg cs = Value.agg _
  congr 1
  apply Array.ext'
  apply List.ext_getElem?
  intro i
  have hn : cs.toList.length = 12 := by simpa [hc24] using hsz
  match i with
  | 0 => exact ha
  | 1 => exact hb
  | 2 => exact hc
  | 3 => exact hd
  | 4 => exact he
  | 5 => exact h1
  | 6 => exact h2
  | 7 => exact h3
  | 8 => exact h4
  | 9 => exact h5
  | 10 => exact h6
  | 11 => exact h7
  | i + 12 => rw [List.getElem?_eq_none (by omega)]; rfl
end
end Go.Proofs.YtbpkcoemehmpbaaGreat.Lay

namespace Go.Proofs.YtbpkcoemehmpbaaGreat
open Go.ChangeShapes Go.WideShapes Go.RowKit
set_option linter.constructorNameAsVariable false
set_option maxRecDepth 100000
abbrev Cfg := Lay.Cfg
abbrev cfgV (c : Cfg) : Value := Lay.cfgV c
theorem open_cfg {H : Type} {enc : TypeId × Value → H} {w : World} {base : Nat} {spare : Nat → Bool} {held : Bool} {r : Reach} {b0 : Nat} {v : Value} {d : DataW H} {p : List MemPlace} (hv : Value.okWide Tryz.prog w r b0 24 v) (h : DataW.Trod enc Tryz.prog w base spare held 24 v d p) : ∃ c : Cfg, v = cfgV c := Lay.open_cfg hv h
end Go.Proofs.YtbpkcoemehmpbaaGreat
