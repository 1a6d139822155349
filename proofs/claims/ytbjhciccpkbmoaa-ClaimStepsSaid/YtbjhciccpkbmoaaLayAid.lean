/- A configuration that comes in by value, opened. -/
import Derived.Test.YtbjhciccpkbmoaaLayConf
import Derived.ProofKit
import Derived.OpenShut
import Derived.ChangeOld
namespace Go.Proofs.Ytbjhciccpkbmoaa.Lay
open Go.ChangeShapes Go.WideShapes Go.RowKit
set_option linter.constructorNameAsVariable false
set_option maxRecDepth 100000

section
variable {H : Type} {enc : TypeId × Value → H} {w : World} {base : Nat} {spare : Nat → Bool} {held : Bool}

theorem one_cell {fuel : Nat} {cs : List Value} {i : Nat} {y : DataW H × List MemPlace} (h : DataW.trod enc Try.prog w base spare held fuel 3 ((cs.drop i).take 1) = some y) : ∃ x : Int, cs[i]? = some (.int .i64 x) := by
  obtain ⟨x, h1, _, _⟩ := DataW.trod_int Try.underlying3 h
  have := congrArg (fun l => l[0]?) h1
  exact ⟨x, by simpa [List.getElem?_take, List.getElem?_drop] using this⟩
theorem open_cfg {r : Reach} {b0 : Nat} {v : Value} {d : DataW H} {p : List MemPlace} (hv : Value.okWide Try.prog w r b0 24 v) (h : DataW.Trod enc Try.prog w base spare held 24 v d p) : ∃ c : Cfg, v = cfgV c := by
  have ht := Try.underlying24
  obtain ⟨cs, rfl, hsz⟩ : ∃ cs, v = .agg cs ∧ cs.size = Try.prog.cellsOf 24 := by
    simp only [Value.okWide, ht] at hv
    obtain ⟨cs, h1, h2, _⟩ := hv
    exact ⟨cs, h1, h2⟩
  have hc24 : Try.prog.cellsOf 24 = 12 := by kernel_rfl
  have hc22 : Try.prog.cellsOf 22 = 5 := by kernel_rfl
  have hc3 : Try.prog.cellsOf 3 = 1 := by kernel_rfl
  obtain ⟨fuel, hf⟩ := h
  obtain ⟨xs, m, _, _, _, hl, hel⟩ := DataW.trod_struct ht hf
  have g0 : DataW.trod enc Try.prog w base spare held m 22 (List.take (Try.prog.cellsOf 22) (List.drop 0 _)) = xs[0]? := hel 0 _ rfl
  have g1 : DataW.trod enc Try.prog w base spare held m 3 (List.take (Try.prog.cellsOf 3) (List.drop 5 _)) = xs[1]? := hel 1 _ rfl
  have g2 : DataW.trod enc Try.prog w base spare held m 3 (List.take (Try.prog.cellsOf 3) (List.drop 6 _)) = xs[2]? := hel 2 _ rfl
  have g3 : DataW.trod enc Try.prog w base spare held m 3 (List.take (Try.prog.cellsOf 3) (List.drop 7 _)) = xs[3]? := hel 3 _ rfl
  have g4 : DataW.trod enc Try.prog w base spare held m 3 (List.take (Try.prog.cellsOf 3) (List.drop 8 _)) = xs[4]? := hel 4 _ rfl
  have g5 : DataW.trod enc Try.prog w base spare held m 3 (List.take (Try.prog.cellsOf 3) (List.drop 9 _)) = xs[5]? := hel 5 _ rfl
  have g6 : DataW.trod enc Try.prog w base spare held m 3 (List.take (Try.prog.cellsOf 3) (List.drop 10 _)) = xs[6]? := hel 6 _ rfl
  have g7 : DataW.trod enc Try.prog w base spare held m 3 (List.take (Try.prog.cellsOf 3) (List.drop 11 _)) = xs[7]? := hel 7 _ rfl
  have hx8 : xs.length = 8 := hl
  rw [hc22] at g0
  rw [hc3] at g1 g2 g3 g4 g5 g6 g7
  rw [List.getElem?_eq_getElem (by omega)] at g0 g1 g2 g3 g4 g5 g6 g7
  obtain ⟨xs0, m0, _, _, _, hl0, hel0⟩ := DataW.trod_array Try.underlying22 g0
  have key : ∀ i, i < 5 → ∃ x : Int, cs.toList[i]? = some (.int .i64 x) := fun i hi => by
    have e := hel0 i hi
    rw [hc3, List.getElem?_eq_getElem (by omega)] at e
    obtain ⟨x, hx⟩ := one_cell (by simpa using e)
    refine ⟨x, ?_⟩
    simpa [Value.cells, List.getElem?_take, hi] using hx
  obtain ⟨a, ha⟩ := key 0 (by omega)
  obtain ⟨b, hb⟩ := key 1 (by omega)
  obtain ⟨c, hc⟩ := key 2 (by omega)
  obtain ⟨d', hd⟩ := key 3 (by omega)
  obtain ⟨e, he⟩ := key 4 (by omega)
  obtain ⟨f1, h1⟩ := one_cell g1
  obtain ⟨f2, h2⟩ := one_cell g2
  obtain ⟨f3, h3⟩ := one_cell g3
  obtain ⟨f4, h4⟩ := one_cell g4
  obtain ⟨f5, h5⟩ := one_cell g5
  obtain ⟨f6, h6⟩ := one_cell g6
  obtain ⟨f7, h7⟩ := one_cell g7
  refine ⟨⟨a, b, c, d', e, f1, f2, f3, f4, f5, f6, f7⟩, ?_⟩
  show Value.agg cs = Value.agg _
  congr 1
  apply Array.ext'
  apply List.ext_getElem?
  intro i
  have hn : cs.toList.length = 12 := by simpa [hc24] using hsz
  match i with
  | 0 => exact ha
  | 1 => exact hb
  | 2 => exact hc
  | 3 => exact hd
  | 4 => exact he
  | 5 => exact h1
  | 6 => exact h2
  | 7 => exact h3
  | 8 => exact h4
  | 9 => exact h5
  | 10 => exact h6
  | 11 => exact h7
  | i + 12 => rw [List.getElem?_eq_none (by omega)]; rfl
end
end Go.Proofs.Ytbjhciccpkbmoaa.Lay
