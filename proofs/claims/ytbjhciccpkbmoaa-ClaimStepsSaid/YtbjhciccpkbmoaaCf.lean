/- A configuration that comes in, under the names that a frame wants. -/
import Derived.Test.YtbjhciccpkbmoaaLayAid
import Derived.Test.YtbjhciccpkbmoaaAid
namespace Go.Proofs.Ytbjhciccpkbmoaa
open Go.ChangeShapes Go.WideShapes Go.RowKit
set_option linter.constructorNameAsVariable false
set_option maxRecDepth 100000
abbrev Cfg := Lay.Cfg
abbrev cfgV (c : Cfg) : Value := Lay.cfgV c
theorem open_cfg {H : Type} {enc : TypeId × Value → H} {w : World} {base : Nat} {spare : Nat → Bool} {held : Bool} {r : Reach} {b0 : Nat} {v : Value} {d : DataW H} {p : List MemPlace} (hv : Value.okWide Try.prog w r b0 24 v) (h : DataW.Trod enc Try.prog w base spare held 24 v d p) : ∃ c : Cfg, v = cfgV c := Lay.open_cfg hv h
end Go.Proofs.Ytbjhciccpkbmoaa
