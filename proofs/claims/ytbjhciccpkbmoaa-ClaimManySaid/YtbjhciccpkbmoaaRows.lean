/-
  No cell of these rows narrows 'for every input' (looked for: loops, veiled, ifaces, maps, wideKeys, modest, calm, conditions, laid).
  DERIVED. THE GIVEN ROWS OF THIS SEAT. 5 by the template 'for every input the law returns true; each argument reads behind the call as it read before'; 0 by the template 'total and deterministic' (their statements: YtbjhciccpkbmoaaTotals.lean).
  GIVEN WITH THE SEED: the statements are not yours to turn. If you find one false, say at which input.
  Laid BY PROGRAM, IN A SANDBOX (cutbox-rows.mjs): the forced cells as the released guide's own fill.sh prints them over the translation c6371fd0d113058c… (all of the seat's roots in one cut). By AI agents, Wed Nov 11 2026. No macro, syntax, notation, axiom, sorry.
-/
import Derived.Test.YtbjhciccpkbmoaaChecked
import GoSem.Claim
import GoSem.ClaimJoined
import GoSem.ClaimMapViews
import Derived.JoinedTies
import Derived.KernelRfl
namespace Go.Proofs.Ytbjhciccpkbmoaa
/- THE CELL 'sum', in the pinned program and in every row, IS THE sha256 OF THE DUMP (.gsa) THAT YtbjhciccpkbmoaaProg.lean LOADS. Nothing in Lean hashes anything: it is a label: what it is worth is what the hold of that sum in a sandbox is worth. -/
noncomputable def Try.pinned : Pinned := { name := "ytbjhciccpkbmoaa", sum := "c6371fd0d113058ce0ba38723ec12d305e050e09caeda8c3a447091fe45ba3e2", checked := Try.checked }
namespace Rows
def none {H : Type} : Left H := { results := [], args := [] }

/-- 'dustmanlaw12.ClaimSteps': WHATEVER THE INPUT: true; the input reads as it did. -/
def claimStepsSpec : ChangeSpec := { name := "claimSteps", fn := fun _ => fun
  | [d1, d2, d3, d4] => { results := [.lit (.bool true)], args := [d1, d2, d3, d4] }
  | _ => none }
def claimStepsRow : OpenClaim := { program := "ytbjhciccpkbmoaa", sum := "c6371fd0d113058ce0ba38723ec12d305e050e09caeda8c3a447091fe45ba3e2", func := "dustman/dustmanlaw12.ClaimSteps", spec := "claimSteps", unfollowed := true, recurses := true, apart := false }
def ClaimStepsSaid : Prop := claimStepsRow.holds Try.pinned (OpenSpec.ofChange claimStepsSpec)

/-- ITS FALSE NEIGHBOUR: 'it returns false'. Refute it at one input. -/
def claimStepsWrong : ChangeSpec := { name := "claimSteps", fn := fun _ => fun
  | [d1, d2, d3, d4] => { results := [.lit (.bool false)], args := [d1, d2, d3, d4] }
  | _ => none }
def ClaimStepsWrongFalsely : Prop := claimStepsRow.holds Try.pinned (OpenSpec.ofChange claimStepsWrong)

/-- 'dustmanlaw12.ClaimOnce': WHATEVER THE INPUT: true; the input reads as it did. -/
def claimOnceSpec : ChangeSpec := { name := "claimOnce", fn := fun _ => fun
  | [d1, d2, d3, d4] => { results := [.lit (.bool true)], args := [d1, d2, d3, d4] }
  | _ => none }
def claimOnceRow : OpenClaim := { program := "ytbjhciccpkbmoaa", sum := "c6371fd0d113058ce0ba38723ec12d305e050e09caeda8c3a447091fe45ba3e2", func := "dustman/dustmanlaw12.ClaimOnce", spec := "claimOnce", unfollowed := true, recurses := true, apart := false }
def ClaimOnceSaid : Prop := claimOnceRow.holds Try.pinned (OpenSpec.ofChange claimOnceSpec)

/-- ITS FALSE NEIGHBOUR: 'it returns false'. Refute it at one input. -/
def claimOnceWrong : ChangeSpec := { name := "claimOnce", fn := fun _ => fun
  | [d1, d2, d3, d4] => { results := [.lit (.bool false)], args := [d1, d2, d3, d4] }
  | _ => none }
def ClaimOnceWrongFalsely : Prop := claimOnceRow.holds Try.pinned (OpenSpec.ofChange claimOnceWrong)

/-- 'dustmanlaw12.ClaimLater': WHATEVER THE INPUT: true; the input reads as it did. -/
def claimLaterSpec : ChangeSpec := { name := "claimLater", fn := fun _ => fun
  | [d] => { results := [.lit (.bool true)], args := [d] }
  | _ => none }
def claimLaterRow : OpenClaim := { program := "ytbjhciccpkbmoaa", sum := "c6371fd0d113058ce0ba38723ec12d305e050e09caeda8c3a447091fe45ba3e2", func := "dustman/dustmanlaw12.ClaimLater", spec := "claimLater", unfollowed := true, recurses := true, apart := false }
def ClaimLaterSaid : Prop := claimLaterRow.holds Try.pinned (OpenSpec.ofChange claimLaterSpec)

/-- ITS FALSE NEIGHBOUR: 'it returns false'. Refute it at one input. -/
def claimLaterWrong : ChangeSpec := { name := "claimLater", fn := fun _ => fun
  | [d] => { results := [.lit (.bool false)], args := [d] }
  | _ => none }
def ClaimLaterWrongFalsely : Prop := claimLaterRow.holds Try.pinned (OpenSpec.ofChange claimLaterWrong)

/-- 'dustmanlaw12.ClaimMany': WHATEVER THE INPUT: true; the input reads as it did. -/
def claimManySpec : ChangeSpec := { name := "claimMany", fn := fun _ => fun
  | [d1, d2, d3, d4] => { results := [.lit (.bool true)], args := [d1, d2, d3, d4] }
  | _ => none }
def claimManyRow : OpenClaim := { program := "ytbjhciccpkbmoaa", sum := "c6371fd0d113058ce0ba38723ec12d305e050e09caeda8c3a447091fe45ba3e2", func := "dustman/dustmanlaw12.ClaimMany", spec := "claimMany", unfollowed := true, recurses := true, apart := false }
def ClaimManySaid : Prop := claimManyRow.holds Try.pinned (OpenSpec.ofChange claimManySpec)

/-- ITS FALSE NEIGHBOUR: 'it returns false'. Refute it at one input. -/
def claimManyWrong : ChangeSpec := { name := "claimMany", fn := fun _ => fun
  | [d1, d2, d3, d4] => { results := [.lit (.bool false)], args := [d1, d2, d3, d4] }
  | _ => none }
def ClaimManyWrongFalsely : Prop := claimManyRow.holds Try.pinned (OpenSpec.ofChange claimManyWrong)

/-- 'dustmanlaw12.ClaimFour': WHATEVER THE INPUT: true; the input reads as it did. -/
def claimFourSpec : ChangeSpec := { name := "claimFour", fn := fun _ => fun
  | [d1, d2, d3] => { results := [.lit (.bool true)], args := [d1, d2, d3] }
  | _ => none }
def claimFourRow : OpenClaim := { program := "ytbjhciccpkbmoaa", sum := "c6371fd0d113058ce0ba38723ec12d305e050e09caeda8c3a447091fe45ba3e2", func := "dustman/dustmanlaw12.ClaimFour", spec := "claimFour", unfollowed := true, recurses := true, apart := false }
def ClaimFourSaid : Prop := claimFourRow.holds Try.pinned (OpenSpec.ofChange claimFourSpec)

/-- ITS FALSE NEIGHBOUR: 'it returns false'. Refute it at one input. -/
def claimFourWrong : ChangeSpec := { name := "claimFour", fn := fun _ => fun
  | [d1, d2, d3] => { results := [.lit (.bool false)], args := [d1, d2, d3] }
  | _ => none }
def ClaimFourWrongFalsely : Prop := claimFourRow.holds Try.pinned (OpenSpec.ofChange claimFourWrong)

/- THE SECOND FORM. 'bulk': how many values and letters a reading holds, each counted each time it is reached (what is shared counts as often as it is met; a slice's spare places count too). A statement '..UptoSaid' is the law's where the arguments, and the package variables that the reading takes, are together of bulk at most 1048576: NARROWER than '..Said'. Prove '..Said' where nothing that the law and all that it calls make is longer than what came in: it says more and counts as full. Else prove '..UptoSaid'. A law counts once. -/
mutual
def uptoBulk {H : Type} : DataW H → Nat
  | .lit (.string bytes) => bytes.length + 1
  | .lit _ => 1
  | .nil => 1
  | .ptr d => uptoBulk d + 1
  | .slice elems spare => uptoBulkAll elems + uptoBulkAll spare + 1
  | .agg parts => uptoBulkAll parts + 1
  | .iface _ d => uptoBulk d + 1
  | .map entries => uptoBulkEntries entries + 1
  | .held _ => 1
def uptoBulkAll {H : Type} : List (DataW H) → Nat
  | [] => 0
  | d :: r => uptoBulk d + uptoBulkAll r
def uptoBulkEntries {H : Type} : List (Lit × DataW H) → Nat
  | [] => 0
  | x :: r => uptoBulkEntry x + uptoBulkEntries r
def uptoBulkEntry {H : Type} : Lit × DataW H → Nat
  | (.string bytes, d) => bytes.length + uptoBulk d + 1
  | (_, d) => uptoBulk d + 1
 end
def uptoSmall : (H : Type) → List (DataW H) → Bool := fun _ ds => decide (uptoBulkAll ds ≤ 1048576)
def OpenSpec.upto (s : _root_.Go.ChangeSpec) : _root_.Go.OpenSpec := { _root_.Go.OpenSpec.ofChange s with cond := some uptoSmall }

/-- 'dustmanlaw12.ClaimSteps', WHERE WHAT IT READS IS OF BULK AT MOST 1048576: true; the input reads as it did. -/
def claimStepsUptoRow : OpenClaim := { program := "ytbjhciccpkbmoaa", sum := "c6371fd0d113058ce0ba38723ec12d305e050e09caeda8c3a447091fe45ba3e2", func := "dustman/dustmanlaw12.ClaimSteps", spec := "claimSteps", unfollowed := true, recurses := true, apart := false, narrowed := true }
def ClaimStepsUptoSaid : Prop := claimStepsUptoRow.holds Try.pinned (OpenSpec.upto claimStepsSpec)

/-- 'dustmanlaw12.ClaimOnce', WHERE WHAT IT READS IS OF BULK AT MOST 1048576: true; the input reads as it did. -/
def claimOnceUptoRow : OpenClaim := { program := "ytbjhciccpkbmoaa", sum := "c6371fd0d113058ce0ba38723ec12d305e050e09caeda8c3a447091fe45ba3e2", func := "dustman/dustmanlaw12.ClaimOnce", spec := "claimOnce", unfollowed := true, recurses := true, apart := false, narrowed := true }
def ClaimOnceUptoSaid : Prop := claimOnceUptoRow.holds Try.pinned (OpenSpec.upto claimOnceSpec)

/-- 'dustmanlaw12.ClaimLater', WHERE WHAT IT READS IS OF BULK AT MOST 1048576: true; the input reads as it did. -/
def claimLaterUptoRow : OpenClaim := { program := "ytbjhciccpkbmoaa", sum := "c6371fd0d113058ce0ba38723ec12d305e050e09caeda8c3a447091fe45ba3e2", func := "dustman/dustmanlaw12.ClaimLater", spec := "claimLater", unfollowed := true, recurses := true, apart := false, narrowed := true }
def ClaimLaterUptoSaid : Prop := claimLaterUptoRow.holds Try.pinned (OpenSpec.upto claimLaterSpec)

/-- 'dustmanlaw12.ClaimMany', WHERE WHAT IT READS IS OF BULK AT MOST 1048576: true; the input reads as it did. -/
def claimManyUptoRow : OpenClaim := { program := "ytbjhciccpkbmoaa", sum := "c6371fd0d113058ce0ba38723ec12d305e050e09caeda8c3a447091fe45ba3e2", func := "dustman/dustmanlaw12.ClaimMany", spec := "claimMany", unfollowed := true, recurses := true, apart := false, narrowed := true }
def ClaimManyUptoSaid : Prop := claimManyUptoRow.holds Try.pinned (OpenSpec.upto claimManySpec)

/-- 'dustmanlaw12.ClaimFour', WHERE WHAT IT READS IS OF BULK AT MOST 1048576: true; the input reads as it did. -/
def claimFourUptoRow : OpenClaim := { program := "ytbjhciccpkbmoaa", sum := "c6371fd0d113058ce0ba38723ec12d305e050e09caeda8c3a447091fe45ba3e2", func := "dustman/dustmanlaw12.ClaimFour", spec := "claimFour", unfollowed := true, recurses := true, apart := false, narrowed := true }
def ClaimFourUptoSaid : Prop := claimFourUptoRow.holds Try.pinned (OpenSpec.upto claimFourSpec)

end Rows
end Go.Proofs.Ytbjhciccpkbmoaa
