/-
  No cell of these rows narrows 'for every input' (looked for: loops, veiled, ifaces, maps, wideKeys, modest, calm, conditions, laid).
  DERIVED. THE GIVEN ROWS OF THIS SEAT. 5 by the template 'for every input the law returns true; each argument reads behind the call as it read before'; 0 by the template 'total and deterministic' (their statements: YtponbnbgiiepdaaGreatTotals.lean).
  GIVEN WITH THE SEED: the statements are not yours to turn. If you find one false, say at which input.
  Laid BY PROGRAM, IN A SANDBOX (cutbox-rows.mjs): the forced cells as the released guide's own fill.sh prints them over the translation 5bee4e62d15e56a5… (all of the seat's roots in one cut). By AI agents, Wed Nov 11 2026. No macro, syntax, notation, axiom, sorry.
-/
import Derived.Test.YtponbnbgiiepdaaGreatChecked
import GoSem.Claim
import GoSem.ClaimJoined
import GoSem.ClaimMapViews
import Derived.JoinedTies
import Derived.KernelRfl
namespace Go.Proofs.YtponbnbgiiepdaaGreat
/- THE CELL 'sum', in the pinned program and in every row, IS THE sha256 OF THE DUMP (.gsa) THAT YtponbnbgiiepdaaGreatProg.lean LOADS. Nothing in Lean hashes anything: it is a label: what it is worth is what the hold of that sum in a sandbox is worth. -/
noncomputable def Tryz.pinned : Pinned := { name := "ytponbnbgiiepdaagreat", sum := "5bee4e62d15e56a592ef359aeebe9988bf6daf780850ecc5fbeb0404cef494d1", checked := Tryz.checked }
namespace Rows
def none {H : Type} : Left H := { results := [], args := [] }

/-- 'dustmanlaw13.AddSteps': WHATEVER THE INPUT: true; the input reads as it did. -/
def addStepsSpec : ChangeSpec := { name := "addSteps", fn := fun _ => fun
  | [d1, d2, d3, d4, d5] => { results := [.lit (.bool true)], args := [d1, d2, d3, d4, d5] }
  | _ => none }
def addStepsRow : OpenClaim := { program := "ytponbnbgiiepdaagreat", sum := "5bee4e62d15e56a592ef359aeebe9988bf6daf780850ecc5fbeb0404cef494d1", func := "dustman/dustmanlaw13.AddSteps", spec := "addSteps", unfollowed := true, recurses := true, apart := false }
def AddStepsSaid : Prop := addStepsRow.holds Tryz.pinned (OpenSpec.ofChange addStepsSpec)

/-- ITS FALSE NEIGHBOUR: 'it returns false'. Refute it at one input. -/
def addStepsWrong : ChangeSpec := { name := "addSteps", fn := fun _ => fun
  | [d1, d2, d3, d4, d5] => { results := [.lit (.bool false)], args := [d1, d2, d3, d4, d5] }
  | _ => none }
def AddStepsWrongFalsely : Prop := addStepsRow.holds Tryz.pinned (OpenSpec.ofChange addStepsWrong)

/-- 'dustmanlaw13.AddAlone': WHATEVER THE INPUT: true; the input reads as it did. -/
def addAloneSpec : ChangeSpec := { name := "addAlone", fn := fun _ => fun
  | [d1, d2, d3] => { results := [.lit (.bool true)], args := [d1, d2, d3] }
  | _ => none }
def addAloneRow : OpenClaim := { program := "ytponbnbgiiepdaagreat", sum := "5bee4e62d15e56a592ef359aeebe9988bf6daf780850ecc5fbeb0404cef494d1", func := "dustman/dustmanlaw13.AddAlone", spec := "addAlone", unfollowed := true, recurses := true, apart := false }
def AddAloneSaid : Prop := addAloneRow.holds Tryz.pinned (OpenSpec.ofChange addAloneSpec)

/-- ITS FALSE NEIGHBOUR: 'it returns false'. Refute it at one input. -/
def addAloneWrong : ChangeSpec := { name := "addAlone", fn := fun _ => fun
  | [d1, d2, d3] => { results := [.lit (.bool false)], args := [d1, d2, d3] }
  | _ => none }
def AddAloneWrongFalsely : Prop := addAloneRow.holds Tryz.pinned (OpenSpec.ofChange addAloneWrong)

/-- 'dustmanlaw13.AddNone': WHATEVER THE INPUT: true; the input reads as it did. -/
def addNoneSpec : ChangeSpec := { name := "addNone", fn := fun _ => fun
  | [d1, d2, d3] => { results := [.lit (.bool true)], args := [d1, d2, d3] }
  | _ => none }
def addNoneRow : OpenClaim := { program := "ytponbnbgiiepdaagreat", sum := "5bee4e62d15e56a592ef359aeebe9988bf6daf780850ecc5fbeb0404cef494d1", func := "dustman/dustmanlaw13.AddNone", spec := "addNone", unfollowed := true, recurses := true, apart := false }
def AddNoneSaid : Prop := addNoneRow.holds Tryz.pinned (OpenSpec.ofChange addNoneSpec)

/-- ITS FALSE NEIGHBOUR: 'it returns false'. Refute it at one input. -/
def addNoneWrong : ChangeSpec := { name := "addNone", fn := fun _ => fun
  | [d1, d2, d3] => { results := [.lit (.bool false)], args := [d1, d2, d3] }
  | _ => none }
def AddNoneWrongFalsely : Prop := addNoneRow.holds Tryz.pinned (OpenSpec.ofChange addNoneWrong)

/-- 'dustmanlaw13.AddOnce': WHATEVER THE INPUT: true; the input reads as it did. -/
def addOnceSpec : ChangeSpec := { name := "addOnce", fn := fun _ => fun
  | [d1, d2, d3] => { results := [.lit (.bool true)], args := [d1, d2, d3] }
  | _ => none }
def addOnceRow : OpenClaim := { program := "ytponbnbgiiepdaagreat", sum := "5bee4e62d15e56a592ef359aeebe9988bf6daf780850ecc5fbeb0404cef494d1", func := "dustman/dustmanlaw13.AddOnce", spec := "addOnce", unfollowed := true, recurses := true, apart := false }
def AddOnceSaid : Prop := addOnceRow.holds Tryz.pinned (OpenSpec.ofChange addOnceSpec)

/-- ITS FALSE NEIGHBOUR: 'it returns false'. Refute it at one input. -/
def addOnceWrong : ChangeSpec := { name := "addOnce", fn := fun _ => fun
  | [d1, d2, d3] => { results := [.lit (.bool false)], args := [d1, d2, d3] }
  | _ => none }
def AddOnceWrongFalsely : Prop := addOnceRow.holds Tryz.pinned (OpenSpec.ofChange addOnceWrong)

/-- 'dustmanlaw13.AddTen': WHATEVER THE INPUT: true; the input reads as it did. -/
def addTenSpec : ChangeSpec := { name := "addTen", fn := fun _ => fun
  | [d1, d2, d3, d4] => { results := [.lit (.bool true)], args := [d1, d2, d3, d4] }
  | _ => none }
def addTenRow : OpenClaim := { program := "ytponbnbgiiepdaagreat", sum := "5bee4e62d15e56a592ef359aeebe9988bf6daf780850ecc5fbeb0404cef494d1", func := "dustman/dustmanlaw13.AddTen", spec := "addTen", unfollowed := true, recurses := true, apart := false }
def AddTenSaid : Prop := addTenRow.holds Tryz.pinned (OpenSpec.ofChange addTenSpec)

/-- ITS FALSE NEIGHBOUR: 'it returns false'. Refute it at one input. -/
def addTenWrong : ChangeSpec := { name := "addTen", fn := fun _ => fun
  | [d1, d2, d3, d4] => { results := [.lit (.bool false)], args := [d1, d2, d3, d4] }
  | _ => none }
def AddTenWrongFalsely : Prop := addTenRow.holds Tryz.pinned (OpenSpec.ofChange addTenWrong)

/- THE SECOND FORM. 'bulk': how many values and letters a reading holds, each counted each time it is reached (what is shared counts as often as it is met; a slice's spare places count too). A statement '..UptoSaid' is the law's where the arguments, and the package variables that the reading takes, are together of bulk at most 1048576: NARROWER than '..Said'. Prove '..Said' where nothing that the law and all that it calls make is longer than what came in: it says more and counts as full. Else prove '..UptoSaid'. A law counts once. -/
mutual
def uptoBulk {H : Type} : DataW H → Nat
  | .lit (.string bytes) => bytes.length + 1
  | .lit _ => 1
  | .nil => 1
  | .ptr d => uptoBulk d + 1
  | .slice elems spare => uptoBulkAll elems + uptoBulkAll spare + 1
  | .agg parts => uptoBulkAll parts + 1
  | .iface _ d => uptoBulk d + 1
  | .map entries => uptoBulkEntries entries + 1
  | .held _ => 1
def uptoBulkAll {H : Type} : List (DataW H) → Nat
  | [] => 0
  | d :: r => uptoBulk d + uptoBulkAll r
def uptoBulkEntries {H : Type} : List (Lit × DataW H) → Nat
  | [] => 0
  | x :: r => uptoBulkEntry x + uptoBulkEntries r
def uptoBulkEntry {H : Type} : Lit × DataW H → Nat
  | (.string bytes, d) => bytes.length + uptoBulk d + 1
  | (_, d) => uptoBulk d + 1
 end
def uptoSmall : (H : Type) → List (DataW H) → Bool := fun _ ds => decide (uptoBulkAll ds ≤ 1048576)
def OpenSpec.upto (s : _root_.Go.ChangeSpec) : _root_.Go.OpenSpec := { _root_.Go.OpenSpec.ofChange s with cond := some uptoSmall }

/-- 'dustmanlaw13.AddSteps', WHERE WHAT IT READS IS OF BULK AT MOST 1048576: true; the input reads as it did. -/
def addStepsUptoRow : OpenClaim := { program := "ytponbnbgiiepdaagreat", sum := "5bee4e62d15e56a592ef359aeebe9988bf6daf780850ecc5fbeb0404cef494d1", func := "dustman/dustmanlaw13.AddSteps", spec := "addSteps", unfollowed := true, recurses := true, apart := false, narrowed := true }
def AddStepsUptoSaid : Prop := addStepsUptoRow.holds Tryz.pinned (OpenSpec.upto addStepsSpec)

/-- 'dustmanlaw13.AddAlone', WHERE WHAT IT READS IS OF BULK AT MOST 1048576: true; the input reads as it did. -/
def addAloneUptoRow : OpenClaim := { program := "ytponbnbgiiepdaagreat", sum := "5bee4e62d15e56a592ef359aeebe9988bf6daf780850ecc5fbeb0404cef494d1", func := "dustman/dustmanlaw13.AddAlone", spec := "addAlone", unfollowed := true, recurses := true, apart := false, narrowed := true }
def AddAloneUptoSaid : Prop := addAloneUptoRow.holds Tryz.pinned (OpenSpec.upto addAloneSpec)

/-- 'dustmanlaw13.AddNone', WHERE WHAT IT READS IS OF BULK AT MOST 1048576: true; the input reads as it did. -/
def addNoneUptoRow : OpenClaim := { program := "ytponbnbgiiepdaagreat", sum := "5bee4e62d15e56a592ef359aeebe9988bf6daf780850ecc5fbeb0404cef494d1", func := "dustman/dustmanlaw13.AddNone", spec := "addNone", unfollowed := true, recurses := true, apart := false, narrowed := true }
def AddNoneUptoSaid : Prop := addNoneUptoRow.holds Tryz.pinned (OpenSpec.upto addNoneSpec)

/-- 'dustmanlaw13.AddOnce', WHERE WHAT IT READS IS OF BULK AT MOST 1048576: true; the input reads as it did. -/
def addOnceUptoRow : OpenClaim := { program := "ytponbnbgiiepdaagreat", sum := "5bee4e62d15e56a592ef359aeebe9988bf6daf780850ecc5fbeb0404cef494d1", func := "dustman/dustmanlaw13.AddOnce", spec := "addOnce", unfollowed := true, recurses := true, apart := false, narrowed := true }
def AddOnceUptoSaid : Prop := addOnceUptoRow.holds Tryz.pinned (OpenSpec.upto addOnceSpec)

/-- 'dustmanlaw13.AddTen', WHERE WHAT IT READS IS OF BULK AT MOST 1048576: true; the input reads as it did. -/
def addTenUptoRow : OpenClaim := { program := "ytponbnbgiiepdaagreat", sum := "5bee4e62d15e56a592ef359aeebe9988bf6daf780850ecc5fbeb0404cef494d1", func := "dustman/dustmanlaw13.AddTen", spec := "addTen", unfollowed := true, recurses := true, apart := false, narrowed := true }
def AddTenUptoSaid : Prop := addTenUptoRow.holds Tryz.pinned (OpenSpec.upto addTenSpec)

end Rows
end Go.Proofs.YtponbnbgiiepdaaGreat
