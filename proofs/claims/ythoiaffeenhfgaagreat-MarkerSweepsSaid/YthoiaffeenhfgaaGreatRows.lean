/-
  No cell of these rows narrows 'for every input' (looked for: loops, veiled, ifaces, maps, wideKeys, modest, calm, conditions, laid).
  DERIVED. THE GIVEN ROWS OF THIS SEAT. 4 by the template 'for every input the law returns true; each argument reads behind the call as it read before'; 0 by the template 'total and deterministic' (their statements: YthoiaffeenhfgaaGreatTotals.lean).
  GIVEN WITH THE SEED: the statements are not yours to turn. If you find one false, say at which input.
  Laid BY PROGRAM, IN A SANDBOX (cutbox-rows.mjs): the forced cells as the released guide's own fill.sh prints them over the translation b2c47179034aebbd… (all of the seat's roots in one cut). By AI agents, Wed Nov 11 2026. No macro, syntax, notation, axiom, sorry.
-/
import Derived.Test.YthoiaffeenhfgaaGreatChecked
import GoSem.Claim
import GoSem.ClaimJoined
import GoSem.ClaimMapViews
import Derived.JoinedTies
import Derived.KernelRfl
namespace Go.Proofs.YthoiaffeenhfgaaGreat
/- THE CELL 'sum', in the pinned program and in every row, IS THE sha256 OF THE DUMP (.gsa) THAT YthoiaffeenhfgaaGreatProg.lean LOADS. Nothing in Lean hashes anything: it is a label: what it is worth is what the hold of that sum in a sandbox is worth. -/
noncomputable def Tryz.pinned : Pinned := { name := "ythoiaffeenhfgaagreat", sum := "b2c47179034aebbdcaa92aae9a179017441753282df3e26daa0be467d8101bd8", checked := Tryz.checked }
namespace Rows
def none {H : Type} : Left H := { results := [], args := [] }

/-- 'dustmanlaw17.MarkerNone': WHATEVER THE INPUT: true; the input reads as it did. -/
def markerNoneSpec : ChangeSpec := { name := "markerNone", fn := fun _ => fun
  | [d1, d2, d3] => { results := [.lit (.bool true)], args := [d1, d2, d3] }
  | _ => none }
def markerNoneRow : OpenClaim := { program := "ythoiaffeenhfgaagreat", sum := "b2c47179034aebbdcaa92aae9a179017441753282df3e26daa0be467d8101bd8", func := "dustman/dustmanlaw17.MarkerNone", spec := "markerNone", unfollowed := true, recurses := true, apart := false }
def MarkerNoneSaid : Prop := markerNoneRow.holds Tryz.pinned (OpenSpec.ofChange markerNoneSpec)

/-- ITS FALSE NEIGHBOUR: 'it returns false'. Refute it at one input. -/
def markerNoneWrong : ChangeSpec := { name := "markerNone", fn := fun _ => fun
  | [d1, d2, d3] => { results := [.lit (.bool false)], args := [d1, d2, d3] }
  | _ => none }
def MarkerNoneWrongFalsely : Prop := markerNoneRow.holds Tryz.pinned (OpenSpec.ofChange markerNoneWrong)

/-- 'dustmanlaw17.MarkerDone': WHATEVER THE INPUT: true; the input reads as it did. -/
def markerDoneSpec : ChangeSpec := { name := "markerDone", fn := fun _ => fun
  | [d1, d2, d3, d4] => { results := [.lit (.bool true)], args := [d1, d2, d3, d4] }
  | _ => none }
def markerDoneRow : OpenClaim := { program := "ythoiaffeenhfgaagreat", sum := "b2c47179034aebbdcaa92aae9a179017441753282df3e26daa0be467d8101bd8", func := "dustman/dustmanlaw17.MarkerDone", spec := "markerDone", unfollowed := true, recurses := true, apart := false }
def MarkerDoneSaid : Prop := markerDoneRow.holds Tryz.pinned (OpenSpec.ofChange markerDoneSpec)

/-- ITS FALSE NEIGHBOUR: 'it returns false'. Refute it at one input. -/
def markerDoneWrong : ChangeSpec := { name := "markerDone", fn := fun _ => fun
  | [d1, d2, d3, d4] => { results := [.lit (.bool false)], args := [d1, d2, d3, d4] }
  | _ => none }
def MarkerDoneWrongFalsely : Prop := markerDoneRow.holds Tryz.pinned (OpenSpec.ofChange markerDoneWrong)

/-- 'dustmanlaw17.MarkerRests': WHATEVER THE INPUT: true; the input reads as it did. -/
def markerRestsSpec : ChangeSpec := { name := "markerRests", fn := fun _ => fun
  | [d1, d2, d3, d4, d5] => { results := [.lit (.bool true)], args := [d1, d2, d3, d4, d5] }
  | _ => none }
def markerRestsRow : OpenClaim := { program := "ythoiaffeenhfgaagreat", sum := "b2c47179034aebbdcaa92aae9a179017441753282df3e26daa0be467d8101bd8", func := "dustman/dustmanlaw17.MarkerRests", spec := "markerRests", unfollowed := true, recurses := true, apart := false }
def MarkerRestsSaid : Prop := markerRestsRow.holds Tryz.pinned (OpenSpec.ofChange markerRestsSpec)

/-- ITS FALSE NEIGHBOUR: 'it returns false'. Refute it at one input. -/
def markerRestsWrong : ChangeSpec := { name := "markerRests", fn := fun _ => fun
  | [d1, d2, d3, d4, d5] => { results := [.lit (.bool false)], args := [d1, d2, d3, d4, d5] }
  | _ => none }
def MarkerRestsWrongFalsely : Prop := markerRestsRow.holds Tryz.pinned (OpenSpec.ofChange markerRestsWrong)

/-- 'dustmanlaw17.MarkerSweeps': WHATEVER THE INPUT: true; the input reads as it did. -/
def markerSweepsSpec : ChangeSpec := { name := "markerSweeps", fn := fun _ => fun
  | [d1, d2, d3, d4] => { results := [.lit (.bool true)], args := [d1, d2, d3, d4] }
  | _ => none }
def markerSweepsRow : OpenClaim := { program := "ythoiaffeenhfgaagreat", sum := "b2c47179034aebbdcaa92aae9a179017441753282df3e26daa0be467d8101bd8", func := "dustman/dustmanlaw17.MarkerSweeps", spec := "markerSweeps", unfollowed := true, recurses := true, apart := false }
def MarkerSweepsSaid : Prop := markerSweepsRow.holds Tryz.pinned (OpenSpec.ofChange markerSweepsSpec)

/-- ITS FALSE NEIGHBOUR: 'it returns false'. Refute it at one input. -/
def markerSweepsWrong : ChangeSpec := { name := "markerSweeps", fn := fun _ => fun
  | [d1, d2, d3, d4] => { results := [.lit (.bool false)], args := [d1, d2, d3, d4] }
  | _ => none }
def MarkerSweepsWrongFalsely : Prop := markerSweepsRow.holds Tryz.pinned (OpenSpec.ofChange markerSweepsWrong)

/- THE SECOND FORM. 'bulk': how many values and letters a reading holds, each counted each time it is reached (what is shared counts as often as it is met; a slice's spare places count too). A statement '..UptoSaid' is the law's where the arguments, and the package variables that the reading takes, are together of bulk at most 1048576: NARROWER than '..Said'. Prove '..Said' where nothing that the law and all that it calls make is longer than what came in: it says more and counts as full. Else prove '..UptoSaid'. A law counts once. -/
mutual
def uptoBulk {H : Type} : DataW H → Nat
  | .lit (.string bytes) => bytes.length + 1
  | .lit _ => 1
  | .nil => 1
  | .ptr d => uptoBulk d + 1
  | .slice elems spare => uptoBulkAll elems + uptoBulkAll spare + 1
  | .agg parts => uptoBulkAll parts + 1
  | .iface _ d => uptoBulk d + 1
  | .map entries => uptoBulkEntries entries + 1
  | .held _ => 1
def uptoBulkAll {H : Type} : List (DataW H) → Nat
  | [] => 0
  | d :: r => uptoBulk d + uptoBulkAll r
def uptoBulkEntries {H : Type} : List (Lit × DataW H) → Nat
  | [] => 0
  | x :: r => uptoBulkEntry x + uptoBulkEntries r
def uptoBulkEntry {H : Type} : Lit × DataW H → Nat
  | (.string bytes, d) => bytes.length + uptoBulk d + 1
  | (_, d) => uptoBulk d + 1
 end
def uptoSmall : (H : Type) → List (DataW H) → Bool := fun _ ds => decide (uptoBulkAll ds ≤ 1048576)
def OpenSpec.upto (s : _root_.Go.ChangeSpec) : _root_.Go.OpenSpec := { _root_.Go.OpenSpec.ofChange s with cond := some uptoSmall }

/-- 'dustmanlaw17.MarkerNone', WHERE WHAT IT READS IS OF BULK AT MOST 1048576: true; the input reads as it did. -/
def markerNoneUptoRow : OpenClaim := { program := "ythoiaffeenhfgaagreat", sum := "b2c47179034aebbdcaa92aae9a179017441753282df3e26daa0be467d8101bd8", func := "dustman/dustmanlaw17.MarkerNone", spec := "markerNone", unfollowed := true, recurses := true, apart := false, narrowed := true }
def MarkerNoneUptoSaid : Prop := markerNoneUptoRow.holds Tryz.pinned (OpenSpec.upto markerNoneSpec)

/-- 'dustmanlaw17.MarkerDone', WHERE WHAT IT READS IS OF BULK AT MOST 1048576: true; the input reads as it did. -/
def markerDoneUptoRow : OpenClaim := { program := "ythoiaffeenhfgaagreat", sum := "b2c47179034aebbdcaa92aae9a179017441753282df3e26daa0be467d8101bd8", func := "dustman/dustmanlaw17.MarkerDone", spec := "markerDone", unfollowed := true, recurses := true, apart := false, narrowed := true }
def MarkerDoneUptoSaid : Prop := markerDoneUptoRow.holds Tryz.pinned (OpenSpec.upto markerDoneSpec)

/-- 'dustmanlaw17.MarkerRests', WHERE WHAT IT READS IS OF BULK AT MOST 1048576: true; the input reads as it did. -/
def markerRestsUptoRow : OpenClaim := { program := "ythoiaffeenhfgaagreat", sum := "b2c47179034aebbdcaa92aae9a179017441753282df3e26daa0be467d8101bd8", func := "dustman/dustmanlaw17.MarkerRests", spec := "markerRests", unfollowed := true, recurses := true, apart := false, narrowed := true }
def MarkerRestsUptoSaid : Prop := markerRestsUptoRow.holds Tryz.pinned (OpenSpec.upto markerRestsSpec)

/-- 'dustmanlaw17.MarkerSweeps', WHERE WHAT IT READS IS OF BULK AT MOST 1048576: true; the input reads as it did. -/
def markerSweepsUptoRow : OpenClaim := { program := "ythoiaffeenhfgaagreat", sum := "b2c47179034aebbdcaa92aae9a179017441753282df3e26daa0be467d8101bd8", func := "dustman/dustmanlaw17.MarkerSweeps", spec := "markerSweeps", unfollowed := true, recurses := true, apart := false, narrowed := true }
def MarkerSweepsUptoSaid : Prop := markerSweepsUptoRow.holds Tryz.pinned (OpenSpec.upto markerSweepsSpec)

end Rows
end Go.Proofs.YthoiaffeenhfgaaGreat
