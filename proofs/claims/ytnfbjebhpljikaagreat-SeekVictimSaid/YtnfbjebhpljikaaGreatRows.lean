/-
  No cell of these rows narrows 'for every input' (looked for: loops, veiled, ifaces, maps, wideKeys, modest, calm, conditions, laid).
  DERIVED. THE GIVEN ROWS OF THIS SEAT. 2 by the template 'for every input the law returns true; each argument reads behind the call as it read before'; 0 by the template 'total and deterministic' (their statements: YtnfbjebhpljikaaGreatTotals.lean).
  GIVEN WITH THE SEED: the statements are not yours to turn. If you find one false, say at which input.
  Laid BY PROGRAM, IN A SANDBOX (cutbox-rows.mjs): the forced cells as the released guide's own fill.sh prints them over the translation f1417e935e7c81ea… (all of the seat's roots in one cut). By AI agents, Wed Nov 11 2026. No macro, syntax, notation, axiom, sorry.
-/
import Derived.Test.YtnfbjebhpljikaaGreatChecked
import GoSem.Claim
import GoSem.ClaimJoined
import GoSem.ClaimMapViews
import Derived.JoinedTies
import Derived.KernelRfl
namespace Go.Proofs.YtnfbjebhpljikaaGreat
/- THE CELL 'sum', in the pinned program and in every row, IS THE sha256 OF THE DUMP (.gsa) THAT YtnfbjebhpljikaaGreatProg.lean LOADS. Nothing in Lean hashes anything: it is a label: what it is worth is what the hold of that sum in a sandbox is worth. -/
noncomputable def Tryz.pinned : Pinned := { name := "ytnfbjebhpljikaagreat", sum := "f1417e935e7c81ea17cd66c21b3a5f82dce1f6504e4f7031ad382eb689f314c6", checked := Tryz.checked }
namespace Rows
def none {H : Type} : Left H := { results := [], args := [] }

/-- 'dustmanlaw15.SeekVictim': WHATEVER THE INPUT: true; the input reads as it did. -/
def seekVictimSpec : ChangeSpec := { name := "seekVictim", fn := fun _ => fun
  | [d1, d2, d3] => { results := [.lit (.bool true)], args := [d1, d2, d3] }
  | _ => none }
def seekVictimRow : OpenClaim := { program := "ytnfbjebhpljikaagreat", sum := "f1417e935e7c81ea17cd66c21b3a5f82dce1f6504e4f7031ad382eb689f314c6", func := "dustman/dustmanlaw15.SeekVictim", spec := "seekVictim", unfollowed := true, recurses := true, apart := false }
def SeekVictimSaid : Prop := seekVictimRow.holds Tryz.pinned (OpenSpec.ofChange seekVictimSpec)

/-- ITS FALSE NEIGHBOUR: 'it returns false'. Refute it at one input. -/
def seekVictimWrong : ChangeSpec := { name := "seekVictim", fn := fun _ => fun
  | [d1, d2, d3] => { results := [.lit (.bool false)], args := [d1, d2, d3] }
  | _ => none }
def SeekVictimWrongFalsely : Prop := seekVictimRow.holds Tryz.pinned (OpenSpec.ofChange seekVictimWrong)

/-- 'dustmanlaw15.SeekOwn': WHATEVER THE INPUT: true; the input reads as it did. -/
def seekOwnSpec : ChangeSpec := { name := "seekOwn", fn := fun _ => fun
  | [d1, d2, d3, d4, d5] => { results := [.lit (.bool true)], args := [d1, d2, d3, d4, d5] }
  | _ => none }
def seekOwnRow : OpenClaim := { program := "ytnfbjebhpljikaagreat", sum := "f1417e935e7c81ea17cd66c21b3a5f82dce1f6504e4f7031ad382eb689f314c6", func := "dustman/dustmanlaw15.SeekOwn", spec := "seekOwn", unfollowed := true, recurses := true, apart := false }
def SeekOwnSaid : Prop := seekOwnRow.holds Tryz.pinned (OpenSpec.ofChange seekOwnSpec)

/-- ITS FALSE NEIGHBOUR: 'it returns false'. Refute it at one input. -/
def seekOwnWrong : ChangeSpec := { name := "seekOwn", fn := fun _ => fun
  | [d1, d2, d3, d4, d5] => { results := [.lit (.bool false)], args := [d1, d2, d3, d4, d5] }
  | _ => none }
def SeekOwnWrongFalsely : Prop := seekOwnRow.holds Tryz.pinned (OpenSpec.ofChange seekOwnWrong)

/- THE SECOND FORM. 'bulk': how many values and letters a reading holds, each counted each time it is reached (what is shared counts as often as it is met; a slice's spare places count too). A statement '..UptoSaid' is the law's where the arguments, and the package variables that the reading takes, are together of bulk at most 1048576: NARROWER than '..Said'. Prove '..Said' where nothing that the law and all that it calls make is longer than what came in: it says more and counts as full. Else prove '..UptoSaid'. A law counts once. -/
mutual
def uptoBulk {H : Type} : DataW H → Nat
  | .lit (.string bytes) => bytes.length + 1
  | .lit _ => 1
  | .nil => 1
  | .ptr d => uptoBulk d + 1
  | .slice elems spare => uptoBulkAll elems + uptoBulkAll spare + 1
  | .agg parts => uptoBulkAll parts + 1
  | .iface _ d => uptoBulk d + 1
  | .map entries => uptoBulkEntries entries + 1
  | .held _ => 1
def uptoBulkAll {H : Type} : List (DataW H) → Nat
  | [] => 0
  | d :: r => uptoBulk d + uptoBulkAll r
def uptoBulkEntries {H : Type} : List (Lit × DataW H) → Nat
  | [] => 0
  | x :: r => uptoBulkEntry x + uptoBulkEntries r
def uptoBulkEntry {H : Type} : Lit × DataW H → Nat
  | (.string bytes, d) => bytes.length + uptoBulk d + 1
  | (_, d) => uptoBulk d + 1
 end
def uptoSmall : (H : Type) → List (DataW H) → Bool := fun _ ds => decide (uptoBulkAll ds ≤ 1048576)
def OpenSpec.upto (s : _root_.Go.ChangeSpec) : _root_.Go.OpenSpec := { _root_.Go.OpenSpec.ofChange s with cond := some uptoSmall }

/-- 'dustmanlaw15.SeekVictim', WHERE WHAT IT READS IS OF BULK AT MOST 1048576: true; the input reads as it did. -/
def seekVictimUptoRow : OpenClaim := { program := "ytnfbjebhpljikaagreat", sum := "f1417e935e7c81ea17cd66c21b3a5f82dce1f6504e4f7031ad382eb689f314c6", func := "dustman/dustmanlaw15.SeekVictim", spec := "seekVictim", unfollowed := true, recurses := true, apart := false, narrowed := true }
def SeekVictimUptoSaid : Prop := seekVictimUptoRow.holds Tryz.pinned (OpenSpec.upto seekVictimSpec)

/-- 'dustmanlaw15.SeekOwn', WHERE WHAT IT READS IS OF BULK AT MOST 1048576: true; the input reads as it did. -/
def seekOwnUptoRow : OpenClaim := { program := "ytnfbjebhpljikaagreat", sum := "f1417e935e7c81ea17cd66c21b3a5f82dce1f6504e4f7031ad382eb689f314c6", func := "dustman/dustmanlaw15.SeekOwn", spec := "seekOwn", unfollowed := true, recurses := true, apart := false, narrowed := true }
def SeekOwnUptoSaid : Prop := seekOwnUptoRow.holds Tryz.pinned (OpenSpec.upto seekOwnSpec)

end Rows
end Go.Proofs.YtnfbjebhpljikaaGreat
