/-
  No cell of these rows narrows 'for every input' (looked for: loops, veiled, ifaces, maps, wideKeys, modest, calm, conditions, laid).
  DERIVED. THE GIVEN ROWS OF THIS SEAT. 5 by the template 'for every input the law returns true; each argument reads behind the call as it read before'; 0 by the template 'total and deterministic' (their statements: YtefnkfdlcbdfgaaTotals.lean).
  GIVEN WITH THE SEED: the statements are not yours to turn. If you find one false, say at which input.
  Laid BY PROGRAM, IN A SANDBOX (cutbox-rows.mjs): the forced cells as the released guide's own fill.sh prints them over the translation 73454a8e558b13da… (all of the seat's roots in one cut). By AI agents, Wed Nov 11 2026. No macro, syntax, notation, axiom, sorry.
-/
import Derived.Test.YtefnkfdlcbdfgaaChecked
import GoSem.Claim
import GoSem.ClaimJoined
import GoSem.ClaimMapViews
import Derived.JoinedTies
import Derived.KernelRfl
namespace Go.Proofs.Ytefnkfdlcbdfgaa
/- THE CELL 'sum', in the pinned program and in every row, IS THE sha256 OF THE DUMP (.gsa) THAT YtefnkfdlcbdfgaaProg.lean LOADS. Nothing in Lean hashes anything: it is a label: what it is worth is what the hold of that sum in a sandbox is worth. -/
noncomputable def Try.pinned : Pinned := { name := "ytefnkfdlcbdfgaa", sum := "73454a8e558b13da9dbccd6fd151b00921fc2fa21a531ff93281c10a893ec417", checked := Try.checked }
namespace Rows
def none {H : Type} : Left H := { results := [], args := [] }

/-- 'dustmanlaw02.SizesOf': WHATEVER THE INPUT: true; the input reads as it did. -/
def sizesOfSpec : ChangeSpec := { name := "sizesOf", fn := fun _ => fun
  | [d1, d2] => { results := [.lit (.bool true)], args := [d1, d2] }
  | _ => none }
def sizesOfRow : OpenClaim := { program := "ytefnkfdlcbdfgaa", sum := "73454a8e558b13da9dbccd6fd151b00921fc2fa21a531ff93281c10a893ec417", func := "dustman/dustmanlaw02.SizesOf", spec := "sizesOf", apart := false }
def SizesOfSaid : Prop := sizesOfRow.holds Try.pinned (OpenSpec.ofChange sizesOfSpec)

/-- ITS FALSE NEIGHBOUR: 'it returns false'. Refute it at one input. -/
def sizesOfWrong : ChangeSpec := { name := "sizesOf", fn := fun _ => fun
  | [d1, d2] => { results := [.lit (.bool false)], args := [d1, d2] }
  | _ => none }
def SizesOfWrongFalsely : Prop := sizesOfRow.holds Try.pinned (OpenSpec.ofChange sizesOfWrong)

/-- 'dustmanlaw02.SizesCells': WHATEVER THE INPUT: true; the input reads as it did. -/
def sizesCellsSpec : ChangeSpec := { name := "sizesCells", fn := fun _ => fun
  | [d1, d2] => { results := [.lit (.bool true)], args := [d1, d2] }
  | _ => none }
def sizesCellsRow : OpenClaim := { program := "ytefnkfdlcbdfgaa", sum := "73454a8e558b13da9dbccd6fd151b00921fc2fa21a531ff93281c10a893ec417", func := "dustman/dustmanlaw02.SizesCells", spec := "sizesCells", apart := false }
def SizesCellsSaid : Prop := sizesCellsRow.holds Try.pinned (OpenSpec.ofChange sizesCellsSpec)

/-- ITS FALSE NEIGHBOUR: 'it returns false'. Refute it at one input. -/
def sizesCellsWrong : ChangeSpec := { name := "sizesCells", fn := fun _ => fun
  | [d1, d2] => { results := [.lit (.bool false)], args := [d1, d2] }
  | _ => none }
def SizesCellsWrongFalsely : Prop := sizesCellsRow.holds Try.pinned (OpenSpec.ofChange sizesCellsWrong)

/-- 'dustmanlaw02.SizesLeast': WHATEVER THE INPUT: true; the input reads as it did. -/
def sizesLeastSpec : ChangeSpec := { name := "sizesLeast", fn := fun _ => fun
  | [d] => { results := [.lit (.bool true)], args := [d] }
  | _ => none }
def sizesLeastRow : OpenClaim := { program := "ytefnkfdlcbdfgaa", sum := "73454a8e558b13da9dbccd6fd151b00921fc2fa21a531ff93281c10a893ec417", func := "dustman/dustmanlaw02.SizesLeast", spec := "sizesLeast", apart := false }
def SizesLeastSaid : Prop := sizesLeastRow.holds Try.pinned (OpenSpec.ofChange sizesLeastSpec)

/-- ITS FALSE NEIGHBOUR: 'it returns false'. Refute it at one input. -/
def sizesLeastWrong : ChangeSpec := { name := "sizesLeast", fn := fun _ => fun
  | [d] => { results := [.lit (.bool false)], args := [d] }
  | _ => none }
def SizesLeastWrongFalsely : Prop := sizesLeastRow.holds Try.pinned (OpenSpec.ofChange sizesLeastWrong)

/-- 'dustmanlaw02.SizesOrder': WHATEVER THE INPUT: true; the input reads as it did. -/
def sizesOrderSpec : ChangeSpec := { name := "sizesOrder", fn := fun _ => fun
  | [d1, d2] => { results := [.lit (.bool true)], args := [d1, d2] }
  | _ => none }
def sizesOrderRow : OpenClaim := { program := "ytefnkfdlcbdfgaa", sum := "73454a8e558b13da9dbccd6fd151b00921fc2fa21a531ff93281c10a893ec417", func := "dustman/dustmanlaw02.SizesOrder", spec := "sizesOrder", apart := false }
def SizesOrderSaid : Prop := sizesOrderRow.holds Try.pinned (OpenSpec.ofChange sizesOrderSpec)

/-- ITS FALSE NEIGHBOUR: 'it returns false'. Refute it at one input. -/
def sizesOrderWrong : ChangeSpec := { name := "sizesOrder", fn := fun _ => fun
  | [d1, d2] => { results := [.lit (.bool false)], args := [d1, d2] }
  | _ => none }
def SizesOrderWrongFalsely : Prop := sizesOrderRow.holds Try.pinned (OpenSpec.ofChange sizesOrderWrong)

/-- 'dustmanlaw02.SizesFit': WHATEVER THE INPUT: true; the input reads as it did. -/
def sizesFitSpec : ChangeSpec := { name := "sizesFit", fn := fun _ => fun
  | [d1, d2] => { results := [.lit (.bool true)], args := [d1, d2] }
  | _ => none }
def sizesFitRow : OpenClaim := { program := "ytefnkfdlcbdfgaa", sum := "73454a8e558b13da9dbccd6fd151b00921fc2fa21a531ff93281c10a893ec417", func := "dustman/dustmanlaw02.SizesFit", spec := "sizesFit", apart := false }
def SizesFitSaid : Prop := sizesFitRow.holds Try.pinned (OpenSpec.ofChange sizesFitSpec)

/-- ITS FALSE NEIGHBOUR: 'it returns false'. Refute it at one input. -/
def sizesFitWrong : ChangeSpec := { name := "sizesFit", fn := fun _ => fun
  | [d1, d2] => { results := [.lit (.bool false)], args := [d1, d2] }
  | _ => none }
def SizesFitWrongFalsely : Prop := sizesFitRow.holds Try.pinned (OpenSpec.ofChange sizesFitWrong)

/- THE SECOND FORM. 'bulk': how many values and letters a reading holds, each counted each time it is reached (what is shared counts as often as it is met; a slice's spare places count too). A statement '..UptoSaid' is the law's where the arguments, and the package variables that the reading takes, are together of bulk at most 1048576: NARROWER than '..Said'. Prove '..Said' where nothing that the law and all that it calls make is longer than what came in: it says more and counts as full. Else prove '..UptoSaid'. A law counts once. -/
mutual
def uptoBulk {H : Type} : DataW H → Nat
  | .lit (.string bytes) => bytes.length + 1
  | .lit _ => 1
  | .nil => 1
  | .ptr d => uptoBulk d + 1
  | .slice elems spare => uptoBulkAll elems + uptoBulkAll spare + 1
  | .agg parts => uptoBulkAll parts + 1
  | .iface _ d => uptoBulk d + 1
  | .map entries => uptoBulkEntries entries + 1
  | .held _ => 1
def uptoBulkAll {H : Type} : List (DataW H) → Nat
  | [] => 0
  | d :: r => uptoBulk d + uptoBulkAll r
def uptoBulkEntries {H : Type} : List (Lit × DataW H) → Nat
  | [] => 0
  | x :: r => uptoBulkEntry x + uptoBulkEntries r
def uptoBulkEntry {H : Type} : Lit × DataW H → Nat
  | (.string bytes, d) => bytes.length + uptoBulk d + 1
  | (_, d) => uptoBulk d + 1
 end
def uptoSmall : (H : Type) → List (DataW H) → Bool := fun _ ds => decide (uptoBulkAll ds ≤ 1048576)
def OpenSpec.upto (s : _root_.Go.ChangeSpec) : _root_.Go.OpenSpec := { _root_.Go.OpenSpec.ofChange s with cond := some uptoSmall }

/-- 'dustmanlaw02.SizesOf', WHERE WHAT IT READS IS OF BULK AT MOST 1048576: true; the input reads as it did. -/
def sizesOfUptoRow : OpenClaim := { program := "ytefnkfdlcbdfgaa", sum := "73454a8e558b13da9dbccd6fd151b00921fc2fa21a531ff93281c10a893ec417", func := "dustman/dustmanlaw02.SizesOf", spec := "sizesOf", apart := false, narrowed := true }
def SizesOfUptoSaid : Prop := sizesOfUptoRow.holds Try.pinned (OpenSpec.upto sizesOfSpec)

/-- 'dustmanlaw02.SizesCells', WHERE WHAT IT READS IS OF BULK AT MOST 1048576: true; the input reads as it did. -/
def sizesCellsUptoRow : OpenClaim := { program := "ytefnkfdlcbdfgaa", sum := "73454a8e558b13da9dbccd6fd151b00921fc2fa21a531ff93281c10a893ec417", func := "dustman/dustmanlaw02.SizesCells", spec := "sizesCells", apart := false, narrowed := true }
def SizesCellsUptoSaid : Prop := sizesCellsUptoRow.holds Try.pinned (OpenSpec.upto sizesCellsSpec)

/-- 'dustmanlaw02.SizesLeast', WHERE WHAT IT READS IS OF BULK AT MOST 1048576: true; the input reads as it did. -/
def sizesLeastUptoRow : OpenClaim := { program := "ytefnkfdlcbdfgaa", sum := "73454a8e558b13da9dbccd6fd151b00921fc2fa21a531ff93281c10a893ec417", func := "dustman/dustmanlaw02.SizesLeast", spec := "sizesLeast", apart := false, narrowed := true }
def SizesLeastUptoSaid : Prop := sizesLeastUptoRow.holds Try.pinned (OpenSpec.upto sizesLeastSpec)

/-- 'dustmanlaw02.SizesOrder', WHERE WHAT IT READS IS OF BULK AT MOST 1048576: true; the input reads as it did. -/
def sizesOrderUptoRow : OpenClaim := { program := "ytefnkfdlcbdfgaa", sum := "73454a8e558b13da9dbccd6fd151b00921fc2fa21a531ff93281c10a893ec417", func := "dustman/dustmanlaw02.SizesOrder", spec := "sizesOrder", apart := false, narrowed := true }
def SizesOrderUptoSaid : Prop := sizesOrderUptoRow.holds Try.pinned (OpenSpec.upto sizesOrderSpec)

/-- 'dustmanlaw02.SizesFit', WHERE WHAT IT READS IS OF BULK AT MOST 1048576: true; the input reads as it did. -/
def sizesFitUptoRow : OpenClaim := { program := "ytefnkfdlcbdfgaa", sum := "73454a8e558b13da9dbccd6fd151b00921fc2fa21a531ff93281c10a893ec417", func := "dustman/dustmanlaw02.SizesFit", spec := "sizesFit", apart := false, narrowed := true }
def SizesFitUptoSaid : Prop := sizesFitUptoRow.holds Try.pinned (OpenSpec.upto sizesFitSpec)

end Rows
end Go.Proofs.Ytefnkfdlcbdfgaa
