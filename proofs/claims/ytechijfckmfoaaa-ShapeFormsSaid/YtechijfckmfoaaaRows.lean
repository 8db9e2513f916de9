/-
  No cell of these rows narrows 'for every input' (looked for: loops, veiled, ifaces, maps, wideKeys, modest, calm, conditions, laid).
  DERIVED. THE GIVEN ROWS OF THIS SEAT. 4 by the template 'for every input the law returns true; each argument reads behind the call as it read before'; 0 by the template 'total and deterministic' (their statements: YtechijfckmfoaaaTotals.lean).
  GIVEN WITH THE SEED: the statements are not yours to turn. If you find one false, say at which input.
  Laid BY PROGRAM, IN A SANDBOX (cutbox-rows.mjs): the forced cells as the released guide's own fill.sh prints them over the translation 8d94b99b6864f54c… (all of the seat's roots in one cut). By AI agents, Wed Nov 11 2026. No macro, syntax, notation, axiom, sorry.
-/
import Derived.Test.YtechijfckmfoaaaChecked
import GoSem.Claim
import GoSem.ClaimJoined
import GoSem.ClaimMapViews
import Derived.JoinedTies
import Derived.KernelRfl
namespace Go.Proofs.Ytechijfckmfoaaa
/- THE CELL 'sum', in the pinned program and in every row, IS THE sha256 OF THE DUMP (.gsa) THAT YtechijfckmfoaaaProg.lean LOADS. Nothing in Lean hashes anything: it is a label: what it is worth is what the hold of that sum in a sandbox is worth. -/
noncomputable def Try.pinned : Pinned := { name := "ytechijfckmfoaaa", sum := "8d94b99b6864f54cef84953eec5e8d94320cbd27ee42b46b0f44fc51ac181692", checked := Try.checked }
namespace Rows
def none {H : Type} : Left H := { results := [], args := [] }

/-- 'imprimaturlaw06.ShapeForms': WHATEVER THE INPUT: true; the input reads as it did. -/
def shapeFormsSpec : ChangeSpec := { name := "shapeForms", fn := fun _ => fun
  | [d] => { results := [.lit (.bool true)], args := [d] }
  | _ => none }
def shapeFormsRow : OpenClaim := { program := "ytechijfckmfoaaa", sum := "8d94b99b6864f54cef84953eec5e8d94320cbd27ee42b46b0f44fc51ac181692", func := "imprimatur/imprimaturlaw06.ShapeForms", spec := "shapeForms", apart := false }
def ShapeFormsSaid : Prop := shapeFormsRow.holds Try.pinned (OpenSpec.ofChange shapeFormsSpec)

/-- ITS FALSE NEIGHBOUR: 'it returns false'. Refute it at one input. -/
def shapeFormsWrong : ChangeSpec := { name := "shapeForms", fn := fun _ => fun
  | [d] => { results := [.lit (.bool false)], args := [d] }
  | _ => none }
def ShapeFormsWrongFalsely : Prop := shapeFormsRow.holds Try.pinned (OpenSpec.ofChange shapeFormsWrong)

/-- 'imprimaturlaw06.ShapeCounts': WHATEVER THE INPUT: true; the input reads as it did. -/
def shapeCountsSpec : ChangeSpec := { name := "shapeCounts", fn := fun _ => fun
  | [d] => { results := [.lit (.bool true)], args := [d] }
  | _ => none }
def shapeCountsRow : OpenClaim := { program := "ytechijfckmfoaaa", sum := "8d94b99b6864f54cef84953eec5e8d94320cbd27ee42b46b0f44fc51ac181692", func := "imprimatur/imprimaturlaw06.ShapeCounts", spec := "shapeCounts", recurses := true, apart := false }
def ShapeCountsSaid : Prop := shapeCountsRow.holds Try.pinned (OpenSpec.ofChange shapeCountsSpec)

/-- ITS FALSE NEIGHBOUR: 'it returns false'. Refute it at one input. -/
def shapeCountsWrong : ChangeSpec := { name := "shapeCounts", fn := fun _ => fun
  | [d] => { results := [.lit (.bool false)], args := [d] }
  | _ => none }
def ShapeCountsWrongFalsely : Prop := shapeCountsRow.holds Try.pinned (OpenSpec.ofChange shapeCountsWrong)

/-- 'imprimaturlaw06.ShapeRaw': WHATEVER THE INPUT: true; the input reads as it did. -/
def shapeRawSpec : ChangeSpec := { name := "shapeRaw", fn := fun _ => fun
  | [d1, d2, d3] => { results := [.lit (.bool true)], args := [d1, d2, d3] }
  | _ => none }
def shapeRawRow : OpenClaim := { program := "ytechijfckmfoaaa", sum := "8d94b99b6864f54cef84953eec5e8d94320cbd27ee42b46b0f44fc51ac181692", func := "imprimatur/imprimaturlaw06.ShapeRaw", spec := "shapeRaw", apart := false }
def ShapeRawSaid : Prop := shapeRawRow.holds Try.pinned (OpenSpec.ofChange shapeRawSpec)

/-- ITS FALSE NEIGHBOUR: 'it returns false'. Refute it at one input. -/
def shapeRawWrong : ChangeSpec := { name := "shapeRaw", fn := fun _ => fun
  | [d1, d2, d3] => { results := [.lit (.bool false)], args := [d1, d2, d3] }
  | _ => none }
def ShapeRawWrongFalsely : Prop := shapeRawRow.holds Try.pinned (OpenSpec.ofChange shapeRawWrong)

/-- 'imprimaturlaw06.ShapeConfigs': WHATEVER THE INPUT: true; the input reads as it did. -/
def shapeConfigsSpec : ChangeSpec := { name := "shapeConfigs", fn := fun _ => fun
  | [d1, d2, d3] => { results := [.lit (.bool true)], args := [d1, d2, d3] }
  | _ => none }
def shapeConfigsRow : OpenClaim := { program := "ytechijfckmfoaaa", sum := "8d94b99b6864f54cef84953eec5e8d94320cbd27ee42b46b0f44fc51ac181692", func := "imprimatur/imprimaturlaw06.ShapeConfigs", spec := "shapeConfigs", apart := false }
def ShapeConfigsSaid : Prop := shapeConfigsRow.holds Try.pinned (OpenSpec.ofChange shapeConfigsSpec)

/-- ITS FALSE NEIGHBOUR: 'it returns false'. Refute it at one input. -/
def shapeConfigsWrong : ChangeSpec := { name := "shapeConfigs", fn := fun _ => fun
  | [d1, d2, d3] => { results := [.lit (.bool false)], args := [d1, d2, d3] }
  | _ => none }
def ShapeConfigsWrongFalsely : Prop := shapeConfigsRow.holds Try.pinned (OpenSpec.ofChange shapeConfigsWrong)

/- THE SECOND FORM. 'bulk': how many values and letters a reading holds, each counted each time it is reached (what is shared counts as often as it is met; a slice's spare places count too). A statement '..UptoSaid' is the law's where the arguments, and the package variables that the reading takes, are together of bulk at most 1048576: NARROWER than '..Said'. Prove '..Said' where nothing that the law and all that it calls make is longer than what came in: it says more and counts as full. Else prove '..UptoSaid'. A law counts once. -/
mutual
def uptoBulk {H : Type} : DataW H → Nat
  | .lit (.string bytes) => bytes.length + 1
  | .lit _ => 1
  | .nil => 1
  | .ptr d => uptoBulk d + 1
  | .slice elems spare => uptoBulkAll elems + uptoBulkAll spare + 1
  | .agg parts => uptoBulkAll parts + 1
  | .iface _ d => uptoBulk d + 1
  | .map entries => uptoBulkEntries entries + 1
  | .held _ => 1
def uptoBulkAll {H : Type} : List (DataW H) → Nat
  | [] => 0
  | d :: r => uptoBulk d + uptoBulkAll r
def uptoBulkEntries {H : Type} : List (Lit × DataW H) → Nat
  | [] => 0
  | x :: r => uptoBulkEntry x + uptoBulkEntries r
def uptoBulkEntry {H : Type} : Lit × DataW H → Nat
  | (.string bytes, d) => bytes.length + uptoBulk d + 1
  | (_, d) => uptoBulk d + 1
 end
def uptoSmall : (H : Type) → List (DataW H) → Bool := fun _ ds => decide (uptoBulkAll ds ≤ 1048576)
def OpenSpec.upto (s : _root_.Go.ChangeSpec) : _root_.Go.OpenSpec := { _root_.Go.OpenSpec.ofChange s with cond := some uptoSmall }

/-- 'imprimaturlaw06.ShapeForms', WHERE WHAT IT READS IS OF BULK AT MOST 1048576: true; the input reads as it did. -/
def shapeFormsUptoRow : OpenClaim := { program := "ytechijfckmfoaaa", sum := "8d94b99b6864f54cef84953eec5e8d94320cbd27ee42b46b0f44fc51ac181692", func := "imprimatur/imprimaturlaw06.ShapeForms", spec := "shapeForms", apart := false, narrowed := true }
def ShapeFormsUptoSaid : Prop := shapeFormsUptoRow.holds Try.pinned (OpenSpec.upto shapeFormsSpec)

/-- 'imprimaturlaw06.ShapeCounts', WHERE WHAT IT READS IS OF BULK AT MOST 1048576: true; the input reads as it did. -/
def shapeCountsUptoRow : OpenClaim := { program := "ytechijfckmfoaaa", sum := "8d94b99b6864f54cef84953eec5e8d94320cbd27ee42b46b0f44fc51ac181692", func := "imprimatur/imprimaturlaw06.ShapeCounts", spec := "shapeCounts", recurses := true, apart := false, narrowed := true }
def ShapeCountsUptoSaid : Prop := shapeCountsUptoRow.holds Try.pinned (OpenSpec.upto shapeCountsSpec)

/-- 'imprimaturlaw06.ShapeRaw', WHERE WHAT IT READS IS OF BULK AT MOST 1048576: true; the input reads as it did. -/
def shapeRawUptoRow : OpenClaim := { program := "ytechijfckmfoaaa", sum := "8d94b99b6864f54cef84953eec5e8d94320cbd27ee42b46b0f44fc51ac181692", func := "imprimatur/imprimaturlaw06.ShapeRaw", spec := "shapeRaw", apart := false, narrowed := true }
def ShapeRawUptoSaid : Prop := shapeRawUptoRow.holds Try.pinned (OpenSpec.upto shapeRawSpec)

/-- 'imprimaturlaw06.ShapeConfigs', WHERE WHAT IT READS IS OF BULK AT MOST 1048576: true; the input reads as it did. -/
def shapeConfigsUptoRow : OpenClaim := { program := "ytechijfckmfoaaa", sum := "8d94b99b6864f54cef84953eec5e8d94320cbd27ee42b46b0f44fc51ac181692", func := "imprimatur/imprimaturlaw06.ShapeConfigs", spec := "shapeConfigs", apart := false, narrowed := true }
def ShapeConfigsUptoSaid : Prop := shapeConfigsUptoRow.holds Try.pinned (OpenSpec.upto shapeConfigsSpec)

end Rows
end Go.Proofs.Ytechijfckmfoaaa
