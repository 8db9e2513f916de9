/-
  No cell of these rows narrows 'for every input' (looked for: loops, veiled, ifaces, maps, wideKeys, modest, calm, conditions, laid).
  DERIVED. THE GIVEN ROWS OF THIS SEAT. 6 by the template 'for every input the law returns true; each argument reads behind the call as it read before'; 0 by the template 'total and deterministic' (their statements: YteplbbikjcjheaaTotals.lean).
  GIVEN WITH THE SEED: the statements are not yours to turn. If you find one false, say at which input.
  Laid BY PROGRAM, IN A SANDBOX (cutbox-rows.mjs): the forced cells as the released guide's own fill.sh prints them over the translation 0cc917823c25f2e4… (all of the seat's roots in one cut). By AI agents, Wed Nov 11 2026. No macro, syntax, notation, axiom, sorry.
-/
import Derived.Test.YteplbbikjcjheaaChecked
import GoSem.Claim
import GoSem.ClaimJoined
import GoSem.ClaimMapViews
import Derived.JoinedTies
import Derived.KernelRfl
namespace Go.Proofs.Yteplbbikjcjheaa
/- THE CELL 'sum', in the pinned program and in every row, IS THE sha256 OF THE DUMP (.gsa) THAT YteplbbikjcjheaaProg.lean LOADS. Nothing in Lean hashes anything: it is a label: what it is worth is what the hold of that sum in a sandbox is worth. -/
noncomputable def Try.pinned : Pinned := { name := "yteplbbikjcjheaa", sum := "0cc917823c25f2e4f42ba1eb1e1655c924fd8114b4f0136d72247417c278e844", checked := Try.checked }
namespace Rows
def none {H : Type} : Left H := { results := [], args := [] }

/-- 'imprimaturlaw04.OrderTells': WHATEVER THE INPUT: true; the input reads as it did. -/
def orderTellsSpec : ChangeSpec := { name := "orderTells", fn := fun _ => fun
  | [d1, d2, d3, d4, d5, d6, d7, d8] => { results := [.lit (.bool true)], args := [d1, d2, d3, d4, d5, d6, d7, d8] }
  | _ => none }
def orderTellsRow : OpenClaim := { program := "yteplbbikjcjheaa", sum := "0cc917823c25f2e4f42ba1eb1e1655c924fd8114b4f0136d72247417c278e844", func := "imprimatur/imprimaturlaw04.OrderTells", spec := "orderTells", inPlace := ["internal/reflectlite.TypeOf"], unfollowed := true, recurses := true, apart := false }
def OrderTellsSaid : Prop := orderTellsRow.holds Try.pinned (OpenSpec.ofChange orderTellsSpec)

/-- ITS FALSE NEIGHBOUR: 'it returns false'. Refute it at one input. -/
def orderTellsWrong : ChangeSpec := { name := "orderTells", fn := fun _ => fun
  | [d1, d2, d3, d4, d5, d6, d7, d8] => { results := [.lit (.bool false)], args := [d1, d2, d3, d4, d5, d6, d7, d8] }
  | _ => none }
def OrderTellsWrongFalsely : Prop := orderTellsRow.holds Try.pinned (OpenSpec.ofChange orderTellsWrong)

/-- 'imprimaturlaw04.OrderCircles': WHATEVER THE INPUT: true; the input reads as it did. -/
def orderCirclesSpec : ChangeSpec := { name := "orderCircles", fn := fun _ => fun
  | [d1, d2] => { results := [.lit (.bool true)], args := [d1, d2] }
  | _ => none }
def orderCirclesRow : OpenClaim := { program := "yteplbbikjcjheaa", sum := "0cc917823c25f2e4f42ba1eb1e1655c924fd8114b4f0136d72247417c278e844", func := "imprimatur/imprimaturlaw04.OrderCircles", spec := "orderCircles", inPlace := ["internal/reflectlite.TypeOf"], unfollowed := true, recurses := true, apart := false }
def OrderCirclesSaid : Prop := orderCirclesRow.holds Try.pinned (OpenSpec.ofChange orderCirclesSpec)

/-- ITS FALSE NEIGHBOUR: 'it returns false'. Refute it at one input. -/
def orderCirclesWrong : ChangeSpec := { name := "orderCircles", fn := fun _ => fun
  | [d1, d2] => { results := [.lit (.bool false)], args := [d1, d2] }
  | _ => none }
def OrderCirclesWrongFalsely : Prop := orderCirclesRow.holds Try.pinned (OpenSpec.ofChange orderCirclesWrong)

/-- 'imprimaturlaw05.DutySets': WHATEVER THE INPUT: true; the input reads as it did. -/
def dutySetsSpec : ChangeSpec := { name := "dutySets", fn := fun _ => fun
  | [d1, d2, d3] => { results := [.lit (.bool true)], args := [d1, d2, d3] }
  | _ => none }
def dutySetsRow : OpenClaim := { program := "yteplbbikjcjheaa", sum := "0cc917823c25f2e4f42ba1eb1e1655c924fd8114b4f0136d72247417c278e844", func := "imprimatur/imprimaturlaw05.DutySets", spec := "dutySets", unfollowed := true, recurses := true, apart := false }
def DutySetsSaid : Prop := dutySetsRow.holds Try.pinned (OpenSpec.ofChange dutySetsSpec)

/-- ITS FALSE NEIGHBOUR: 'it returns false'. Refute it at one input. -/
def dutySetsWrong : ChangeSpec := { name := "dutySets", fn := fun _ => fun
  | [d1, d2, d3] => { results := [.lit (.bool false)], args := [d1, d2, d3] }
  | _ => none }
def DutySetsWrongFalsely : Prop := dutySetsRow.holds Try.pinned (OpenSpec.ofChange dutySetsWrong)

/-- 'imprimaturlaw05.DutyTasks': WHATEVER THE INPUT: true; the input reads as it did. -/
def dutyTasksSpec : ChangeSpec := { name := "dutyTasks", fn := fun _ => fun
  | [d1, d2, d3] => { results := [.lit (.bool true)], args := [d1, d2, d3] }
  | _ => none }
def dutyTasksRow : OpenClaim := { program := "yteplbbikjcjheaa", sum := "0cc917823c25f2e4f42ba1eb1e1655c924fd8114b4f0136d72247417c278e844", func := "imprimatur/imprimaturlaw05.DutyTasks", spec := "dutyTasks", unfollowed := true, recurses := true, apart := false }
def DutyTasksSaid : Prop := dutyTasksRow.holds Try.pinned (OpenSpec.ofChange dutyTasksSpec)

/-- ITS FALSE NEIGHBOUR: 'it returns false'. Refute it at one input. -/
def dutyTasksWrong : ChangeSpec := { name := "dutyTasks", fn := fun _ => fun
  | [d1, d2, d3] => { results := [.lit (.bool false)], args := [d1, d2, d3] }
  | _ => none }
def DutyTasksWrongFalsely : Prop := dutyTasksRow.holds Try.pinned (OpenSpec.ofChange dutyTasksWrong)

/-- 'imprimaturlaw05.DutyLess': WHATEVER THE INPUT: true; the input reads as it did. -/
def dutyLessSpec : ChangeSpec := { name := "dutyLess", fn := fun _ => fun
  | [d1, d2, d3, d4] => { results := [.lit (.bool true)], args := [d1, d2, d3, d4] }
  | _ => none }
def dutyLessRow : OpenClaim := { program := "yteplbbikjcjheaa", sum := "0cc917823c25f2e4f42ba1eb1e1655c924fd8114b4f0136d72247417c278e844", func := "imprimatur/imprimaturlaw05.DutyLess", spec := "dutyLess", unfollowed := true, recurses := true, apart := false }
def DutyLessSaid : Prop := dutyLessRow.holds Try.pinned (OpenSpec.ofChange dutyLessSpec)

/-- ITS FALSE NEIGHBOUR: 'it returns false'. Refute it at one input. -/
def dutyLessWrong : ChangeSpec := { name := "dutyLess", fn := fun _ => fun
  | [d1, d2, d3, d4] => { results := [.lit (.bool false)], args := [d1, d2, d3, d4] }
  | _ => none }
def DutyLessWrongFalsely : Prop := dutyLessRow.holds Try.pinned (OpenSpec.ofChange dutyLessWrong)

/-- 'imprimaturlaw05.DutyAlike': WHATEVER THE INPUT: true; the input reads as it did. -/
def dutyAlikeSpec : ChangeSpec := { name := "dutyAlike", fn := fun _ => fun
  | [d1, d2, d3] => { results := [.lit (.bool true)], args := [d1, d2, d3] }
  | _ => none }
def dutyAlikeRow : OpenClaim := { program := "yteplbbikjcjheaa", sum := "0cc917823c25f2e4f42ba1eb1e1655c924fd8114b4f0136d72247417c278e844", func := "imprimatur/imprimaturlaw05.DutyAlike", spec := "dutyAlike", unfollowed := true, recurses := true, apart := false }
def DutyAlikeSaid : Prop := dutyAlikeRow.holds Try.pinned (OpenSpec.ofChange dutyAlikeSpec)

/-- ITS FALSE NEIGHBOUR: 'it returns false'. Refute it at one input. -/
def dutyAlikeWrong : ChangeSpec := { name := "dutyAlike", fn := fun _ => fun
  | [d1, d2, d3] => { results := [.lit (.bool false)], args := [d1, d2, d3] }
  | _ => none }
def DutyAlikeWrongFalsely : Prop := dutyAlikeRow.holds Try.pinned (OpenSpec.ofChange dutyAlikeWrong)

/- THE SECOND FORM. 'bulk': how many values and letters a reading holds, each counted each time it is reached (what is shared counts as often as it is met; a slice's spare places count too). A statement '..UptoSaid' is the law's where the arguments, and the package variables that the reading takes, are together of bulk at most 1048576: NARROWER than '..Said'. Prove '..Said' where nothing that the law and all that it calls make is longer than what came in: it says more and counts as full. Else prove '..UptoSaid'. A law counts once. -/
mutual
def uptoBulk {H : Type} : DataW H → Nat
  | .lit (.string bytes) => bytes.length + 1
  | .lit _ => 1
  | .nil => 1
  | .ptr d => uptoBulk d + 1
  | .slice elems spare => uptoBulkAll elems + uptoBulkAll spare + 1
  | .agg parts => uptoBulkAll parts + 1
  | .iface _ d => uptoBulk d + 1
  | .map entries => uptoBulkEntries entries + 1
  | .held _ => 1
def uptoBulkAll {H : Type} : List (DataW H) → Nat
  | [] => 0
  | d :: r => uptoBulk d + uptoBulkAll r
def uptoBulkEntries {H : Type} : List (Lit × DataW H) → Nat
  | [] => 0
  | x :: r => uptoBulkEntry x + uptoBulkEntries r
def uptoBulkEntry {H : Type} : Lit × DataW H → Nat
  | (.string bytes, d) => bytes.length + uptoBulk d + 1
  | (_, d) => uptoBulk d + 1
 end
def uptoSmall : (H : Type) → List (DataW H) → Bool := fun _ ds => decide (uptoBulkAll ds ≤ 1048576)
def OpenSpec.upto (s : _root_.Go.ChangeSpec) : _root_.Go.OpenSpec := { _root_.Go.OpenSpec.ofChange s with cond := some uptoSmall }

/-- 'imprimaturlaw04.OrderTells', WHERE WHAT IT READS IS OF BULK AT MOST 1048576: true; the input reads as it did. -/
def orderTellsUptoRow : OpenClaim := { program := "yteplbbikjcjheaa", sum := "0cc917823c25f2e4f42ba1eb1e1655c924fd8114b4f0136d72247417c278e844", func := "imprimatur/imprimaturlaw04.OrderTells", spec := "orderTells", inPlace := ["internal/reflectlite.TypeOf"], unfollowed := true, recurses := true, apart := false, narrowed := true }
def OrderTellsUptoSaid : Prop := orderTellsUptoRow.holds Try.pinned (OpenSpec.upto orderTellsSpec)

/-- 'imprimaturlaw04.OrderCircles', WHERE WHAT IT READS IS OF BULK AT MOST 1048576: true; the input reads as it did. -/
def orderCirclesUptoRow : OpenClaim := { program := "yteplbbikjcjheaa", sum := "0cc917823c25f2e4f42ba1eb1e1655c924fd8114b4f0136d72247417c278e844", func := "imprimatur/imprimaturlaw04.OrderCircles", spec := "orderCircles", inPlace := ["internal/reflectlite.TypeOf"], unfollowed := true, recurses := true, apart := false, narrowed := true }
def OrderCirclesUptoSaid : Prop := orderCirclesUptoRow.holds Try.pinned (OpenSpec.upto orderCirclesSpec)

/-- 'imprimaturlaw05.DutySets', WHERE WHAT IT READS IS OF BULK AT MOST 1048576: true; the input reads as it did. -/
def dutySetsUptoRow : OpenClaim := { program := "yteplbbikjcjheaa", sum := "0cc917823c25f2e4f42ba1eb1e1655c924fd8114b4f0136d72247417c278e844", func := "imprimatur/imprimaturlaw05.DutySets", spec := "dutySets", unfollowed := true, recurses := true, apart := false, narrowed := true }
def DutySetsUptoSaid : Prop := dutySetsUptoRow.holds Try.pinned (OpenSpec.upto dutySetsSpec)

/-- 'imprimaturlaw05.DutyTasks', WHERE WHAT IT READS IS OF BULK AT MOST 1048576: true; the input reads as it did. -/
def dutyTasksUptoRow : OpenClaim := { program := "yteplbbikjcjheaa", sum := "0cc917823c25f2e4f42ba1eb1e1655c924fd8114b4f0136d72247417c278e844", func := "imprimatur/imprimaturlaw05.DutyTasks", spec := "dutyTasks", unfollowed := true, recurses := true, apart := false, narrowed := true }
def DutyTasksUptoSaid : Prop := dutyTasksUptoRow.holds Try.pinned (OpenSpec.upto dutyTasksSpec)

/-- 'imprimaturlaw05.DutyLess', WHERE WHAT IT READS IS OF BULK AT MOST 1048576: true; the input reads as it did. -/
def dutyLessUptoRow : OpenClaim := { program := "yteplbbikjcjheaa", sum := "0cc917823c25f2e4f42ba1eb1e1655c924fd8114b4f0136d72247417c278e844", func := "imprimatur/imprimaturlaw05.DutyLess", spec := "dutyLess", unfollowed := true, recurses := true, apart := false, narrowed := true }
def DutyLessUptoSaid : Prop := dutyLessUptoRow.holds Try.pinned (OpenSpec.upto dutyLessSpec)

/-- 'imprimaturlaw05.DutyAlike', WHERE WHAT IT READS IS OF BULK AT MOST 1048576: true; the input reads as it did. -/
def dutyAlikeUptoRow : OpenClaim := { program := "yteplbbikjcjheaa", sum := "0cc917823c25f2e4f42ba1eb1e1655c924fd8114b4f0136d72247417c278e844", func := "imprimatur/imprimaturlaw05.DutyAlike", spec := "dutyAlike", unfollowed := true, recurses := true, apart := false, narrowed := true }
def DutyAlikeUptoSaid : Prop := dutyAlikeUptoRow.holds Try.pinned (OpenSpec.upto dutyAlikeSpec)

end Rows
end Go.Proofs.Yteplbbikjcjheaa
