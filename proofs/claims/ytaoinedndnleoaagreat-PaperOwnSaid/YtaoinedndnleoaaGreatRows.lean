/-
  No cell of these rows narrows 'for every input' (looked for: loops, veiled, ifaces, maps, wideKeys, modest, calm, conditions, laid).
  DERIVED. THE GIVEN ROWS OF THIS SEAT. 5 by the template 'for every input the law returns true; each argument reads behind the call as it read before'; 0 by the template 'total and deterministic' (their statements: YtaoinedndnleoaaGreatTotals.lean).
  GIVEN WITH THE SEED: the statements are not yours to turn. If you find one false, say at which input.
  Laid BY PROGRAM, IN A SANDBOX (cutbox-rows.mjs): the forced cells as the released guide's own fill.sh prints them over the translation b19fd885ac382b07… (all of the seat's roots in one cut). By AI agents, Wed Nov 11 2026. No macro, syntax, notation, axiom, sorry.
-/
import Derived.Test.YtaoinedndnleoaaGreatChecked
import GoSem.Claim
import GoSem.ClaimJoined
import GoSem.ClaimMapViews
import Derived.JoinedTies
import Derived.KernelRfl
namespace Go.Proofs.YtaoinedndnleoaaGreat
/- THE CELL 'sum', in the pinned program and in every row, IS THE sha256 OF THE DUMP (.gsa) THAT YtaoinedndnleoaaGreatProg.lean LOADS. Nothing in Lean hashes anything: it is a label: what it is worth is what the hold of that sum in a sandbox is worth. -/
noncomputable def Tryz.pinned : Pinned := { name := "ytaoinedndnleoaagreat", sum := "b19fd885ac382b0718a7ef1babce66b612f6ca8a375a6c9a7bfd128b0a7c1136", checked := Tryz.checked }
namespace Rows
def none {H : Type} : Left H := { results := [], args := [] }

/-- 'imprimaturlaw09.StepErrors': WHATEVER THE INPUT: true; the input reads as it did. -/
def stepErrorsSpec : ChangeSpec := { name := "stepErrors", fn := fun _ => fun
  | [d1, d2, d3] => { results := [.lit (.bool true)], args := [d1, d2, d3] }
  | _ => none }
def stepErrorsRow : OpenClaim := { program := "ytaoinedndnleoaagreat", sum := "b19fd885ac382b0718a7ef1babce66b612f6ca8a375a6c9a7bfd128b0a7c1136", func := "imprimatur/imprimaturlaw09.StepErrors", spec := "stepErrors", inPlace := ["slices.overlaps[int]", "internal/reflectlite.TypeOf"], unfollowed := true, recurses := true, apart := false }
def StepErrorsSaid : Prop := stepErrorsRow.holds Tryz.pinned (OpenSpec.ofChange stepErrorsSpec)

/-- ITS FALSE NEIGHBOUR: 'it returns false'. Refute it at one input. -/
def stepErrorsWrong : ChangeSpec := { name := "stepErrors", fn := fun _ => fun
  | [d1, d2, d3] => { results := [.lit (.bool false)], args := [d1, d2, d3] }
  | _ => none }
def StepErrorsWrongFalsely : Prop := stepErrorsRow.holds Tryz.pinned (OpenSpec.ofChange stepErrorsWrong)

/-- 'imprimaturlaw14.PaperPicks': WHATEVER THE INPUT: true; the input reads as it did. -/
def paperPicksSpec : ChangeSpec := { name := "paperPicks", fn := fun _ => fun
  | [d1, d2] => { results := [.lit (.bool true)], args := [d1, d2] }
  | _ => none }
def paperPicksRow : OpenClaim := { program := "ytaoinedndnleoaagreat", sum := "b19fd885ac382b0718a7ef1babce66b612f6ca8a375a6c9a7bfd128b0a7c1136", func := "imprimatur/imprimaturlaw14.PaperPicks", spec := "paperPicks", inPlace := ["slices.overlaps[int]"], unfollowed := true, recurses := true, apart := false }
def PaperPicksSaid : Prop := paperPicksRow.holds Tryz.pinned (OpenSpec.ofChange paperPicksSpec)

/-- ITS FALSE NEIGHBOUR: 'it returns false'. Refute it at one input. -/
def paperPicksWrong : ChangeSpec := { name := "paperPicks", fn := fun _ => fun
  | [d1, d2] => { results := [.lit (.bool false)], args := [d1, d2] }
  | _ => none }
def PaperPicksWrongFalsely : Prop := paperPicksRow.holds Tryz.pinned (OpenSpec.ofChange paperPicksWrong)

/-- 'imprimaturlaw14.PaperOwn': WHATEVER THE INPUT: true; the input reads as it did. -/
def paperOwnSpec : ChangeSpec := { name := "paperOwn", fn := fun _ => fun
  | [d1, d2] => { results := [.lit (.bool true)], args := [d1, d2] }
  | _ => none }
def paperOwnRow : OpenClaim := { program := "ytaoinedndnleoaagreat", sum := "b19fd885ac382b0718a7ef1babce66b612f6ca8a375a6c9a7bfd128b0a7c1136", func := "imprimatur/imprimaturlaw14.PaperOwn", spec := "paperOwn", inPlace := ["slices.overlaps[int]"], unfollowed := true, recurses := true, apart := false }
def PaperOwnSaid : Prop := paperOwnRow.holds Tryz.pinned (OpenSpec.ofChange paperOwnSpec)

/-- ITS FALSE NEIGHBOUR: 'it returns false'. Refute it at one input. -/
def paperOwnWrong : ChangeSpec := { name := "paperOwn", fn := fun _ => fun
  | [d1, d2] => { results := [.lit (.bool false)], args := [d1, d2] }
  | _ => none }
def PaperOwnWrongFalsely : Prop := paperOwnRow.holds Tryz.pinned (OpenSpec.ofChange paperOwnWrong)

/-- 'imprimaturlaw14.PaperApart': WHATEVER THE INPUT: true; the input reads as it did. -/
def paperApartSpec : ChangeSpec := { name := "paperApart", fn := fun _ => fun
  | [d1, d2, d3] => { results := [.lit (.bool true)], args := [d1, d2, d3] }
  | _ => none }
def paperApartRow : OpenClaim := { program := "ytaoinedndnleoaagreat", sum := "b19fd885ac382b0718a7ef1babce66b612f6ca8a375a6c9a7bfd128b0a7c1136", func := "imprimatur/imprimaturlaw14.PaperApart", spec := "paperApart", inPlace := ["slices.overlaps[int]"], unfollowed := true, recurses := true, apart := false }
def PaperApartSaid : Prop := paperApartRow.holds Tryz.pinned (OpenSpec.ofChange paperApartSpec)

/-- ITS FALSE NEIGHBOUR: 'it returns false'. Refute it at one input. -/
def paperApartWrong : ChangeSpec := { name := "paperApart", fn := fun _ => fun
  | [d1, d2, d3] => { results := [.lit (.bool false)], args := [d1, d2, d3] }
  | _ => none }
def PaperApartWrongFalsely : Prop := paperApartRow.holds Tryz.pinned (OpenSpec.ofChange paperApartWrong)

/-- 'imprimaturlaw14.PaperErrors': WHATEVER THE INPUT: true; the input reads as it did. -/
def paperErrorsSpec : ChangeSpec := { name := "paperErrors", fn := fun _ => fun
  | [d1, d2, d3] => { results := [.lit (.bool true)], args := [d1, d2, d3] }
  | _ => none }
def paperErrorsRow : OpenClaim := { program := "ytaoinedndnleoaagreat", sum := "b19fd885ac382b0718a7ef1babce66b612f6ca8a375a6c9a7bfd128b0a7c1136", func := "imprimatur/imprimaturlaw14.PaperErrors", spec := "paperErrors", inPlace := ["slices.overlaps[int]", "internal/reflectlite.TypeOf"], unfollowed := true, recurses := true, apart := false }
def PaperErrorsSaid : Prop := paperErrorsRow.holds Tryz.pinned (OpenSpec.ofChange paperErrorsSpec)

/-- ITS FALSE NEIGHBOUR: 'it returns false'. Refute it at one input. -/
def paperErrorsWrong : ChangeSpec := { name := "paperErrors", fn := fun _ => fun
  | [d1, d2, d3] => { results := [.lit (.bool false)], args := [d1, d2, d3] }
  | _ => none }
def PaperErrorsWrongFalsely : Prop := paperErrorsRow.holds Tryz.pinned (OpenSpec.ofChange paperErrorsWrong)

/- THE SECOND FORM. 'bulk': how many values and letters a reading holds, each counted each time it is reached (what is shared counts as often as it is met; a slice's spare places count too). A statement '..UptoSaid' is the law's where the arguments, and the package variables that the reading takes, are together of bulk at most 1048576: NARROWER than '..Said'. Prove '..Said' where nothing that the law and all that it calls make is longer than what came in: it says more and counts as full. Else prove '..UptoSaid'. A law counts once. -/
mutual
def uptoBulk {H : Type} : DataW H → Nat
  | .lit (.string bytes) => bytes.length + 1
  | .lit _ => 1
  | .nil => 1
  | .ptr d => uptoBulk d + 1
  | .slice elems spare => uptoBulkAll elems + uptoBulkAll spare + 1
  | .agg parts => uptoBulkAll parts + 1
  | .iface _ d => uptoBulk d + 1
  | .map entries => uptoBulkEntries entries + 1
  | .held _ => 1
def uptoBulkAll {H : Type} : List (DataW H) → Nat
  | [] => 0
  | d :: r => uptoBulk d + uptoBulkAll r
def uptoBulkEntries {H : Type} : List (Lit × DataW H) → Nat
  | [] => 0
  | x :: r => uptoBulkEntry x + uptoBulkEntries r
def uptoBulkEntry {H : Type} : Lit × DataW H → Nat
  | (.string bytes, d) => bytes.length + uptoBulk d + 1
  | (_, d) => uptoBulk d + 1
 end
def uptoSmall : (H : Type) → List (DataW H) → Bool := fun _ ds => decide (uptoBulkAll ds ≤ 1048576)
def OpenSpec.upto (s : _root_.Go.ChangeSpec) : _root_.Go.OpenSpec := { _root_.Go.OpenSpec.ofChange s with cond := some uptoSmall }

/-- 'imprimaturlaw09.StepErrors', WHERE WHAT IT READS IS OF BULK AT MOST 1048576: true; the input reads as it did. -/
def stepErrorsUptoRow : OpenClaim := { program := "ytaoinedndnleoaagreat", sum := "b19fd885ac382b0718a7ef1babce66b612f6ca8a375a6c9a7bfd128b0a7c1136", func := "imprimatur/imprimaturlaw09.StepErrors", spec := "stepErrors", inPlace := ["slices.overlaps[int]", "internal/reflectlite.TypeOf"], unfollowed := true, recurses := true, apart := false, narrowed := true }
def StepErrorsUptoSaid : Prop := stepErrorsUptoRow.holds Tryz.pinned (OpenSpec.upto stepErrorsSpec)

/-- 'imprimaturlaw14.PaperPicks', WHERE WHAT IT READS IS OF BULK AT MOST 1048576: true; the input reads as it did. -/
def paperPicksUptoRow : OpenClaim := { program := "ytaoinedndnleoaagreat", sum := "b19fd885ac382b0718a7ef1babce66b612f6ca8a375a6c9a7bfd128b0a7c1136", func := "imprimatur/imprimaturlaw14.PaperPicks", spec := "paperPicks", inPlace := ["slices.overlaps[int]"], unfollowed := true, recurses := true, apart := false, narrowed := true }
def PaperPicksUptoSaid : Prop := paperPicksUptoRow.holds Tryz.pinned (OpenSpec.upto paperPicksSpec)

/-- 'imprimaturlaw14.PaperOwn', WHERE WHAT IT READS IS OF BULK AT MOST 1048576: true; the input reads as it did. -/
def paperOwnUptoRow : OpenClaim := { program := "ytaoinedndnleoaagreat", sum := "b19fd885ac382b0718a7ef1babce66b612f6ca8a375a6c9a7bfd128b0a7c1136", func := "imprimatur/imprimaturlaw14.PaperOwn", spec := "paperOwn", inPlace := ["slices.overlaps[int]"], unfollowed := true, recurses := true, apart := false, narrowed := true }
def PaperOwnUptoSaid : Prop := paperOwnUptoRow.holds Tryz.pinned (OpenSpec.upto paperOwnSpec)

/-- 'imprimaturlaw14.PaperApart', WHERE WHAT IT READS IS OF BULK AT MOST 1048576: true; the input reads as it did. -/
def paperApartUptoRow : OpenClaim := { program := "ytaoinedndnleoaagreat", sum := "b19fd885ac382b0718a7ef1babce66b612f6ca8a375a6c9a7bfd128b0a7c1136", func := "imprimatur/imprimaturlaw14.PaperApart", spec := "paperApart", inPlace := ["slices.overlaps[int]"], unfollowed := true, recurses := true, apart := false, narrowed := true }
def PaperApartUptoSaid : Prop := paperApartUptoRow.holds Tryz.pinned (OpenSpec.upto paperApartSpec)

/-- 'imprimaturlaw14.PaperErrors', WHERE WHAT IT READS IS OF BULK AT MOST 1048576: true; the input reads as it did. -/
def paperErrorsUptoRow : OpenClaim := { program := "ytaoinedndnleoaagreat", sum := "b19fd885ac382b0718a7ef1babce66b612f6ca8a375a6c9a7bfd128b0a7c1136", func := "imprimatur/imprimaturlaw14.PaperErrors", spec := "paperErrors", inPlace := ["slices.overlaps[int]", "internal/reflectlite.TypeOf"], unfollowed := true, recurses := true, apart := false, narrowed := true }
def PaperErrorsUptoSaid : Prop := paperErrorsUptoRow.holds Tryz.pinned (OpenSpec.upto paperErrorsSpec)

end Rows
end Go.Proofs.YtaoinedndnleoaaGreat
