/-
  No cell of these rows narrows 'for every input' (looked for: loops, veiled, ifaces, maps, wideKeys, modest, calm, conditions, laid).
  DERIVED. THE GIVEN ROWS OF THIS SEAT. 8 by the template 'for every input the law returns true; each argument reads behind the call as it read before'; 0 by the template 'total and deterministic' (their statements: YtbacdllokgcohaaTotals.lean).
  GIVEN WITH THE SEED: the statements are not yours to turn. If you find one false, say at which input.
  Laid BY PROGRAM, IN A SANDBOX (cutbox-rows.mjs): the forced cells as the released guide's own fill.sh prints them over the translation b58e290cc1f45e46… (all of the seat's roots in one cut). By AI agents, Wed Nov 11 2026. No macro, syntax, notation, axiom, sorry.
-/
import Derived.Test.YtbacdllokgcohaaChecked
import GoSem.Claim
import GoSem.ClaimJoined
import GoSem.ClaimMapViews
import Derived.JoinedTies
import Derived.KernelRfl
namespace Go.Proofs.Ytbacdllokgcohaa
/- THE CELL 'sum', in the pinned program and in every row, IS THE sha256 OF THE DUMP (.gsa) THAT YtbacdllokgcohaaProg.lean LOADS. Nothing in Lean hashes anything: it is a label: what it is worth is what the hold of that sum in a sandbox is worth. -/
noncomputable def Try.pinned : Pinned := { name := "ytbacdllokgcohaa", sum := "b58e290cc1f45e468fa180ef60a72585a272c44fa4bd63469a58aae372fa3b25", checked := Try.checked }
namespace Rows
def none {H : Type} : Left H := { results := [], args := [] }

/-- 'imprimaturlaw09.StepRegions': WHATEVER THE INPUT: true; the input reads as it did. -/
def stepRegionsSpec : ChangeSpec := { name := "stepRegions", fn := fun _ => fun
  | [d] => { results := [.lit (.bool true)], args := [d] }
  | _ => none }
def stepRegionsRow : OpenClaim := { program := "ytbacdllokgcohaa", sum := "b58e290cc1f45e468fa180ef60a72585a272c44fa4bd63469a58aae372fa3b25", func := "imprimatur/imprimaturlaw09.StepRegions", spec := "stepRegions", inPlace := ["slices.overlaps[int]"], unfollowed := true, recurses := true, plainKeys := false, apart := false }
def StepRegionsSaid : Prop := stepRegionsRow.holds Try.pinned (OpenSpec.ofChange stepRegionsSpec)

/-- ITS FALSE NEIGHBOUR: 'it returns false'. Refute it at one input. -/
def stepRegionsWrong : ChangeSpec := { name := "stepRegions", fn := fun _ => fun
  | [d] => { results := [.lit (.bool false)], args := [d] }
  | _ => none }
def StepRegionsWrongFalsely : Prop := stepRegionsRow.holds Try.pinned (OpenSpec.ofChange stepRegionsWrong)

/-- 'imprimaturlaw09.StepHistory': WHATEVER THE INPUT: true; the input reads as it did. -/
def stepHistorySpec : ChangeSpec := { name := "stepHistory", fn := fun _ => fun
  | [d1, d2, d3] => { results := [.lit (.bool true)], args := [d1, d2, d3] }
  | _ => none }
def stepHistoryRow : OpenClaim := { program := "ytbacdllokgcohaa", sum := "b58e290cc1f45e468fa180ef60a72585a272c44fa4bd63469a58aae372fa3b25", func := "imprimatur/imprimaturlaw09.StepHistory", spec := "stepHistory", inPlace := ["slices.overlaps[int]"], unfollowed := true, recurses := true, plainKeys := false, apart := false }
def StepHistorySaid : Prop := stepHistoryRow.holds Try.pinned (OpenSpec.ofChange stepHistorySpec)

/-- ITS FALSE NEIGHBOUR: 'it returns false'. Refute it at one input. -/
def stepHistoryWrong : ChangeSpec := { name := "stepHistory", fn := fun _ => fun
  | [d1, d2, d3] => { results := [.lit (.bool false)], args := [d1, d2, d3] }
  | _ => none }
def StepHistoryWrongFalsely : Prop := stepHistoryRow.holds Try.pinned (OpenSpec.ofChange stepHistoryWrong)

/-- 'imprimaturlaw09.StepLoops': WHATEVER THE INPUT: true; the input reads as it did. -/
def stepLoopsSpec : ChangeSpec := { name := "stepLoops", fn := fun _ => fun
  | [d1, d2] => { results := [.lit (.bool true)], args := [d1, d2] }
  | _ => none }
def stepLoopsRow : OpenClaim := { program := "ytbacdllokgcohaa", sum := "b58e290cc1f45e468fa180ef60a72585a272c44fa4bd63469a58aae372fa3b25", func := "imprimatur/imprimaturlaw09.StepLoops", spec := "stepLoops", inPlace := ["slices.overlaps[int]", "internal/reflectlite.TypeOf"], unfollowed := true, recurses := true, plainKeys := false, apart := false }
def StepLoopsSaid : Prop := stepLoopsRow.holds Try.pinned (OpenSpec.ofChange stepLoopsSpec)

/-- ITS FALSE NEIGHBOUR: 'it returns false'. Refute it at one input. -/
def stepLoopsWrong : ChangeSpec := { name := "stepLoops", fn := fun _ => fun
  | [d1, d2] => { results := [.lit (.bool false)], args := [d1, d2] }
  | _ => none }
def StepLoopsWrongFalsely : Prop := stepLoopsRow.holds Try.pinned (OpenSpec.ofChange stepLoopsWrong)

/-- 'imprimaturlaw10.ClockLast': WHATEVER THE INPUT: true; the input reads as it did. -/
def clockLastSpec : ChangeSpec := { name := "clockLast", fn := fun _ => fun
  | [d1, d2] => { results := [.lit (.bool true)], args := [d1, d2] }
  | _ => none }
def clockLastRow : OpenClaim := { program := "ytbacdllokgcohaa", sum := "b58e290cc1f45e468fa180ef60a72585a272c44fa4bd63469a58aae372fa3b25", func := "imprimatur/imprimaturlaw10.ClockLast", spec := "clockLast", unfollowed := true, recurses := true, plainKeys := false, apart := false }
def ClockLastSaid : Prop := clockLastRow.holds Try.pinned (OpenSpec.ofChange clockLastSpec)

/-- ITS FALSE NEIGHBOUR: 'it returns false'. Refute it at one input. -/
def clockLastWrong : ChangeSpec := { name := "clockLast", fn := fun _ => fun
  | [d1, d2] => { results := [.lit (.bool false)], args := [d1, d2] }
  | _ => none }
def ClockLastWrongFalsely : Prop := clockLastRow.holds Try.pinned (OpenSpec.ofChange clockLastWrong)

/-- 'imprimaturlaw10.ClockNext': WHATEVER THE INPUT: true; the input reads as it did. -/
def clockNextSpec : ChangeSpec := { name := "clockNext", fn := fun _ => fun
  | [d1, d2] => { results := [.lit (.bool true)], args := [d1, d2] }
  | _ => none }
def clockNextRow : OpenClaim := { program := "ytbacdllokgcohaa", sum := "b58e290cc1f45e468fa180ef60a72585a272c44fa4bd63469a58aae372fa3b25", func := "imprimatur/imprimaturlaw10.ClockNext", spec := "clockNext", unfollowed := true, recurses := true, plainKeys := false, apart := false }
def ClockNextSaid : Prop := clockNextRow.holds Try.pinned (OpenSpec.ofChange clockNextSpec)

/-- ITS FALSE NEIGHBOUR: 'it returns false'. Refute it at one input. -/
def clockNextWrong : ChangeSpec := { name := "clockNext", fn := fun _ => fun
  | [d1, d2] => { results := [.lit (.bool false)], args := [d1, d2] }
  | _ => none }
def ClockNextWrongFalsely : Prop := clockNextRow.holds Try.pinned (OpenSpec.ofChange clockNextWrong)

/-- 'imprimaturlaw10.ClockTells': WHATEVER THE INPUT: true; the input reads as it did. -/
def clockTellsSpec : ChangeSpec := { name := "clockTells", fn := fun _ => fun
  | [d1, d2, d3, d4] => { results := [.lit (.bool true)], args := [d1, d2, d3, d4] }
  | _ => none }
def clockTellsRow : OpenClaim := { program := "ytbacdllokgcohaa", sum := "b58e290cc1f45e468fa180ef60a72585a272c44fa4bd63469a58aae372fa3b25", func := "imprimatur/imprimaturlaw10.ClockTells", spec := "clockTells", unfollowed := true, recurses := true, plainKeys := false, apart := false }
def ClockTellsSaid : Prop := clockTellsRow.holds Try.pinned (OpenSpec.ofChange clockTellsSpec)

/-- ITS FALSE NEIGHBOUR: 'it returns false'. Refute it at one input. -/
def clockTellsWrong : ChangeSpec := { name := "clockTells", fn := fun _ => fun
  | [d1, d2, d3, d4] => { results := [.lit (.bool false)], args := [d1, d2, d3, d4] }
  | _ => none }
def ClockTellsWrongFalsely : Prop := clockTellsRow.holds Try.pinned (OpenSpec.ofChange clockTellsWrong)

/-- 'imprimaturlaw10.ClockSorts': WHATEVER THE INPUT: true; the input reads as it did. -/
def clockSortsSpec : ChangeSpec := { name := "clockSorts", fn := fun _ => fun
  | [d1, d2, d3] => { results := [.lit (.bool true)], args := [d1, d2, d3] }
  | _ => none }
def clockSortsRow : OpenClaim := { program := "ytbacdllokgcohaa", sum := "b58e290cc1f45e468fa180ef60a72585a272c44fa4bd63469a58aae372fa3b25", func := "imprimatur/imprimaturlaw10.ClockSorts", spec := "clockSorts", unfollowed := true, recurses := true, plainKeys := false, apart := false }
def ClockSortsSaid : Prop := clockSortsRow.holds Try.pinned (OpenSpec.ofChange clockSortsSpec)

/-- ITS FALSE NEIGHBOUR: 'it returns false'. Refute it at one input. -/
def clockSortsWrong : ChangeSpec := { name := "clockSorts", fn := fun _ => fun
  | [d1, d2, d3] => { results := [.lit (.bool false)], args := [d1, d2, d3] }
  | _ => none }
def ClockSortsWrongFalsely : Prop := clockSortsRow.holds Try.pinned (OpenSpec.ofChange clockSortsWrong)

/-- 'imprimaturlaw10.ClockOrder': WHATEVER THE INPUT: true; the input reads as it did. -/
def clockOrderSpec : ChangeSpec := { name := "clockOrder", fn := fun _ => fun
  | [d] => { results := [.lit (.bool true)], args := [d] }
  | _ => none }
def clockOrderRow : OpenClaim := { program := "ytbacdllokgcohaa", sum := "b58e290cc1f45e468fa180ef60a72585a272c44fa4bd63469a58aae372fa3b25", func := "imprimatur/imprimaturlaw10.ClockOrder", spec := "clockOrder", unfollowed := true, recurses := true, plainKeys := false, apart := false }
def ClockOrderSaid : Prop := clockOrderRow.holds Try.pinned (OpenSpec.ofChange clockOrderSpec)

/-- ITS FALSE NEIGHBOUR: 'it returns false'. Refute it at one input. -/
def clockOrderWrong : ChangeSpec := { name := "clockOrder", fn := fun _ => fun
  | [d] => { results := [.lit (.bool false)], args := [d] }
  | _ => none }
def ClockOrderWrongFalsely : Prop := clockOrderRow.holds Try.pinned (OpenSpec.ofChange clockOrderWrong)

/- THE SECOND FORM. 'bulk': how many values and letters a reading holds, each counted each time it is reached (what is shared counts as often as it is met; a slice's spare places count too). A statement '..UptoSaid' is the law's where the arguments, and the package variables that the reading takes, are together of bulk at most 1048576: NARROWER than '..Said'. Prove '..Said' where nothing that the law and all that it calls make is longer than what came in: it says more and counts as full. Else prove '..UptoSaid'. A law counts once. -/
mutual
def uptoBulk {H : Type} : DataW H → Nat
  | .lit (.string bytes) => bytes.length + 1
  | .lit _ => 1
  | .nil => 1
  | .ptr d => uptoBulk d + 1
  | .slice elems spare => uptoBulkAll elems + uptoBulkAll spare + 1
  | .agg parts => uptoBulkAll parts + 1
  | .iface _ d => uptoBulk d + 1
  | .map entries => uptoBulkEntries entries + 1
  | .held _ => 1
def uptoBulkAll {H : Type} : List (DataW H) → Nat
  | [] => 0
  | d :: r => uptoBulk d + uptoBulkAll r
def uptoBulkEntries {H : Type} : List (Lit × DataW H) → Nat
  | [] => 0
  | x :: r => uptoBulkEntry x + uptoBulkEntries r
def uptoBulkEntry {H : Type} : Lit × DataW H → Nat
  | (.string bytes, d) => bytes.length + uptoBulk d + 1
  | (_, d) => uptoBulk d + 1
 end
def uptoSmall : (H : Type) → List (DataW H) → Bool := fun _ ds => decide (uptoBulkAll ds ≤ 1048576)
def OpenSpec.upto (s : _root_.Go.ChangeSpec) : _root_.Go.OpenSpec := { _root_.Go.OpenSpec.ofChange s with cond := some uptoSmall }

/-- 'imprimaturlaw09.StepRegions', WHERE WHAT IT READS IS OF BULK AT MOST 1048576: true; the input reads as it did. -/
def stepRegionsUptoRow : OpenClaim := { program := "ytbacdllokgcohaa", sum := "b58e290cc1f45e468fa180ef60a72585a272c44fa4bd63469a58aae372fa3b25", func := "imprimatur/imprimaturlaw09.StepRegions", spec := "stepRegions", inPlace := ["slices.overlaps[int]"], unfollowed := true, recurses := true, plainKeys := false, apart := false, narrowed := true }
def StepRegionsUptoSaid : Prop := stepRegionsUptoRow.holds Try.pinned (OpenSpec.upto stepRegionsSpec)

/-- 'imprimaturlaw09.StepHistory', WHERE WHAT IT READS IS OF BULK AT MOST 1048576: true; the input reads as it did. -/
def stepHistoryUptoRow : OpenClaim := { program := "ytbacdllokgcohaa", sum := "b58e290cc1f45e468fa180ef60a72585a272c44fa4bd63469a58aae372fa3b25", func := "imprimatur/imprimaturlaw09.StepHistory", spec := "stepHistory", inPlace := ["slices.overlaps[int]"], unfollowed := true, recurses := true, plainKeys := false, apart := false, narrowed := true }
def StepHistoryUptoSaid : Prop := stepHistoryUptoRow.holds Try.pinned (OpenSpec.upto stepHistorySpec)

/-- 'imprimaturlaw09.StepLoops', WHERE WHAT IT READS IS OF BULK AT MOST 1048576: true; the input reads as it did. -/
def stepLoopsUptoRow : OpenClaim := { program := "ytbacdllokgcohaa", sum := "b58e290cc1f45e468fa180ef60a72585a272c44fa4bd63469a58aae372fa3b25", func := "imprimatur/imprimaturlaw09.StepLoops", spec := "stepLoops", inPlace := ["slices.overlaps[int]", "internal/reflectlite.TypeOf"], unfollowed := true, recurses := true, plainKeys := false, apart := false, narrowed := true }
def StepLoopsUptoSaid : Prop := stepLoopsUptoRow.holds Try.pinned (OpenSpec.upto stepLoopsSpec)

/-- 'imprimaturlaw10.ClockLast', WHERE WHAT IT READS IS OF BULK AT MOST 1048576: true; the input reads as it did. -/
def clockLastUptoRow : OpenClaim := { program := "ytbacdllokgcohaa", sum := "b58e290cc1f45e468fa180ef60a72585a272c44fa4bd63469a58aae372fa3b25", func := "imprimatur/imprimaturlaw10.ClockLast", spec := "clockLast", unfollowed := true, recurses := true, plainKeys := false, apart := false, narrowed := true }
def ClockLastUptoSaid : Prop := clockLastUptoRow.holds Try.pinned (OpenSpec.upto clockLastSpec)

/-- 'imprimaturlaw10.ClockNext', WHERE WHAT IT READS IS OF BULK AT MOST 1048576: true; the input reads as it did. -/
def clockNextUptoRow : OpenClaim := { program := "ytbacdllokgcohaa", sum := "b58e290cc1f45e468fa180ef60a72585a272c44fa4bd63469a58aae372fa3b25", func := "imprimatur/imprimaturlaw10.ClockNext", spec := "clockNext", unfollowed := true, recurses := true, plainKeys := false, apart := false, narrowed := true }
def ClockNextUptoSaid : Prop := clockNextUptoRow.holds Try.pinned (OpenSpec.upto clockNextSpec)

/-- 'imprimaturlaw10.ClockTells', WHERE WHAT IT READS IS OF BULK AT MOST 1048576: true; the input reads as it did. -/
def clockTellsUptoRow : OpenClaim := { program := "ytbacdllokgcohaa", sum := "b58e290cc1f45e468fa180ef60a72585a272c44fa4bd63469a58aae372fa3b25", func := "imprimatur/imprimaturlaw10.ClockTells", spec := "clockTells", unfollowed := true, recurses := true, plainKeys := false, apart := false, narrowed := true }
def ClockTellsUptoSaid : Prop := clockTellsUptoRow.holds Try.pinned (OpenSpec.upto clockTellsSpec)

/-- 'imprimaturlaw10.ClockSorts', WHERE WHAT IT READS IS OF BULK AT MOST 1048576: true; the input reads as it did. -/
def clockSortsUptoRow : OpenClaim := { program := "ytbacdllokgcohaa", sum := "b58e290cc1f45e468fa180ef60a72585a272c44fa4bd63469a58aae372fa3b25", func := "imprimatur/imprimaturlaw10.ClockSorts", spec := "clockSorts", unfollowed := true, recurses := true, plainKeys := false, apart := false, narrowed := true }
def ClockSortsUptoSaid : Prop := clockSortsUptoRow.holds Try.pinned (OpenSpec.upto clockSortsSpec)

/-- 'imprimaturlaw10.ClockOrder', WHERE WHAT IT READS IS OF BULK AT MOST 1048576: true; the input reads as it did. -/
def clockOrderUptoRow : OpenClaim := { program := "ytbacdllokgcohaa", sum := "b58e290cc1f45e468fa180ef60a72585a272c44fa4bd63469a58aae372fa3b25", func := "imprimatur/imprimaturlaw10.ClockOrder", spec := "clockOrder", unfollowed := true, recurses := true, plainKeys := false, apart := false, narrowed := true }
def ClockOrderUptoSaid : Prop := clockOrderUptoRow.holds Try.pinned (OpenSpec.upto clockOrderSpec)

end Rows
end Go.Proofs.Ytbacdllokgcohaa
