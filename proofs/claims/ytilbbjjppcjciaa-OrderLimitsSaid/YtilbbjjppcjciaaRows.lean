/-
  No cell of these rows narrows 'for every input' (looked for: loops, veiled, ifaces, maps, wideKeys, modest, calm, conditions, laid).
  DERIVED. THE GIVEN ROWS OF THIS SEAT. 6 by the template 'for every input the law returns true; each argument reads behind the call as it read before'; 0 by the template 'total and deterministic' (their statements: YtilbbjjppcjciaaTotals.lean).
  GIVEN WITH THE SEED: the statements are not yours to turn. If you find one false, say at which input.
  Laid BY PROGRAM, IN A SANDBOX (cutbox-rows.mjs): the forced cells as the released guide's own fill.sh prints them over the translation 6dfc1e9f3df9654f… (all of the seat's roots in one cut). By AI agents, Wed Nov 11 2026. No macro, syntax, notation, axiom, sorry.
-/
import Derived.Test.YtilbbjjppcjciaaChecked
import GoSem.Claim
import GoSem.ClaimJoined
import GoSem.ClaimMapViews
import Derived.JoinedTies
import Derived.KernelRfl
namespace Go.Proofs.Ytilbbjjppcjciaa
/- THE CELL 'sum', in the pinned program and in every row, IS THE sha256 OF THE DUMP (.gsa) THAT YtilbbjjppcjciaaProg.lean LOADS. Nothing in Lean hashes anything: it is a label: what it is worth is what the hold of that sum in a sandbox is worth. -/
noncomputable def Try.pinned : Pinned := { name := "ytilbbjjppcjciaa", sum := "6dfc1e9f3df9654f7b662e3b05f0bb284d8096052edd95f45a56c0ef745a8bd5", checked := Try.checked }
namespace Rows
def none {H : Type} : Left H := { results := [], args := [] }

/-- 'imprimaturlaw04.OrderGrows': WHATEVER THE INPUT: true; the input reads as it did. -/
def orderGrowsSpec : ChangeSpec := { name := "orderGrows", fn := fun _ => fun
  | [d1, d2, d3, d4] => { results := [.lit (.bool true)], args := [d1, d2, d3, d4] }
  | _ => none }
def orderGrowsRow : OpenClaim := { program := "ytilbbjjppcjciaa", sum := "6dfc1e9f3df9654f7b662e3b05f0bb284d8096052edd95f45a56c0ef745a8bd5", func := "imprimatur/imprimaturlaw04.OrderGrows", spec := "orderGrows", apart := false }
def OrderGrowsSaid : Prop := orderGrowsRow.holds Try.pinned (OpenSpec.ofChange orderGrowsSpec)

/-- ITS FALSE NEIGHBOUR: 'it returns false'. Refute it at one input. -/
def orderGrowsWrong : ChangeSpec := { name := "orderGrows", fn := fun _ => fun
  | [d1, d2, d3, d4] => { results := [.lit (.bool false)], args := [d1, d2, d3, d4] }
  | _ => none }
def OrderGrowsWrongFalsely : Prop := orderGrowsRow.holds Try.pinned (OpenSpec.ofChange orderGrowsWrong)

/-- 'imprimaturlaw04.OrderLimits': WHATEVER THE INPUT: true; the input reads as it did. -/
def orderLimitsSpec : ChangeSpec := { name := "orderLimits", fn := fun _ => fun
  | [d1, d2] => { results := [.lit (.bool true)], args := [d1, d2] }
  | _ => none }
def orderLimitsRow : OpenClaim := { program := "ytilbbjjppcjciaa", sum := "6dfc1e9f3df9654f7b662e3b05f0bb284d8096052edd95f45a56c0ef745a8bd5", func := "imprimatur/imprimaturlaw04.OrderLimits", spec := "orderLimits", inPlace := ["internal/reflectlite.TypeOf"], unfollowed := true, recurses := true, apart := false }
def OrderLimitsSaid : Prop := orderLimitsRow.holds Try.pinned (OpenSpec.ofChange orderLimitsSpec)

/-- ITS FALSE NEIGHBOUR: 'it returns false'. Refute it at one input. -/
def orderLimitsWrong : ChangeSpec := { name := "orderLimits", fn := fun _ => fun
  | [d1, d2] => { results := [.lit (.bool false)], args := [d1, d2] }
  | _ => none }
def OrderLimitsWrongFalsely : Prop := orderLimitsRow.holds Try.pinned (OpenSpec.ofChange orderLimitsWrong)

/-- 'imprimaturlaw04.OrderTells': WHATEVER THE INPUT: true; the input reads as it did. -/
def orderTellsSpec : ChangeSpec := { name := "orderTells", fn := fun _ => fun
  | [d1, d2, d3, d4, d5, d6, d7, d8] => { results := [.lit (.bool true)], args := [d1, d2, d3, d4, d5, d6, d7, d8] }
  | _ => none }
def orderTellsRow : OpenClaim := { program := "ytilbbjjppcjciaa", sum := "6dfc1e9f3df9654f7b662e3b05f0bb284d8096052edd95f45a56c0ef745a8bd5", func := "imprimatur/imprimaturlaw04.OrderTells", spec := "orderTells", inPlace := ["internal/reflectlite.TypeOf"], unfollowed := true, recurses := true, apart := false }
def OrderTellsSaid : Prop := orderTellsRow.holds Try.pinned (OpenSpec.ofChange orderTellsSpec)

/-- ITS FALSE NEIGHBOUR: 'it returns false'. Refute it at one input. -/
def orderTellsWrong : ChangeSpec := { name := "orderTells", fn := fun _ => fun
  | [d1, d2, d3, d4, d5, d6, d7, d8] => { results := [.lit (.bool false)], args := [d1, d2, d3, d4, d5, d6, d7, d8] }
  | _ => none }
def OrderTellsWrongFalsely : Prop := orderTellsRow.holds Try.pinned (OpenSpec.ofChange orderTellsWrong)

/-- 'imprimaturlaw04.OrderLaws': WHATEVER THE INPUT: true; the input reads as it did. -/
def orderLawsSpec : ChangeSpec := { name := "orderLaws", fn := fun _ => fun
  | [d1, d2] => { results := [.lit (.bool true)], args := [d1, d2] }
  | _ => none }
def orderLawsRow : OpenClaim := { program := "ytilbbjjppcjciaa", sum := "6dfc1e9f3df9654f7b662e3b05f0bb284d8096052edd95f45a56c0ef745a8bd5", func := "imprimatur/imprimaturlaw04.OrderLaws", spec := "orderLaws", apart := false }
def OrderLawsSaid : Prop := orderLawsRow.holds Try.pinned (OpenSpec.ofChange orderLawsSpec)

/-- ITS FALSE NEIGHBOUR: 'it returns false'. Refute it at one input. -/
def orderLawsWrong : ChangeSpec := { name := "orderLaws", fn := fun _ => fun
  | [d1, d2] => { results := [.lit (.bool false)], args := [d1, d2] }
  | _ => none }
def OrderLawsWrongFalsely : Prop := orderLawsRow.holds Try.pinned (OpenSpec.ofChange orderLawsWrong)

/-- 'imprimaturlaw04.OrderSets': WHATEVER THE INPUT: true; the input reads as it did. -/
def orderSetsSpec : ChangeSpec := { name := "orderSets", fn := fun _ => fun
  | [d1, d2, d3, d4] => { results := [.lit (.bool true)], args := [d1, d2, d3, d4] }
  | _ => none }
def orderSetsRow : OpenClaim := { program := "ytilbbjjppcjciaa", sum := "6dfc1e9f3df9654f7b662e3b05f0bb284d8096052edd95f45a56c0ef745a8bd5", func := "imprimatur/imprimaturlaw04.OrderSets", spec := "orderSets", apart := false }
def OrderSetsSaid : Prop := orderSetsRow.holds Try.pinned (OpenSpec.ofChange orderSetsSpec)

/-- ITS FALSE NEIGHBOUR: 'it returns false'. Refute it at one input. -/
def orderSetsWrong : ChangeSpec := { name := "orderSets", fn := fun _ => fun
  | [d1, d2, d3, d4] => { results := [.lit (.bool false)], args := [d1, d2, d3, d4] }
  | _ => none }
def OrderSetsWrongFalsely : Prop := orderSetsRow.holds Try.pinned (OpenSpec.ofChange orderSetsWrong)

/-- 'imprimaturlaw04.OrderCircles': WHATEVER THE INPUT: true; the input reads as it did. -/
def orderCirclesSpec : ChangeSpec := { name := "orderCircles", fn := fun _ => fun
  | [d1, d2] => { results := [.lit (.bool true)], args := [d1, d2] }
  | _ => none }
def orderCirclesRow : OpenClaim := { program := "ytilbbjjppcjciaa", sum := "6dfc1e9f3df9654f7b662e3b05f0bb284d8096052edd95f45a56c0ef745a8bd5", func := "imprimatur/imprimaturlaw04.OrderCircles", spec := "orderCircles", inPlace := ["internal/reflectlite.TypeOf"], unfollowed := true, recurses := true, apart := false }
def OrderCirclesSaid : Prop := orderCirclesRow.holds Try.pinned (OpenSpec.ofChange orderCirclesSpec)

/-- ITS FALSE NEIGHBOUR: 'it returns false'. Refute it at one input. -/
def orderCirclesWrong : ChangeSpec := { name := "orderCircles", fn := fun _ => fun
  | [d1, d2] => { results := [.lit (.bool false)], args := [d1, d2] }
  | _ => none }
def OrderCirclesWrongFalsely : Prop := orderCirclesRow.holds Try.pinned (OpenSpec.ofChange orderCirclesWrong)

/- THE SECOND FORM. 'bulk': how many values and letters a reading holds, each counted each time it is reached (what is shared counts as often as it is met; a slice's spare places count too). A statement '..UptoSaid' is the law's where the arguments, and the package variables that the reading takes, are together of bulk at most 1048576: NARROWER than '..Said'. Prove '..Said' where nothing that the law and all that it calls make is longer than what came in: it says more and counts as full. Else prove '..UptoSaid'. A law counts once. -/
mutual
def uptoBulk {H : Type} : DataW H → Nat
  | .lit (.string bytes) => bytes.length + 1
  | .lit _ => 1
  | .nil => 1
  | .ptr d => uptoBulk d + 1
  | .slice elems spare => uptoBulkAll elems + uptoBulkAll spare + 1
  | .agg parts => uptoBulkAll parts + 1
  | .iface _ d => uptoBulk d + 1
  | .map entries => uptoBulkEntries entries + 1
  | .held _ => 1
def uptoBulkAll {H : Type} : List (DataW H) → Nat
  | [] => 0
  | d :: r => uptoBulk d + uptoBulkAll r
def uptoBulkEntries {H : Type} : List (Lit × DataW H) → Nat
  | [] => 0
  | x :: r => uptoBulkEntry x + uptoBulkEntries r
def uptoBulkEntry {H : Type} : Lit × DataW H → Nat
  | (.string bytes, d) => bytes.length + uptoBulk d + 1
  | (_, d) => uptoBulk d + 1
 end
def uptoSmall : (H : Type) → List (DataW H) → Bool := fun _ ds => decide (uptoBulkAll ds ≤ 1048576)
def OpenSpec.upto (s : _root_.Go.ChangeSpec) : _root_.Go.OpenSpec := { _root_.Go.OpenSpec.ofChange s with cond := some uptoSmall }

/-- 'imprimaturlaw04.OrderGrows', WHERE WHAT IT READS IS OF BULK AT MOST 1048576: true; the input reads as it did. -/
def orderGrowsUptoRow : OpenClaim := { program := "ytilbbjjppcjciaa", sum := "6dfc1e9f3df9654f7b662e3b05f0bb284d8096052edd95f45a56c0ef745a8bd5", func := "imprimatur/imprimaturlaw04.OrderGrows", spec := "orderGrows", apart := false, narrowed := true }
def OrderGrowsUptoSaid : Prop := orderGrowsUptoRow.holds Try.pinned (OpenSpec.upto orderGrowsSpec)

/-- 'imprimaturlaw04.OrderLimits', WHERE WHAT IT READS IS OF BULK AT MOST 1048576: true; the input reads as it did. -/
def orderLimitsUptoRow : OpenClaim := { program := "ytilbbjjppcjciaa", sum := "6dfc1e9f3df9654f7b662e3b05f0bb284d8096052edd95f45a56c0ef745a8bd5", func := "imprimatur/imprimaturlaw04.OrderLimits", spec := "orderLimits", inPlace := ["internal/reflectlite.TypeOf"], unfollowed := true, recurses := true, apart := false, narrowed := true }
def OrderLimitsUptoSaid : Prop := orderLimitsUptoRow.holds Try.pinned (OpenSpec.upto orderLimitsSpec)

/-- 'imprimaturlaw04.OrderTells', WHERE WHAT IT READS IS OF BULK AT MOST 1048576: true; the input reads as it did. -/
def orderTellsUptoRow : OpenClaim := { program := "ytilbbjjppcjciaa", sum := "6dfc1e9f3df9654f7b662e3b05f0bb284d8096052edd95f45a56c0ef745a8bd5", func := "imprimatur/imprimaturlaw04.OrderTells", spec := "orderTells", inPlace := ["internal/reflectlite.TypeOf"], unfollowed := true, recurses := true, apart := false, narrowed := true }
def OrderTellsUptoSaid : Prop := orderTellsUptoRow.holds Try.pinned (OpenSpec.upto orderTellsSpec)

/-- 'imprimaturlaw04.OrderLaws', WHERE WHAT IT READS IS OF BULK AT MOST 1048576: true; the input reads as it did. -/
def orderLawsUptoRow : OpenClaim := { program := "ytilbbjjppcjciaa", sum := "6dfc1e9f3df9654f7b662e3b05f0bb284d8096052edd95f45a56c0ef745a8bd5", func := "imprimatur/imprimaturlaw04.OrderLaws", spec := "orderLaws", apart := false, narrowed := true }
def OrderLawsUptoSaid : Prop := orderLawsUptoRow.holds Try.pinned (OpenSpec.upto orderLawsSpec)

/-- 'imprimaturlaw04.OrderSets', WHERE WHAT IT READS IS OF BULK AT MOST 1048576: true; the input reads as it did. -/
def orderSetsUptoRow : OpenClaim := { program := "ytilbbjjppcjciaa", sum := "6dfc1e9f3df9654f7b662e3b05f0bb284d8096052edd95f45a56c0ef745a8bd5", func := "imprimatur/imprimaturlaw04.OrderSets", spec := "orderSets", apart := false, narrowed := true }
def OrderSetsUptoSaid : Prop := orderSetsUptoRow.holds Try.pinned (OpenSpec.upto orderSetsSpec)

/-- 'imprimaturlaw04.OrderCircles', WHERE WHAT IT READS IS OF BULK AT MOST 1048576: true; the input reads as it did. -/
def orderCirclesUptoRow : OpenClaim := { program := "ytilbbjjppcjciaa", sum := "6dfc1e9f3df9654f7b662e3b05f0bb284d8096052edd95f45a56c0ef745a8bd5", func := "imprimatur/imprimaturlaw04.OrderCircles", spec := "orderCircles", inPlace := ["internal/reflectlite.TypeOf"], unfollowed := true, recurses := true, apart := false, narrowed := true }
def OrderCirclesUptoSaid : Prop := orderCirclesUptoRow.holds Try.pinned (OpenSpec.upto orderCirclesSpec)

end Rows
end Go.Proofs.Ytilbbjjppcjciaa
