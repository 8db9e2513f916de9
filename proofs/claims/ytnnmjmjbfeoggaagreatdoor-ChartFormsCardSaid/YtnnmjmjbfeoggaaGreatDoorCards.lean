/-
  DERIVED. GIVEN WITH THE SEED: THE CARDS: each row of YtnnmjmjbfeoggaaGreatDoorRows.lean that lists a variable, with what it lists TIED to the program's text (the seventh form; the later family's looks); each row that meets fmt, with fmt's text TOLD by the authors' own Lean function (tested against real Go, not proved from fmt's source: count such statements apart). THE CARD IS WHAT COUNTS. Prove the row's statement (the work); the ties are given (YtnnmjmjbfeoggaaGreatDoorTie.lean); close each card by the builder's one call (the guide's Derived/Test/ToyasCard.lean, 'card_holds'). Laid BY PROGRAM, IN A SANDBOX (cutbox-door.mjs). By AI agents, Wed Nov 11 2026. No macro, syntax, notation, axiom, sorry.
-/
import Derived.Test.YtnnmjmjbfeoggaaGreatDoorRows
import GoSem.ClaimSeven
namespace Go.Proofs.YtnnmjmjbfeoggaaGreatDoor
namespace Rows

/-- THE TIED CARD OF 'imprimaturlaw03.PolicyPrints'. -/
def policyPrintsCard : Claim7 := { stood := { row := policyPrintsRow, standIns := [], harness := (true, "8aaecfc6ddbdb0c62a7c503020637a53aa76c5799c7e3ad2619658112de33200"), looks := true }, kinds := [], alts := [], laidByText := true, laidKinds := [.data, .data, .data, .data, .handle, .pinned], laidTests := true, laidLooks := .later }
def PolicyPrintsCardSaid : Prop := Claim7.holds Tryz.pinned (.plain (OpenSpec.ofChange policyPrintsSpec)) policyPrintsCard

/-- THE TIED CARD OF 'imprimaturlaw08.ChartReach'. -/
def chartReachCard : Claim7 := { stood := { row := chartReachRow, standIns := [], harness := (true, "8aaecfc6ddbdb0c62a7c503020637a53aa76c5799c7e3ad2619658112de33200"), looks := true }, kinds := [], alts := [], laidByText := true, laidKinds := [.data, .data, .data, .handle], laidTests := true, laidLooks := .later }
def ChartReachCardSaid : Prop := Claim7.holds Tryz.pinned (.plain (OpenSpec.ofChange chartReachSpec)) chartReachCard

/-- THE TIED CARD OF 'imprimaturlaw08.ChartCompiles'. -/
def chartCompilesCard : Claim7 := { stood := { row := chartCompilesRow, standIns := [], harness := (true, "8aaecfc6ddbdb0c62a7c503020637a53aa76c5799c7e3ad2619658112de33200"), looks := true }, kinds := [], alts := [], laidByText := true, laidKinds := [.data, .data, .data, .handle], laidTests := true, laidLooks := .later }
def ChartCompilesCardSaid : Prop := Claim7.holds Tryz.pinned (.plain (OpenSpec.ofChange chartCompilesSpec)) chartCompilesCard

/-- THE TIED CARD OF 'imprimaturlaw08.ChartTells'. -/
def chartTellsCard : Claim7 := { stood := { row := chartTellsRow, standIns := [], harness := (true, "8aaecfc6ddbdb0c62a7c503020637a53aa76c5799c7e3ad2619658112de33200"), looks := true }, kinds := [], alts := [], laidByText := true, laidKinds := [.data, .data, .data, .handle], laidTests := true, laidLooks := .later }
def ChartTellsCardSaid : Prop := Claim7.holds Tryz.pinned (.plain (OpenSpec.ofChange chartTellsSpec)) chartTellsCard

/-- THE TIED CARD OF 'imprimaturlaw08.ChartNames'. -/
def chartNamesCard : Claim7 := { stood := { row := chartNamesRow, standIns := [], harness := (true, "8aaecfc6ddbdb0c62a7c503020637a53aa76c5799c7e3ad2619658112de33200"), looks := true }, kinds := [], alts := [], laidByText := true, laidKinds := [.data, .data, .data, .handle], laidTests := true, laidLooks := .later }
def ChartNamesCardSaid : Prop := Claim7.holds Tryz.pinned (.plain (OpenSpec.ofChange chartNamesSpec)) chartNamesCard

/-- THE TIED CARD OF 'imprimaturlaw08.ChartForms'. -/
def chartFormsCard : Claim7 := { stood := { row := chartFormsRow, standIns := [], harness := (true, "8aaecfc6ddbdb0c62a7c503020637a53aa76c5799c7e3ad2619658112de33200"), looks := true }, kinds := [], alts := [], laidByText := true, laidKinds := [.data, .data, .data, .handle], laidTests := true, laidLooks := .later }
def ChartFormsCardSaid : Prop := Claim7.holds Tryz.pinned (.plain (OpenSpec.ofChange chartFormsSpec)) chartFormsCard

/-- THE SECOND FORM's CARD OF 'imprimaturlaw03.PolicyPrints'. -/
def policyPrintsUptoCard : Claim7 := { stood := { row := policyPrintsUptoRow, standIns := [], harness := (true, "8aaecfc6ddbdb0c62a7c503020637a53aa76c5799c7e3ad2619658112de33200"), looks := true }, kinds := [], alts := [], laidByText := true, laidKinds := [.data, .data, .data, .data, .handle, .pinned], laidTests := true, laidLooks := .later }
def PolicyPrintsUptoCardSaid : Prop := Claim7.holds Tryz.pinned (.plain (OpenSpec.upto policyPrintsSpec)) policyPrintsUptoCard

/-- THE SECOND FORM's CARD OF 'imprimaturlaw08.ChartReach'. -/
def chartReachUptoCard : Claim7 := { stood := { row := chartReachUptoRow, standIns := [], harness := (true, "8aaecfc6ddbdb0c62a7c503020637a53aa76c5799c7e3ad2619658112de33200"), looks := true }, kinds := [], alts := [], laidByText := true, laidKinds := [.data, .data, .data, .handle], laidTests := true, laidLooks := .later }
def ChartReachUptoCardSaid : Prop := Claim7.holds Tryz.pinned (.plain (OpenSpec.upto chartReachSpec)) chartReachUptoCard

/-- THE SECOND FORM's CARD OF 'imprimaturlaw08.ChartCompiles'. -/
def chartCompilesUptoCard : Claim7 := { stood := { row := chartCompilesUptoRow, standIns := [], harness := (true, "8aaecfc6ddbdb0c62a7c503020637a53aa76c5799c7e3ad2619658112de33200"), looks := true }, kinds := [], alts := [], laidByText := true, laidKinds := [.data, .data, .data, .handle], laidTests := true, laidLooks := .later }
def ChartCompilesUptoCardSaid : Prop := Claim7.holds Tryz.pinned (.plain (OpenSpec.upto chartCompilesSpec)) chartCompilesUptoCard

/-- THE SECOND FORM's CARD OF 'imprimaturlaw08.ChartTells'. -/
def chartTellsUptoCard : Claim7 := { stood := { row := chartTellsUptoRow, standIns := [], harness := (true, "8aaecfc6ddbdb0c62a7c503020637a53aa76c5799c7e3ad2619658112de33200"), looks := true }, kinds := [], alts := [], laidByText := true, laidKinds := [.data, .data, .data, .handle], laidTests := true, laidLooks := .later }
def ChartTellsUptoCardSaid : Prop := Claim7.holds Tryz.pinned (.plain (OpenSpec.upto chartTellsSpec)) chartTellsUptoCard

/-- THE SECOND FORM's CARD OF 'imprimaturlaw08.ChartNames'. -/
def chartNamesUptoCard : Claim7 := { stood := { row := chartNamesUptoRow, standIns := [], harness := (true, "8aaecfc6ddbdb0c62a7c503020637a53aa76c5799c7e3ad2619658112de33200"), looks := true }, kinds := [], alts := [], laidByText := true, laidKinds := [.data, .data, .data, .handle], laidTests := true, laidLooks := .later }
def ChartNamesUptoCardSaid : Prop := Claim7.holds Tryz.pinned (.plain (OpenSpec.upto chartNamesSpec)) chartNamesUptoCard

/-- THE SECOND FORM's CARD OF 'imprimaturlaw08.ChartForms'. -/
def chartFormsUptoCard : Claim7 := { stood := { row := chartFormsUptoRow, standIns := [], harness := (true, "8aaecfc6ddbdb0c62a7c503020637a53aa76c5799c7e3ad2619658112de33200"), looks := true }, kinds := [], alts := [], laidByText := true, laidKinds := [.data, .data, .data, .handle], laidTests := true, laidLooks := .later }
def ChartFormsUptoCardSaid : Prop := Claim7.holds Tryz.pinned (.plain (OpenSpec.upto chartFormsSpec)) chartFormsUptoCard
end Rows
end Go.Proofs.YtnnmjmjbfeoggaaGreatDoor
