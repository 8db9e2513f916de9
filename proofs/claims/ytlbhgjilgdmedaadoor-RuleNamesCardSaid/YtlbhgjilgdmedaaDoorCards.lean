/-
  DERIVED. GIVEN WITH THE SEED: THE CARDS: each row of YtlbhgjilgdmedaaDoorRows.lean that lists a variable, with what it lists TIED to the program's text (the seventh form; the later family's looks); each row that meets fmt, with fmt's text TOLD by the authors' own Lean function (tested against real Go, not proved from fmt's source: count such statements apart). THE CARD IS WHAT COUNTS. Prove the row's statement (the work); the ties are given (YtlbhgjilgdmedaaDoorTie.lean); close each card by the builder's one call (the guide's Derived/Test/ToyasCard.lean, 'card_holds'). Laid BY PROGRAM, IN A SANDBOX (cutbox-door.mjs). By AI agents, Wed Nov 11 2026. No macro, syntax, notation, axiom, sorry.
-/
import Derived.Test.YtlbhgjilgdmedaaDoorRows
import GoSem.ClaimSeven
namespace Go.Proofs.YtlbhgjilgdmedaaDoor
namespace Rows

/-- THE TIED CARD OF 'imprimaturlaw02.RulePlaces'. -/
def rulePlacesCard : Claim7 := { stood := { row := rulePlacesRow, standIns := [], harness := (true, "e05e7ae1e1555e5e612a22e51457555305e945b9c4bcdb938949c5cb8a85b6f8"), looks := true }, kinds := [], alts := [], laidByText := true, laidKinds := [.handle], laidTests := true, laidLooks := .later }
def RulePlacesCardSaid : Prop := Claim7.holds Tryd.pinned (.plain (OpenSpec.ofChange rulePlacesSpec)) rulePlacesCard

/-- THE TIED CARD OF 'imprimaturlaw02.RuleNames'. -/
def ruleNamesCard : Claim7 := { stood := { row := ruleNamesRow, standIns := [], harness := (true, "e05e7ae1e1555e5e612a22e51457555305e945b9c4bcdb938949c5cb8a85b6f8"), looks := true }, kinds := [], alts := [], laidByText := true, laidKinds := [.data, .data, .data, .handle], laidTests := true, laidLooks := .later }
def RuleNamesCardSaid : Prop := Claim7.holds Tryd.pinned (.plain (OpenSpec.ofChange ruleNamesSpec)) ruleNamesCard

/-- THE SECOND FORM's CARD OF 'imprimaturlaw02.RulePlaces'. -/
def rulePlacesUptoCard : Claim7 := { stood := { row := rulePlacesUptoRow, standIns := [], harness := (true, "e05e7ae1e1555e5e612a22e51457555305e945b9c4bcdb938949c5cb8a85b6f8"), looks := true }, kinds := [], alts := [], laidByText := true, laidKinds := [.handle], laidTests := true, laidLooks := .later }
def RulePlacesUptoCardSaid : Prop := Claim7.holds Tryd.pinned (.plain (OpenSpec.upto rulePlacesSpec)) rulePlacesUptoCard

/-- THE SECOND FORM's CARD OF 'imprimaturlaw02.RuleNames'. -/
def ruleNamesUptoCard : Claim7 := { stood := { row := ruleNamesUptoRow, standIns := [], harness := (true, "e05e7ae1e1555e5e612a22e51457555305e945b9c4bcdb938949c5cb8a85b6f8"), looks := true }, kinds := [], alts := [], laidByText := true, laidKinds := [.data, .data, .data, .handle], laidTests := true, laidLooks := .later }
def RuleNamesUptoCardSaid : Prop := Claim7.holds Tryd.pinned (.plain (OpenSpec.upto ruleNamesSpec)) ruleNamesUptoCard
end Rows
end Go.Proofs.YtlbhgjilgdmedaaDoor
