/-
  DERIVED. GIVEN WITH THE SEED: THE CARDS: each row of YtiodjjnohbjhlaaGreatDoorRows.lean that lists a variable, with what it lists TIED to the program's text (the seventh form; the later family's looks); each row that meets fmt, with fmt's text TOLD by the authors' own Lean function (tested against real Go, not proved from fmt's source: count such statements apart). THE CARD IS WHAT COUNTS. Prove the row's statement (the work); the ties are given (YtiodjjnohbjhlaaGreatDoorTie.lean); close each card by the builder's one call (the guide's Derived/Test/ToyasCard.lean, 'card_holds'). Laid BY PROGRAM, IN A SANDBOX (cutbox-door.mjs). By AI agents, Wed Nov 11 2026. No macro, syntax, notation, axiom, sorry.
-/
import Derived.Test.YtiodjjnohbjhlaaGreatDoorRows
import GoSem.ClaimSeven
namespace Go.Proofs.YtiodjjnohbjhlaaGreatDoor
namespace Rows

/-- THE TIED CARD OF 'imprimaturlaw11.RightsGive'. -/
def rightsGiveCard : Claim7 := { stood := { row := rightsGiveRow, standIns := [], harness := (true, "149866610eb61c365ed34858e7c616bd095a8ea123cfef7709d75ff778ecbf00"), looks := true }, kinds := [], alts := [], laidByText := true, laidKinds := [.data, .data, .data, .handle], laidTests := true, laidLooks := .later }
def RightsGiveCardSaid : Prop := Claim7.holds Tryz.pinned (.plain (OpenSpec.ofChange rightsGiveSpec)) rightsGiveCard

/-- THE TIED CARD OF 'imprimaturlaw11.RightsLimits'. -/
def rightsLimitsCard : Claim7 := { stood := { row := rightsLimitsRow, standIns := [], harness := (true, "149866610eb61c365ed34858e7c616bd095a8ea123cfef7709d75ff778ecbf00"), looks := true }, kinds := [], alts := [], laidByText := true, laidKinds := [.data, .data, .data, .handle], laidTests := true, laidLooks := .later }
def RightsLimitsCardSaid : Prop := Claim7.holds Tryz.pinned (.plain (OpenSpec.ofChange rightsLimitsSpec)) rightsLimitsCard

/-- THE TIED CARD OF 'imprimaturlaw11.RightsCompile'. -/
def rightsCompileCard : Claim7 := { stood := { row := rightsCompileRow, standIns := [], harness := (true, "149866610eb61c365ed34858e7c616bd095a8ea123cfef7709d75ff778ecbf00"), looks := true }, kinds := [], alts := [], laidByText := true, laidKinds := [.data, .data, .data, .handle], laidTests := true, laidLooks := .later }
def RightsCompileCardSaid : Prop := Claim7.holds Tryz.pinned (.plain (OpenSpec.ofChange rightsCompileSpec)) rightsCompileCard

/-- THE TIED CARD OF 'imprimaturlaw11.RightsApart'. -/
def rightsApartCard : Claim7 := { stood := { row := rightsApartRow, standIns := [], harness := (true, "149866610eb61c365ed34858e7c616bd095a8ea123cfef7709d75ff778ecbf00"), looks := true }, kinds := [], alts := [], laidByText := true, laidKinds := [.data, .data, .data, .handle], laidTests := true, laidLooks := .later }
def RightsApartCardSaid : Prop := Claim7.holds Tryz.pinned (.plain (OpenSpec.ofChange rightsApartSpec)) rightsApartCard

/-- THE TIED CARD OF 'imprimaturlaw11.RightsForms'. -/
def rightsFormsCard : Claim7 := { stood := { row := rightsFormsRow, standIns := [], harness := (true, "149866610eb61c365ed34858e7c616bd095a8ea123cfef7709d75ff778ecbf00"), looks := true }, kinds := [], alts := [], laidByText := true, laidKinds := [.data, .data, .data, .handle], laidTests := true, laidLooks := .later }
def RightsFormsCardSaid : Prop := Claim7.holds Tryz.pinned (.plain (OpenSpec.ofChange rightsFormsSpec)) rightsFormsCard

/-- THE SECOND FORM's CARD OF 'imprimaturlaw11.RightsGive'. -/
def rightsGiveUptoCard : Claim7 := { stood := { row := rightsGiveUptoRow, standIns := [], harness := (true, "149866610eb61c365ed34858e7c616bd095a8ea123cfef7709d75ff778ecbf00"), looks := true }, kinds := [], alts := [], laidByText := true, laidKinds := [.data, .data, .data, .handle], laidTests := true, laidLooks := .later }
def RightsGiveUptoCardSaid : Prop := Claim7.holds Tryz.pinned (.plain (OpenSpec.upto rightsGiveSpec)) rightsGiveUptoCard

/-- THE SECOND FORM's CARD OF 'imprimaturlaw11.RightsLimits'. -/
def rightsLimitsUptoCard : Claim7 := { stood := { row := rightsLimitsUptoRow, standIns := [], harness := (true, "149866610eb61c365ed34858e7c616bd095a8ea123cfef7709d75ff778ecbf00"), looks := true }, kinds := [], alts := [], laidByText := true, laidKinds := [.data, .data, .data, .handle], laidTests := true, laidLooks := .later }
def RightsLimitsUptoCardSaid : Prop := Claim7.holds Tryz.pinned (.plain (OpenSpec.upto rightsLimitsSpec)) rightsLimitsUptoCard

/-- THE SECOND FORM's CARD OF 'imprimaturlaw11.RightsCompile'. -/
def rightsCompileUptoCard : Claim7 := { stood := { row := rightsCompileUptoRow, standIns := [], harness := (true, "149866610eb61c365ed34858e7c616bd095a8ea123cfef7709d75ff778ecbf00"), looks := true }, kinds := [], alts := [], laidByText := true, laidKinds := [.data, .data, .data, .handle], laidTests := true, laidLooks := .later }
def RightsCompileUptoCardSaid : Prop := Claim7.holds Tryz.pinned (.plain (OpenSpec.upto rightsCompileSpec)) rightsCompileUptoCard

/-- THE SECOND FORM's CARD OF 'imprimaturlaw11.RightsApart'. -/
def rightsApartUptoCard : Claim7 := { stood := { row := rightsApartUptoRow, standIns := [], harness := (true, "149866610eb61c365ed34858e7c616bd095a8ea123cfef7709d75ff778ecbf00"), looks := true }, kinds := [], alts := [], laidByText := true, laidKinds := [.data, .data, .data, .handle], laidTests := true, laidLooks := .later }
def RightsApartUptoCardSaid : Prop := Claim7.holds Tryz.pinned (.plain (OpenSpec.upto rightsApartSpec)) rightsApartUptoCard

/-- THE SECOND FORM's CARD OF 'imprimaturlaw11.RightsForms'. -/
def rightsFormsUptoCard : Claim7 := { stood := { row := rightsFormsUptoRow, standIns := [], harness := (true, "149866610eb61c365ed34858e7c616bd095a8ea123cfef7709d75ff778ecbf00"), looks := true }, kinds := [], alts := [], laidByText := true, laidKinds := [.data, .data, .data, .handle], laidTests := true, laidLooks := .later }
def RightsFormsUptoCardSaid : Prop := Claim7.holds Tryz.pinned (.plain (OpenSpec.upto rightsFormsSpec)) rightsFormsUptoCard
end Rows
end Go.Proofs.YtiodjjnohbjhlaaGreatDoor
