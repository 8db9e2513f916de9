/-
  DERIVED. GIVEN WITH THE SEED: THE CARDS: each row of YtkalfhhdljndfaaGreatDoorRows.lean that lists a variable, with what it lists TIED to the program's text (the seventh form; the later family's looks); each row that meets fmt, with fmt's text TOLD by the authors' own Lean function (tested against real Go, not proved from fmt's source: count such statements apart). THE CARD IS WHAT COUNTS. Prove the row's statement (the work); the ties are given (YtkalfhhdljndfaaGreatDoorTie.lean); close each card by the builder's one call (the guide's Derived/Test/ToyasCard.lean, 'card_holds'). Laid BY PROGRAM, IN A SANDBOX (cutbox-door.mjs). By AI agents, Wed Nov 11 2026. No macro, syntax, notation, axiom, sorry.
-/
import Derived.Test.YtkalfhhdljndfaaGreatDoorRows
import GoSem.ClaimSeven
namespace Go.Proofs.YtkalfhhdljndfaaGreatDoor
namespace Rows

/-- THE TIED CARD OF 'imprimaturlaw11.RightsGive'. -/
def rightsGiveCard : Claim7 := { stood := { row := rightsGiveRow, standIns := [], harness := (true, "97cae60e75cc0bb6df43080f1b21d08f2fb6a8fef586f65a4eaeb7fff9ffd054"), looks := true }, kinds := [], alts := [], laidByText := true, laidKinds := [.data, .data, .data, .handle], laidTests := true, laidLooks := .later }
def RightsGiveCardSaid : Prop := Claim7.holds Tryz.pinned (.plain (OpenSpec.ofChange rightsGiveSpec)) rightsGiveCard

/-- THE TIED CARD OF 'imprimaturlaw11.RightsCompile'. -/
def rightsCompileCard : Claim7 := { stood := { row := rightsCompileRow, standIns := [], harness := (true, "97cae60e75cc0bb6df43080f1b21d08f2fb6a8fef586f65a4eaeb7fff9ffd054"), looks := true }, kinds := [], alts := [], laidByText := true, laidKinds := [.data, .data, .data, .handle], laidTests := true, laidLooks := .later }
def RightsCompileCardSaid : Prop := Claim7.holds Tryz.pinned (.plain (OpenSpec.ofChange rightsCompileSpec)) rightsCompileCard

/-- THE TIED CARD OF 'imprimaturlaw12.GrantsChain'. -/
def grantsChainCard : Claim7 := { stood := { row := grantsChainRow, standIns := [], harness := (true, "97cae60e75cc0bb6df43080f1b21d08f2fb6a8fef586f65a4eaeb7fff9ffd054"), looks := true }, kinds := [], alts := [], laidByText := true, laidKinds := [.data, .data, .data, .handle], laidTests := true, laidLooks := .later }
def GrantsChainCardSaid : Prop := Claim7.holds Tryz.pinned (.plain (OpenSpec.ofChange grantsChainSpec)) grantsChainCard

/-- THE TIED CARD OF 'imprimaturlaw12.GrantsErrors'. -/
def grantsErrorsCard : Claim7 := { stood := { row := grantsErrorsRow, standIns := [], harness := (true, "97cae60e75cc0bb6df43080f1b21d08f2fb6a8fef586f65a4eaeb7fff9ffd054"), looks := true }, kinds := [], alts := [], laidByText := true, laidKinds := [.data, .data, .data, .handle], laidTests := true, laidLooks := .later }
def GrantsErrorsCardSaid : Prop := Claim7.holds Tryz.pinned (.plain (OpenSpec.ofChange grantsErrorsSpec)) grantsErrorsCard

/-- THE TIED CARD OF 'imprimaturlaw12.GrantsPlay'. -/
def grantsPlayCard : Claim7 := { stood := { row := grantsPlayRow, standIns := [], harness := (true, "97cae60e75cc0bb6df43080f1b21d08f2fb6a8fef586f65a4eaeb7fff9ffd054"), looks := true }, kinds := [], alts := [], laidByText := true, laidKinds := [.data, .data, .data, .handle], laidTests := true, laidLooks := .later }
def GrantsPlayCardSaid : Prop := Claim7.holds Tryz.pinned (.plain (OpenSpec.ofChange grantsPlaySpec)) grantsPlayCard

/-- THE TIED CARD OF 'imprimaturlaw12.GrantsSound'. -/
def grantsSoundCard : Claim7 := { stood := { row := grantsSoundRow, standIns := [], harness := (true, "97cae60e75cc0bb6df43080f1b21d08f2fb6a8fef586f65a4eaeb7fff9ffd054"), looks := true }, kinds := [], alts := [], laidByText := true, laidKinds := [.data, .data, .data, .handle], laidTests := true, laidLooks := .later }
def GrantsSoundCardSaid : Prop := Claim7.holds Tryz.pinned (.plain (OpenSpec.ofChange grantsSoundSpec)) grantsSoundCard

/-- THE TIED CARD OF 'imprimaturlaw12.GrantsApart'. -/
def grantsApartCard : Claim7 := { stood := { row := grantsApartRow, standIns := [], harness := (true, "97cae60e75cc0bb6df43080f1b21d08f2fb6a8fef586f65a4eaeb7fff9ffd054"), looks := true }, kinds := [], alts := [], laidByText := true, laidKinds := [.data, .data, .data, .handle], laidTests := true, laidLooks := .later }
def GrantsApartCardSaid : Prop := Claim7.holds Tryz.pinned (.plain (OpenSpec.ofChange grantsApartSpec)) grantsApartCard

/-- THE TIED CARD OF 'imprimaturlaw12.GrantsGo'. -/
def grantsGoCard : Claim7 := { stood := { row := grantsGoRow, standIns := [], harness := (true, "97cae60e75cc0bb6df43080f1b21d08f2fb6a8fef586f65a4eaeb7fff9ffd054"), looks := true }, kinds := [], alts := [], laidByText := true, laidKinds := [.data, .data, .data, .handle], laidTests := true, laidLooks := .later }
def GrantsGoCardSaid : Prop := Claim7.holds Tryz.pinned (.plain (OpenSpec.ofChange grantsGoSpec)) grantsGoCard

/-- THE SECOND FORM's CARD OF 'imprimaturlaw11.RightsGive'. -/
def rightsGiveUptoCard : Claim7 := { stood := { row := rightsGiveUptoRow, standIns := [], harness := (true, "97cae60e75cc0bb6df43080f1b21d08f2fb6a8fef586f65a4eaeb7fff9ffd054"), looks := true }, kinds := [], alts := [], laidByText := true, laidKinds := [.data, .data, .data, .handle], laidTests := true, laidLooks := .later }
def RightsGiveUptoCardSaid : Prop := Claim7.holds Tryz.pinned (.plain (OpenSpec.upto rightsGiveSpec)) rightsGiveUptoCard

/-- THE SECOND FORM's CARD OF 'imprimaturlaw11.RightsCompile'. -/
def rightsCompileUptoCard : Claim7 := { stood := { row := rightsCompileUptoRow, standIns := [], harness := (true, "97cae60e75cc0bb6df43080f1b21d08f2fb6a8fef586f65a4eaeb7fff9ffd054"), looks := true }, kinds := [], alts := [], laidByText := true, laidKinds := [.data, .data, .data, .handle], laidTests := true, laidLooks := .later }
def RightsCompileUptoCardSaid : Prop := Claim7.holds Tryz.pinned (.plain (OpenSpec.upto rightsCompileSpec)) rightsCompileUptoCard

/-- THE SECOND FORM's CARD OF 'imprimaturlaw12.GrantsChain'. -/
def grantsChainUptoCard : Claim7 := { stood := { row := grantsChainUptoRow, standIns := [], harness := (true, "97cae60e75cc0bb6df43080f1b21d08f2fb6a8fef586f65a4eaeb7fff9ffd054"), looks := true }, kinds := [], alts := [], laidByText := true, laidKinds := [.data, .data, .data, .handle], laidTests := true, laidLooks := .later }
def GrantsChainUptoCardSaid : Prop := Claim7.holds Tryz.pinned (.plain (OpenSpec.upto grantsChainSpec)) grantsChainUptoCard

/-- THE SECOND FORM's CARD OF 'imprimaturlaw12.GrantsErrors'. -/
def grantsErrorsUptoCard : Claim7 := { stood := { row := grantsErrorsUptoRow, standIns := [], harness := (true, "97cae60e75cc0bb6df43080f1b21d08f2fb6a8fef586f65a4eaeb7fff9ffd054"), looks := true }, kinds := [], alts := [], laidByText := true, laidKinds := [.data, .data, .data, .handle], laidTests := true, laidLooks := .later }
def GrantsErrorsUptoCardSaid : Prop := Claim7.holds Tryz.pinned (.plain (OpenSpec.upto grantsErrorsSpec)) grantsErrorsUptoCard

/-- THE SECOND FORM's CARD OF 'imprimaturlaw12.GrantsPlay'. -/
def grantsPlayUptoCard : Claim7 := { stood := { row := grantsPlayUptoRow, standIns := [], harness := (true, "97cae60e75cc0bb6df43080f1b21d08f2fb6a8fef586f65a4eaeb7fff9ffd054"), looks := true }, kinds := [], alts := [], laidByText := true, laidKinds := [.data, .data, .data, .handle], laidTests := true, laidLooks := .later }
def GrantsPlayUptoCardSaid : Prop := Claim7.holds Tryz.pinned (.plain (OpenSpec.upto grantsPlaySpec)) grantsPlayUptoCard

/-- THE SECOND FORM's CARD OF 'imprimaturlaw12.GrantsSound'. -/
def grantsSoundUptoCard : Claim7 := { stood := { row := grantsSoundUptoRow, standIns := [], harness := (true, "97cae60e75cc0bb6df43080f1b21d08f2fb6a8fef586f65a4eaeb7fff9ffd054"), looks := true }, kinds := [], alts := [], laidByText := true, laidKinds := [.data, .data, .data, .handle], laidTests := true, laidLooks := .later }
def GrantsSoundUptoCardSaid : Prop := Claim7.holds Tryz.pinned (.plain (OpenSpec.upto grantsSoundSpec)) grantsSoundUptoCard

/-- THE SECOND FORM's CARD OF 'imprimaturlaw12.GrantsApart'. -/
def grantsApartUptoCard : Claim7 := { stood := { row := grantsApartUptoRow, standIns := [], harness := (true, "97cae60e75cc0bb6df43080f1b21d08f2fb6a8fef586f65a4eaeb7fff9ffd054"), looks := true }, kinds := [], alts := [], laidByText := true, laidKinds := [.data, .data, .data, .handle], laidTests := true, laidLooks := .later }
def GrantsApartUptoCardSaid : Prop := Claim7.holds Tryz.pinned (.plain (OpenSpec.upto grantsApartSpec)) grantsApartUptoCard

/-- THE SECOND FORM's CARD OF 'imprimaturlaw12.GrantsGo'. -/
def grantsGoUptoCard : Claim7 := { stood := { row := grantsGoUptoRow, standIns := [], harness := (true, "97cae60e75cc0bb6df43080f1b21d08f2fb6a8fef586f65a4eaeb7fff9ffd054"), looks := true }, kinds := [], alts := [], laidByText := true, laidKinds := [.data, .data, .data, .handle], laidTests := true, laidLooks := .later }
def GrantsGoUptoCardSaid : Prop := Claim7.holds Tryz.pinned (.plain (OpenSpec.upto grantsGoSpec)) grantsGoUptoCard
end Rows
end Go.Proofs.YtkalfhhdljndfaaGreatDoor
