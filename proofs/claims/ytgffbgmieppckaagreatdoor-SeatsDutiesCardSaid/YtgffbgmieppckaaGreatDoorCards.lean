/-
  DERIVED. GIVEN WITH THE SEED: THE CARDS: each row of YtgffbgmieppckaaGreatDoorRows.lean that lists a variable, with what it lists TIED to the program's text (the seventh form; the later family's looks); each row that meets fmt, with fmt's text TOLD by the authors' own Lean function (tested against real Go, not proved from fmt's source: count such statements apart). THE CARD IS WHAT COUNTS. Prove the row's statement (the work); the ties are given (YtgffbgmieppckaaGreatDoorTie.lean); close each card by the builder's one call (the guide's Derived/Test/ToyasCard.lean, 'card_holds'). Laid BY PROGRAM, IN A SANDBOX (cutbox-door.mjs). By AI agents, Wed Nov 11 2026. No macro, syntax, notation, axiom, sorry.
-/
import Derived.Test.YtgffbgmieppckaaGreatDoorRows
import GoSem.ClaimSeven
namespace Go.Proofs.YtgffbgmieppckaaGreatDoor
namespace Rows

/-- THE TIED CARD OF 'imprimaturlaw11.RightsCompile'. -/
def rightsCompileCard : Claim7 := { stood := { row := rightsCompileRow, standIns := [], harness := (true, "15c50cf28231bbfb5c187b3d90804a5a783208c3b5b96f807ed658feacdc655c"), looks := true }, kinds := [], alts := [], laidByText := true, laidKinds := [.data, .data, .data, .handle], laidTests := true, laidLooks := .later }
def RightsCompileCardSaid : Prop := Claim7.holds Tryz.pinned (.plain (OpenSpec.ofChange rightsCompileSpec)) rightsCompileCard

/-- THE TIED CARD OF 'imprimaturlaw12.GrantsPlay'. -/
def grantsPlayCard : Claim7 := { stood := { row := grantsPlayRow, standIns := [], harness := (true, "15c50cf28231bbfb5c187b3d90804a5a783208c3b5b96f807ed658feacdc655c"), looks := true }, kinds := [], alts := [], laidByText := true, laidKinds := [.data, .data, .data, .handle], laidTests := true, laidLooks := .later }
def GrantsPlayCardSaid : Prop := Claim7.holds Tryz.pinned (.plain (OpenSpec.ofChange grantsPlaySpec)) grantsPlayCard

/-- THE TIED CARD OF 'imprimaturlaw12.GrantsSound'. -/
def grantsSoundCard : Claim7 := { stood := { row := grantsSoundRow, standIns := [], harness := (true, "15c50cf28231bbfb5c187b3d90804a5a783208c3b5b96f807ed658feacdc655c"), looks := true }, kinds := [], alts := [], laidByText := true, laidKinds := [.data, .data, .data, .handle], laidTests := true, laidLooks := .later }
def GrantsSoundCardSaid : Prop := Claim7.holds Tryz.pinned (.plain (OpenSpec.ofChange grantsSoundSpec)) grantsSoundCard

/-- THE TIED CARD OF 'imprimaturlaw12.GrantsApart'. -/
def grantsApartCard : Claim7 := { stood := { row := grantsApartRow, standIns := [], harness := (true, "15c50cf28231bbfb5c187b3d90804a5a783208c3b5b96f807ed658feacdc655c"), looks := true }, kinds := [], alts := [], laidByText := true, laidKinds := [.data, .data, .data, .handle], laidTests := true, laidLooks := .later }
def GrantsApartCardSaid : Prop := Claim7.holds Tryz.pinned (.plain (OpenSpec.ofChange grantsApartSpec)) grantsApartCard

/-- THE TIED CARD OF 'imprimaturlaw12.GrantsGo'. -/
def grantsGoCard : Claim7 := { stood := { row := grantsGoRow, standIns := [], harness := (true, "15c50cf28231bbfb5c187b3d90804a5a783208c3b5b96f807ed658feacdc655c"), looks := true }, kinds := [], alts := [], laidByText := true, laidKinds := [.data, .data, .data, .handle], laidTests := true, laidLooks := .later }
def GrantsGoCardSaid : Prop := Claim7.holds Tryz.pinned (.plain (OpenSpec.ofChange grantsGoSpec)) grantsGoCard

/-- THE TIED CARD OF 'imprimaturlaw13.SeatsNumbers'. -/
def seatsNumbersCard : Claim7 := { stood := { row := seatsNumbersRow, standIns := [], harness := (true, "15c50cf28231bbfb5c187b3d90804a5a783208c3b5b96f807ed658feacdc655c"), looks := true }, kinds := [], alts := [], laidByText := true, laidKinds := [.data, .data, .data, .handle], laidTests := true, laidLooks := .later }
def SeatsNumbersCardSaid : Prop := Claim7.holds Tryz.pinned (.plain (OpenSpec.ofChange seatsNumbersSpec)) seatsNumbersCard

/-- THE TIED CARD OF 'imprimaturlaw13.SeatsDuties'. -/
def seatsDutiesCard : Claim7 := { stood := { row := seatsDutiesRow, standIns := [], harness := (true, "15c50cf28231bbfb5c187b3d90804a5a783208c3b5b96f807ed658feacdc655c"), looks := true }, kinds := [], alts := [], laidByText := true, laidKinds := [.data, .data, .data, .handle], laidTests := true, laidLooks := .later }
def SeatsDutiesCardSaid : Prop := Claim7.holds Tryz.pinned (.plain (OpenSpec.ofChange seatsDutiesSpec)) seatsDutiesCard

/-- THE TIED CARD OF 'imprimaturlaw13.SeatsPlay'. -/
def seatsPlayCard : Claim7 := { stood := { row := seatsPlayRow, standIns := [], harness := (true, "15c50cf28231bbfb5c187b3d90804a5a783208c3b5b96f807ed658feacdc655c"), looks := true }, kinds := [], alts := [], laidByText := true, laidKinds := [.data, .data, .data, .handle], laidTests := true, laidLooks := .later }
def SeatsPlayCardSaid : Prop := Claim7.holds Tryz.pinned (.plain (OpenSpec.ofChange seatsPlaySpec)) seatsPlayCard

/-- THE TIED CARD OF 'imprimaturlaw13.SeatsCarry'. -/
def seatsCarryCard : Claim7 := { stood := { row := seatsCarryRow, standIns := [], harness := (true, "15c50cf28231bbfb5c187b3d90804a5a783208c3b5b96f807ed658feacdc655c"), looks := true }, kinds := [], alts := [], laidByText := true, laidKinds := [.data, .data, .data, .handle], laidTests := true, laidLooks := .later }
def SeatsCarryCardSaid : Prop := Claim7.holds Tryz.pinned (.plain (OpenSpec.ofChange seatsCarrySpec)) seatsCarryCard

/-- THE TIED CARD OF 'imprimaturlaw13.SeatsApart'. -/
def seatsApartCard : Claim7 := { stood := { row := seatsApartRow, standIns := [], harness := (true, "15c50cf28231bbfb5c187b3d90804a5a783208c3b5b96f807ed658feacdc655c"), looks := true }, kinds := [], alts := [], laidByText := true, laidKinds := [.data, .data, .data, .handle], laidTests := true, laidLooks := .later }
def SeatsApartCardSaid : Prop := Claim7.holds Tryz.pinned (.plain (OpenSpec.ofChange seatsApartSpec)) seatsApartCard

/-- THE SECOND FORM's CARD OF 'imprimaturlaw11.RightsCompile'. -/
def rightsCompileUptoCard : Claim7 := { stood := { row := rightsCompileUptoRow, standIns := [], harness := (true, "15c50cf28231bbfb5c187b3d90804a5a783208c3b5b96f807ed658feacdc655c"), looks := true }, kinds := [], alts := [], laidByText := true, laidKinds := [.data, .data, .data, .handle], laidTests := true, laidLooks := .later }
def RightsCompileUptoCardSaid : Prop := Claim7.holds Tryz.pinned (.plain (OpenSpec.upto rightsCompileSpec)) rightsCompileUptoCard

/-- THE SECOND FORM's CARD OF 'imprimaturlaw12.GrantsPlay'. -/
def grantsPlayUptoCard : Claim7 := { stood := { row := grantsPlayUptoRow, standIns := [], harness := (true, "15c50cf28231bbfb5c187b3d90804a5a783208c3b5b96f807ed658feacdc655c"), looks := true }, kinds := [], alts := [], laidByText := true, laidKinds := [.data, .data, .data, .handle], laidTests := true, laidLooks := .later }
def GrantsPlayUptoCardSaid : Prop := Claim7.holds Tryz.pinned (.plain (OpenSpec.upto grantsPlaySpec)) grantsPlayUptoCard

/-- THE SECOND FORM's CARD OF 'imprimaturlaw12.GrantsSound'. -/
def grantsSoundUptoCard : Claim7 := { stood := { row := grantsSoundUptoRow, standIns := [], harness := (true, "15c50cf28231bbfb5c187b3d90804a5a783208c3b5b96f807ed658feacdc655c"), looks := true }, kinds := [], alts := [], laidByText := true, laidKinds := [.data, .data, .data, .handle], laidTests := true, laidLooks := .later }
def GrantsSoundUptoCardSaid : Prop := Claim7.holds Tryz.pinned (.plain (OpenSpec.upto grantsSoundSpec)) grantsSoundUptoCard

/-- THE SECOND FORM's CARD OF 'imprimaturlaw12.GrantsApart'. -/
def grantsApartUptoCard : Claim7 := { stood := { row := grantsApartUptoRow, standIns := [], harness := (true, "15c50cf28231bbfb5c187b3d90804a5a783208c3b5b96f807ed658feacdc655c"), looks := true }, kinds := [], alts := [], laidByText := true, laidKinds := [.data, .data, .data, .handle], laidTests := true, laidLooks := .later }
def GrantsApartUptoCardSaid : Prop := Claim7.holds Tryz.pinned (.plain (OpenSpec.upto grantsApartSpec)) grantsApartUptoCard

/-- THE SECOND FORM's CARD OF 'imprimaturlaw12.GrantsGo'. -/
def grantsGoUptoCard : Claim7 := { stood := { row := grantsGoUptoRow, standIns := [], harness := (true, "15c50cf28231bbfb5c187b3d90804a5a783208c3b5b96f807ed658feacdc655c"), looks := true }, kinds := [], alts := [], laidByText := true, laidKinds := [.data, .data, .data, .handle], laidTests := true, laidLooks := .later }
def GrantsGoUptoCardSaid : Prop := Claim7.holds Tryz.pinned (.plain (OpenSpec.upto grantsGoSpec)) grantsGoUptoCard

/-- THE SECOND FORM's CARD OF 'imprimaturlaw13.SeatsNumbers'. -/
def seatsNumbersUptoCard : Claim7 := { stood := { row := seatsNumbersUptoRow, standIns := [], harness := (true, "15c50cf28231bbfb5c187b3d90804a5a783208c3b5b96f807ed658feacdc655c"), looks := true }, kinds := [], alts := [], laidByText := true, laidKinds := [.data, .data, .data, .handle], laidTests := true, laidLooks := .later }
def SeatsNumbersUptoCardSaid : Prop := Claim7.holds Tryz.pinned (.plain (OpenSpec.upto seatsNumbersSpec)) seatsNumbersUptoCard

/-- THE SECOND FORM's CARD OF 'imprimaturlaw13.SeatsDuties'. -/
def seatsDutiesUptoCard : Claim7 := { stood := { row := seatsDutiesUptoRow, standIns := [], harness := (true, "15c50cf28231bbfb5c187b3d90804a5a783208c3b5b96f807ed658feacdc655c"), looks := true }, kinds := [], alts := [], laidByText := true, laidKinds := [.data, .data, .data, .handle], laidTests := true, laidLooks := .later }
def SeatsDutiesUptoCardSaid : Prop := Claim7.holds Tryz.pinned (.plain (OpenSpec.upto seatsDutiesSpec)) seatsDutiesUptoCard

/-- THE SECOND FORM's CARD OF 'imprimaturlaw13.SeatsPlay'. -/
def seatsPlayUptoCard : Claim7 := { stood := { row := seatsPlayUptoRow, standIns := [], harness := (true, "15c50cf28231bbfb5c187b3d90804a5a783208c3b5b96f807ed658feacdc655c"), looks := true }, kinds := [], alts := [], laidByText := true, laidKinds := [.data, .data, .data, .handle], laidTests := true, laidLooks := .later }
def SeatsPlayUptoCardSaid : Prop := Claim7.holds Tryz.pinned (.plain (OpenSpec.upto seatsPlaySpec)) seatsPlayUptoCard

/-- THE SECOND FORM's CARD OF 'imprimaturlaw13.SeatsCarry'. -/
def seatsCarryUptoCard : Claim7 := { stood := { row := seatsCarryUptoRow, standIns := [], harness := (true, "15c50cf28231bbfb5c187b3d90804a5a783208c3b5b96f807ed658feacdc655c"), looks := true }, kinds := [], alts := [], laidByText := true, laidKinds := [.data, .data, .data, .handle], laidTests := true, laidLooks := .later }
def SeatsCarryUptoCardSaid : Prop := Claim7.holds Tryz.pinned (.plain (OpenSpec.upto seatsCarrySpec)) seatsCarryUptoCard

/-- THE SECOND FORM's CARD OF 'imprimaturlaw13.SeatsApart'. -/
def seatsApartUptoCard : Claim7 := { stood := { row := seatsApartUptoRow, standIns := [], harness := (true, "15c50cf28231bbfb5c187b3d90804a5a783208c3b5b96f807ed658feacdc655c"), looks := true }, kinds := [], alts := [], laidByText := true, laidKinds := [.data, .data, .data, .handle], laidTests := true, laidLooks := .later }
def SeatsApartUptoCardSaid : Prop := Claim7.holds Tryz.pinned (.plain (OpenSpec.upto seatsApartSpec)) seatsApartUptoCard
end Rows
end Go.Proofs.YtgffbgmieppckaaGreatDoor
