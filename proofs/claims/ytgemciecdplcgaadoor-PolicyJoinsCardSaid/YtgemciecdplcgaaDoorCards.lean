/-
  DERIVED. GIVEN WITH THE SEED: THE CARDS: each row of YtgemciecdplcgaaDoorRows.lean that lists a variable, with what it lists TIED to the program's text (the seventh form; the later family's looks); each row that meets fmt, with fmt's text TOLD by the authors' own Lean function (tested against real Go, not proved from fmt's source: count such statements apart). THE CARD IS WHAT COUNTS. Prove the row's statement (the work); the ties are given (YtgemciecdplcgaaDoorTie.lean); close each card by the builder's one call (the guide's Derived/Test/ToyasCard.lean, 'card_holds'). Laid BY PROGRAM, IN A SANDBOX (cutbox-door.mjs). By AI agents, Wed Nov 11 2026. No macro, syntax, notation, axiom, sorry.
-/
import Derived.Test.YtgemciecdplcgaaDoorRows
import GoSem.ClaimSeven
namespace Go.Proofs.YtgemciecdplcgaaDoor
namespace Rows

/-- THE TIED CARD OF 'imprimaturlaw03.PolicyLimits'. -/
def policyLimitsCard : Claim7 := { stood := { row := policyLimitsRow, standIns := [], harness := (true, "f25f77eb9d9af7c7bb5e590797845935d5a43c0fda31f7eeccbccfb7bb9cc2e8"), looks := true }, kinds := [], alts := [], laidByText := true, laidKinds := [.data, .handle, .pinned], laidTests := true, laidLooks := .later }
def PolicyLimitsCardSaid : Prop := Claim7.holds Tryd.pinned (.plain (OpenSpec.ofChange policyLimitsSpec)) policyLimitsCard

/-- THE TIED CARD OF 'imprimaturlaw03.PolicyJoins'. -/
def policyJoinsCard : Claim7 := { stood := { row := policyJoinsRow, standIns := [], harness := (true, "f25f77eb9d9af7c7bb5e590797845935d5a43c0fda31f7eeccbccfb7bb9cc2e8"), looks := true }, kinds := [], alts := [], laidByText := true, laidKinds := [.data, .pinned], laidTests := true, laidLooks := .later }
def PolicyJoinsCardSaid : Prop := Claim7.holds Tryd.pinned (.plain (OpenSpec.ofChange policyJoinsSpec)) policyJoinsCard

/-- THE TIED CARD OF 'imprimaturlaw03.PolicyKinds'. -/
def policyKindsCard : Claim7 := { stood := { row := policyKindsRow, standIns := [], harness := (true, "f25f77eb9d9af7c7bb5e590797845935d5a43c0fda31f7eeccbccfb7bb9cc2e8"), looks := true }, kinds := [], alts := [], laidByText := true, laidKinds := [.data, .pinned], laidTests := true, laidLooks := .later }
def PolicyKindsCardSaid : Prop := Claim7.holds Tryd.pinned (.plain (OpenSpec.ofChange policyKindsSpec)) policyKindsCard

/-- THE SECOND FORM's CARD OF 'imprimaturlaw03.PolicyLimits'. -/
def policyLimitsUptoCard : Claim7 := { stood := { row := policyLimitsUptoRow, standIns := [], harness := (true, "f25f77eb9d9af7c7bb5e590797845935d5a43c0fda31f7eeccbccfb7bb9cc2e8"), looks := true }, kinds := [], alts := [], laidByText := true, laidKinds := [.data, .handle, .pinned], laidTests := true, laidLooks := .later }
def PolicyLimitsUptoCardSaid : Prop := Claim7.holds Tryd.pinned (.plain (OpenSpec.upto policyLimitsSpec)) policyLimitsUptoCard

/-- THE SECOND FORM's CARD OF 'imprimaturlaw03.PolicyJoins'. -/
def policyJoinsUptoCard : Claim7 := { stood := { row := policyJoinsUptoRow, standIns := [], harness := (true, "f25f77eb9d9af7c7bb5e590797845935d5a43c0fda31f7eeccbccfb7bb9cc2e8"), looks := true }, kinds := [], alts := [], laidByText := true, laidKinds := [.data, .pinned], laidTests := true, laidLooks := .later }
def PolicyJoinsUptoCardSaid : Prop := Claim7.holds Tryd.pinned (.plain (OpenSpec.upto policyJoinsSpec)) policyJoinsUptoCard

/-- THE SECOND FORM's CARD OF 'imprimaturlaw03.PolicyKinds'. -/
def policyKindsUptoCard : Claim7 := { stood := { row := policyKindsUptoRow, standIns := [], harness := (true, "f25f77eb9d9af7c7bb5e590797845935d5a43c0fda31f7eeccbccfb7bb9cc2e8"), looks := true }, kinds := [], alts := [], laidByText := true, laidKinds := [.data, .pinned], laidTests := true, laidLooks := .later }
def PolicyKindsUptoCardSaid : Prop := Claim7.holds Tryd.pinned (.plain (OpenSpec.upto policyKindsSpec)) policyKindsUptoCard
end Rows
end Go.Proofs.YtgemciecdplcgaaDoor
