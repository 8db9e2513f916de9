/-
  No cell of these rows narrows 'for every input' (looked for: loops, veiled, ifaces, maps, wideKeys, modest, calm, conditions, laid).
  DERIVED. THE GIVEN ROWS OF THIS SEAT. 6 by the template 'for every input the law returns true; each argument reads behind the call as it read before'; 0 by the template 'total and deterministic' (their statements: YtaolebdcmdmnjaaTotals.lean).
  GIVEN WITH THE SEED: the statements are not yours to turn. If you find one false, say at which input.
  Laid BY PROGRAM, IN A SANDBOX (cutbox-rows.mjs): the forced cells as the released guide's own fill.sh prints them over the translation cec003fc3a7a4d97… (all of the seat's roots in one cut). By AI agents, Wed Nov 11 2026. No macro, syntax, notation, axiom, sorry.
-/
import Derived.Test.YtaolebdcmdmnjaaChecked
import GoSem.Claim
import GoSem.ClaimJoined
import GoSem.ClaimMapViews
import Derived.JoinedTies
import Derived.KernelRfl
namespace Go.Proofs.Ytaolebdcmdmnjaa
/- THE CELL 'sum', in the pinned program and in every row, IS THE sha256 OF THE DUMP (.gsa) THAT YtaolebdcmdmnjaaProg.lean LOADS. Nothing in Lean hashes anything: it is a label: what it is worth is what the hold of that sum in a sandbox is worth. -/
noncomputable def Try.pinned : Pinned := { name := "ytaolebdcmdmnjaa", sum := "cec003fc3a7a4d9739ca7642a0645dd2df2348e82953e7f2951b8ce7b3ee7657", checked := Try.checked }
namespace Rows
def none {H : Type} : Left H := { results := [], args := [] }

/-- 'imprimaturlaw07.EnterStart': WHATEVER THE INPUT: true; the input reads as it did. -/
def enterStartSpec : ChangeSpec := { name := "enterStart", fn := fun _ => fun
  | [d] => { results := [.lit (.bool true)], args := [d] }
  | _ => none }
def enterStartRow : OpenClaim := { program := "ytaolebdcmdmnjaa", sum := "cec003fc3a7a4d9739ca7642a0645dd2df2348e82953e7f2951b8ce7b3ee7657", func := "imprimatur/imprimaturlaw07.EnterStart", spec := "enterStart", recurses := true, apart := false }
def EnterStartSaid : Prop := enterStartRow.holds Try.pinned (OpenSpec.ofChange enterStartSpec)

/-- ITS FALSE NEIGHBOUR: 'it returns false'. Refute it at one input. -/
def enterStartWrong : ChangeSpec := { name := "enterStart", fn := fun _ => fun
  | [d] => { results := [.lit (.bool false)], args := [d] }
  | _ => none }
def EnterStartWrongFalsely : Prop := enterStartRow.holds Try.pinned (OpenSpec.ofChange enterStartWrong)

/-- 'imprimaturlaw07.EnterSelf': WHATEVER THE INPUT: true; the input reads as it did. -/
def enterSelfSpec : ChangeSpec := { name := "enterSelf", fn := fun _ => fun
  | [d1, d2, d3, d4, d5] => { results := [.lit (.bool true)], args := [d1, d2, d3, d4, d5] }
  | _ => none }
def enterSelfRow : OpenClaim := { program := "ytaolebdcmdmnjaa", sum := "cec003fc3a7a4d9739ca7642a0645dd2df2348e82953e7f2951b8ce7b3ee7657", func := "imprimatur/imprimaturlaw07.EnterSelf", spec := "enterSelf", inPlace := ["slices.overlaps[int]"], recurses := true, apart := false }
def EnterSelfSaid : Prop := enterSelfRow.holds Try.pinned (OpenSpec.ofChange enterSelfSpec)

/-- ITS FALSE NEIGHBOUR: 'it returns false'. Refute it at one input. -/
def enterSelfWrong : ChangeSpec := { name := "enterSelf", fn := fun _ => fun
  | [d1, d2, d3, d4, d5] => { results := [.lit (.bool false)], args := [d1, d2, d3, d4, d5] }
  | _ => none }
def EnterSelfWrongFalsely : Prop := enterSelfRow.holds Try.pinned (OpenSpec.ofChange enterSelfWrong)

/-- 'imprimaturlaw07.EnterMemory': WHATEVER THE INPUT: true; the input reads as it did. -/
def enterMemorySpec : ChangeSpec := { name := "enterMemory", fn := fun _ => fun
  | [d1, d2, d3, d4] => { results := [.lit (.bool true)], args := [d1, d2, d3, d4] }
  | _ => none }
def enterMemoryRow : OpenClaim := { program := "ytaolebdcmdmnjaa", sum := "cec003fc3a7a4d9739ca7642a0645dd2df2348e82953e7f2951b8ce7b3ee7657", func := "imprimatur/imprimaturlaw07.EnterMemory", spec := "enterMemory", unfollowed := true, recurses := true, apart := false }
def EnterMemorySaid : Prop := enterMemoryRow.holds Try.pinned (OpenSpec.ofChange enterMemorySpec)

/-- ITS FALSE NEIGHBOUR: 'it returns false'. Refute it at one input. -/
def enterMemoryWrong : ChangeSpec := { name := "enterMemory", fn := fun _ => fun
  | [d1, d2, d3, d4] => { results := [.lit (.bool false)], args := [d1, d2, d3, d4] }
  | _ => none }
def EnterMemoryWrongFalsely : Prop := enterMemoryRow.holds Try.pinned (OpenSpec.ofChange enterMemoryWrong)

/-- 'imprimaturlaw07.EnterTells': WHATEVER THE INPUT: true; the input reads as it did. -/
def enterTellsSpec : ChangeSpec := { name := "enterTells", fn := fun _ => fun
  | [d1, d2, d3, d4, d5] => { results := [.lit (.bool true)], args := [d1, d2, d3, d4, d5] }
  | _ => none }
def enterTellsRow : OpenClaim := { program := "ytaolebdcmdmnjaa", sum := "cec003fc3a7a4d9739ca7642a0645dd2df2348e82953e7f2951b8ce7b3ee7657", func := "imprimatur/imprimaturlaw07.EnterTells", spec := "enterTells", inPlace := ["slices.overlaps[int]"], unfollowed := true, recurses := true, apart := false }
def EnterTellsSaid : Prop := enterTellsRow.holds Try.pinned (OpenSpec.ofChange enterTellsSpec)

/-- ITS FALSE NEIGHBOUR: 'it returns false'. Refute it at one input. -/
def enterTellsWrong : ChangeSpec := { name := "enterTells", fn := fun _ => fun
  | [d1, d2, d3, d4, d5] => { results := [.lit (.bool false)], args := [d1, d2, d3, d4, d5] }
  | _ => none }
def EnterTellsWrongFalsely : Prop := enterTellsRow.holds Try.pinned (OpenSpec.ofChange enterTellsWrong)

/-- 'imprimaturlaw07.EnterProper': WHATEVER THE INPUT: true; the input reads as it did. -/
def enterProperSpec : ChangeSpec := { name := "enterProper", fn := fun _ => fun
  | [d1, d2, d3, d4, d5] => { results := [.lit (.bool true)], args := [d1, d2, d3, d4, d5] }
  | _ => none }
def enterProperRow : OpenClaim := { program := "ytaolebdcmdmnjaa", sum := "cec003fc3a7a4d9739ca7642a0645dd2df2348e82953e7f2951b8ce7b3ee7657", func := "imprimatur/imprimaturlaw07.EnterProper", spec := "enterProper", inPlace := ["slices.overlaps[int]"], recurses := true, apart := false }
def EnterProperSaid : Prop := enterProperRow.holds Try.pinned (OpenSpec.ofChange enterProperSpec)

/-- ITS FALSE NEIGHBOUR: 'it returns false'. Refute it at one input. -/
def enterProperWrong : ChangeSpec := { name := "enterProper", fn := fun _ => fun
  | [d1, d2, d3, d4, d5] => { results := [.lit (.bool false)], args := [d1, d2, d3, d4, d5] }
  | _ => none }
def EnterProperWrongFalsely : Prop := enterProperRow.holds Try.pinned (OpenSpec.ofChange enterProperWrong)

/-- 'imprimaturlaw07.EnterBack': WHATEVER THE INPUT: true; the input reads as it did. -/
def enterBackSpec : ChangeSpec := { name := "enterBack", fn := fun _ => fun
  | [d1, d2, d3, d4] => { results := [.lit (.bool true)], args := [d1, d2, d3, d4] }
  | _ => none }
def enterBackRow : OpenClaim := { program := "ytaolebdcmdmnjaa", sum := "cec003fc3a7a4d9739ca7642a0645dd2df2348e82953e7f2951b8ce7b3ee7657", func := "imprimatur/imprimaturlaw07.EnterBack", spec := "enterBack", inPlace := ["slices.overlaps[int]"], unfollowed := true, recurses := true, apart := false }
def EnterBackSaid : Prop := enterBackRow.holds Try.pinned (OpenSpec.ofChange enterBackSpec)

/-- ITS FALSE NEIGHBOUR: 'it returns false'. Refute it at one input. -/
def enterBackWrong : ChangeSpec := { name := "enterBack", fn := fun _ => fun
  | [d1, d2, d3, d4] => { results := [.lit (.bool false)], args := [d1, d2, d3, d4] }
  | _ => none }
def EnterBackWrongFalsely : Prop := enterBackRow.holds Try.pinned (OpenSpec.ofChange enterBackWrong)

/- THE SECOND FORM. 'bulk': how many values and letters a reading holds, each counted each time it is reached (what is shared counts as often as it is met; a slice's spare places count too). A statement '..UptoSaid' is the law's where the arguments, and the package variables that the reading takes, are together of bulk at most 1048576: NARROWER than '..Said'. Prove '..Said' where nothing that the law and all that it calls make is longer than what came in: it says more and counts as full. Else prove '..UptoSaid'. A law counts once. -/
mutual
def uptoBulk {H : Type} : DataW H → Nat
  | .lit (.string bytes) => bytes.length + 1
  | .lit _ => 1
  | .nil => 1
  | .ptr d => uptoBulk d + 1
  | .slice elems spare => uptoBulkAll elems + uptoBulkAll spare + 1
  | .agg parts => uptoBulkAll parts + 1
  | .iface _ d => uptoBulk d + 1
  | .map entries => uptoBulkEntries entries + 1
  | .held _ => 1
def uptoBulkAll {H : Type} : List (DataW H) → Nat
  | [] => 0
  | d :: r => uptoBulk d + uptoBulkAll r
def uptoBulkEntries {H : Type} : List (Lit × DataW H) → Nat
  | [] => 0
  | x :: r => uptoBulkEntry x + uptoBulkEntries r
def uptoBulkEntry {H : Type} : Lit × DataW H → Nat
  | (.string bytes, d) => bytes.length + uptoBulk d + 1
  | (_, d) => uptoBulk d + 1
 end
def uptoSmall : (H : Type) → List (DataW H) → Bool := fun _ ds => decide (uptoBulkAll ds ≤ 1048576)
def OpenSpec.upto (s : _root_.Go.ChangeSpec) : _root_.Go.OpenSpec := { _root_.Go.OpenSpec.ofChange s with cond := some uptoSmall }

/-- 'imprimaturlaw07.EnterStart', WHERE WHAT IT READS IS OF BULK AT MOST 1048576: true; the input reads as it did. -/
def enterStartUptoRow : OpenClaim := { program := "ytaolebdcmdmnjaa", sum := "cec003fc3a7a4d9739ca7642a0645dd2df2348e82953e7f2951b8ce7b3ee7657", func := "imprimatur/imprimaturlaw07.EnterStart", spec := "enterStart", recurses := true, apart := false, narrowed := true }
def EnterStartUptoSaid : Prop := enterStartUptoRow.holds Try.pinned (OpenSpec.upto enterStartSpec)

/-- 'imprimaturlaw07.EnterSelf', WHERE WHAT IT READS IS OF BULK AT MOST 1048576: true; the input reads as it did. -/
def enterSelfUptoRow : OpenClaim := { program := "ytaolebdcmdmnjaa", sum := "cec003fc3a7a4d9739ca7642a0645dd2df2348e82953e7f2951b8ce7b3ee7657", func := "imprimatur/imprimaturlaw07.EnterSelf", spec := "enterSelf", inPlace := ["slices.overlaps[int]"], recurses := true, apart := false, narrowed := true }
def EnterSelfUptoSaid : Prop := enterSelfUptoRow.holds Try.pinned (OpenSpec.upto enterSelfSpec)

/-- 'imprimaturlaw07.EnterMemory', WHERE WHAT IT READS IS OF BULK AT MOST 1048576: true; the input reads as it did. -/
def enterMemoryUptoRow : OpenClaim := { program := "ytaolebdcmdmnjaa", sum := "cec003fc3a7a4d9739ca7642a0645dd2df2348e82953e7f2951b8ce7b3ee7657", func := "imprimatur/imprimaturlaw07.EnterMemory", spec := "enterMemory", unfollowed := true, recurses := true, apart := false, narrowed := true }
def EnterMemoryUptoSaid : Prop := enterMemoryUptoRow.holds Try.pinned (OpenSpec.upto enterMemorySpec)

/-- 'imprimaturlaw07.EnterTells', WHERE WHAT IT READS IS OF BULK AT MOST 1048576: true; the input reads as it did. -/
def enterTellsUptoRow : OpenClaim := { program := "ytaolebdcmdmnjaa", sum := "cec003fc3a7a4d9739ca7642a0645dd2df2348e82953e7f2951b8ce7b3ee7657", func := "imprimatur/imprimaturlaw07.EnterTells", spec := "enterTells", inPlace := ["slices.overlaps[int]"], unfollowed := true, recurses := true, apart := false, narrowed := true }
def EnterTellsUptoSaid : Prop := enterTellsUptoRow.holds Try.pinned (OpenSpec.upto enterTellsSpec)

/-- 'imprimaturlaw07.EnterProper', WHERE WHAT IT READS IS OF BULK AT MOST 1048576: true; the input reads as it did. -/
def enterProperUptoRow : OpenClaim := { program := "ytaolebdcmdmnjaa", sum := "cec003fc3a7a4d9739ca7642a0645dd2df2348e82953e7f2951b8ce7b3ee7657", func := "imprimatur/imprimaturlaw07.EnterProper", spec := "enterProper", inPlace := ["slices.overlaps[int]"], recurses := true, apart := false, narrowed := true }
def EnterProperUptoSaid : Prop := enterProperUptoRow.holds Try.pinned (OpenSpec.upto enterProperSpec)

/-- 'imprimaturlaw07.EnterBack', WHERE WHAT IT READS IS OF BULK AT MOST 1048576: true; the input reads as it did. -/
def enterBackUptoRow : OpenClaim := { program := "ytaolebdcmdmnjaa", sum := "cec003fc3a7a4d9739ca7642a0645dd2df2348e82953e7f2951b8ce7b3ee7657", func := "imprimatur/imprimaturlaw07.EnterBack", spec := "enterBack", inPlace := ["slices.overlaps[int]"], unfollowed := true, recurses := true, apart := false, narrowed := true }
def EnterBackUptoSaid : Prop := enterBackUptoRow.holds Try.pinned (OpenSpec.upto enterBackSpec)

end Rows
end Go.Proofs.Ytaolebdcmdmnjaa
