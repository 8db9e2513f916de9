/-
  rule.Print: numbers and names: a rule's fields as arrays.
-/
import Derived.Test.YtkalfhhdljndfaaSameL
import Derived.LaidEql
import Derived.Lib.IfaceEq
import Derived.Stop.Asserts
import Derived.RowKitTokens
import Derived.Test.YtkalfhhdljndfaaOkP
import Derived.Deep.Onto
import Derived.Deep.DeepCutAuto
import Derived.StillTailTactics
import Derived.Test.YtkalfhhdljndfaaPlain03
import Derived.Laws.ResultCell
import Derived.Test.YtkalfhhdljndfaaOwn
import Derived.OwnWalk
import Derived.Deep.DeepMust
import Derived.Lib.BitFns
namespace Go.Proofs.Ytkalfhhdljndfaa
set_option maxRecDepth 100000
open Go.ChangeShapes Go.WideShapes Go.ChangeAt Go.RowKit

/-- texts in the cells of a slice, wherever it lies -/
def LAt (w : World) (A : Option Addr) (c : Nat) (l : List Tx) : Prop := l.length ≤ c ∧ l.length ≤ 9223372036854775807 ∧ ∀ j (hj : j < l.length), ∃ g off, A = some ⟨g, off, none⟩ ∧ g < w.heap.size ∧ w.cell? ⟨g, off + j, none⟩ = some (.string (bs l[j]))
theorem LAt.below {w w' : World} {A : Option Addr} {c : Nat} {l : List Tx} (h : LAt w A c l) (hb : Below w.heap.size w w') : LAt w' A c l :=
  ⟨h.1, h.2.1, fun j hj => let ⟨g, off, e, hl, hc⟩ := h.2.2 j hj; ⟨g, off, e, Nat.lt_of_lt_of_le hl hb.size, (hb.cell hl).trans hc⟩⟩
end Go.Proofs.Ytkalfhhdljndfaa
namespace Go.Proofs.Ytkalfhhdljndfaa
set_option maxRecDepth 100000
open Go.ChangeShapes Go.WideShapes Go.ChangeAt Go.RowKit

end Go.Proofs.Ytkalfhhdljndfaa
/-
  The reader of the document, its parts.
-/
namespace Go.Proofs.Ytkalfhhdljndfaa
set_option maxRecDepth 100000
open Go.ChangeShapes Go.WideShapes Go.ChangeAt Go.RowKit

theorem WAt.grown {w w' : World} {g : Nat} {ws : List (Nat × Tx)} {r : Option Nat} (h : WAt w g 0 ws) (hg : w.grownBy w' r) (hne : some g ≠ r) : WAt w' g 0 ws := fun j hj =>
  ⟨hg.cell (h j hj).1 (by simpa using hne), hg.cell (h j hj).2.1 (by simpa using hne), (h j hj).2.2⟩
end Go.Proofs.Ytkalfhhdljndfaa
namespace Go.Proofs.Ytkalfhhdljndfaa
set_option maxRecDepth 100000
open Go.ChangeShapes Go.WideShapes Go.ChangeAt Go.RowKit

end Go.Proofs.Ytkalfhhdljndfaa
namespace Go.Proofs.Ytkalfhhdljndfaa
set_option maxRecDepth 100000
open Go.ChangeShapes Go.WideShapes Go.ChangeAt Go.RowKit

end Go.Proofs.Ytkalfhhdljndfaa
namespace Go.Proofs.Ytkalfhhdljndfaa
set_option maxRecDepth 100000
open Go.ChangeShapes Go.WideShapes Go.ChangeAt Go.RowKit

end Go.Proofs.Ytkalfhhdljndfaa
namespace Go.Proofs.Ytkalfhhdljndfaa
set_option maxRecDepth 100000
open Go.ChangeShapes Go.WideShapes Go.ChangeAt Go.RowKit

end Go.Proofs.Ytkalfhhdljndfaa
/-
  How many bits of a number are 1; which sets are broken: plain, no program in it.
-/
namespace Go.Proofs.Ytkalfhhdljndfaa
set_option maxRecDepth 100000

/-- how many of the first k bits are 1 -/
def cntTo (s : Nat) : Nat → Nat
  | 0 => 0
  | k + 1 => cntTo s k + (s.testBit k).toNat
def cnt (s : Nat) : Nat := cntTo s 32
end Go.Proofs.Ytkalfhhdljndfaa
