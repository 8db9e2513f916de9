/-
  Bytes; the plain; words.Split.
-/
import Derived.Test.YtkalfhhdljndfaaWth
import Derived.WalkKit
import Derived.ProofKit
import Derived.OpenShut
import Derived.BigQuiet
import Derived.BigCall
import Derived.Deep.QuietTactic
import Derived.Lib.Hide
import Derived.Lib.Bytealg
import Derived.Lib.Strings
import Derived.Laws.Externs
import Derived.Outline
import Derived.Below
import Derived.Laws.OwnMore
import Derived.OwnWalk
import Derived.Deep.DeepMust
import Derived.WalkSpells
import Derived.Laws.DeepStrings4
import Derived.Maps.OwnSet
namespace Go.Proofs.Ytkalfhhdljndfaa
set_option maxRecDepth 100000
open Go.ChangeShapes Go.WideShapes Go.ChangeAt Go.RowKit

def digB (c : Int) : Bool := decide (48 ≤ c) && decide (c ≤ 57)
def nameB (c : Int) : Bool := (decide (97 ≤ c) && decide (c ≤ 122)) || digB c || (c == 95) || (c == 45)

/-- what stands ahead of the first byte c -/
def upTo (c : UInt8) (l : List UInt8) : List UInt8 := l.takeWhile (· != c)
end Go.Proofs.Ytkalfhhdljndfaa
namespace Go.Proofs.Ytkalfhhdljndfaa
set_option maxRecDepth 100000

/-- what is ahead of the first blank -/
def word (l : List UInt8) : List UInt8 := upTo 32 l
/-- names and numbers -/
def allB (p : Int → Bool) (l : List UInt8) : Bool := l.all fun b => p b.toNat
def nameL (l : List UInt8) : Bool := decide (1 ≤ l.length) && decide (l.length ≤ 12) && allB nameB l
def valL (l : List UInt8) : Nat := l.foldl (fun n b => n * 10 + (b.toNat - 48)) 0
def isNum (l : List UInt8) : Bool := decide (1 ≤ l.length) && decide (l.length ≤ 9) && !(l.head? == some 48 && decide (1 < l.length)) && allB digB l
end Go.Proofs.Ytkalfhhdljndfaa
namespace Go.Proofs.Ytkalfhhdljndfaa
set_option maxRecDepth 100000
open Go.ChangeShapes Go.WideShapes Go.ChangeAt Go.RowKit

end Go.Proofs.Ytkalfhhdljndfaa
namespace Go.Proofs.Ytkalfhhdljndfaa
set_option maxRecDepth 100000
open Go.ChangeShapes Go.WideShapes Go.ChangeAt Go.RowKit

end Go.Proofs.Ytkalfhhdljndfaa
/-
  Lists of texts in cells.
-/
namespace Go.Proofs.Ytkalfhhdljndfaa
set_option maxRecDepth 100000
open Go.ChangeShapes Go.WideShapes Go.ChangeAt Go.RowKit

abbrev Tx := List UInt8
/-- a list's cells, wherever they lie -/
def ListAt (w : World) (A : Option Addr) (c : Nat) (l : List Tx) : Prop := l.length ≤ c ∧ ∀ j (hj : j < l.length), ∃ g, A = some ⟨g, 0, none⟩ ∧ g < w.heap.size ∧ w.cell? ⟨g, j, none⟩ = some (.string (bs l[j]))
theorem ListAt.below {w w' : World} {A : Option Addr} {c : Nat} {l : List Tx} (h : ListAt w A c l) (hb : Below w.heap.size w w') : ListAt w' A c l :=
  ⟨h.1, fun j hj => let ⟨g, e, hl, hc⟩ := h.2 j hj; ⟨g, e, Nat.lt_of_lt_of_le hl hb.size, (hb.cell hl).trans hc⟩⟩
end Go.Proofs.Ytkalfhhdljndfaa
namespace Go.Proofs.Ytkalfhhdljndfaa
set_option maxRecDepth 100000
open Go.ChangeShapes Go.WideShapes Go.ChangeAt Go.RowKit Go.Maps Go.WideMaps Go.ChangeMaps

end Go.Proofs.Ytkalfhhdljndfaa
namespace Go.Proofs.Ytkalfhhdljndfaa
set_option maxRecDepth 100000
open Go.ChangeShapes Go.WideShapes Go.ChangeAt Go.RowKit

end Go.Proofs.Ytkalfhhdljndfaa
