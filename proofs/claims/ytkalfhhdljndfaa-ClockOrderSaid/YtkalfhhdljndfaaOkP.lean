/-
  Lines read.
-/
import Derived.Test.YtkalfhhdljndfaaSameL
import Derived.Test.YtkalfhhdljndfaaPlain03
import Derived.Deep.RegionWith
import Derived.Test.YtkalfhhdljndfaaOwn
import Derived.Deep.DeepMust
import Derived.Maps.OwnSet
import Derived.Deep.Onto
import Derived.Deep.DeepCutAuto
import Derived.StillTailTactics
import Derived.Laws.ResultCell
import Derived.Lib.Join
namespace Go.Proofs.Ytkalfhhdljndfaa
set_option maxRecDepth 100000
open Go.ChangeShapes Go.WideShapes Go.ChangeAt Go.RowKit

end Go.Proofs.Ytkalfhhdljndfaa
namespace Go.Proofs.Ytkalfhhdljndfaa
set_option maxRecDepth 100000
open Go.ChangeShapes Go.WideShapes Go.ChangeAt Go.RowKit

end Go.Proofs.Ytkalfhhdljndfaa
namespace Go.Proofs.Ytkalfhhdljndfaa
set_option maxRecDepth 100000
open Go.ChangeShapes Go.WideShapes Go.ChangeAt Go.RowKit

/-- texts in the cells of a block -/
def StrAt (w : World) (t : Nat) (l : List Tx) : Prop := ∀ j (h : j < l.length), w.cell? ⟨t, j, none⟩ = some (.string (bs l[j]))
theorem StrAt.kept {w w' : World} {t : Nat} {l : List Tx} {row : Option Nat} (h : StrAt w t l) (hg : w.grownBy w' row) (hne : some t ≠ row) : StrAt w' t l := fun j hj => hg.cell (h j hj) hne
end Go.Proofs.Ytkalfhhdljndfaa
namespace Go.Proofs.Ytkalfhhdljndfaa
set_option maxRecDepth 100000
open Go.ChangeShapes Go.WideShapes Go.ChangeAt Go.RowKit

end Go.Proofs.Ytkalfhhdljndfaa
/-
  againColumn: the column of the first word that stood before; isTime.
-/
namespace Go.Proofs.Ytkalfhhdljndfaa
set_option maxRecDepth 100000
open Go.ChangeShapes Go.WideShapes Go.ChangeAt Go.RowKit Go.Maps Go.WideMaps Go.ChangeMaps

/-- words in the cells of the block g, from o on -/
def WAt (w : World) (g o : Nat) (ws : List (Nat × Tx)) : Prop := ∀ j (h : j < ws.length), w.cell? ⟨g, o + j * 2, none⟩ = some (.string (bs ws[j].2)) ∧ w.cell? ⟨g, o + j * 2 + 1, none⟩ = some (.int .i64 ws[j].1) ∧ ws[j].2.length ≤ maxLen
theorem WAt.below {w w' : World} {g o : Nat} {ws : List (Nat × Tx)} (h : WAt w g o ws) (hg : g < w.heap.size) (hb : Below w.heap.size w w') : WAt w' g o ws := fun j hj =>
  ⟨(hb.cell hg).trans (h j hj).1, (hb.cell hg).trans (h j hj).2.1, (h j hj).2.2⟩
end Go.Proofs.Ytkalfhhdljndfaa
/-
  As many blanks ahead of a line move what is wrong by as many columns: plainly.
-/
namespace Go.Proofs.Ytkalfhhdljndfaa
set_option maxRecDepth 100000

def sh (n : Nat) (ws : List (Nat × Tx)) : List (Nat × Tx) := ws.map fun x => (x.1 + n, x.2)
/-! ### what is wrong is told within the line, or just behind it -/
end Go.Proofs.Ytkalfhhdljndfaa
/-
  The plain: a line that is a rule.
-/
namespace Go.Proofs.Ytkalfhhdljndfaa
set_option maxRecDepth 100000

/-- a byte of a word; a byte of a line ahead of its comment -/
def gb (b : UInt8) : Bool := decide (33 ≤ b.toNat) && decide (b.toNat ≤ 126) && decide (b.toNat ≠ 35)
/-! ### what is wrong, without the columns -/
/-! ### a line of words, read -/
end Go.Proofs.Ytkalfhhdljndfaa
namespace Go.Proofs.Ytkalfhhdljndfaa
set_option maxRecDepth 100000
open Go.ChangeShapes Go.WideShapes Go.ChangeAt Go.RowKit

end Go.Proofs.Ytkalfhhdljndfaa
