/-
  Lines read.
-/
import Derived.Test.YtiodjjnohbjhlaaWth
import Derived.WalkKit
import Derived.ProofKit
import Derived.OpenShut
import Derived.BigQuiet
import Derived.BigCall
import Derived.Deep.QuietTactic
import Derived.Lib.Hide
import Derived.Lib.Bytealg
import Derived.Lib.Strings
import Derived.Laws.Externs
import Derived.Outline
import Derived.Below
import Derived.Laws.OwnMore
import Derived.OwnWalk
import Derived.Deep.DeepMust
import Derived.WalkSpells
import Derived.Laws.DeepStrings4
import Derived.Test.YtiodjjnohbjhlaaPlain03
import Derived.Deep.RegionWith
import Derived.Test.YtiodjjnohbjhlaaOwn
import Derived.Maps.OwnSet
import Derived.Deep.Onto
import Derived.Deep.DeepCutAuto
import Derived.StillTailTactics
import Derived.Laws.ResultCell
namespace Go.Proofs.Ytiodjjnohbjhlaa
set_option maxRecDepth 100000
open Go.ChangeShapes Go.WideShapes Go.ChangeAt Go.RowKit

end Go.Proofs.Ytiodjjnohbjhlaa
namespace Go.Proofs.Ytiodjjnohbjhlaa
set_option maxRecDepth 100000
open Go.ChangeShapes Go.WideShapes Go.ChangeAt Go.RowKit

end Go.Proofs.Ytiodjjnohbjhlaa
namespace Go.Proofs.Ytiodjjnohbjhlaa
set_option maxRecDepth 100000
open Go.ChangeShapes Go.WideShapes Go.ChangeAt Go.RowKit

/-- texts in the cells of a block -/
def StrAt (w : World) (t : Nat) (l : List Tx) : Prop := ∀ j (h : j < l.length), w.cell? ⟨t, j, none⟩ = some (.string (bs l[j]))
theorem StrAt.kept {w w' : World} {t : Nat} {l : List Tx} {row : Option Nat} (h : StrAt w t l) (hg : w.grownBy w' row) (hne : some t ≠ row) : StrAt w' t l := fun j hj => hg.cell (h j hj) hne
end Go.Proofs.Ytiodjjnohbjhlaa
namespace Go.Proofs.Ytiodjjnohbjhlaa
set_option maxRecDepth 100000
open Go.ChangeShapes Go.WideShapes Go.ChangeAt Go.RowKit

end Go.Proofs.Ytiodjjnohbjhlaa
/-
  againColumn: the column of the first word that stood before; isTime.
-/
namespace Go.Proofs.Ytiodjjnohbjhlaa
set_option maxRecDepth 100000
open Go.ChangeShapes Go.WideShapes Go.ChangeAt Go.RowKit Go.Maps Go.WideMaps Go.ChangeMaps

/-- words in the cells of the block g, from o on -/
def WAt (w : World) (g o : Nat) (ws : List (Nat × Tx)) : Prop := ∀ j (h : j < ws.length), w.cell? ⟨g, o + j * 2, none⟩ = some (.string (bs ws[j].2)) ∧ w.cell? ⟨g, o + j * 2 + 1, none⟩ = some (.int .i64 ws[j].1) ∧ ws[j].2.length ≤ maxLen
theorem WAt.below {w w' : World} {g o : Nat} {ws : List (Nat × Tx)} (h : WAt w g o ws) (hg : g < w.heap.size) (hb : Below w.heap.size w w') : WAt w' g o ws := fun j hj =>
  ⟨(hb.cell hg).trans (h j hj).1, (hb.cell hg).trans (h j hj).2.1, (h j hj).2.2⟩
end Go.Proofs.Ytiodjjnohbjhlaa
/-
  As many blanks ahead of a line move what is wrong by as many columns: plainly.
-/
namespace Go.Proofs.Ytiodjjnohbjhlaa
set_option maxRecDepth 100000

def sh (n : Nat) (ws : List (Nat × Tx)) : List (Nat × Tx) := ws.map fun x => (x.1 + n, x.2)
/-! ### what is wrong is told within the line, or just behind it -/
end Go.Proofs.Ytiodjjnohbjhlaa
