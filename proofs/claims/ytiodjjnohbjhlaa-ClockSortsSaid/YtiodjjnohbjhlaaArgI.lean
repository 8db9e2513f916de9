/-
  Lists of integers that come in: they stay so.
-/
import Derived.Test.YtiodjjnohbjhlaaWth
import Derived.Test.YtiodjjnohbjhlaaOwn
import Derived.Test.YtiodjjnohbjhlaaCh0
import Derived.Laws.ShiftsVar
import Derived.Maps.Range
import Derived.Test.YtiodjjnohbjhlaaShift
import Derived.Lib.Join
import Derived.WalkKit
import Derived.ProofKit
import Derived.OpenShut
import Derived.BigQuiet
import Derived.BigCall
import Derived.Deep.QuietTactic
import Derived.Lib.Hide
import Derived.Lib.Bytealg
import Derived.Lib.Strings
import Derived.Laws.Externs
import Derived.Outline
import Derived.Below
import Derived.Laws.OwnMore
import Derived.OwnWalk
import Derived.Deep.DeepMust
import Derived.WalkSpells
import Derived.Laws.DeepStrings4
import Derived.Lib.SplitLaws
import Derived.Test.YtiodjjnohbjhlaaPol5
import Derived.Test.YtiodjjnohbjhlaaD0
import Derived.Lib.ItoaMem
namespace Go.Proofs.Ytiodjjnohbjhlaa
set_option maxRecDepth 100000
open Go.ChangeShapes Go.WideShapes Go.ChangeAt Go.RowKit

theorem IntsAt.below {w w' : World} {v : Value} {zs : List Int} (h : IntsAt w v zs) (hb : Below w.heap.size w w') : IntsAt w' v zs :=
  let ⟨A, c, e, hl, hc⟩ := h
  ⟨A, c, e, hl, fun k hk => let ⟨b, off, e, hbl, hx, hw⟩ := hc k hk; ⟨b, off, e, Nat.lt_of_lt_of_le hbl hb.size, (hb.cell (p := ⟨b, off + k, none⟩) hbl).trans hx, hw⟩⟩
end Go.Proofs.Ytiodjjnohbjhlaa
/-
  Package shape: size, holds, parent, has.
-/
namespace Go.Proofs.Ytiodjjnohbjhlaa
set_option maxRecDepth 100000
open Go.ChangeShapes Go.WideShapes Go.ChangeAt Go.RowKit

theorem box_b (w : World) (o : Obj) : Below w.heap.size w (w.alloc o) := (Below.refl _ _).alloc (Nat.le_refl _) _
end Go.Proofs.Ytiodjjnohbjhlaa
/-
  Package shape: Initial, Kids, open.
-/
namespace Go.Proofs.Ytiodjjnohbjhlaa
set_option maxRecDepth 100000
open Go.ChangeShapes Go.WideShapes Go.ChangeAt Go.RowKit

def icells (l : List Int) : List Value := l.map (Value.int .i64)
/-- a list of integers in memory of the call's own -/
def OwnI (w : World) (base : Nat) (v : Value) (l : List Int) : Prop := w.ownsRow base 3 1 v l.length (icells l)

section
variable (ks ps : List Int) (A B : Option Addr) (n c m d : Nat) (w : World)
def KidsTo (l : List Nat) (w : World) (e : Ending) (w' : World) : Prop := ∃ v, e = .returned v ∧ OwnI w' w.heap.size v (l.map fun k : Nat => (k : Int)) ∧ Below w.heap.size w w'
end
end Go.Proofs.Ytiodjjnohbjhlaa
/-
  Package chart, its small parts: stays, mayStand, find.
-/
namespace Go.Proofs.Ytiodjjnohbjhlaa
set_option maxRecDepth 100000
open Go.ChangeShapes Go.WideShapes Go.ChangeAt Go.RowKit

/-! ### the place of a state's rule -/
/-- rules in a block's cells, whatever their lists -/
def RI2 (w : World) (A : Option Addr) (acc : List RL) : Prop := ∀ j (h : j < acc.length), ∃ g, A = some ⟨g, 0, none⟩ ∧ g < w.heap.size ∧ (∀ f u, f < 11 → (rcell acc[j])[f]? = some u → w.cell? ⟨g, j * 11 + f, none⟩ = some u) ∧ ∃ B n c, acc[j].2.2 = .slice B n c
theorem RI2.below {w w' : World} {A : Option Addr} {acc : List RL} (h : RI2 w A acc) (hb : Below w.heap.size w w') : RI2 w' A acc := fun j hj =>
  let ⟨g, e, hl, hc, q⟩ := h j hj
  ⟨g, e, Nat.lt_of_lt_of_le hl hb.size, fun f u hf hu => (hb.cell (p := ⟨g, j * 11 + f, none⟩) hl).trans (hc f u hf hu), q⟩
end Go.Proofs.Ytiodjjnohbjhlaa
/-
  Lists of integers that come in: their cells, and that their capacity is not below their length.
-/
namespace Go.Proofs.Ytiodjjnohbjhlaa
set_option maxRecDepth 100000
open Go.ChangeShapes Go.WideShapes Go.ChangeAt Go.RowKit

def IntsC (W : World) (v : Value) (zs : List Int) : Prop := IntsAt W v zs ∧ ∃ A c, v = .slice A zs.length c ∧ zs.length ≤ c
theorem IntsC.below {w w' : World} {v : Value} {zs : List Int} (h : IntsC w v zs) (hb : Below w.heap.size w w') : IntsC w' v zs := ⟨h.1.below hb, h.2⟩
end Go.Proofs.Ytiodjjnohbjhlaa
