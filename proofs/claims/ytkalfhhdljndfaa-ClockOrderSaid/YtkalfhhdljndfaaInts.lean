/-
  Rules as a chart, plainly: what is read of states and transitions; what the rules of a chart are like.
-/
import Derived.Test.YtkalfhhdljndfaaD0
import Derived.Test.YtkalfhhdljndfaaOkP
import Derived.Lib.ItoaMem
import Derived.Test.YtkalfhhdljndfaaSameL
import Derived.Test.YtkalfhhdljndfaaSh0
import Derived.Lib.SplitLaws
import Derived.OwnWalk
import Derived.LaidEql
import Derived.Lib.IfaceEq
import Derived.Stop.Asserts
import Derived.RowKitTokens
import Derived.Deep.Onto
import Derived.Deep.DeepCutAuto
import Derived.StillTailTactics
import Derived.Test.YtkalfhhdljndfaaPlain03
import Derived.Laws.ResultCell
import Derived.Deep.DeepMust
import Derived.Test.YtkalfhhdljndfaaWth
import Derived.Test.YtkalfhhdljndfaaOwn
namespace Go.Proofs.Ytkalfhhdljndfaa
set_option maxRecDepth 100000

/-! ### what a rule that was read has -/
/-! ### the chart -/
structure Tr where
  kind : Int
  from_ : Int
  to_ : Int
  event : Tx
  perm : Tx
  task : Tx
  time : Int
deriving DecidableEq
structure Ch where
  names : List Tx := []
  kinds : List Int := []
  parents : List Int := []
  trans : List Tr := []
def isTr (r : Ru) : Prop := r.kind = 9 ∨ r.kind = 10 ∨ r.kind = 11
instance (r : Ru) : Decidable (isTr r) := inferInstanceAs (Decidable (_ ∨ _))
end Go.Proofs.Ytkalfhhdljndfaa
/-
  Rules in cells of the call's own.
-/
namespace Go.Proofs.Ytkalfhhdljndfaa
set_option maxRecDepth 100000
open Go.ChangeShapes Go.WideShapes Go.ChangeAt Go.RowKit

/-- a rule, its line, its list's slice -/
abbrev RL := Ru × Nat × Value
def er (x : RL) : Ru × Nat := (x.1, x.2.1)
def rcell (x : RL) : List Value := [.int .i64 x.1.kind, .string (bs x.1.name), x.2.2, .int .i64 x.1.n, .int .i64 x.1.m, .string (bs x.1.from_), .string (bs x.1.to_), .string (bs x.1.by_), .string (bs x.1.task), .string (bs x.1.in_), .int .i64 x.2.1]
end Go.Proofs.Ytkalfhhdljndfaa
/-
  policy.Of: the rules of some kinds, in new memory.
-/
namespace Go.Proofs.Ytkalfhhdljndfaa
set_option maxRecDepth 100000
open Go.ChangeShapes Go.WideShapes Go.ChangeAt Go.RowKit

/-- integers in a block's cells, from its first on -/
def KAt (w : World) (A : Option Addr) (ks : List Int) : Prop := ∀ j (h : j < ks.length), ∃ b, A = some ⟨b, 0, none⟩ ∧ b < w.heap.size ∧ w.cell? ⟨b, j, none⟩ = some (.int .i64 ks[j])
theorem KAt.below {w w' : World} {A : Option Addr} {ks : List Int} (h : KAt w A ks) (hb : Below w.heap.size w w') : KAt w' A ks := fun j hj =>
  let ⟨b, e, hl, hc⟩ := h j hj
  ⟨b, e, Nat.lt_of_lt_of_le hl hb.size, (hb.cell (p := ⟨b, j, none⟩) hl).trans hc⟩
/-! ### rules in cells -/
/-- rules that can be read -/
def RIn (w : World) (A : Option Addr) (acc : List RL) : Prop := ∀ j (h : j < acc.length), ∃ g, A = some ⟨g, 0, none⟩ ∧ g < w.heap.size ∧ (∀ f u, f < 11 → (rcell acc[j])[f]? = some u → w.cell? ⟨g, j * 11 + f, none⟩ = some u) ∧
  ∃ B c, acc[j].2.2 = .slice B acc[j].1.list.length c ∧ ListAt w B c acc[j].1.list
theorem RIn.below {w w' : World} {A : Option Addr} {acc : List RL} (h : RIn w A acc) (hb : Below w.heap.size w w') : RIn w' A acc := fun j hj =>
  let ⟨g, e, hl, hc, B, c, e2, hL⟩ := h j hj
  ⟨g, e, Nat.lt_of_lt_of_le hl hb.size, fun f u hf hu => (hb.cell (p := ⟨g, j * 11 + f, none⟩) hl).trans (hc f u hf hu), B, c, e2, hL.below hb⟩
end Go.Proofs.Ytkalfhhdljndfaa
/-
  Lists of integers that come in: they stay so.
-/
namespace Go.Proofs.Ytkalfhhdljndfaa
set_option maxRecDepth 100000
open Go.ChangeShapes Go.WideShapes Go.ChangeAt Go.RowKit

theorem IntsAt.below {w w' : World} {v : Value} {zs : List Int} (h : IntsAt w v zs) (hb : Below w.heap.size w w') : IntsAt w' v zs :=
  let ⟨A, c, e, hl, hc⟩ := h
  ⟨A, c, e, hl, fun k hk => let ⟨b, off, e, hbl, hx, hw⟩ := hc k hk; ⟨b, off, e, Nat.lt_of_lt_of_le hbl hb.size, (hb.cell (p := ⟨b, off + k, none⟩) hbl).trans hx, hw⟩⟩
end Go.Proofs.Ytkalfhhdljndfaa
