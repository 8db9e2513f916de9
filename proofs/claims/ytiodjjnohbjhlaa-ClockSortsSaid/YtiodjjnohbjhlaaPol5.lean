/-
  Rules in cells of the call's own.
-/
import Derived.Test.YtiodjjnohbjhlaaShift
import Derived.Lib.Join
import Derived.Test.YtiodjjnohbjhlaaWth
import Derived.WalkKit
import Derived.ProofKit
import Derived.OpenShut
import Derived.BigQuiet
import Derived.BigCall
import Derived.Deep.QuietTactic
import Derived.Lib.Hide
import Derived.Lib.Bytealg
import Derived.Lib.Strings
import Derived.Laws.Externs
import Derived.Outline
import Derived.Below
import Derived.Laws.OwnMore
import Derived.OwnWalk
import Derived.Deep.DeepMust
import Derived.WalkSpells
import Derived.Laws.DeepStrings4
import Derived.Lib.SplitLaws
import Derived.Test.YtiodjjnohbjhlaaPlain03
import Derived.LaidEql
import Derived.Lib.IfaceEq
import Derived.Stop.Asserts
import Derived.RowKitTokens
import Derived.Deep.Onto
import Derived.Deep.DeepCutAuto
import Derived.StillTailTactics
import Derived.Laws.ResultCell
import Derived.Test.YtiodjjnohbjhlaaShelf2
namespace Go.Proofs.Ytiodjjnohbjhlaa
set_option maxRecDepth 100000
open Go.ChangeShapes Go.WideShapes Go.ChangeAt Go.RowKit

/-- a rule, its line, its list's slice -/
abbrev RL := Ru × Nat × Value
def er (x : RL) : Ru × Nat := (x.1, x.2.1)
def rcell (x : RL) : List Value := [.int .i64 x.1.kind, .string (bs x.1.name), x.2.2, .int .i64 x.1.n, .int .i64 x.1.m, .string (bs x.1.from_), .string (bs x.1.to_), .string (bs x.1.by_), .string (bs x.1.task), .string (bs x.1.in_), .int .i64 x.2.1]
end Go.Proofs.Ytiodjjnohbjhlaa
/-
  policy.Of: the rules of some kinds, in new memory.
-/
namespace Go.Proofs.Ytiodjjnohbjhlaa
set_option maxRecDepth 100000
open Go.ChangeShapes Go.WideShapes Go.ChangeAt Go.RowKit

/-- integers in a block's cells, from its first on -/
def KAt (w : World) (A : Option Addr) (ks : List Int) : Prop := ∀ j (h : j < ks.length), ∃ b, A = some ⟨b, 0, none⟩ ∧ b < w.heap.size ∧ w.cell? ⟨b, j, none⟩ = some (.int .i64 ks[j])
theorem KAt.below {w w' : World} {A : Option Addr} {ks : List Int} (h : KAt w A ks) (hb : Below w.heap.size w w') : KAt w' A ks := fun j hj =>
  let ⟨b, e, hl, hc⟩ := h j hj
  ⟨b, e, Nat.lt_of_lt_of_le hl hb.size, (hb.cell (p := ⟨b, j, none⟩) hl).trans hc⟩
/-! ### rules in cells -/
/-- rules that can be read -/
def RIn (w : World) (A : Option Addr) (acc : List RL) : Prop := ∀ j (h : j < acc.length), ∃ g, A = some ⟨g, 0, none⟩ ∧ g < w.heap.size ∧ (∀ f u, f < 11 → (rcell acc[j])[f]? = some u → w.cell? ⟨g, j * 11 + f, none⟩ = some u) ∧
  ∃ B c, acc[j].2.2 = .slice B acc[j].1.list.length c ∧ ListAt w B c acc[j].1.list
theorem RIn.below {w w' : World} {A : Option Addr} {acc : List RL} (h : RIn w A acc) (hb : Below w.heap.size w w') : RIn w' A acc := fun j hj =>
  let ⟨g, e, hl, hc, B, c, e2, hL⟩ := h j hj
  ⟨g, e, Nat.lt_of_lt_of_le hl hb.size, fun f u hf hu => (hb.cell (p := ⟨g, j * 11 + f, none⟩) hl).trans (hc f u hf hu), B, c, e2, hL.below hb⟩
end Go.Proofs.Ytiodjjnohbjhlaa
