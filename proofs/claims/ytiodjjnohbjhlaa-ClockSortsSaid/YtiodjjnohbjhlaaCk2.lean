/-
  Package chart: Valid, of a chart that may be: the walk.
-/
import Derived.Test.YtiodjjnohbjhlaaCh3
import Derived.Deep.RegionHeld3
import Derived.Deep.RegionLaw
import Derived.Deep.RegionHeld2
import Derived.Test.YtiodjjnohbjhlaaRuleSt
import Derived.Test.YtiodjjnohbjhlaaD0
import Derived.Deep.DeepCutAuto
import Derived.Deep.Onto
import Derived.Laws.OwnMore
import Derived.Test.YtiodjjnohbjhlaaShift
import Derived.Laws.AppendOwnNone
import Derived.Deep.AppendLies
import Derived.Laws.StructEq
import Derived.ChangeKeysEq
import Derived.Test.YtiodjjnohbjhlaaShelf
import Derived.Lib.Join
import Derived.Test.YtiodjjnohbjhlaaWth
import Derived.WalkKit
import Derived.ProofKit
import Derived.OpenShut
import Derived.BigQuiet
import Derived.BigCall
import Derived.Deep.QuietTactic
import Derived.Lib.Hide
import Derived.Lib.Bytealg
import Derived.Lib.Strings
import Derived.Laws.Externs
import Derived.Outline
import Derived.Below
import Derived.OwnWalk
import Derived.Deep.DeepMust
import Derived.WalkSpells
import Derived.Laws.DeepStrings4
import Derived.LaidEql
import Derived.Lib.IfaceEq
import Derived.Stop.Asserts
import Derived.RowKitTokens
import Derived.Lib.QuietBelow
import Derived.Lib.ItoaMem
import Derived.Test.YtiodjjnohbjhlaaCk1
namespace Go.Proofs.Ytiodjjnohbjhlaa
set_option maxRecDepth 100000
open Go.ChangeShapes Go.WideShapes Go.ChangeAt Go.RowKit

/-- transitions in cells -/
def TAt (w : World) (A : Option Addr) (l : List Tr) : Prop := ∀ j (h : j < l.length), ∃ g, A = some ⟨g, 0, none⟩ ∧ g < w.heap.size ∧ ∀ f u, f < 7 → (tcell l[j])[f]? = some u → w.cell? ⟨g, j * 7 + f, none⟩ = some u
theorem TAt.below {w w' : World} {A : Option Addr} {l : List Tr} (h : TAt w A l) (hb : Below w.heap.size w w') : TAt w' A l := fun j hj =>
  let ⟨g, e, hl, hc⟩ := h j hj
  ⟨g, e, Nat.lt_of_lt_of_le hl hb.size, fun f u hf hu => (hb.cell (p := ⟨g, j * 7 + f, none⟩) hl).trans (hc f u hf hu)⟩
end Go.Proofs.Ytiodjjnohbjhlaa
/-
  Package clock: Sort of at most one; Of a chart of two states, each with an After: what is due of the first one.
-/
namespace Go.Proofs.Ytiodjjnohbjhlaa
set_option maxRecDepth 100000
open Go.ChangeShapes Go.WideShapes Go.ChangeAt Go.RowKit

theorem Try.infoDue : (Try.prog.info? 27).map (fun i => (i.zero, i.size, i.bytes)) = some (some (.agg #[.int .i64 0, .string ⟨#[]⟩, .int .i64 0]), 3, 32) := by kernel_rfl
def dcell (t : Int) (d : Tx) (i : Int) : List Value := [.int .i64 t, .string (bs d), .int .i64 i]
theorem dcell_one (t : Int) (d : Tx) (i : Int) : ∀ u ∈ dcell t d i, u.oneCell' = true := by intro u hu; simp [dcell] at hu; rcases hu with rfl | rfl | rfl <;> rfl
theorem Sort_none (c : Nat) (w : World) :
    Calls Try.prog 8 #[.slice none 0 c] w fun e w' => (∃ c', e = .returned (.slice none 0 c')) ∧ Below w.heap.size w w' := by
  have hs := fun A c fv W => sortD_one A 0 c fv W (by omega)
  go_enter Try.func8, Try.ntmps8
  go_wp2_with (go_at_call 15; refine (hs _ _ _ _).mono ?_; rintro e w' ⟨rfl, rfl⟩)
  go_ret
  exact ⟨⟨_, rfl⟩, Below.refl _ _⟩
end Go.Proofs.Ytiodjjnohbjhlaa
