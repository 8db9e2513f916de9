/-
  Package chart: Valid, of a chart that may be: the walk.
-/
import Derived.Test.YtkalfhhdljndfaaCh3
import Derived.Deep.RegionHeld3
import Derived.Deep.RegionLaw
import Derived.Deep.RegionHeld2
import Derived.Test.YtkalfhhdljndfaaRuleSt
import Derived.Test.YtkalfhhdljndfaaD0
import Derived.Deep.DeepCutAuto
import Derived.Deep.Onto
import Derived.Laws.OwnMore
import Derived.Test.YtkalfhhdljndfaaOkP
import Derived.Laws.AppendOwnNone
import Derived.Deep.AppendLies
import Derived.Laws.StructEq
import Derived.ChangeKeysEq
import Derived.Test.YtkalfhhdljndfaaSameL
import Derived.LaidEql
import Derived.Lib.IfaceEq
import Derived.Stop.Asserts
import Derived.RowKitTokens
import Derived.Lib.QuietBelow
import Derived.Lib.ItoaMem
import Derived.Test.YtkalfhhdljndfaaCk1
import Derived.Test.YtkalfhhdljndfaaOwn
import Derived.Deep.Matrix
namespace Go.Proofs.Ytkalfhhdljndfaa
set_option maxRecDepth 100000
open Go.ChangeShapes Go.WideShapes Go.ChangeAt Go.RowKit

/-- transitions in cells -/
def TAt (w : World) (A : Option Addr) (l : List Tr) : Prop := ∀ j (h : j < l.length), ∃ g, A = some ⟨g, 0, none⟩ ∧ g < w.heap.size ∧ ∀ f u, f < 7 → (tcell l[j])[f]? = some u → w.cell? ⟨g, j * 7 + f, none⟩ = some u
theorem TAt.below {w w' : World} {A : Option Addr} {l : List Tr} (h : TAt w A l) (hb : Below w.heap.size w w') : TAt w' A l := fun j hj =>
  let ⟨g, e, hl, hc⟩ := h j hj
  ⟨g, e, Nat.lt_of_lt_of_le hl hb.size, fun f u hf hu => (hb.cell (p := ⟨g, j * 7 + f, none⟩) hl).trans (hc f u hf hu)⟩
end Go.Proofs.Ytkalfhhdljndfaa
/-
  Package clock: Sort of at most one; Of a chart of two states, each with an After: what is due of the first one.
-/
namespace Go.Proofs.Ytkalfhhdljndfaa
set_option maxRecDepth 100000
open Go.ChangeShapes Go.WideShapes Go.ChangeAt Go.RowKit

theorem Try.infoDue : (Try.prog.info? 27).map (fun i => (i.zero, i.size, i.bytes)) = some (some (.agg #[.int .i64 0, .string ⟨#[]⟩, .int .i64 0]), 3, 32) := by kernel_rfl
def dcell (t : Int) (d : Tx) (i : Int) : List Value := [.int .i64 t, .string (bs d), .int .i64 i]
theorem dcell_one (t : Int) (d : Tx) (i : Int) : ∀ u ∈ dcell t d i, u.oneCell' = true := by intro u hu; simp [dcell] at hu; rcases hu with rfl | rfl | rfl <;> rfl
theorem Sort_none (c : Nat) (w : World) :
    Calls Try.prog 5 #[.slice none 0 c] w fun e w' => (∃ c', e = .returned (.slice none 0 c')) ∧ Below w.heap.size w w' := by
  have hs := fun A c fv W => sortD_one A 0 c fv W (by omega)
  go_enter Try.func5, Try.ntmps5
  go_wp2_with (go_at_call 10; refine (hs _ _ _ _).mono ?_; rintro e w' ⟨rfl, rfl⟩)
  go_ret
  exact ⟨⟨_, rfl⟩, Below.refl _ _⟩
end Go.Proofs.Ytkalfhhdljndfaa
/-
  Lists of numbers of 32 bits, and lists of lists of numbers, that come in: their cells.
-/
namespace Go.Proofs.Ytkalfhhdljndfaa
set_option maxRecDepth 100000
open Go.ChangeShapes Go.WideShapes Go.ChangeAt Go.RowKit

/-- a list of numbers of 32 bits that comes in: its cells -/
def U32sAt (W : World) (v : Value) (rs : List Nat) : Prop := ∃ A cap, v = .slice A rs.length cap ∧ rs.length ≤ maxLen ∧
  ∀ k (h : k < rs.length), ∃ b off, A = some ⟨b, off, none⟩ ∧ b < W.heap.size ∧ W.cell? ⟨b, off + k, none⟩ = some (.int .u32 (rs[k] : Nat)) ∧ rs[k] < 4294967296
/-- a list of lists of integers that comes in -/
def RowsAt2 (W : World) (v : Value) (Z : List (List Int)) : Prop := ∃ A cap, v = .slice A Z.length cap ∧ Z.length ≤ maxLen ∧
  ∀ k (h : k < Z.length), ∃ b off u, A = some ⟨b, off, none⟩ ∧ b < W.heap.size ∧ W.cell? ⟨b, off + k, none⟩ = some u ∧ IntsAt W u Z[k]
end Go.Proofs.Ytkalfhhdljndfaa
