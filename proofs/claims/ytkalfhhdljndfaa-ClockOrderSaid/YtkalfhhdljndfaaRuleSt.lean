/-
  rule.lineWords at any rule.
-/
import Derived.Test.YtkalfhhdljndfaaD0
import Derived.Deep.RegionHeld3
import Derived.Deep.DeepCutAuto
import Derived.Deep.Onto
import Derived.Laws.OwnMore
import Derived.Test.YtkalfhhdljndfaaOkP
import Derived.Laws.AppendOwnNone
import Derived.Deep.AppendLies
import Derived.Lib.ItoaMem
import Derived.Lib.AppendIntMem
import Derived.Deep.Fields
import Derived.Test.YtkalfhhdljndfaaWth
import Derived.Deep.RegionWith
import Derived.StillTailTactics
import Derived.Test.YtkalfhhdljndfaaPlain03
import Derived.Laws.ResultCell
import Derived.Test.YtkalfhhdljndfaaSameL
import Derived.LaidEql
import Derived.Lib.IfaceEq
import Derived.Stop.Asserts
import Derived.RowKitTokens
namespace Go.Proofs.Ytkalfhhdljndfaa
set_option maxRecDepth 100000
open Go.ChangeShapes Go.WideShapes Go.ChangeAt Go.RowKit

/-- a list of texts that stands in memory, or none -/
def LIn (w : World) (A : Option Addr) (c : Nat) (l : List Tx) : Prop := (l = [] ∧ (A = none → c = 0)) ∨ ∃ g off, A = some ⟨g, off, none⟩ ∧ g < w.heap.size ∧ l.length ≤ c ∧ ∀ j (hj : j < l.length), w.cell? ⟨g, off + j, none⟩ = some (.string (bs l[j]))
theorem LIn.below {w w' : World} {A : Option Addr} {c : Nat} {l : List Tx} (h : LIn w A c l) (hb : Below w.heap.size w w') : LIn w' A c l := by
  rcases h with h | ⟨g, off, e, hg, hl, hc⟩
  · exact .inl h
  · exact .inr ⟨g, off, e, Nat.lt_of_lt_of_le hg hb.size, hl, fun j hj => (hb.cell hg).trans (hc j hj)⟩
end Go.Proofs.Ytkalfhhdljndfaa
/-
  A rule that comes in, opened; Name, of however many; where the walk of the statements' rule of raw parts stands.
-/
namespace Go.Proofs.Ytkalfhhdljndfaa
set_option maxRecDepth 100000
open Go.ChangeShapes Go.WideShapes Go.ChangeAt Go.RowKit Go.Deep

end Go.Proofs.Ytkalfhhdljndfaa
namespace Go.Proofs.Ytkalfhhdljndfaa
set_option maxRecDepth 100000
open Go.ChangeShapes Go.WideShapes Go.ChangeAt Go.RowKit

end Go.Proofs.Ytkalfhhdljndfaa
namespace Go.Proofs.Ytkalfhhdljndfaa
set_option maxRecDepth 100000
open Go.ChangeShapes Go.WideShapes Go.ChangeAt Go.RowKit

theorem LIn.grown {w w' : World} {A : Option Addr} {c p : Nat} {l : List Tx} (h : LIn w A c l) (hg : w.grownBy w' (some p)) (hB : ∀ g off, A = some ⟨g, off, none⟩ → l ≠ [] → g ≠ p) : LIn w' A c l := by
  by_cases h0 : l = []
  · rcases h with h | ⟨g, off, e, hgl, hl, hc⟩
    · exact .inl h
    · exact .inr ⟨g, off, e, Nat.lt_of_lt_of_le hgl hg.size, hl, fun j hj => by subst h0; simp at hj⟩
  rcases h with h | ⟨g, off, e, hgl, hl, hc⟩
  · exact .inl h
  · refine .inr ⟨g, off, e, Nat.lt_of_lt_of_le hgl hg.size, hl, fun j hj => ?_⟩
    rw [← hc j hj]
    unfold World.cell?
    simp only
    rw [hg.block g hgl (by have := hB g off e h0; simp; omega)]
end Go.Proofs.Ytkalfhhdljndfaa
