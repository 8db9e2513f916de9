/-
  The document's Under; lists of numbers of 32 bits of the call's own; what a part of a configuration is as a number.
-/
import Derived.Test.YtkalfhhdljndfaaShOf
import Derived.Lib.OwnBridge
import Derived.Test.YtkalfhhdljndfaaOwnI
import Derived.BigQuiet
import Derived.Test.YtkalfhhdljndfaaShQ
import Derived.Test.YtkalfhhdljndfaaWth
import Derived.Test.YtkalfhhdljndfaaD0
import Derived.Lib.Tables
import Derived.Test.YtkalfhhdljndfaaCfg1
namespace Go.Proofs.Ytkalfhhdljndfaa
set_option maxRecDepth 100000
open Go.ChangeShapes Go.WideShapes Go.ChangeAt Go.RowKit

theorem RowsAt2.below {w w' : World} {v : Value} {Z : List (List Int)} (h : RowsAt2 w v Z) (hb : Below w.heap.size w w') : RowsAt2 w' v Z := by
  obtain ⟨A, c, e, hl, hc⟩ := h
  refine ⟨A, c, e, hl, fun k hk => ?_⟩
  obtain ⟨b, off, u, e2, hlt, hx, hi⟩ := hc k hk
  exact ⟨b, off, u, e2, Nat.lt_of_lt_of_le hlt hb.size, (hb.cell (p := ⟨b, off + k, none⟩) hlt).trans hx, hi.below hb⟩
/-- parts of configurations -/
def PartOf (ks ps : List Int) (n : Nat) (rs : List Nat) : Prop := rs.length ≤ n ∧ (∀ x ∈ rs, x < 2 ^ n) ∧ ∀ q, q < n → (∀ k, k < n → (rs.getD q 0).testBit k = false) ∨ ∃ c, prop ks ps c = true ∧ ∀ k, k < n → (rs.getD q 0).testBit k = (c.testBit q && (c.testBit k && (decide (k ≠ q) && undB ps k q)))
theorem PartOf.past {ks ps : List Int} {n : Nat} {rs : List Nat} (h : PartOf ks ps n rs) (hf : ShF ks ps n) (hn : n ≤ 32) : PastOk ks ps n (pfun rs) := PastOk.of hf hn h.2.2
end Go.Proofs.Ytkalfhhdljndfaa
/-
  The shapes that the statements are made of: all that is known of them. Printed by gen_shog.py out of XShOf.
-/
namespace Go.Proofs.Ytkalfhhdljndfaa
set_option maxRecDepth 100000
open Go.ChangeShapes Go.WideShapes Go.ChangeAt Go.RowKit

/-- a place that is no history, where it is told so -/
def nHi (ks : List Int) (p : Int) (b : Bool) : Prop := b = false → parOk ks p ∨ p < -1
theorem nHi.of {ks ps : List Int} {k q : Nat} (h : ShW ks ps k) (hq : q < ks.length) : nHi ks q (decide ((3 : Int) ≤ ks.getD q 0)) := fun hb => .inl (parOk.of h hq (by have := of_decide_eq_false hb; omega))
end Go.Proofs.Ytkalfhhdljndfaa
/-
  What the statements' sets are: plain, and what the calls answer as lists that can be read.
-/
namespace Go.Proofs.Ytkalfhhdljndfaa
set_option maxRecDepth 100000
open Go.ChangeShapes Go.WideShapes Go.ChangeAt Go.RowKit

theorem kids_ints {w : World} {base : Nat} {v : Value} {l : List Nat} (h : OwnI w base v (l.map fun k : Nat => (k : Int))) (hk : ∀ k ∈ l, k < 1000) (hl : l.length ≤ 1000) :
    ∃ A c, v = .slice A l.length c ∧ IntsAt w (.slice A l.length c) (l.map fun k : Nat => (k : Int)) := by
  have h1 := OwnN.of h
  obtain ⟨A, c, rfl⟩ := own_slice h1
  exact ⟨A, c, rfl, nat_ints h1 hk hl⟩
/-- a list that a call answers, as it can be read -/
def ListTo (l : List Nat) (w : World) (e : Ending) (w' : World) : Prop := ∃ A c, e = .returned (.slice A l.length c) ∧ IntsAt w' (.slice A l.length c) (l.map fun k : Nat => (k : Int)) ∧ Below w.heap.size w w'
theorem KidsTo.list {l : List Nat} {w : World} {e : Ending} {w' : World} (h : KidsTo l w e w') (hk : ∀ k ∈ l, k < 1000) (hl : l.length ≤ 1000) : ListTo l w e w' := by
  obtain ⟨v, rfl, ho, hb⟩ := h
  obtain ⟨A, c, rfl, hi⟩ := kids_ints ho hk hl
  exact ⟨A, c, rfl, hi, hb⟩
end Go.Proofs.Ytkalfhhdljndfaa
