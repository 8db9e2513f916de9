/-
  States in one another: plain, no program in it.
-/
import Derived.Test.YtiodjjnohbjhlaaD0
import Derived.Test.YtiodjjnohbjhlaaShift
import Derived.Lib.Join
import Derived.Test.YtiodjjnohbjhlaaWth
import Derived.WalkKit
import Derived.ProofKit
import Derived.OpenShut
import Derived.BigQuiet
import Derived.BigCall
import Derived.Deep.QuietTactic
import Derived.Lib.Hide
import Derived.Lib.Bytealg
import Derived.Lib.Strings
import Derived.Laws.Externs
import Derived.Outline
import Derived.Below
import Derived.Laws.OwnMore
import Derived.OwnWalk
import Derived.Deep.DeepMust
import Derived.WalkSpells
import Derived.Laws.DeepStrings4
import Derived.Lib.ItoaMem
import Derived.Test.YtiodjjnohbjhlaaPlain03
namespace Go.Proofs.Ytiodjjnohbjhlaa
set_option maxRecDepth 100000

/-- a state that may be in, and may hold states -/
def hl (ks : List Int) (i : Nat) : Bool := ks.getD i 0 == 1 || ks.getD i 0 == 2
def szN (ks ps : List Int) : Nat := min ks.length ps.length
/-- is a state one of another's (-1: the top's), and may it be in? -/
def isKid (ks ps : List Int) (a : Int) (k : Nat) : Bool := ps.getD k 0 == a && hl ks k
/-- the set of the states of another that may be in -/
def opn (ks ps : List Int) (a : Int) : Nat → Nat
  | 0 => 0
  | k + 1 => if isKid ks ps a k then opn ks ps a k ||| 2 ^ k else opn ks ps a k
theorem opn_bit (ks ps : List Int) (a : Int) (j : Nat) : ∀ n, (opn ks ps a n).testBit j = (decide (j < n) && isKid ks ps a j)
  | 0 => by simp [opn]
  | n + 1 => by
    have ih := opn_bit ks ps a j n
    unfold opn
    by_cases e : j = n
    · subst e
      split
      · rename_i h
        simp [Nat.testBit_or, Nat.testBit_two_pow, h]
      · rename_i h
        rw [ih]; simp [h]
    · have e2 : decide (j < n + 1) = decide (j < n) := by by_cases h : j < n <;> simp <;> omega
      split
      · rw [Nat.testBit_or, ih, Nat.testBit_two_pow, e2]
        have : decide (n = j) = false := by simp; omega
        rw [this, Bool.or_false]
      · rw [ih, e2]
/-- a state's parent, as the program reads it -/
def par (ps : List Int) (k : Nat) : Int := min (ps.getD k 0) ((k : Int) - 1)
/-- may a state that is in a set be there? -/
def settl (ks ps : List Int) (s k : Nat) : Bool :=
  hl ks k && !(decide (0 ≤ par ps k) && !s.testBit (par ps k).toNat) &&
    (if ks.getD k 0 = 2 then s &&& opn ks ps k (szN ks ps) == opn ks ps k (szN ks ps) else opn ks ps k (szN ks ps) == 0 || cnt (s &&& opn ks ps k (szN ks ps)) == 1)
/-- a configuration -/
def prop (ks ps : List Int) (s : Nat) : Bool :=
  decide (s / 2 ^ szN ks ps = 0) && cnt (s &&& opn ks ps (-1) (szN ks ps)) == 1 && (List.range (szN ks ps)).all fun k => !s.testBit k || settl ks ps s k
end Go.Proofs.Ytiodjjnohbjhlaa
/-
  Rules as a chart, plainly: what is read of states and transitions; what the rules of a chart are like.
-/
namespace Go.Proofs.Ytiodjjnohbjhlaa
set_option maxRecDepth 100000

/-! ### what a rule that was read has -/
/-! ### the chart -/
structure Tr where
  kind : Int
  from_ : Int
  to_ : Int
  event : Tx
  perm : Tx
  task : Tx
  time : Int
deriving DecidableEq
structure Ch where
  names : List Tx := []
  kinds : List Int := []
  parents : List Int := []
  trans : List Tr := []
def isTr (r : Ru) : Prop := r.kind = 9 ∨ r.kind = 10 ∨ r.kind = 11
instance (r : Ru) : Decidable (isTr r) := inferInstanceAs (Decidable (_ ∨ _))
end Go.Proofs.Ytiodjjnohbjhlaa
