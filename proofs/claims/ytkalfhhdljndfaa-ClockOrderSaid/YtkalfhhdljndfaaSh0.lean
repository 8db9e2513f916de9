/-
  States in one another: plain, no program in it.
-/
import Derived.Test.YtkalfhhdljndfaaD0
namespace Go.Proofs.Ytkalfhhdljndfaa
set_option maxRecDepth 100000

/-- a state that may be in, and may hold states -/
def hl (ks : List Int) (i : Nat) : Bool := ks.getD i 0 == 1 || ks.getD i 0 == 2
def szN (ks ps : List Int) : Nat := min ks.length ps.length
/-- is a state one of another's (-1: the top's), and may it be in? -/
def isKid (ks ps : List Int) (a : Int) (k : Nat) : Bool := ps.getD k 0 == a && hl ks k
def kidsTo (ps : List Int) (a : Int) : Nat → List Nat
  | 0 => []
  | k + 1 => if ps.getD k 0 = a then kidsTo ps a k ++ [k] else kidsTo ps a k
theorem mem_kidsTo {ps : List Int} {a : Int} {j : Nat} : ∀ {n : Nat}, j ∈ kidsTo ps a n ↔ j < n ∧ ps.getD j 0 = a
  | 0 => by simp [kidsTo]
  | n + 1 => by
    have ih := mem_kidsTo (ps := ps) (a := a) (j := j) (n := n)
    unfold kidsTo
    split
    · rename_i h
      rw [List.mem_append, ih, List.mem_singleton]
      constructor
      · rintro (⟨h1, h2⟩ | rfl)
        · exact ⟨by omega, h2⟩
        · exact ⟨by omega, h⟩
      · rintro ⟨h1, h2⟩
        by_cases e : j = n
        · exact .inr e
        · exact .inl ⟨by omega, h2⟩
    · rename_i h
      rw [ih]
      constructor
      · rintro ⟨h1, h2⟩; exact ⟨by omega, h2⟩
      · rintro ⟨h1, h2⟩
        refine ⟨?_, h2⟩
        by_cases e : j = n
        · subst e; exact absurd h2 h
        · omega
/-- the first state of another (-1: none) -/
def iniTo (ks ps : List Int) (a : Int) (n : Nat) : Int := match (List.range n).find? (isKid ks ps a) with
  | some k => k
  | none => -1
/-- the set of the states of another that may be in -/
def opn (ks ps : List Int) (a : Int) : Nat → Nat
  | 0 => 0
  | k + 1 => if isKid ks ps a k then opn ks ps a k ||| 2 ^ k else opn ks ps a k
theorem opn_bit (ks ps : List Int) (a : Int) (j : Nat) : ∀ n, (opn ks ps a n).testBit j = (decide (j < n) && isKid ks ps a j)
  | 0 => by simp [opn]
  | n + 1 => by
    have ih := opn_bit ks ps a j n
    unfold opn
    by_cases e : j = n
    · subst e
      split
      · rename_i h
        simp [Nat.testBit_or, Nat.testBit_two_pow, h]
      · rename_i h
        rw [ih]; simp [h]
    · have e2 : decide (j < n + 1) = decide (j < n) := by by_cases h : j < n <;> simp <;> omega
      split
      · rw [Nat.testBit_or, ih, Nat.testBit_two_pow, e2]
        have : decide (n = j) = false := by simp; omega
        rw [this, Bool.or_false]
      · rw [ih, e2]
/-- a state's parent, as the program reads it -/
def par (ps : List Int) (k : Nat) : Int := min (ps.getD k 0) ((k : Int) - 1)
/-- may a state that is in a set be there? -/
def settl (ks ps : List Int) (s k : Nat) : Bool :=
  hl ks k && !(decide (0 ≤ par ps k) && !s.testBit (par ps k).toNat) &&
    (if ks.getD k 0 = 2 then s &&& opn ks ps k (szN ks ps) == opn ks ps k (szN ks ps) else opn ks ps k (szN ks ps) == 0 || cnt (s &&& opn ks ps k (szN ks ps)) == 1)
/-- a configuration -/
def prop (ks ps : List Int) (s : Nat) : Bool :=
  decide (s / 2 ^ szN ks ps = 0) && cnt (s &&& opn ks ps (-1) (szN ks ps)) == 1 && (List.range (szN ks ps)).all fun k => !s.testBit k || settl ks ps s k
/-- does a state fit into what stands ahead of it? -/
def fitS (ks ps : List Int) (k : Nat) : Bool :=
  !(decide (ks.getD k 0 < 1) || decide (4 < ks.getD k 0) || decide (ps.getD k 0 < -1) || decide ((k : Int) ≤ ps.getD k 0)) &&
    (if hl ks k then decide (ps.getD k 0 < 0) || hl ks (ps.getD k 0).toNat else decide (0 ≤ ps.getD k 0) && ks.getD (ps.getD k 0).toNat 0 == 1)
/-- has a place a first state, if it has any? -/
def iniB (ks ps : List Int) (a : Int) : Bool := !(decide (0 < (kidsTo ps a (szN ks ps)).length) && decide (iniTo ks ps a (szN ks ps) < 0))
def valB (ks ps : List Int) : Bool :=
  ks.length == ps.length && decide (1 ≤ ks.length) && decide (ks.length ≤ 24) && (List.range ks.length).all (fitS ks ps) && (List.range (ks.length + 1)).all fun i => iniB ks ps ((i : Int) - 1)
end Go.Proofs.Ytkalfhhdljndfaa
