/-
  How many configurations states in one another have: counted state by state: plain, no program in it.
-/
import Derived.Test.YtkalfhhdljndfaaSh0
namespace Go.Proofs.Ytkalfhhdljndfaa
set_option maxRecDepth 100000

def sumTo (f : Nat → Nat) : Nat → Nat
  | 0 => 0
  | k + 1 => sumTo f k + f k
def prdTo (f : Nat → Nat) : Nat → Nat
  | 0 => 1
  | k + 1 => prdTo f k * f k
theorem sumTo_congr {f g : Nat → Nat} : ∀ {n : Nat}, (∀ k, k < n → f k = g k) → sumTo f n = sumTo g n
  | 0, _ => rfl
  | n + 1, h => by
    simp only [sumTo]
    rw [sumTo_congr fun k hk => h k (by omega), h n (by omega)]
/-- one summand is taken out -/
theorem sum_part {f g : Nat → Nat} {q w : Nat} : ∀ {n : Nat}, q < n → (∀ k, k < n → k ≠ q → f k = g k) → f q = w + g q → sumTo f n = w + sumTo g n
  | 0, hq, _, _ => absurd hq (by omega)
  | n + 1, hq, he, hw => by
    simp only [sumTo]
    by_cases e : q = n
    · subst e
      rw [sumTo_congr (f := f) (g := g) fun k hk => he k (by omega) (by omega), hw]; omega
    · rw [sum_part (by omega) (fun k hk hne => he k (by omega) hne) hw, he n (by omega) (by omega)]; omega
theorem sum_zero {f : Nat → Nat} : ∀ {n : Nat}, (∀ k, k < n → f k = 0) → sumTo f n = 0
  | 0, _ => rfl
  | n + 1, h => by
    simp only [sumTo]
    rw [sum_zero fun k hk => h k (by omega), h n (by omega)]
theorem sum_zero_iff {f : Nat → Nat} : ∀ {n : Nat}, sumTo f n = 0 ↔ ∀ k, k < n → f k = 0
  | 0 => by simp [sumTo]
  | n + 1 => by
    simp only [sumTo]
    rw [Nat.add_eq_zero_iff, sum_zero_iff]
    constructor
    · rintro ⟨h1, h2⟩ k hk
      by_cases e : k = n
      · subst e; exact h2
      · exact h1 k (by omega)
    · intro h
      exact ⟨fun k hk => h k (by omega), h n (by omega)⟩
section
variable (ks ps : List Int) (n : Nat)
/-- in how many ways the states of one can be in -/
def waysF : Nat → Int → Nat
  | 0, _ => 1
  | f + 1, a =>
    if (List.range n).any (isKid ks ps a) = false then 1
    else if 0 ≤ a ∧ ks.getD a.toNat 0 = 2 then prdTo (fun k => if isKid ks ps a k then waysF f k else 1) n
    else sumTo (fun k => if isKid ks ps a k then waysF f k else 0) n
def wy (a : Int) : Nat := waysF ks ps n ((n : Int) - a).toNat a
variable {ks ps n}
end
end Go.Proofs.Ytkalfhhdljndfaa
/-
  How many configurations states in one another have: what each state adds.
-/
namespace Go.Proofs.Ytkalfhhdljndfaa
set_option maxRecDepth 100000

section
variable (ks ps : List Int) (n : Nat)
/-- how many of a place's states below m are in -/
def cin (a : Int) (S : Nat → Bool) (m : Nat) : Nat := sumTo (fun k => if isKid ks ps a k && S k then 1 else 0) m
variable {ks ps n}

end
end Go.Proofs.Ytkalfhhdljndfaa
