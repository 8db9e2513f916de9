/-
  Lists of numbers of 32 bits, and lists of lists of numbers, that come in: their cells.
-/
import Derived.Test.YtiodjjnohbjhlaaOwn
import Derived.Deep.Matrix
import Derived.Test.YtiodjjnohbjhlaaCh0
namespace Go.Proofs.Ytiodjjnohbjhlaa
set_option maxRecDepth 100000
open Go.ChangeShapes Go.WideShapes Go.ChangeAt Go.RowKit

/-- a list of numbers of 32 bits that comes in: its cells -/
def U32sAt (W : World) (v : Value) (rs : List Nat) : Prop := ∃ A cap, v = .slice A rs.length cap ∧ rs.length ≤ maxLen ∧
  ∀ k (h : k < rs.length), ∃ b off, A = some ⟨b, off, none⟩ ∧ b < W.heap.size ∧ W.cell? ⟨b, off + k, none⟩ = some (.int .u32 (rs[k] : Nat)) ∧ rs[k] < 4294967296
/-- a list of lists of integers that comes in -/
def RowsAt2 (W : World) (v : Value) (Z : List (List Int)) : Prop := ∃ A cap, v = .slice A Z.length cap ∧ Z.length ≤ maxLen ∧
  ∀ k (h : k < Z.length), ∃ b off u, A = some ⟨b, off, none⟩ ∧ b < W.heap.size ∧ W.cell? ⟨b, off + k, none⟩ = some u ∧ IntsAt W u Z[k]
end Go.Proofs.Ytiodjjnohbjhlaa
/-
  How many configurations states in one another have: counted state by state: plain, no program in it.
-/
namespace Go.Proofs.Ytiodjjnohbjhlaa
set_option maxRecDepth 100000

def sumTo (f : Nat → Nat) : Nat → Nat
  | 0 => 0
  | k + 1 => sumTo f k + f k
theorem sumTo_congr {f g : Nat → Nat} : ∀ {n : Nat}, (∀ k, k < n → f k = g k) → sumTo f n = sumTo g n
  | 0, _ => rfl
  | n + 1, h => by
    simp only [sumTo]
    rw [sumTo_congr fun k hk => h k (by omega), h n (by omega)]
/-- one summand is taken out -/
theorem sum_part {f g : Nat → Nat} {q w : Nat} : ∀ {n : Nat}, q < n → (∀ k, k < n → k ≠ q → f k = g k) → f q = w + g q → sumTo f n = w + sumTo g n
  | 0, hq, _, _ => absurd hq (by omega)
  | n + 1, hq, he, hw => by
    simp only [sumTo]
    by_cases e : q = n
    · subst e
      rw [sumTo_congr (f := f) (g := g) fun k hk => he k (by omega) (by omega), hw]; omega
    · rw [sum_part (by omega) (fun k hk hne => he k (by omega) hne) hw, he n (by omega) (by omega)]; omega
theorem sum_zero {f : Nat → Nat} : ∀ {n : Nat}, (∀ k, k < n → f k = 0) → sumTo f n = 0
  | 0, _ => rfl
  | n + 1, h => by
    simp only [sumTo]
    rw [sum_zero fun k hk => h k (by omega), h n (by omega)]
theorem sum_zero_iff {f : Nat → Nat} : ∀ {n : Nat}, sumTo f n = 0 ↔ ∀ k, k < n → f k = 0
  | 0 => by simp [sumTo]
  | n + 1 => by
    simp only [sumTo]
    rw [Nat.add_eq_zero_iff, sum_zero_iff]
    constructor
    · rintro ⟨h1, h2⟩ k hk
      by_cases e : k = n
      · subst e; exact h2
      · exact h1 k (by omega)
    · intro h
      exact ⟨fun k hk => h k (by omega), h n (by omega)⟩
end Go.Proofs.Ytiodjjnohbjhlaa
/-
  How many configurations states in one another have: what each state adds.
-/
namespace Go.Proofs.Ytiodjjnohbjhlaa
set_option maxRecDepth 100000

section
variable (ks ps : List Int) (n : Nat)
/-- how many of a place's states below m are in -/
def cin (a : Int) (S : Nat → Bool) (m : Nat) : Nat := sumTo (fun k => if isKid ks ps a k && S k then 1 else 0) m
variable {ks ps n}

end
end Go.Proofs.Ytiodjjnohbjhlaa
