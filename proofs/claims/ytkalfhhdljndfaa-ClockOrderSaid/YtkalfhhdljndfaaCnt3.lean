/-
  How many configurations states in one another have: as many as their ways are (the end).
-/
import Derived.Test.YtkalfhhdljndfaaCnt1
namespace Go.Proofs.Ytkalfhhdljndfaa
set_option maxRecDepth 100000

theorem sum_more {f : Nat → Nat} {n : Nat} (h : ∀ k, n ≤ k → f k = 0) : ∀ d, sumTo f (n + d) = sumTo f n
  | 0 => rfl
  | d + 1 => by
    show sumTo f (n + d) + f (n + d) = _
    rw [sum_more h d, h (n + d) (by omega)]; rfl
section
variable {ks ps : List Int} {n : Nat}
theorem cnt_sum (x : Nat) : ∀ m, cntTo x m = sumTo (fun k => (x.testBit k).toNat) m
  | 0 => rfl
  | m + 1 => by simp only [cntTo, sumTo]; rw [cnt_sum x m]
theorem cnt_cin (s : Nat) (a : Int) (hn : n ≤ 32) : cnt (s &&& opn ks ps a n) = cin ks ps a s.testBit n := by
  have e : cnt (s &&& opn ks ps a n) = sumTo (fun k => ((s &&& opn ks ps a n).testBit k).toNat) (n + (32 - n)) := by
    rw [show n + (32 - n) = 32 by omega]; exact cnt_sum _ _
  rw [e, sum_more fun k hk => ?_]
  · unfold cin
    refine sumTo_congr fun k hk => ?_
    rw [Nat.testBit_and, opn_bit, decide_eq_true hk, Bool.true_and, Bool.and_comm]
    cases isKid ks ps a k && s.testBit k <;> rfl
  · rw [Nat.testBit_and, opn_bit, decide_eq_false (by omega)]; simp
theorem opn_none {a : Int} : opn ks ps a n = 0 ↔ (List.range n).any (isKid ks ps a) = false := by
  rw [List.any_eq_false]
  constructor
  · intro h k hk hi
    have := opn_bit ks ps a k n
    rw [h, Nat.zero_testBit, decide_eq_true (List.mem_range.1 hk), hi] at this
    cases this
  · intro h
    apply Nat.eq_of_testBit_eq
    intro k
    rw [opn_bit, Nat.zero_testBit]
    by_cases hk : k < n
    · have := h k (List.mem_range.2 hk)
      have : isKid ks ps a k = false := by simpa using this
      rw [this, Bool.and_false]
    · rw [decide_eq_false hk]; rfl
theorem opn_all {a : Int} {s : Nat} : s &&& opn ks ps a n = opn ks ps a n ↔ ∀ k, k < n → isKid ks ps a k = true → s.testBit k = true := by
  constructor
  · intro h k hk hi
    have := congrArg (·.testBit k) h
    try dsimp only at this
    rw [Nat.testBit_and, opn_bit, decide_eq_true hk, hi] at this
    simpa using this
  · intro h
    apply Nat.eq_of_testBit_eq
    intro k
    rw [Nat.testBit_and, opn_bit]
    by_cases hk : k < n
    · cases hi : isKid ks ps a k
      · simp
      · rw [h k hk hi]; rfl
    · rw [decide_eq_false hk]; simp
end
end Go.Proofs.Ytkalfhhdljndfaa
