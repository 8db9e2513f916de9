/-
  Down and Up of sets, plainly: no program in it.
-/
import Derived.Test.YtilbbjjppcjciaaO0
namespace Go.Proofs.Ytilbbjjppcjciaa
set_option maxRecDepth 100000

section
variable {bl : List Nat} {N : Nat}
theorem down_bit (s j : Nat) : (downTo bl s N).testBit j = true ↔ ∃ i, i < N ∧ s.testBit i = true ∧ rel bl i j = true := by
  rw [downTo_bit, List.any_eq_true]
  constructor
  · rintro ⟨i, hi, h⟩
    simp only [Bool.and_eq_true] at h
    exact ⟨i, List.mem_range.1 hi, h.1, h.2⟩
  · rintro ⟨i, hi, h1, h2⟩
    exact ⟨i, List.mem_range.2 hi, by rw [h1, h2]; rfl⟩
theorem and_some {a b : Nat} : a &&& b ≠ 0 ↔ ∃ i, a.testBit i = true ∧ b.testBit i = true := by
  constructor
  · intro h
    refine Classical.byContradiction fun hn => h (and_zero.2 fun i => ?_)
    cases h1 : a.testBit i
    · rfl
    · cases h2 : b.testBit i
      · rfl
      · exact absurd ⟨i, h1, h2⟩ hn
  · rintro ⟨i, h1, h2⟩ h
    have := and_zero.1 h i
    rw [h1, h2] at this; cases this
theorem upper_bit (s i : Nat) : (upperTo bl s N).testBit i = true ↔ i < N ∧ ∃ k, rel bl i k = true ∧ s.testBit k = true := by
  rw [upperTo_bit, Bool.and_eq_true, decide_eq_true_eq, decide_eq_true_eq, and_some]
  rfl
theorem bit_ext {a b : Nat} (h : ∀ j, a.testBit j = true ↔ b.testBit j = true) : a = b := Nat.eq_of_testBit_eq fun j => Bool.eq_iff_iff.2 (h j)
def allN (N : Nat) : Nat := 2 ^ N - 1
theorem all_bit (N j : Nat) : (allN N).testBit j = decide (j < N) := by unfold allN; rw [Nat.testBit_two_pow_sub_one]
theorem all_lt {N : Nat} (h : N ≤ 24) : allN N < 16777216 := by
  unfold allN
  have : 2 ^ N ≤ 2 ^ 24 := Nat.pow_le_pow_right (by omega) h
  omega
theorem not_bit {b : Nat} (h : b < 4294967296) (j : Nat) : (4294967295 - b).testBit j = (decide (j < 32) && !b.testBit j) := by
  have := Nat.testBit_two_pow_sub_succ (n := 32) (x := b) h j
  rwa [show 2 ^ 32 - (b + 1) = 4294967295 - b by omega] at this
variable (hb : ∀ i j, rel bl i j = true → i < N ∧ j < N) (hr : ∀ i, i < N → rel bl i i = true) (ht : ∀ i k j, rel bl i k = true → rel bl k j = true → rel bl i j = true)
include hb in
theorem down_in (s : Nat) (hN : N ≤ 24) : downTo bl s N &&& (4294967295 - allN N) = 0 := and_zero.2 fun j => by
  have hl := all_lt hN
  cases h : (downTo bl s N).testBit j
  · rfl
  · obtain ⟨i, _, _, h3⟩ := (down_bit s j).1 h
    rw [not_bit (by omega), all_bit, decide_eq_true (hb i j h3).2]; simp
theorem upper_in (s : Nat) (hN : N ≤ 24) : upperTo bl s N &&& (4294967295 - allN N) = 0 := and_zero.2 fun j => by
  have hl := all_lt hN
  cases h : (upperTo bl s N).testBit j
  · rfl
  · rw [not_bit (by omega), all_bit, decide_eq_true ((upper_bit s j).1 h).1]; simp
include hb hr in
theorem down_self (s : Nat) : downTo bl s N &&& s = s &&& allN N := bit_ext fun j => by
  rw [Nat.testBit_and, Nat.testBit_and, Bool.and_eq_true, Bool.and_eq_true, all_bit, decide_eq_true_eq, down_bit]
  constructor
  · rintro ⟨⟨i, _, _, h3⟩, h4⟩; exact ⟨h4, (hb i j h3).2⟩
  · rintro ⟨h1, h2⟩; exact ⟨⟨j, h2, h1, hr j h2⟩, h1⟩
include hr in
theorem upper_self (s : Nat) : upperTo bl s N &&& s = s &&& allN N := bit_ext fun j => by
  rw [Nat.testBit_and, Nat.testBit_and, Bool.and_eq_true, Bool.and_eq_true, all_bit, decide_eq_true_eq, upper_bit]
  constructor
  · rintro ⟨⟨h1, _⟩, h4⟩; exact ⟨h4, h1⟩
  · rintro ⟨h1, h2⟩; exact ⟨⟨h2, j, hr j h2, h1⟩, h1⟩
include hb hr ht in
theorem down_down (s : Nat) : downTo bl (downTo bl s N) N = downTo bl s N := bit_ext fun j => by
  rw [down_bit, down_bit]
  constructor
  · rintro ⟨k, _, h2, h3⟩
    obtain ⟨i, h4, h5, h6⟩ := (down_bit s k).1 h2
    exact ⟨i, h4, h5, ht i k j h6 h3⟩
  · rintro ⟨i, h1, h2, h3⟩
    have hj := (hb i j h3).2
    exact ⟨j, hj, (down_bit s j).2 ⟨i, h1, h2, h3⟩, hr j hj⟩
include hr ht in
theorem upper_upper (s : Nat) : upperTo bl (upperTo bl s N) N = upperTo bl s N := bit_ext fun i => by
  rw [upper_bit, upper_bit]
  constructor
  · rintro ⟨h1, k, h2, h3⟩
    obtain ⟨_, m, h4, h5⟩ := (upper_bit s k).1 h3
    exact ⟨h1, m, ht i k m h2 h4, h5⟩
  · rintro ⟨h1, k, h2, h3⟩
    exact ⟨h1, i, hr i h1, (upper_bit s i).2 ⟨h1, k, h2, h3⟩⟩
theorem down_or (s t : Nat) : downTo bl (s ||| t) N = downTo bl s N ||| downTo bl t N := bit_ext fun j => by
  rw [Nat.testBit_or, Bool.or_eq_true, down_bit, down_bit, down_bit]
  constructor
  · rintro ⟨i, h1, h2, h3⟩
    rw [Nat.testBit_or, Bool.or_eq_true] at h2
    rcases h2 with h2 | h2
    · exact .inl ⟨i, h1, h2, h3⟩
    · exact .inr ⟨i, h1, h2, h3⟩
  · rintro (⟨i, h1, h2, h3⟩ | ⟨i, h1, h2, h3⟩)
    · exact ⟨i, h1, by rw [Nat.testBit_or, h2]; rfl, h3⟩
    · exact ⟨i, h1, by rw [Nat.testBit_or, h2]; simp, h3⟩
theorem upper_or (s t : Nat) : upperTo bl (s ||| t) N = upperTo bl s N ||| upperTo bl t N := bit_ext fun j => by
  rw [Nat.testBit_or, Bool.or_eq_true, upper_bit, upper_bit, upper_bit]
  constructor
  · rintro ⟨h1, i, h2, h3⟩
    rw [Nat.testBit_or, Bool.or_eq_true] at h3
    rcases h3 with h3 | h3
    · exact .inl ⟨h1, i, h2, h3⟩
    · exact .inr ⟨h1, i, h2, h3⟩
  · rintro (⟨h1, i, h2, h3⟩ | ⟨h1, i, h2, h3⟩)
    · exact ⟨h1, i, h2, by rw [Nat.testBit_or, h3]; rfl⟩
    · exact ⟨h1, i, h2, by rw [Nat.testBit_or, h3]; simp⟩
theorem down_zero : downTo bl 0 N = 0 := bit_ext fun j => by
  rw [down_bit]; simp
theorem upper_zero : upperTo bl 0 N = 0 := bit_ext fun j => by
  rw [upper_bit]; simp
theorem down_one {i : Nat} (hi : i < N) (k : Nat) : (downTo bl (bitN i) N).testBit k = rel bl i k := by
  rw [Bool.eq_iff_iff, down_bit]
  constructor
  · rintro ⟨j, _, h2, h3⟩
    rw [pow_bit, beq_iff_eq] at h2
    subst h2; exact h3
  · intro h; exact ⟨i, hi, by rw [pow_bit]; simp, h⟩
theorem upper_one {i : Nat} (hi : i < N) (k : Nat) : (upperTo bl (bitN k) N).testBit i = rel bl i k := by
  rw [Bool.eq_iff_iff, upper_bit]
  constructor
  · rintro ⟨_, j, h2, h3⟩
    rw [pow_bit, beq_iff_eq] at h3
    subst h3; exact h2
  · intro h; exact ⟨hi, k, h, by rw [pow_bit]; simp⟩
include hb in
theorem down_upper (s t : Nat) : (downTo bl s N &&& t &&& allN N = 0) ↔ (upperTo bl t N &&& s &&& allN N = 0) := by
  have key : ∀ a b : Nat, (a = 0 ↔ b = 0) ↔ (a ≠ 0 ↔ b ≠ 0) := fun a b => by constructor <;> intro h <;> constructor <;> intro h2 <;> (try intro h3) <;> simp_all
  rw [key]
  have h1 : ∀ x y : Nat, x &&& y &&& allN N ≠ 0 ↔ ∃ j, x.testBit j = true ∧ y.testBit j = true ∧ j < N := fun x y => by
    rw [and_some]
    constructor
    · rintro ⟨j, h1, h2⟩
      rw [Nat.testBit_and, Bool.and_eq_true] at h1
      rw [all_bit, decide_eq_true_eq] at h2
      exact ⟨j, h1.1, h1.2, h2⟩
    · rintro ⟨j, h1, h2, h3⟩
      exact ⟨j, by rw [Nat.testBit_and, h1, h2]; rfl, by rw [all_bit, decide_eq_true h3]⟩
  rw [h1, h1]
  constructor
  · rintro ⟨j, h2, h3, h4⟩
    obtain ⟨i, h5, h6, h7⟩ := (down_bit s j).1 h2
    exact ⟨i, (upper_bit t i).2 ⟨h5, j, h7, h3⟩, h6, h5⟩
  · rintro ⟨i, h2, h3, h4⟩
    obtain ⟨_, k, h5, h6⟩ := (upper_bit t i).1 h2
    exact ⟨k, (down_bit s k).2 ⟨i, h4, h3, h5⟩, h6, (hb i k h5).2⟩
theorem down_lt (hlo : Lo bl) (s : Nat) : downTo bl s N < 16777216 := downTo_lo hlo s N
theorem upper_lt (hN : N ≤ 24) (s : Nat) : upperTo bl s N < 16777216 := upperTo_lo bl s N hN
end
end Go.Proofs.Ytilbbjjppcjciaa
