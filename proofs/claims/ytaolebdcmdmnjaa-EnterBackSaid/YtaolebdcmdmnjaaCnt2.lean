/-
  How many configurations states in one another have: as many as their ways are.
-/
import Derived.Test.YtaolebdcmdmnjaaCnt1
namespace Go.Proofs.Ytaolebdcmdmnjaa
set_option maxRecDepth 100000

section
variable {ks ps : List Int} {n : Nat}
theorem kid_of (k : Nat) : isKid ks ps (ps.getD k 0) k = hl ks k := by unfold isKid; simp
theorem kid_ne {a : Int} {k : Nat} (h : ps.getD k 0 ≠ a) : isKid ks ps a k = false := by
  unfold isKid
  rw [beq_eq_false_iff_ne.2 h]; rfl
/-- a state has no states of its own ahead of it -/
theorem cin_own (hp : ∀ k, k < n → ps.getD k 0 < k) {m : Nat} (hm : m < n) (S : Nat → Bool) : cin ks ps m S (m + 1) = 0 := by
  refine sum_zero fun k hk => ?_
  have : isKid ks ps m k = false := kid_ne (by have := hp k (by omega); omega)
  rw [this]; rfl
theorem gIn_own (hp : ∀ k, k < n → ps.getD k 0 < k) {m : Nat} (hm : m < n) (S : Nat → Bool) (hh : hl ks m = true) : gIn ks ps n m S (m + 1) = wy ks ps n m := by
  have hc := cin_own (ks := ks) hp hm S
  rw [wy_eq hp (by omega)]
  unfold gIn
  rw [if_neg (by rw [Int.toNat_natCast, hh]; simp)]
  have hk : ∀ k, k < n → isKid ks ps m k = true → m + 1 ≤ k := fun k hk h => by have := kid_gt hp hk h; omega
  split
  · rfl
  · split
    · unfold gAll
      refine prdTo_congr fun k hkn => ?_
      try dsimp only
      split
      · rename_i hi
        rw [if_neg (by have := hk k hkn hi; omega)]
      · rfl
    · unfold gCh
      rw [if_pos hc]
      refine sumTo_congr fun k hkn => ?_
      try dsimp only
      by_cases hi : isKid ks ps m k = true
      · rw [hi, decide_eq_true (hk k hkn hi)]; rfl
      · have hi : isKid ks ps m k = false := by simpa using hi
        rw [hi]; rfl
/-- the next state is in, or it is not -/
theorem comp_step (hp : ∀ k, k < n → -1 ≤ ps.getD k 0 ∧ ps.getD k 0 < k) {S T U : Nat → Bool} {m : Nat} (hm : m < n) (hT : ∀ k, k < m → S k = T k) (hU : ∀ k, k < m → S k = U k) (tm : T m = false) (um : U m = true) :
    comp ks ps n S m = comp ks ps n T (m + 1) + comp ks ps n U (m + 1) := by
  have hp' : ∀ k, k < n → ps.getD k 0 < k := fun k hk => (hp k hk).2
  have et : gAt ks ps n T (m + 1) m = 1 := by
    unfold gAt gOut
    rw [tm, if_neg (by simp), if_pos (cin_own hp' hm T)]
  have comm : ∀ (R : Nat → Bool), comp ks ps n R (m + 1) = gIn ks ps n (-1) R (m + 1) * prdTo (gAt ks ps n R (m + 1)) m * gAt ks ps n R (m + 1) m := fun R => by
    unfold comp; simp only [prdTo]; rw [Nat.mul_assoc]
  rw [comm T, comm U, et, Nat.mul_one]
  cases hh : hl ks m
  · have eu : gAt ks ps n U (m + 1) m = 0 := by
      unfold gAt gIn
      rw [um, if_pos rfl, if_pos ⟨by omega, by rw [Int.toNat_natCast]; exact hh⟩]
    have no : ∀ a : Int, isKid ks ps a m = false := fun a => by unfold isKid; rw [hh, Bool.and_false]
    rw [eu, Nat.mul_zero, Nat.add_zero]
    unfold comp
    rw [gIn_other hm hT (no _), prdTo_congr fun p hpm => gAt_other hm hpm hT (no p)]
  · have eu : gAt ks ps n U (m + 1) m = wy ks ps n m := by
      unfold gAt
      rw [um, if_pos rfl, gIn_own hp' hm U hh]
    rw [eu]
    have hq := hp m hm
    by_cases h1 : ps.getD m 0 = -1
    · have hk : isKid ks ps (-1) m = true := by rw [← h1, kid_of]; exact hh
      have no : ∀ p : Nat, isKid ks ps p m = false := fun p => kid_ne (by omega)
      unfold comp
      rw [gIn_kid hm hT hU tm um hk, prdTo_congr (f := gAt ks ps n T (m + 1)) (g := gAt ks ps n S m) fun p hpm => (gAt_other hm hpm hT (no p)).symm, prdTo_congr (f := gAt ks ps n U (m + 1)) (g := gAt ks ps n S m) fun p hpm => (gAt_other hm hpm hU (no p)).symm,
        Nat.add_mul, Nat.mul_right_comm]
    · obtain ⟨q, hqe⟩ : ∃ q : Nat, ps.getD m 0 = q := ⟨(ps.getD m 0).toNat, by omega⟩
      have hqm : q < m := by omega
      have hk : isKid ks ps q m = true := by rw [← hqe, kid_of]; exact hh
      have no : ∀ p : Int, p ≠ q → isKid ks ps p m = false := fun p hne => kid_ne (by omega)
      unfold comp
      rw [← gIn_other hm hT (no (-1) (by omega)), ← gIn_other hm hU (no (-1) (by omega)), Nat.mul_assoc, ← Nat.mul_add]
      congr 1
      refine prd_part hqm (fun p hpm hne => ⟨gAt_other hm hpm hT (no p (by omega)), gAt_other hm hpm hU (no p (by omega))⟩) ?_
      unfold gAt
      rw [← hT q hqm, ← hU q hqm]
      cases S q
      · rw [if_neg (by simp), if_neg (by simp), if_neg (by simp)]
        exact gOut_kid hT tm um hU hk _
      · rw [if_pos rfl, if_pos rfl, if_pos rfl]
        exact gIn_kid hm hT hU tm um hk
theorem comp_congr {S T : Nat → Bool} {m : Nat} (h : ∀ k, k < m → S k = T k) : comp ks ps n S m = comp ks ps n T m := by
  have hg : ∀ a, gIn ks ps n a S m = gIn ks ps n a T m := fun a => by
    unfold gIn gAll gCh
    rw [cin_congr h]
    have : prdTo (fun k => if isKid ks ps a k = true then (if k < m then (S k).toNat else wy ks ps n k) else 1) n = prdTo (fun k => if isKid ks ps a k = true then (if k < m then (T k).toNat else wy ks ps n k) else 1) n :=
      prdTo_congr fun k _ => by
        split
        · split
          · rename_i hlt; rw [h k hlt]
          · rfl
        · rfl
    rw [this]
  unfold comp
  rw [hg (-1), prdTo_congr fun p hpm => ?_]
  unfold gAt gOut
  rw [h p hpm, hg p, cin_congr h]
/-- all the numbers that go on as S does -/
theorem count_from (hp : ∀ k, k < n → -1 ≤ ps.getD k 0 ∧ ps.getD k 0 < k) (P : Nat → Bool) (hP : ∀ s, s < 2 ^ n → (P s).toNat = comp ks ps n s.testBit n) :
    ∀ (d m S : Nat), d + m = n → S < 2 ^ m → cntP (fun t => P (S + 2 ^ m * t)) (2 ^ d) = comp ks ps n S.testBit m
  | 0, m, S, hd, hS => by
    obtain rfl : m = n := by omega
    rw [← hP S hS]
    simp [cntP, sumTo]
  | d + 1, m, S, hd, hS => by
    have h1 : 2 ^ (m + 1) = 2 * 2 ^ m := by rw [Nat.pow_succ, Nat.mul_comm]
    rw [show 2 ^ (d + 1) = 2 * 2 ^ d by rw [Nat.pow_succ, Nat.mul_comm], cntP_two]
    have ih1 := count_from hp P hP d (m + 1) S (by omega) (by omega)
    have ih2 := count_from hp P hP d (m + 1) (2 ^ m + S) (by omega) (by omega)
    have e1 : (fun t => P (S + 2 ^ m * (2 * t))) = fun t => P (S + 2 ^ (m + 1) * t) := by
      funext t; rw [h1]; congr 1
      rw [Nat.mul_left_comm, Nat.mul_assoc]
    have e2 : (fun t => P (S + 2 ^ m * (2 * t + 1))) = fun t => P (2 ^ m + S + 2 ^ (m + 1) * t) := by
      funext t; rw [h1]; congr 1
      rw [Nat.mul_add, Nat.mul_one, Nat.mul_left_comm, Nat.mul_assoc]; omega
    rw [e1, e2, ih1, ih2]
    refine (comp_step hp (by omega) (fun k hk => rfl) (fun k hk => ?_) ?_ ?_).symm
    · exact (Nat.testBit_two_pow_add_gt hk S).symm
    · exact Nat.testBit_lt_two_pow hS
    · rw [Nat.testBit_two_pow_add_eq, Nat.testBit_lt_two_pow hS]; rfl
end
end Go.Proofs.Ytaolebdcmdmnjaa
