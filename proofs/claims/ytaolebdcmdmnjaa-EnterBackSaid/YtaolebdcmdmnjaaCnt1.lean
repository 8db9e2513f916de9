/-
  How many configurations states in one another have: what each state adds.
-/
import Derived.Test.YtaolebdcmdmnjaaCnt0
namespace Go.Proofs.Ytaolebdcmdmnjaa
set_option maxRecDepth 100000

section
variable (ks ps : List Int) (n : Nat)
/-- how many of a place's states below m are in -/
def cin (a : Int) (S : Nat → Bool) (m : Nat) : Nat := sumTo (fun k => if isKid ks ps a k && S k then 1 else 0) m
def gAll (a : Int) (S : Nat → Bool) (m : Nat) : Nat := prdTo (fun k => if isKid ks ps a k then (if k < m then (S k).toNat else wy ks ps n k) else 1) n
def gCh (a : Int) (S : Nat → Bool) (m : Nat) : Nat :=
  if cin ks ps a S m = 0 then sumTo (fun k => if isKid ks ps a k && decide (m ≤ k) then wy ks ps n k else 0) n else if cin ks ps a S m = 1 then 1 else 0
/-- what a place that is in adds, where the states below m are settled -/
def gIn (a : Int) (S : Nat → Bool) (m : Nat) : Nat :=
  if 0 ≤ a ∧ hl ks a.toNat = false then 0
  else if (List.range n).any (isKid ks ps a) = false then 1
  else if 0 ≤ a ∧ ks.getD a.toNat 0 = 2 then gAll ks ps n a S m
  else gCh ks ps n a S m
def gOut (a : Int) (S : Nat → Bool) (m : Nat) : Nat := if cin ks ps a S m = 0 then 1 else 0
def gAt (S : Nat → Bool) (m p : Nat) : Nat := if S p then gIn ks ps n p S m else gOut ks ps p S m
/-- in how many ways the states from m on can be in -/
def comp (S : Nat → Bool) (m : Nat) : Nat := gIn ks ps n (-1) S m * prdTo (gAt ks ps n S m) m
variable {ks ps n}

theorem cin_congr {a : Int} {S T : Nat → Bool} {m : Nat} (h : ∀ k, k < m → S k = T k) : cin ks ps a S m = cin ks ps a T m :=
  sumTo_congr fun k hk => by rw [h k hk]
theorem cin_snoc {a : Int} {S T : Nat → Bool} {m : Nat} (h : ∀ k, k < m → S k = T k) : cin ks ps a T (m + 1) = cin ks ps a S m + if isKid ks ps a m && T m then 1 else 0 := by
  rw [cin_congr h]; rfl
theorem not_any {a : Int} {k : Nat} (hk : k < n) (h : isKid ks ps a k = true) : ¬ (List.range n).any (isKid ks ps a) = false := by
  intro e
  rw [List.any_eq_false] at e
  exact e k (List.mem_range.2 hk) h
/-- a state that is none of a place's adds nothing there -/
theorem gIn_other {a : Int} {S T : Nat → Bool} {m : Nat} (hm : m < n) (h : ∀ k, k < m → S k = T k) (hk : isKid ks ps a m = false) : gIn ks ps n a S m = gIn ks ps n a T (m + 1) := by
  have hc : cin ks ps a T (m + 1) = cin ks ps a S m := by rw [cin_snoc h, hk]; rfl
  unfold gIn
  split
  · rfl
  split
  · rfl
  split
  · unfold gAll
    refine prdTo_congr fun k hkn => ?_
    try dsimp only
    split
    · rename_i hi
      have hne : k ≠ m := fun e => by subst e; rw [hk] at hi; cases hi
      by_cases hlt : k < m
      · rw [if_pos hlt, if_pos (by omega), h k hlt]
      · rw [if_neg hlt, if_neg (by omega)]
    · rfl
  · unfold gCh
    rw [hc]
    split
    · refine sumTo_congr fun k hkn => ?_
      try dsimp only
      by_cases hi : isKid ks ps a k = true
      · have hne : k ≠ m := fun e => by subst e; rw [hk] at hi; cases hi
        have : decide (m + 1 ≤ k) = decide (m ≤ k) := by
          by_cases h' : m ≤ k
          · rw [decide_eq_true h', decide_eq_true (by omega)]
          · rw [decide_eq_false h', decide_eq_false (by omega)]
        rw [this]
      · have hi : isKid ks ps a k = false := by simpa using hi
        rw [hi]; rfl
    · rfl
theorem gOut_other {a : Int} {S T : Nat → Bool} {m : Nat} (h : ∀ k, k < m → S k = T k) (hk : (isKid ks ps a m && T m) = false) : gOut ks ps a S m = gOut ks ps a T (m + 1) := by
  unfold gOut
  rw [cin_snoc h, hk]; rfl
theorem gAt_other {S T : Nat → Bool} {m p : Nat} (hm : m < n) (hpm : p < m) (h : ∀ k, k < m → S k = T k) (hk : isKid ks ps p m = false) : gAt ks ps n S m p = gAt ks ps n T (m + 1) p := by
  unfold gAt
  rw [← h p hpm, gIn_other hm h hk, gOut_other h (by rw [hk]; rfl)]
/-- a place that is in, and the next state is one of its own -/
theorem gIn_kid {a : Int} {S T U : Nat → Bool} {m : Nat} (hm : m < n) (hT : ∀ k, k < m → S k = T k) (hU : ∀ k, k < m → S k = U k) (tm : T m = false) (um : U m = true) (hk : isKid ks ps a m = true) :
    gIn ks ps n a S m = gIn ks ps n a T (m + 1) + gIn ks ps n a U (m + 1) * wy ks ps n m := by
  have c1 : cin ks ps a T (m + 1) = cin ks ps a S m := by rw [cin_snoc hT, hk, tm]; rfl
  have c2 : cin ks ps a U (m + 1) = cin ks ps a S m + 1 := by rw [cin_snoc hU, hk, um]; rfl
  have ha := not_any (n := n) hm hk
  unfold gIn
  by_cases h0 : 0 ≤ a ∧ hl ks a.toNat = false
  · rw [if_pos h0, if_pos h0, if_pos h0]; omega
  rw [if_neg h0, if_neg h0, if_neg h0, if_neg ha, if_neg ha, if_neg ha]
  by_cases h2 : 0 ≤ a ∧ ks.getD a.toNat 0 = 2
  · rw [if_pos h2, if_pos h2, if_pos h2]
    have z : gAll ks ps n a T (m + 1) = 0 := prd_zero hm (by rw [hk, if_pos rfl, if_pos (by omega), tm]; rfl)
    rw [z, Nat.zero_add]
    have := prd_part (f := fun k => if isKid ks ps a k then (if k < m then (S k).toNat else wy ks ps n k) else 1) (g := fun k => if k = m then 0 else if isKid ks ps a k then (if k < m then (S k).toNat else wy ks ps n k) else 1)
      (h := fun k => if isKid ks ps a k then (if k < m + 1 then (U k).toNat else wy ks ps n k) else 1) (q := m) (w := wy ks ps n m) (n := n) hm (fun k hkn hne => by
        try dsimp only
        rw [if_neg hne]
        refine ⟨rfl, ?_⟩
        split
        · by_cases hlt : k < m
          · rw [if_pos hlt, if_pos (by omega), hU k hlt]
          · rw [if_neg hlt, if_neg (by omega)]
        · rfl) (by
        try dsimp only
        rw [hk, if_pos rfl, if_pos rfl, if_neg (by omega), if_pos rfl, if_pos (by omega), um]
        simp)
    have z2 : prdTo (fun k => if k = m then 0 else if isKid ks ps a k then (if k < m then (S k).toNat else wy ks ps n k) else 1) n = 0 := prd_zero hm (by rw [if_pos rfl])
    rw [z2, Nat.zero_add] at this
    exact this
  · rw [if_neg h2, if_neg h2, if_neg h2]
    unfold gCh
    rw [c1, c2]
    generalize cin ks ps a S m = c
    by_cases h0 : c = 0
    · rw [if_pos h0, if_pos h0, if_neg (by omega), if_pos (by omega), Nat.one_mul, Nat.add_comm]
      refine sum_part (q := m) hm (fun k hkn hne => ?_) ?_
      · try dsimp only
        have : decide (m + 1 ≤ k) = decide (m ≤ k) := by
          by_cases h' : m ≤ k
          · rw [decide_eq_true h', decide_eq_true (by omega)]
          · rw [decide_eq_false h', decide_eq_false (by omega)]
        rw [this]
      · try dsimp only
        rw [hk, decide_eq_true (Nat.le_refl m), decide_eq_false (by omega : ¬ m + 1 ≤ m)]
        simp
    · by_cases h1 : c = 1
      · rw [if_neg h0, if_pos h1, if_neg h0, if_neg (by omega : ¬ c + 1 = 0), if_neg (by omega : ¬ c + 1 = 1), Nat.zero_mul]
      · rw [if_neg h0, if_neg h1, if_neg h0, if_neg (by omega : ¬ c + 1 = 0), if_neg (by omega : ¬ c + 1 = 1), Nat.zero_mul]
theorem gOut_kid {a : Int} {S T U : Nat → Bool} {m : Nat} (hT : ∀ k, k < m → S k = T k) (tm : T m = false) (um : U m = true) (hU : ∀ k, k < m → S k = U k) (hk : isKid ks ps a m = true) (w : Nat) :
    gOut ks ps a S m = gOut ks ps a T (m + 1) + gOut ks ps a U (m + 1) * w := by
  have c1 : cin ks ps a T (m + 1) = cin ks ps a S m := by rw [cin_snoc hT, hk, tm]; rfl
  have c2 : cin ks ps a U (m + 1) = cin ks ps a S m + 1 := by rw [cin_snoc hU, hk, um]; rfl
  unfold gOut
  rw [c1, c2, if_neg (by omega : ¬ cin ks ps a S m + 1 = 0)]; omega
end
end Go.Proofs.Ytaolebdcmdmnjaa
