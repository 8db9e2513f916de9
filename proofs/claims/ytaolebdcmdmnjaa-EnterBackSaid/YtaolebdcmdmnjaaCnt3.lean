/-
  How many configurations states in one another have: as many as their ways are (the end).
-/
import Derived.Test.YtaolebdcmdmnjaaCnt2
namespace Go.Proofs.Ytaolebdcmdmnjaa
set_option maxRecDepth 100000

theorem sum_more {f : Nat → Nat} {n : Nat} (h : ∀ k, n ≤ k → f k = 0) : ∀ d, sumTo f (n + d) = sumTo f n
  | 0 => rfl
  | d + 1 => by
    show sumTo f (n + d) + f (n + d) = _
    rw [sum_more h d, h (n + d) (by omega)]; rfl
section
variable {ks ps : List Int} {n : Nat}
theorem cnt_sum (x : Nat) : ∀ m, cntTo x m = sumTo (fun k => (x.testBit k).toNat) m
  | 0 => rfl
  | m + 1 => by simp only [cntTo, sumTo]; rw [cnt_sum x m]
theorem cnt_cin (s : Nat) (a : Int) (hn : n ≤ 32) : cnt (s &&& opn ks ps a n) = cin ks ps a s.testBit n := by
  have e : cnt (s &&& opn ks ps a n) = sumTo (fun k => ((s &&& opn ks ps a n).testBit k).toNat) (n + (32 - n)) := by
    rw [show n + (32 - n) = 32 by omega]; exact cnt_sum _ _
  rw [e, sum_more fun k hk => ?_]
  · unfold cin
    refine sumTo_congr fun k hk => ?_
    rw [Nat.testBit_and, opn_bit, decide_eq_true hk, Bool.true_and, Bool.and_comm]
    cases isKid ks ps a k && s.testBit k <;> rfl
  · rw [Nat.testBit_and, opn_bit, decide_eq_false (by omega)]; simp
theorem opn_none {a : Int} : opn ks ps a n = 0 ↔ (List.range n).any (isKid ks ps a) = false := by
  rw [List.any_eq_false]
  constructor
  · intro h k hk hi
    have := opn_bit ks ps a k n
    rw [h, Nat.zero_testBit, decide_eq_true (List.mem_range.1 hk), hi] at this
    cases this
  · intro h
    apply Nat.eq_of_testBit_eq
    intro k
    rw [opn_bit, Nat.zero_testBit]
    by_cases hk : k < n
    · have := h k (List.mem_range.2 hk)
      have : isKid ks ps a k = false := by simpa using this
      rw [this, Bool.and_false]
    · rw [decide_eq_false hk]; rfl
theorem opn_all {a : Int} {s : Nat} : s &&& opn ks ps a n = opn ks ps a n ↔ ∀ k, k < n → isKid ks ps a k = true → s.testBit k = true := by
  constructor
  · intro h k hk hi
    have := congrArg (·.testBit k) h
    try dsimp only at this
    rw [Nat.testBit_and, opn_bit, decide_eq_true hk, hi] at this
    simpa using this
  · intro h
    apply Nat.eq_of_testBit_eq
    intro k
    rw [Nat.testBit_and, opn_bit]
    by_cases hk : k < n
    · cases hi : isKid ks ps a k
      · simp
      · rw [h k hk hi]; rfl
    · rw [decide_eq_false hk]; simp
theorem gCh_end (a : Int) (S : Nat → Bool) : gCh ks ps n a S n = (cin ks ps a S n == 1).toNat := by
  unfold gCh
  generalize hc : cin ks ps a S n = c
  by_cases h0 : c = 0
  · rw [if_pos h0, sum_zero fun k hk => by rw [decide_eq_false (by omega), Bool.and_false]; rfl, h0]; rfl
  · rw [if_neg h0]
    by_cases h1 : c = 1
    · rw [if_pos h1, h1]; rfl
    · rw [if_neg h1, beq_eq_false_iff_ne.2 h1]; rfl
theorem gAll_end (a : Int) (S : Nat → Bool) : (gAll ks ps n a S n = 1 ∧ ∀ k, k < n → isKid ks ps a k = true → S k = true) ∨ (gAll ks ps n a S n = 0 ∧ ∃ k, k < n ∧ isKid ks ps a k = true ∧ S k = false) := by
  unfold gAll
  rcases prd_bool (f := fun k => if isKid ks ps a k = true then (if k < n then (S k).toNat else wy ks ps n k) else 1) (n := n) (fun k hk => by
    try dsimp only
    split
    · try rw [if_pos hk]
      cases S k <;> simp
    · exact .inr rfl) with ⟨h1, h2⟩ | ⟨h1, k, hk, h2⟩
  · refine .inl ⟨h1, fun k hk hi => ?_⟩
    have := h2 k hk
    try dsimp only at this
    rw [if_pos hi, if_pos hk] at this
    cases e : S k
    · rw [e] at this; cases this
    · rfl
  · try dsimp only at h2
    cases hi : isKid ks ps a k
    · rw [hi] at h2; simp at h2
    · rw [if_pos hi, if_pos hk] at h2
      refine .inr ⟨h1, k, hk, hi, ?_⟩
      cases e : S k
      · rfl
      · rw [e] at h2; cases h2
theorem gIn_end {S : Nat → Bool} {p : Nat} (s : Nat) (hS : S = s.testBit) (hn : n ≤ 32) : (gIn ks ps n p S n = 1 ∨ gIn ks ps n p S n = 0) ∧ (gIn ks ps n p S n = 1 ↔ hl ks p = true ∧
    (if ks.getD p 0 = 2 then s &&& opn ks ps p n == opn ks ps p n else opn ks ps p n == 0 || cnt (s &&& opn ks ps p n) == 1) = true) := by
  unfold gIn
  rw [Int.toNat_natCast]
  cases hh : hl ks p
  · rw [if_pos ⟨by omega, rfl⟩]
    exact ⟨.inr rfl, by simp⟩
  · rw [if_neg (by simp)]
    by_cases ha : (List.range n).any (isKid ks ps p) = false
    · rw [if_pos ha, opn_none.2 ha]
      refine ⟨.inl rfl, by simp⟩
    · rw [if_neg ha]
      have hne : ¬ opn ks ps p n = 0 := fun e => ha (opn_none.1 e)
      by_cases h2 : ks.getD p 0 = 2
      · rw [if_pos ⟨by omega, h2⟩, if_pos h2]
        rcases gAll_end (ks := ks) (ps := ps) (n := n) p S with ⟨e, h⟩ | ⟨e, k, hk, hi, hs⟩
        · rw [e]
          refine ⟨.inl rfl, ⟨fun _ => ⟨rfl, ?_⟩, fun _ => rfl⟩⟩
          rw [beq_iff_eq, opn_all]
          intro k hk hi
          rw [← hS]; exact h k hk hi
        · rw [e]
          refine ⟨.inr rfl, ⟨fun h => by omega, fun h => ?_⟩⟩
          have := opn_all.1 (beq_iff_eq.1 h.2) k hk hi
          rw [← hS, hs] at this; cases this
      · rw [if_neg (fun h => h2 h.2), if_neg h2, gCh_end, cnt_cin s p hn, ← hS, beq_eq_false_iff_ne.2 hne, Bool.false_or]
        cases cin ks ps p S n == 1
        · exact ⟨.inr rfl, by simp⟩
        · exact ⟨.inl rfl, by simp⟩
theorem gAt_end (hp : ∀ k, k < n → -1 ≤ ps.getD k 0 ∧ ps.getD k 0 < k) (hsz : szN ks ps = n) (hn : n ≤ 32) (s : Nat) :
    (prdTo (gAt ks ps n s.testBit n) n = 1 ∧ ∀ k, k < n → (!s.testBit k || settl ks ps s k) = true) ∨ (prdTo (gAt ks ps n s.testBit n) n = 0 ∧ ∃ k, k < n ∧ (!s.testBit k || settl ks ps s k) = false) := by
  have hpar : ∀ k, k < n → par ps k = ps.getD k 0 := fun k hk => by unfold par; have := hp k hk; omega
  have hset : ∀ k, settl ks ps s k = (hl ks k && !(decide (0 ≤ par ps k) && !s.testBit (par ps k).toNat) && (if ks.getD k 0 = 2 then s &&& opn ks ps k n == opn ks ps k n else opn ks ps k n == 0 || cnt (s &&& opn ks ps k n) == 1)) := fun k => by unfold settl; rw [hsz]
  rcases prd_bool (f := gAt ks ps n s.testBit n) (n := n) (fun p hpn => by
    unfold gAt
    split
    · exact (gIn_end s rfl hn).1.symm
    · unfold gOut; split <;> simp) with ⟨h1, h2⟩ | ⟨h1, p, hpn, h2⟩
  · refine .inl ⟨h1, fun k hk => ?_⟩
    cases hs : s.testBit k
    · rfl
    · have hg := h2 k hk
      unfold gAt at hg
      rw [hs, if_pos rfl] at hg
      obtain ⟨hh, hb⟩ := (gIn_end s rfl hn).2.1 hg
      rw [hset k, hh, hb, hpar k hk, Bool.and_true, Bool.true_and]
      by_cases h0 : 0 ≤ ps.getD k 0
      · obtain ⟨q, hq⟩ : ∃ q : Nat, ps.getD k 0 = q := ⟨(ps.getD k 0).toNat, by omega⟩
        have hqk : q < k := by have := hp k hk; omega
        have hgq := h2 q (by omega)
        unfold gAt at hgq
        have : s.testBit q = true := by
          cases hsq : s.testBit q
          · rw [hsq, if_neg (by simp)] at hgq
            unfold gOut at hgq
            by_cases hc : cin ks ps q s.testBit n = 0
            · have := sum_zero_iff.1 hc k hk
              have hkid : isKid ks ps q k = true := by rw [← hq, kid_of]; exact hh
              rw [hkid, hs] at this
              cases this
            · rw [if_neg hc] at hgq; cases hgq
          · rfl
        rw [hq, Int.toNat_natCast, this]; simp
      · rw [decide_eq_false h0]; simp
  · refine .inr ⟨h1, ?_⟩
    unfold gAt at h2
    cases hs : s.testBit p
    · rw [hs, if_neg (by simp)] at h2
      unfold gOut at h2
      by_cases hc : cin ks ps p s.testBit n = 0
      · rw [if_pos hc] at h2; cases h2
      · have : ¬ ∀ k, k < n → (if isKid ks ps p k && s.testBit k then 1 else 0) = 0 := fun h => hc (sum_zero_iff.2 h)
        obtain ⟨k, hk⟩ := Classical.not_forall.1 this
        obtain ⟨hkn, hne⟩ := Classical.not_imp.1 hk
        have hb : (isKid ks ps p k && s.testBit k) = true := by
          cases e : isKid ks ps p k && s.testBit k
          · rw [e] at hne; exact absurd rfl hne
          · rfl
        rw [Bool.and_eq_true] at hb
        refine ⟨k, hkn, ?_⟩
        have hq : ps.getD k 0 = p := by
          have := hb.1
          unfold isKid at this
          rw [Bool.and_eq_true, beq_iff_eq] at this
          exact this.1
        rw [hset k, hpar k hkn, hb.2, hq, Int.toNat_natCast, hs]; simp
    · refine ⟨p, hpn, ?_⟩
      rw [hs, if_pos rfl] at h2
      cases e : settl ks ps s p
      · rw [hs]; rfl
      · rw [hset p, Bool.and_eq_true, Bool.and_eq_true] at e
        have := (gIn_end (ks := ks) (ps := ps) s rfl hn).2.2 ⟨e.1.1, e.2⟩
        rw [h2] at this; cases this
theorem prop_comp (hp : ∀ k, k < n → -1 ≤ ps.getD k 0 ∧ ps.getD k 0 < k) (hsz : szN ks ps = n) (hn : n ≤ 32) (htop : (List.range n).any (isKid ks ps (-1)) = true) (s : Nat) (hs : s < 2 ^ n) : (prop ks ps s).toNat = comp ks ps n s.testBit n := by
  have e : prop ks ps s = (decide (s / 2 ^ n = 0) && cnt (s &&& opn ks ps (-1) n) == 1 && (List.range n).all fun k => !s.testBit k || settl ks ps s k) := by unfold prop; rw [hsz]
  have hg : gIn ks ps n (-1) s.testBit n = (cin ks ps (-1) s.testBit n == 1).toNat := by
    unfold gIn
    rw [if_neg (by omega), if_neg (by rw [htop]; simp), if_neg (by omega), gCh_end]
  unfold comp
  rw [e, hg, cnt_cin s (-1) hn, decide_eq_true (Nat.div_eq_of_lt hs), Bool.true_and]
  rcases gAt_end hp hsz hn s with ⟨h1, h2⟩ | ⟨h1, k, hk, h2⟩
  · have : ((List.range n).all fun k => !s.testBit k || settl ks ps s k) = true := List.all_eq_true.2 fun k hk => h2 k (List.mem_range.1 hk)
    rw [h1, this, Bool.and_true, Nat.mul_one]
  · have : ((List.range n).all fun k => !s.testBit k || settl ks ps s k) = false := List.all_eq_false.2 ⟨k, List.mem_range.2 hk, by simp [h2]⟩
    rw [h1, this, Bool.and_false, Nat.mul_zero]; rfl
/-- as many configurations as ways -/
theorem count_all (hp : ∀ k, k < n → -1 ≤ ps.getD k 0 ∧ ps.getD k 0 < k) (hsz : szN ks ps = n) (hn : n ≤ 32) (htop : (List.range n).any (isKid ks ps (-1)) = true) : cntP (prop ks ps) (2 ^ n) = wy ks ps n (-1) := by
  have h := count_from hp (prop ks ps) (prop_comp hp hsz hn htop) n 0 0 rfl (by simp)
  have e : (fun t => prop ks ps (0 + 2 ^ 0 * t)) = prop ks ps := by funext t; simp
  rw [e] at h
  have hw := wy_eq (ks := ks) (fun k hk => (hp k hk).2) (a := -1) (by omega)
  have ht : ¬ (List.range n).any (isKid ks ps (-1)) = false := by rw [htop]; simp
  rw [if_neg ht, if_neg (by omega)] at hw
  rw [h, hw]
  have hg : gIn ks ps n (-1) (Nat.testBit 0) 0 = gCh ks ps n (-1) (Nat.testBit 0) 0 := by
    unfold gIn
    rw [if_neg (by omega), if_neg ht, if_neg (by omega)]
  unfold comp
  rw [hg]
  unfold gCh
  have hc0 : cin ks ps (-1) (Nat.testBit 0) 0 = 0 := rfl
  rw [if_pos hc0]
  show sumTo _ n * 1 = _
  rw [Nat.mul_one]
  refine sumTo_congr fun k hk => ?_
  rw [decide_eq_true (Nat.zero_le k), Bool.and_true]
end
end Go.Proofs.Ytaolebdcmdmnjaa
