/-
  How many configurations states in one another have: counted state by state: plain, no program in it.
-/
import Derived.Test.YtbacdllokgcohaaPol5
namespace Go.Proofs.Ytbacdllokgcohaa
set_option maxRecDepth 100000

def sumTo (f : Nat → Nat) : Nat → Nat
  | 0 => 0
  | k + 1 => sumTo f k + f k
theorem sumTo_congr {f g : Nat → Nat} : ∀ {n : Nat}, (∀ k, k < n → f k = g k) → sumTo f n = sumTo g n
  | 0, _ => rfl
  | n + 1, h => by
    simp only [sumTo]
    rw [sumTo_congr fun k hk => h k (by omega), h n (by omega)]
/-- one summand is taken out -/
theorem sum_part {f g : Nat → Nat} {q w : Nat} : ∀ {n : Nat}, q < n → (∀ k, k < n → k ≠ q → f k = g k) → f q = w + g q → sumTo f n = w + sumTo g n
  | 0, hq, _, _ => absurd hq (by omega)
  | n + 1, hq, he, hw => by
    simp only [sumTo]
    by_cases e : q = n
    · subst e
      rw [sumTo_congr (f := f) (g := g) fun k hk => he k (by omega) (by omega), hw]; omega
    · rw [sum_part (by omega) (fun k hk hne => he k (by omega) hne) hw, he n (by omega) (by omega)]; omega
theorem sum_zero {f : Nat → Nat} : ∀ {n : Nat}, (∀ k, k < n → f k = 0) → sumTo f n = 0
  | 0, _ => rfl
  | n + 1, h => by
    simp only [sumTo]
    rw [sum_zero fun k hk => h k (by omega), h n (by omega)]
theorem sum_zero_iff {f : Nat → Nat} : ∀ {n : Nat}, sumTo f n = 0 ↔ ∀ k, k < n → f k = 0
  | 0 => by simp [sumTo]
  | n + 1 => by
    simp only [sumTo]
    rw [Nat.add_eq_zero_iff, sum_zero_iff]
    constructor
    · rintro ⟨h1, h2⟩ k hk
      by_cases e : k = n
      · subst e; exact h2
      · exact h1 k (by omega)
    · intro h
      exact ⟨fun k hk => h k (by omega), h n (by omega)⟩
end Go.Proofs.Ytbacdllokgcohaa
/-
  How many configurations states in one another have: what each state adds.
-/
namespace Go.Proofs.Ytbacdllokgcohaa
set_option maxRecDepth 100000

section
variable (ks ps : List Int) (n : Nat)
/-- how many of a place's states below m are in -/
def cin (a : Int) (S : Nat → Bool) (m : Nat) : Nat := sumTo (fun k => if isKid ks ps a k && S k then 1 else 0) m
variable {ks ps n}

end
end Go.Proofs.Ytbacdllokgcohaa
/-
  How many configurations states in one another have: as many as their ways are (the end).
-/
namespace Go.Proofs.Ytbacdllokgcohaa
set_option maxRecDepth 100000

theorem sum_more {f : Nat → Nat} {n : Nat} (h : ∀ k, n ≤ k → f k = 0) : ∀ d, sumTo f (n + d) = sumTo f n
  | 0 => rfl
  | d + 1 => by
    show sumTo f (n + d) + f (n + d) = _
    rw [sum_more h d, h (n + d) (by omega)]; rfl
section
variable {ks ps : List Int} {n : Nat}
theorem cnt_sum (x : Nat) : ∀ m, cntTo x m = sumTo (fun k => (x.testBit k).toNat) m
  | 0 => rfl
  | m + 1 => by simp only [cntTo, sumTo]; rw [cnt_sum x m]
theorem cnt_cin (s : Nat) (a : Int) (hn : n ≤ 32) : cnt (s &&& opn ks ps a n) = cin ks ps a s.testBit n := by
  have e : cnt (s &&& opn ks ps a n) = sumTo (fun k => ((s &&& opn ks ps a n).testBit k).toNat) (n + (32 - n)) := by
    rw [show n + (32 - n) = 32 by omega]; exact cnt_sum _ _
  rw [e, sum_more fun k hk => ?_]
  · unfold cin
    refine sumTo_congr fun k hk => ?_
    rw [Nat.testBit_and, opn_bit, decide_eq_true hk, Bool.true_and, Bool.and_comm]
    cases isKid ks ps a k && s.testBit k <;> rfl
  · rw [Nat.testBit_and, opn_bit, decide_eq_false (by omega)]; simp
theorem opn_none {a : Int} : opn ks ps a n = 0 ↔ (List.range n).any (isKid ks ps a) = false := by
  rw [List.any_eq_false]
  constructor
  · intro h k hk hi
    have := opn_bit ks ps a k n
    rw [h, Nat.zero_testBit, decide_eq_true (List.mem_range.1 hk), hi] at this
    cases this
  · intro h
    apply Nat.eq_of_testBit_eq
    intro k
    rw [opn_bit, Nat.zero_testBit]
    by_cases hk : k < n
    · have := h k (List.mem_range.2 hk)
      have : isKid ks ps a k = false := by simpa using this
      rw [this, Bool.and_false]
    · rw [decide_eq_false hk]; rfl
theorem opn_all {a : Int} {s : Nat} : s &&& opn ks ps a n = opn ks ps a n ↔ ∀ k, k < n → isKid ks ps a k = true → s.testBit k = true := by
  constructor
  · intro h k hk hi
    have := congrArg (·.testBit k) h
    try dsimp only at this
    rw [Nat.testBit_and, opn_bit, decide_eq_true hk, hi] at this
    simpa using this
  · intro h
    apply Nat.eq_of_testBit_eq
    intro k
    rw [Nat.testBit_and, opn_bit]
    by_cases hk : k < n
    · cases hi : isKid ks ps a k
      · simp
      · rw [h k hk hi]; rfl
    · rw [decide_eq_false hk]; simp
end
end Go.Proofs.Ytbacdllokgcohaa
/-
  A configuration that is found place by place: plain, no program in it.
-/
namespace Go.Proofs.Ytbacdllokgcohaa
set_option maxRecDepth 100000

section
variable (ks ps : List Int) (n : Nat)
/-- the states of a place that may be in -/
def openL (a : Int) : List Nat := (List.range n).filter (isKid ks ps a)
/-- a place: the top, or a state that is in -/
def plc (s : Nat) (a : Int) : Prop := a = -1 ∨ ∃ k : Nat, a = k ∧ k < n ∧ s.testBit k = true
/-- what holds of a place whose states have been chosen -/
def done (s : Nat) (a : Int) : Prop :=
  if 0 ≤ a ∧ ks.getD a.toNat 0 = 2 then ∀ k, k < n → isKid ks ps a k = true → s.testBit k = true
  else (List.range n).any (isKid ks ps a) = false ∨ cin ks ps a s.testBit n = 1
structure CInv (s : Nat) (L : List Int) : Prop where
  lt : s < 2 ^ n
  nd : L.Nodup
  pl : ∀ a ∈ L, plc n s a
  up : ∀ k, k < n → s.testBit k = true → hl ks k = true ∧ plc n s (ps.getD k 0) ∧ ps.getD k 0 ∉ L
  dn : ∀ a, plc n s a → a ∉ L → done ks ps n s a
variable {ks ps n}
theorem mem_openL {a : Int} {k : Nat} : k ∈ openL ks ps n a ↔ k < n ∧ isKid ks ps a k = true := by
  unfold openL; rw [List.mem_filter, List.mem_range]
theorem openL_nodup (a : Int) : (openL ks ps n a).Nodup := List.Pairwise.filter _ List.nodup_range
theorem CInv.start : CInv ks ps n 0 [-1] where
  lt := Nat.two_pow_pos n
  nd := by simp
  pl := fun a ha => .inl (List.mem_singleton.1 ha)
  up := fun k _ h => by rw [Nat.zero_testBit] at h; cases h
  dn := fun a h hn => by
    rcases h with h | ⟨k, _, _, h⟩
    · exact absurd (List.mem_singleton.2 h) hn
    · rw [Nat.zero_testBit] at h; cases h
theorem kid_par {a : Int} {k : Nat} (h : isKid ks ps a k = true) : ps.getD k 0 = a ∧ hl ks k = true := by
  unfold isKid at h
  rw [Bool.and_eq_true, beq_iff_eq] at h
  exact h
theorem sum_count {C : List Nat} {P : Nat → Bool} (hC : C.Nodup) : ∀ {m : Nat}, (∀ k, k ∈ C ↔ k < m ∧ P k = true) → sumTo (fun k => if P k then 1 else 0) m = C.length
  | 0, h => by
    have : C = [] := List.eq_nil_iff_forall_not_mem.2 fun k hk => by have := (h k).1 hk; omega
    rw [this]; rfl
  | m + 1, h => by
    simp only [sumTo]
    by_cases hp : P m = true
    · have hm : m ∈ C := (h m).2 ⟨by omega, hp⟩
      have he : ∀ k, k ∈ C.erase m ↔ k < m ∧ P k = true := fun k => by
        rw [hC.mem_erase_iff, h k]
        constructor
        · rintro ⟨h1, h2, h3⟩; exact ⟨by omega, h3⟩
        · rintro ⟨h1, h2⟩; exact ⟨by omega, by omega, h2⟩
      rw [sum_count (hC.erase m) he, if_pos hp, List.length_erase_of_mem hm]
      have := List.length_pos_of_mem hm
      omega
    · have he : ∀ k, k ∈ C ↔ k < m ∧ P k = true := fun k => by
        rw [h k]
        constructor
        · rintro ⟨h1, h2⟩
          refine ⟨?_, h2⟩
          by_cases e : k = m
          · subst e; exact absurd h2 hp
          · omega
        · rintro ⟨h1, h2⟩; exact ⟨by omega, h2⟩
      rw [sum_count hC he, if_neg hp]
      omega
end
end Go.Proofs.Ytbacdllokgcohaa
/-
  A configuration is one; with a state more or less it is none: plain, no program in it.
-/
namespace Go.Proofs.Ytbacdllokgcohaa
set_option maxRecDepth 100000

section
variable {ks ps : List Int} {n : Nat}
theorem prop_iff (hsz : szN ks ps = n) (hn : n ≤ 32) (s : Nat) : prop ks ps s = true ↔ s < 2 ^ n ∧ cin ks ps (-1) s.testBit n = 1 ∧ ∀ k, k < n → s.testBit k = true → settl ks ps s k = true := by
  unfold prop
  rw [hsz, cnt_cin s (-1) hn, Bool.and_eq_true, Bool.and_eq_true, decide_eq_true_eq, beq_iff_eq, List.all_eq_true]
  have h2 : s / 2 ^ n = 0 ↔ s < 2 ^ n := by
    rw [Nat.div_eq_zero_iff]
    have := Nat.two_pow_pos n
    omega
  rw [h2]
  constructor
  · rintro ⟨⟨h1, h2⟩, h3⟩
    refine ⟨h1, h2, fun k hk hb => ?_⟩
    have := h3 k (List.mem_range.2 hk)
    rw [hb] at this
    simpa using this
  · rintro ⟨h1, h2, h3⟩
    refine ⟨⟨h1, h2⟩, fun k hk => ?_⟩
    cases hb : s.testBit k
    · rfl
    · rw [h3 k (List.mem_range.1 hk) hb]; rfl
theorem settl_iff (hp : ∀ k, k < n → -1 ≤ ps.getD k 0 ∧ ps.getD k 0 < k) (hsz : szN ks ps = n) (hn : n ≤ 32) (s k : Nat) (hk : k < n) :
    settl ks ps s k = true ↔ hl ks k = true ∧ (0 ≤ ps.getD k 0 → s.testBit (ps.getD k 0).toNat = true) ∧
      (if ks.getD k 0 = 2 then ∀ j, j < n → isKid ks ps k j = true → s.testBit j = true else (List.range n).any (isKid ks ps k) = false ∨ cin ks ps k s.testBit n = 1) := by
  have hpar : par ps k = ps.getD k 0 := by unfold par; have := hp k hk; omega
  unfold settl
  rw [hsz, hpar, Bool.and_eq_true, Bool.and_eq_true, and_assoc]
  refine and_congr Iff.rfl (and_congr ?_ ?_)
  · by_cases h0 : 0 ≤ ps.getD k 0
    · rw [decide_eq_true h0, Bool.true_and, Bool.not_not]
      exact ⟨fun h _ => h, fun h => h h0⟩
    · rw [decide_eq_false h0]
      exact ⟨fun _ h => absurd h h0, fun _ => rfl⟩
  · split
    · rw [beq_iff_eq, opn_all]
    · rw [Bool.or_eq_true, beq_iff_eq, beq_iff_eq, opn_none, cnt_cin s k hn]
end
end Go.Proofs.Ytbacdllokgcohaa
