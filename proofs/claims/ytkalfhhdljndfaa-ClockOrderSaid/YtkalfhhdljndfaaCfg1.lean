/-
  A configuration that is found place by place: plain, no program in it.
-/
import Derived.Test.YtkalfhhdljndfaaCnt3
namespace Go.Proofs.Ytkalfhhdljndfaa
set_option maxRecDepth 100000

section
variable (ks ps : List Int) (n : Nat)
/-- the states of a place that may be in -/
def openL (a : Int) : List Nat := (List.range n).filter (isKid ks ps a)
variable {ks ps n}
theorem mem_openL {a : Int} {k : Nat} : k ∈ openL ks ps n a ↔ k < n ∧ isKid ks ps a k = true := by
  unfold openL; rw [List.mem_filter, List.mem_range]
theorem kid_par {a : Int} {k : Nat} (h : isKid ks ps a k = true) : ps.getD k 0 = a ∧ hl ks k = true := by
  unfold isKid at h
  rw [Bool.and_eq_true, beq_iff_eq] at h
  exact h
theorem sum_count {C : List Nat} {P : Nat → Bool} (hC : C.Nodup) : ∀ {m : Nat}, (∀ k, k ∈ C ↔ k < m ∧ P k = true) → sumTo (fun k => if P k then 1 else 0) m = C.length
  | 0, h => by
    have : C = [] := List.eq_nil_iff_forall_not_mem.2 fun k hk => by have := (h k).1 hk; omega
    rw [this]; rfl
  | m + 1, h => by
    simp only [sumTo]
    by_cases hp : P m = true
    · have hm : m ∈ C := (h m).2 ⟨by omega, hp⟩
      have he : ∀ k, k ∈ C.erase m ↔ k < m ∧ P k = true := fun k => by
        rw [hC.mem_erase_iff, h k]
        constructor
        · rintro ⟨h1, h2, h3⟩; exact ⟨by omega, h3⟩
        · rintro ⟨h1, h2⟩; exact ⟨by omega, by omega, h2⟩
      rw [sum_count (hC.erase m) he, if_pos hp, List.length_erase_of_mem hm]
      have := List.length_pos_of_mem hm
      omega
    · have he : ∀ k, k ∈ C ↔ k < m ∧ P k = true := fun k => by
        rw [h k]
        constructor
        · rintro ⟨h1, h2⟩
          refine ⟨?_, h2⟩
          by_cases e : k = m
          · subst e; exact absurd h2 hp
          · omega
        · rintro ⟨h1, h2⟩; exact ⟨by omega, h2⟩
      rw [sum_count hC he, if_neg hp]
      omega
end
end Go.Proofs.Ytkalfhhdljndfaa
/-
  A configuration is one; with a state more or less it is none: plain, no program in it.
-/
namespace Go.Proofs.Ytkalfhhdljndfaa
set_option maxRecDepth 100000

section
variable {ks ps : List Int} {n : Nat}
theorem prop_iff (hsz : szN ks ps = n) (hn : n ≤ 32) (s : Nat) : prop ks ps s = true ↔ s < 2 ^ n ∧ cin ks ps (-1) s.testBit n = 1 ∧ ∀ k, k < n → s.testBit k = true → settl ks ps s k = true := by
  unfold prop
  rw [hsz, cnt_cin s (-1) hn, Bool.and_eq_true, Bool.and_eq_true, decide_eq_true_eq, beq_iff_eq, List.all_eq_true]
  have h2 : s / 2 ^ n = 0 ↔ s < 2 ^ n := by
    rw [Nat.div_eq_zero_iff]
    have := Nat.two_pow_pos n
    omega
  rw [h2]
  constructor
  · rintro ⟨⟨h1, h2⟩, h3⟩
    refine ⟨h1, h2, fun k hk hb => ?_⟩
    have := h3 k (List.mem_range.2 hk)
    rw [hb] at this
    simpa using this
  · rintro ⟨h1, h2, h3⟩
    refine ⟨⟨h1, h2⟩, fun k hk => ?_⟩
    cases hb : s.testBit k
    · rfl
    · rw [h3 k (List.mem_range.1 hk) hb]; rfl
theorem settl_iff (hp : ∀ k, k < n → -1 ≤ ps.getD k 0 ∧ ps.getD k 0 < k) (hsz : szN ks ps = n) (hn : n ≤ 32) (s k : Nat) (hk : k < n) :
    settl ks ps s k = true ↔ hl ks k = true ∧ (0 ≤ ps.getD k 0 → s.testBit (ps.getD k 0).toNat = true) ∧
      (if ks.getD k 0 = 2 then ∀ j, j < n → isKid ks ps k j = true → s.testBit j = true else (List.range n).any (isKid ks ps k) = false ∨ cin ks ps k s.testBit n = 1) := by
  have hpar : par ps k = ps.getD k 0 := by unfold par; have := hp k hk; omega
  unfold settl
  rw [hsz, hpar, Bool.and_eq_true, Bool.and_eq_true, and_assoc]
  refine and_congr Iff.rfl (and_congr ?_ ?_)
  · by_cases h0 : 0 ≤ ps.getD k 0
    · rw [decide_eq_true h0, Bool.true_and, Bool.not_not]
      exact ⟨fun h _ => h, fun h => h h0⟩
    · rw [decide_eq_false h0]
      exact ⟨fun _ h => absurd h h0, fun _ => rfl⟩
  · split
    · rw [beq_iff_eq, opn_all]
    · rw [Bool.or_eq_true, beq_iff_eq, beq_iff_eq, opn_none, cnt_cin s k hn]
end
end Go.Proofs.Ytkalfhhdljndfaa
