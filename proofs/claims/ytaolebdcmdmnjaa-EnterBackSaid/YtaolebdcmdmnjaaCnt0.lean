/-
  How many configurations states in one another have: counted state by state: plain, no program in it.
-/
import Derived.Test.YtaolebdcmdmnjaaSh0
namespace Go.Proofs.Ytaolebdcmdmnjaa
set_option maxRecDepth 100000

def sumTo (f : Nat → Nat) : Nat → Nat
  | 0 => 0
  | k + 1 => sumTo f k + f k
def prdTo (f : Nat → Nat) : Nat → Nat
  | 0 => 1
  | k + 1 => prdTo f k * f k
theorem sumTo_congr {f g : Nat → Nat} : ∀ {n : Nat}, (∀ k, k < n → f k = g k) → sumTo f n = sumTo g n
  | 0, _ => rfl
  | n + 1, h => by
    simp only [sumTo]
    rw [sumTo_congr fun k hk => h k (by omega), h n (by omega)]
theorem prdTo_congr {f g : Nat → Nat} : ∀ {n : Nat}, (∀ k, k < n → f k = g k) → prdTo f n = prdTo g n
  | 0, _ => rfl
  | n + 1, h => by
    simp only [prdTo]
    rw [prdTo_congr fun k hk => h k (by omega), h n (by omega)]
/-- one factor parts into two -/
theorem prd_part {f g h : Nat → Nat} {q w : Nat} : ∀ {n : Nat}, q < n → (∀ k, k < n → k ≠ q → f k = g k ∧ f k = h k) → f q = g q + h q * w → prdTo f n = prdTo g n + prdTo h n * w
  | 0, hq, _, _ => absurd hq (by omega)
  | n + 1, hq, he, hw => by
    simp only [prdTo]
    by_cases e : q = n
    · subst e
      rw [← prdTo_congr (f := f) (g := g) fun k hk => (he k (by omega) (by omega)).1, ← prdTo_congr (f := f) (g := h) fun k hk => (he k (by omega) (by omega)).2, hw, Nat.mul_add, Nat.mul_assoc]
    · have h1 := he n (by omega) (by omega)
      rw [prd_part (by omega) (fun k hk hne => he k (by omega) hne) hw, Nat.add_mul, ← h1.1, ← h1.2, Nat.mul_right_comm]
/-- one summand is taken out -/
theorem sum_part {f g : Nat → Nat} {q w : Nat} : ∀ {n : Nat}, q < n → (∀ k, k < n → k ≠ q → f k = g k) → f q = w + g q → sumTo f n = w + sumTo g n
  | 0, hq, _, _ => absurd hq (by omega)
  | n + 1, hq, he, hw => by
    simp only [sumTo]
    by_cases e : q = n
    · subst e
      rw [sumTo_congr (f := f) (g := g) fun k hk => he k (by omega) (by omega), hw]; omega
    · rw [sum_part (by omega) (fun k hk hne => he k (by omega) hne) hw, he n (by omega) (by omega)]; omega
theorem prd_zero {f : Nat → Nat} {q : Nat} : ∀ {n : Nat}, q < n → f q = 0 → prdTo f n = 0
  | 0, hq, _ => absurd hq (by omega)
  | n + 1, hq, h => by
    simp only [prdTo]
    by_cases e : q = n
    · subst e; rw [h, Nat.mul_zero]
    · rw [prd_zero (by omega) h, Nat.zero_mul]
theorem prd_one {f : Nat → Nat} : ∀ {n : Nat}, (∀ k, k < n → f k = 1) → prdTo f n = 1
  | 0, _ => rfl
  | n + 1, h => by
    simp only [prdTo]
    rw [prd_one fun k hk => h k (by omega), h n (by omega)]
theorem sum_zero {f : Nat → Nat} : ∀ {n : Nat}, (∀ k, k < n → f k = 0) → sumTo f n = 0
  | 0, _ => rfl
  | n + 1, h => by
    simp only [sumTo]
    rw [sum_zero fun k hk => h k (by omega), h n (by omega)]
theorem sum_zero_iff {f : Nat → Nat} : ∀ {n : Nat}, sumTo f n = 0 ↔ ∀ k, k < n → f k = 0
  | 0 => by simp [sumTo]
  | n + 1 => by
    simp only [sumTo]
    rw [Nat.add_eq_zero_iff, sum_zero_iff]
    constructor
    · rintro ⟨h1, h2⟩ k hk
      by_cases e : k = n
      · subst e; exact h2
      · exact h1 k (by omega)
    · intro h
      exact ⟨fun k hk => h k (by omega), h n (by omega)⟩
/-- numbers that are 0 or 1 -/
theorem prd_bool {f : Nat → Nat} : ∀ {n : Nat}, (∀ k, k < n → f k = 0 ∨ f k = 1) → (prdTo f n = 1 ∧ ∀ k, k < n → f k = 1) ∨ (prdTo f n = 0 ∧ ∃ k, k < n ∧ f k = 0)
  | 0, _ => .inl ⟨rfl, fun k hk => by omega⟩
  | n + 1, h => by
    rcases prd_bool (f := f) (n := n) fun k hk => h k (by omega) with ⟨h1, h2⟩ | ⟨h1, k, hk, h2⟩
    · rcases h n (by omega) with e | e
      · exact .inr ⟨by simp only [prdTo]; rw [e, Nat.mul_zero], n, by omega, e⟩
      · refine .inl ⟨by simp only [prdTo]; rw [e, h1], fun k hk => ?_⟩
        by_cases e2 : k = n
        · subst e2; exact e
        · exact h2 k (by omega)
    · exact .inr ⟨by simp only [prdTo]; rw [h1, Nat.zero_mul], k, by omega, h2⟩
/-- how many of the first N hold -/
def cntP (f : Nat → Bool) (N : Nat) : Nat := sumTo (fun s => (f s).toNat) N
theorem cntP_two (f : Nat → Bool) : ∀ N, cntP f (2 * N) = cntP (fun t => f (2 * t)) N + cntP (fun t => f (2 * t + 1)) N
  | 0 => rfl
  | N + 1 => by
    have ih := cntP_two f N
    unfold cntP at *
    rw [show 2 * (N + 1) = 2 * N + 1 + 1 by omega]
    simp only [sumTo]
    rw [ih]
    dsimp only
    omega

section
variable (ks ps : List Int) (n : Nat)
/-- in how many ways the states of one can be in -/
def waysF : Nat → Int → Nat
  | 0, _ => 1
  | f + 1, a =>
    if (List.range n).any (isKid ks ps a) = false then 1
    else if 0 ≤ a ∧ ks.getD a.toNat 0 = 2 then prdTo (fun k => if isKid ks ps a k then waysF f k else 1) n
    else sumTo (fun k => if isKid ks ps a k then waysF f k else 0) n
def wy (a : Int) : Nat := waysF ks ps n ((n : Int) - a).toNat a
variable {ks ps n}
theorem kid_gt (hp : ∀ k, k < n → ps.getD k 0 < k) {a : Int} {k : Nat} (hk : k < n) (h : isKid ks ps a k = true) : a < k := by
  unfold isKid at h
  rw [Bool.and_eq_true, beq_iff_eq] at h
  have := hp k hk
  omega
theorem waysF_stab (hp : ∀ k, k < n → ps.getD k 0 < k) : ∀ (f f' : Nat) (a : Int), (n : Int) - a ≤ f → (n : Int) - a ≤ f' → a < n → waysF ks ps n f a = waysF ks ps n f' a
  | 0, _, a, h, _, ha => by omega
  | _ + 1, 0, a, _, h, ha => by omega
  | f + 1, f' + 1, a, h, h', ha => by
    unfold waysF
    have e : ∀ k, k < n → isKid ks ps a k = true → waysF ks ps n f k = waysF ks ps n f' k := fun k hk hi => by
      have := kid_gt hp hk hi
      exact waysF_stab hp f f' k (by omega) (by omega) (by omega)
    split
    · rfl
    · split
      · exact prdTo_congr fun k hk => by
          split
          · rename_i hi; exact e k hk hi
          · rfl
      · exact sumTo_congr fun k hk => by
          split
          · rename_i hi; exact e k hk hi
          · rfl
theorem wy_eq (hp : ∀ k, k < n → ps.getD k 0 < k) {a : Int} (ha : a < n) : wy ks ps n a =
    if (List.range n).any (isKid ks ps a) = false then 1
    else if 0 ≤ a ∧ ks.getD a.toNat 0 = 2 then prdTo (fun k => if isKid ks ps a k then wy ks ps n k else 1) n
    else sumTo (fun k => if isKid ks ps a k then wy ks ps n k else 0) n := by
  have h1 : wy ks ps n a = waysF ks ps n (((n : Int) - a).toNat + 1) a := waysF_stab hp _ _ a (by omega) (by omega) ha
  rw [h1]
  unfold waysF
  have e : ∀ k, k < n → isKid ks ps a k = true → waysF ks ps n ((n : Int) - a).toNat k = wy ks ps n k := fun k hk hi => by
    have := kid_gt hp hk hi
    exact waysF_stab hp _ _ k (by omega) (by omega) (by omega)
  split
  · rfl
  · split
    · exact prdTo_congr fun k hk => by
        split
        · rename_i hi; exact e k hk hi
        · rfl
    · exact sumTo_congr fun k hk => by
        split
        · rename_i hi; exact e k hk hi
        · rfl
end
end Go.Proofs.Ytaolebdcmdmnjaa
