/-
  How many bits of a number are 1; which sets are broken: plain, no program in it.
-/
import Derived.Lib.BitFns
namespace Go.Proofs.Ytaolebdcmdmnjaa
set_option maxRecDepth 100000

/-- how many of the first k bits are 1 -/
def cntTo (s : Nat) : Nat → Nat
  | 0 => 0
  | k + 1 => cntTo s k + (s.testBit k).toNat
def cnt (s : Nat) : Nat := cntTo s 32
theorem cntTo_le (s : Nat) : ∀ k, cntTo s k ≤ k
  | 0 => Nat.le_refl _
  | k + 1 => by
    have := cntTo_le s k
    have : (s.testBit k).toNat ≤ 1 := by cases s.testBit k <;> decide
    simp only [cntTo]; omega
theorem cnt_le (s : Nat) : cnt s ≤ 32 := cntTo_le s 32
theorem cntTo_or_and (s t : Nat) : ∀ k, cntTo s k + cntTo t k = cntTo (s ||| t) k + cntTo (s &&& t) k
  | 0 => rfl
  | k + 1 => by
    have := cntTo_or_and s t k
    simp only [cntTo, Nat.testBit_or, Nat.testBit_and]
    cases s.testBit k <;> cases t.testBit k <;> simp <;> omega
theorem cntTo_mono {s t : Nat} (h : ∀ i, s.testBit i = true → t.testBit i = true) : ∀ k, cntTo s k ≤ cntTo t k
  | 0 => Nat.le_refl _
  | k + 1 => by
    have ih := cntTo_mono h k
    have hk := h k
    simp only [cntTo]
    cases hs : s.testBit k
    · simp; omega
    · rw [hk hs]; simp; omega
theorem cntTo_zero : ∀ k, cntTo 0 k = 0
  | 0 => rfl
  | k + 1 => by simp [cntTo, cntTo_zero k]
theorem cnt_zero : cnt 0 = 0 := cntTo_zero 32
theorem cnt_all : cnt 4294967295 = 32 := by decide
theorem cntTo_add (s a : Nat) : ∀ b, cntTo s (a + b) = cntTo s a + cntTo (s / 2 ^ a) b
  | 0 => rfl
  | b + 1 => by
    have ih := cntTo_add s a b
    rw [← Nat.add_assoc]
    simp only [cntTo]
    rw [ih, Nat.testBit_div_two_pow, Nat.add_comm b a]
    omega
theorem cntTo_mod (s n : Nat) : ∀ k, k ≤ n → cntTo (s % 2 ^ n) k = cntTo s k
  | 0, _ => rfl
  | k + 1, h => by
    simp only [cntTo]
    rw [cntTo_mod s n k (by omega), Nat.testBit_mod_two_pow]
    simp [show k < n by omega]
/-- the document's count: what is left to count behind k bits -/
theorem cntTo_rest {s k : Nat} (h : s / 2 ^ k = 0) : ∀ m, cntTo s (k + m) = cntTo s k := fun m => by
  rw [cntTo_add, h, cntTo_zero]; rfl
theorem cnt_bit (s k : Nat) : (s / 2 ^ k) % 2 = (s.testBit k).toNat := by
  rw [Nat.testBit_eq_decide_div_mod_eq]
  have : s / 2 ^ k % 2 < 2 := Nat.mod_lt _ (by omega)
  by_cases h : s / 2 ^ k % 2 = 1
  · simp [h]
  · have : s / 2 ^ k % 2 = 0 := by omega
    simp [this]
theorem cnt8 : ∀ n : Fin 256, Lib.pop8 (n.val : Int) = (cntTo n.val 8 : Int) := by decide +kernel
theorem cnt_bytes (s : Nat) : cnt s = cntTo (s / 2 ^ 24 % 2 ^ 8) 8 + cntTo (s / 2 ^ 16 % 2 ^ 8) 8 + cntTo (s / 2 ^ 8 % 2 ^ 8) 8 + cntTo (s % 2 ^ 8) 8 := by
  rw [cntTo_mod _ 8 8 (by omega), cntTo_mod _ 8 8 (by omega), cntTo_mod _ 8 8 (by omega), cntTo_mod _ 8 8 (by omega)]
  have h1 : cntTo s 32 = _ := cntTo_add s 24 8
  have h2 : cntTo s 24 = _ := cntTo_add s 16 8
  have h3 : cntTo s 16 = _ := cntTo_add s 8 8
  unfold cnt
  omega

/-- a set (how many; which) is broken -/
def brk (s : Nat) (a : Int × Nat) : Bool := decide (a.1 ≤ (cnt (s &&& a.2) : Int))
/-- as Go tells it: -1: none -/
def fstI (s : Nat) (l : List (Int × Nat)) : Int := match l.findIdx? (brk s) with
  | some k => k
  | none => -1
theorem fst_hit {s : Nat} {l : List (Int × Nat)} {k : Nat} (hk : k < l.length) (h : brk s l[k] = true) (hn : ∀ j (hj : j < k), brk s l[j] = false) : fstI s l = k := by
  unfold fstI
  have : l.findIdx? (brk s) = some k := by
    rw [List.findIdx?_eq_some_iff_getElem]
    exact ⟨hk, h, fun j hj => by simp [hn j hj]⟩
  rw [this]
theorem fst_miss {s : Nat} {l : List (Int × Nat)} (hn : ∀ j (hj : j < l.length), brk s l[j] = false) : fstI s l = -1 := by
  unfold fstI
  have : l.findIdx? (brk s) = none := by
    rw [List.findIdx?_eq_none_iff]
    intro x hx
    obtain ⟨j, hj, rfl⟩ := List.getElem_of_mem hx
    exact hn j hj
  rw [this]
theorem fst_cases (s : Nat) (l : List (Int × Nat)) : (fstI s l = -1 ∧ ∀ j (hj : j < l.length), brk s l[j] = false) ∨ ∃ k, ∃ hk : k < l.length, fstI s l = k ∧ brk s l[k] = true ∧ ∀ j (hj : j < k), brk s l[j] = false := by
  by_cases h : ∀ j (hj : j < l.length), brk s l[j] = false
  · exact .inl ⟨fst_miss h, h⟩
  · right
    unfold fstI
    cases e : l.findIdx? (brk s) with
    | none =>
      rw [List.findIdx?_eq_none_iff] at e
      exact absurd (fun j hj => e _ (List.getElem_mem hj)) h
    | some k =>
      rw [List.findIdx?_eq_some_iff_getElem] at e
      obtain ⟨hk, h1, h2⟩ := e
      exact ⟨k, hk, rfl, h1, fun j hj => by simpa using h2 j hj⟩
theorem brk_more {s t : Nat} {a : Int × Nat} (h : brk s a = true) : brk (s ||| t) a = true := by
  unfold brk at *
  have : cnt (s &&& a.2) ≤ cnt ((s ||| t) &&& a.2) := cntTo_mono (fun i hi => by
    simp only [Nat.testBit_and, Nat.testBit_or, Bool.and_eq_true, Bool.or_eq_true] at *
    exact ⟨.inl hi.1, hi.2⟩) 32
  simp only [decide_eq_true_eq] at *
  omega
theorem less_apart {s t : Nat} {l : List (Int × Nat)} (h : fstI (s ||| t) l < 0) : fstI s l = -1 := by
  rcases fst_cases s l with ⟨e, _⟩ | ⟨k, hk, _, hb, _⟩
  · exact e
  · rcases fst_cases (s ||| t) l with ⟨_, h2⟩ | ⟨m, _, e2, _⟩
    · have := h2 k hk
      rw [brk_more hb] at this; cases this
    · omega
theorem fst_take_no {s : Nat} {l : List (Int × Nat)} {k : Nat} (hk : k < l.length) (hn : ∀ j (hj : j < k), brk s l[j] = false) : fstI s (l.take k) = -1 :=
  fst_miss fun j hj => by
    have hj' : j < k := by rw [List.length_take] at hj; omega
    rw [List.getElem_take]
    exact hn j hj'
theorem fst_take_yes {s : Nat} {l : List (Int × Nat)} {k : Nat} (hk : k < l.length) (h : brk s l[k] = true) (hn : ∀ j (hj : j < k), brk s l[j] = false) : fstI s (l.take (k + 1)) = k :=
  fst_hit (by rw [List.length_take]; omega) (by rw [List.getElem_take]; exact h) fun j hj => by rw [List.getElem_take]; exact hn j hj
end Go.Proofs.Ytaolebdcmdmnjaa
