/-
  Numbers that go round, and with one pair less: plain, no program in it.
-/
import Derived.Test.YteplbbikjcjheaaO0
namespace Go.Proofs.Yteplbbikjcjheaa
set_option maxRecDepth 100000

/-- the next one, round and round -/
def sucN (N i : Nat) : Nat := if i + 1 = N then 0 else i + 1
def circL (N : Nat) : List (Nat × Nat) := (List.range N).map fun i => (i, sucN N i)
/-- without the pair of k -/
def cutL (N k : Nat) : List (Nat × Nat) := (circL N).take k ++ (circL N).drop (k + 1)
abbrev relL (ps : List (Nat × Nat)) : Rel := fun a b => ps.any fun p => p.1 == a && p.2 == b
theorem circL_length (N : Nat) : (circL N).length = N := by simp [circL]
theorem circL_get {N i : Nat} (h : i < (circL N).length) : (circL N)[i] = (i, sucN N i) := by simp [circL]
theorem sucN_lt {N i : Nat} (h : i < N) : sucN N i < N := by unfold sucN; split <;> omega
theorem circL_ok {N : Nat} : ∀ p ∈ circL N, p.1 < N ∧ p.2 < N := fun p hp => by
  obtain ⟨i, hi, rfl⟩ := List.mem_map.1 hp
  have := List.mem_range.1 hi
  exact ⟨this, sucN_lt this⟩
theorem cutL_sub {N k : Nat} {p : Nat × Nat} (h : p ∈ cutL N k) : p ∈ circL N := by
  rcases List.mem_append.1 h with h | h
  · exact List.mem_of_mem_take h
  · exact List.mem_of_mem_drop h
theorem cutL_mem {N k i : Nat} (hi : i < N) (hk : i ≠ k) : (i, sucN N i) ∈ cutL N k := by
  have hl := circL_length N
  have e := circL_get (N := N) (i := i) (by omega)
  rw [← e]
  apply List.mem_append.2
  by_cases h : i < k
  · left
    rw [List.mem_take_iff_getElem]
    exact ⟨i, by omega, rfl⟩
  · right
    rw [List.mem_drop_iff_getElem]
    exact ⟨i - (k + 1), by omega, by congr 1; omega⟩
theorem cutL_no {N k : Nat} {p : Nat × Nat} (h : p ∈ cutL N k) : p.1 < N ∧ p.1 ≠ k ∧ p.2 = sucN N p.1 := by
  have hl := circL_length N
  rcases List.mem_append.1 h with h | h
  · obtain ⟨i, hi, rfl⟩ := List.mem_take_iff_getElem.1 h
    rw [circL_get]
    exact ⟨by simp only; omega, by simp only; omega, rfl⟩
  · obtain ⟨i, hi, rfl⟩ := List.mem_drop_iff_getElem.1 h
    rw [circL_get]
    exact ⟨by simp only; omega, by simp only; omega, rfl⟩
theorem cutL_len {N k : Nat} (h : k < N) : (cutL N k).length = N - 1 := by
  unfold cutL
  rw [List.length_append, List.length_take, List.length_drop, circL_length]
  omega
def rk (N k i : Nat) : Nat := if k < i then i - (k + 1) else i + N - (k + 1)
theorem rk_suc {N k i : Nat} (_hi : i < N) (_hk : k < N) (hne : i ≠ k) : rk N k (sucN N i) = rk N k i + 1 := by
  unfold rk sucN
  (repeat' split) <;> omega
theorem rk_inj {N k i j : Nat} (hi : i < N) (hj : j < N) (_hk : k < N) (h : rk N k i = rk N k j) : i = j := by
  unfold rk at h
  split at h <;> split at h <;> omega
theorem rk_lt {N k i : Nat} (hi : i < N) (_hk : k < N) : rk N k i < N := by
  unfold rk; split <;> omega
theorem rk_last {N k : Nat} (_hk : k < N) : rk N k k = N - 1 := by unfold rk; split <;> omega
theorem rk_first {N k : Nat} (_hk : k < N) : rk N k (sucN N k) = 0 := by unfold rk sucN; (repeat' split) <;> omega
theorem pre_of {N k j : Nat} (hj : j < N) (_hk : k < N) (h : 0 < rk N k j) : ∃ i, i < N ∧ i ≠ k ∧ sucN N i = j := by
  refine ⟨if j = 0 then N - 1 else j - 1, ?_, ?_, ?_⟩
  · split <;> omega
  · unfold rk at h; split at h <;> split <;> omega
  · unfold sucN; (repeat' split) <;> omega
theorem relL_true {ps : List (Nat × Nat)} {a b : Nat} (h : (a, b) ∈ ps) : relL ps a b = true := List.any_eq_true.2 ⟨(a, b), h, by simp⟩
theorem relL_mem {ps : List (Nat × Nat)} {a b : Nat} (h : relL ps a b = true) : (a, b) ∈ ps := by
  obtain ⟨p, hp, e⟩ := List.any_eq_true.1 h
  simp only [Bool.and_eq_true, beq_iff_eq] at e
  obtain ⟨rfl, rfl⟩ := e
  exact hp
theorem cut_up {N k : Nat} (hk : k < N) (m : Nat) {i j : Nat} (h : way (relL (cutL N k)) m i j = true) : rk N k i < rk N k j :=
  way_least (T := fun i j => rk N k i < rk N k j) (fun _ _ _ => Nat.lt_trans) (fun i j h => by
    obtain ⟨h1, h2, h3⟩ := cutL_no (relL_mem h)
    simp only at h1 h2 h3
    rw [h3, rk_suc h1 hk h2]; omega) m h
theorem cut_way {N k : Nat} (hk : k < N) : ∀ (d : Nat) {i j : Nat}, i < N → j < N → rk N k j = rk N k i + d + 1 → way (relL (cutL N k)) N i j = true
  | 0, i, j, hi, hj, h => by
    obtain ⟨p, hp, hne, rfl⟩ := pre_of hj hk (by omega)
    rw [rk_suc hp hk hne] at h
    obtain rfl := rk_inj hi hp hk (by omega)
    exact way_base (relL_true (cutL_mem hp hne))
  | d + 1, i, j, hi, hj, h => by
    obtain ⟨p, hp, hne, rfl⟩ := pre_of hj hk (by omega)
    rw [rk_suc hp hk hne] at h
    exact way_trans N hp (cut_way hk d hi hp (by omega)) (way_base (relL_true (cutL_mem hp hne)))
theorem circ_way {N : Nat} (hN : 0 < N) : way (relL (circL N)) N 0 0 = true := by
  have hall : ∀ i, i < N → relL (circL N) i (sucN N i) = true := fun i hi => relL_true (List.mem_map.2 ⟨i, List.mem_range.2 hi, rfl⟩)
  have go : ∀ m, m + 1 < N → way (relL (circL N)) N 0 (m + 1) = true := by
    intro m
    induction m with
    | zero =>
      intro h
      have := hall 0 (by omega)
      rw [show sucN N 0 = 1 by unfold sucN; rw [if_neg (by omega)]] at this
      exact way_base this
    | succ m ih =>
      intro h
      have := hall (m + 1) (by omega)
      rw [show sucN N (m + 1) = m + 1 + 1 by unfold sucN; rw [if_neg (by omega)]] at this
      exact way_trans N (by omega) (ih (by omega)) (way_base this)
  have last := hall (N - 1) (by omega)
  rw [show sucN N (N - 1) = 0 by unfold sucN; rw [if_pos (by omega)]] at last
  by_cases h1 : N = 1
  · subst h1; exact way_base last
  · obtain ⟨m, hm⟩ : ∃ m, N - 1 = m + 1 := ⟨N - 2, by omega⟩
    rw [hm] at last
    exact way_trans N (by omega) (go m (by omega)) (way_base last)
/-- who is above whom, with one pair less: by rank -/
theorem cut_ab {N k i j : Nat} (hk : k < N) (hi : i < N) (hj : j < N) : (i == j || way (relL (cutL N k)) N i j) = decide (rk N k i ≤ rk N k j) := by
  by_cases e : i = j
  · subst e; simp
  · have hne : (i == j) = false := by simpa using e
    rw [hne, Bool.false_or]
    by_cases h : rk N k i < rk N k j
    · rw [cut_way hk (rk N k j - rk N k i - 1) hi hj (by omega)]
      simp; omega
    · have h2 : rk N k i ≠ rk N k j := fun h' => e (rk_inj hi hj hk h')
      cases hw : way (relL (cutL N k)) N i j
      · simp; omega
      · exact absurd (cut_up hk N hw) h
end Go.Proofs.Yteplbbikjcjheaa
