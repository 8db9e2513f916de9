/-
  An order that was made has as many sets as names, and no bit beyond the names. Plain.
-/
import Derived.Test.YteplbbikjcjheaaO0
namespace Go.Proofs.Yteplbbikjcjheaa
set_option maxRecDepth 100000

theorem newP_all {names : List Nm} {ps : List Pr} {bl : List Nat} (h : newP names ps = .ok bl) :
    names.length ≤ 24 ∧ names.Nodup ∧ bl.length = names.length ∧ Lo bl ∧ (∀ i j, rel bl i j = true → i < names.length ∧ j < names.length) ∧
    ∀ i j, rel bl i j = (way (prel names ps) names.length i j || (decide (i < names.length) && (i == j))) := by
  unfold newP at h
  by_cases h1 : 24 < names.length
  · rw [if_pos h1] at h; cases h
  rw [if_neg h1] at h
  by_cases h2 : ¬ names.Nodup
  · rw [if_pos h2] at h; cases h
  rw [if_neg h2] at h
  by_cases h3 : ps.all (inN names) = false
  · rw [if_pos h3] at h; cases h
  rw [if_neg h3] at h
  by_cases h4 : circ (folL names ps) = true
  · rw [if_pos h4] at h; cases h
  rw [if_neg h4] at h
  cases h
  have h3' : ps.all (inN names) = true := by simpa using h3
  have hin := List.all_eq_true.1 h3'
  have hps := psL_all names (by omega) ps hin
  have hfl : (folL names ps).length = names.length := by rw [folL, folTo_length, hps.1]
  have hlo : Lo (folL names ps) := folTo_lo hps.2.1 _
  have hrel : ∀ i j, rel (folL names ps) i j = way (prel names ps) names.length i j := by
    intro i j
    unfold folL
    rw [folTo_rel]
    congr 1
    funext a b
    rw [hps.2.2]
  have hall : ∀ i j, rel (selfTo (folL names ps) names.length) i j = (way (prel names ps) names.length i j || (decide (i < names.length) && (i == j))) := by
    intro i j
    rw [selfTo_rel _ _ (by omega), hrel]
  refine ⟨by omega, Decidable.not_not.1 h2, by rw [selfTo_length, hfl], selfTo_lo hlo (by omega) _ (by omega), fun i j hij => ?_, hall⟩
  rw [hall, Bool.or_eq_true] at hij
  rcases hij with hij | hij
  · refine way_bound (fun i j h' => ?_) names.length hij
    unfold prel at h'
    rw [List.any_eq_true] at h'
    obtain ⟨p, hp, e⟩ := h'
    simp only [Bool.and_eq_true, beq_iff_eq] at e
    have hpn := hin p hp
    simp only [inN, Bool.and_eq_true, decide_eq_true_eq] at hpn
    exact ⟨e.1 ▸ idx_lt hpn.1, e.2 ▸ idx_lt hpn.2⟩
  · simp only [Bool.and_eq_true, decide_eq_true_eq, beq_iff_eq] at hij
    omega
end Go.Proofs.Yteplbbikjcjheaa
