/-
  Ways up, a step at a time: plain, no program in it.
-/
import Derived.Test.YtaolebdcmdmnjaaEnt6
namespace Go.Proofs.Ytaolebdcmdmnjaa
set_option maxRecDepth 100000

section
variable {ks ps : List Int} {n : Nat}
/-- what is known of a way up that has come to a place -/
def upB (ps : List Int) (a t : Int) : Bool := if 0 ≤ a then undB ps a.toNat t else decide (t = -1)
theorem undB_self (ps : List Int) (k : Nat) : undB ps k k = true := by unfold undB; cases k <;> simp [undF]
theorem undB_top (ps : List Int) (k : Nat) : undB ps k (-1) = true := by unfold undB; cases k <;> simp [undF]
theorem und_bd {k : Nat} {t : Int} (hu : Und ps k t) : -1 ≤ t := by
  induction hu with
  | self k => omega
  | top k => omega
  | up k q a e _ ih => exact ih
theorem upB_step (h : ShF ks ps n) {k : Nat} (hk : k < n) {t : Int} (hne : (k : Int) ≠ t) : upB ps (ps.getD k 0) t = undB ps k t := by
  unfold upB
  have hp := h.pa k hk
  split
  · rename_i h0
    have hq : (ps.getD k 0).toNat < n := by omega
    rw [Bool.eq_iff_iff, undB_iff h hq, undB_iff h hk]
    constructor
    · intro hu
      exact .up k _ t (by omega) hu
    · intro hu
      by_cases ht : t = -1
      · subst ht; exact .top _
      · have := und_bd hu
        obtain ⟨q, e, hq⟩ := und_step hu hne (by omega)
        rw [e, Int.toNat_natCast]; exact hq
  · rename_i h0
    rw [Bool.eq_iff_iff, undB_iff h hk, decide_eq_true_eq]
    constructor
    · intro e; subst e; exact .top k
    · intro hu
      cases hu with
      | self => exact absurd rfl hne
      | top => rfl
      | up _ q _ e _ => omega
theorem upB_end {a t : Int} (ha : -1 ≤ a) (h : a < 0 ∨ a = t) : upB ps a t = decide (a = t) := by
  unfold upB
  by_cases h0 : 0 ≤ a
  · have e : a = t := by omega
    rw [if_pos h0, decide_eq_true e]
    have : undB ps a.toNat a = true := by
      have := undB_self ps a.toNat
      rwa [Int.toNat_of_nonneg h0] at this
    rw [← e]; exact this
  · have e : a = -1 := by omega
    subst e
    rw [if_neg (by omega), Bool.eq_iff_iff, decide_eq_true_eq, decide_eq_true_eq]
    omega
/-- the domain, looked for from a place on -/
def domU (ks ps : List Int) (t : Nat) (a : Int) : Int := if 0 ≤ a then (if ks.getD a.toNat 0 = 1 ∧ a.toNat ≠ t ∧ undB ps t a = true then a else domF ks ps t a.toNat a.toNat) else -1
theorem domF_stab (h : ShF ks ps n) (t : Nat) : ∀ f f' k : Nat, k ≤ f → k ≤ f' → k < n → domF ks ps t f k = domF ks ps t f' k
  | 0, 0, k, _, _, _ => rfl
  | 0, f' + 1, k, h1, _, hk => by
    have := h.pa k hk
    have hz : k = 0 := by omega
    subst hz
    unfold domF
    rw [if_pos (by omega)]
  | f + 1, 0, k, _, h1, hk => by
    have := h.pa k hk
    have hz : k = 0 := by omega
    subst hz
    unfold domF
    rw [if_pos (by omega)]
  | f + 1, f' + 1, k, h1, h2, hk => by
    have := h.pa k hk
    unfold domF
    split
    · rfl
    · split
      · rfl
      · exact domF_stab h t f f' _ (by omega) (by omega) (by omega)
theorem domU_step (h : ShF ks ps n) (t : Nat) {k : Nat} (hk : k < n) {f : Nat} (hf : k ≤ f) : domU ks ps t (ps.getD k 0) = domF ks ps t f k := by
  have hp := h.pa k hk
  rw [domF_stab h t f (k + 1) k hf (by omega) hk]
  unfold domU
  rw [domF]
  by_cases h0 : ps.getD k 0 < 0
  · rw [if_neg (by omega), if_pos h0]
  · rw [if_pos (by omega), if_neg h0]
    split
    · rfl
    · exact domF_stab h t _ _ _ (Nat.le_refl _) (by omega) (by omega)
theorem domU_dom (h : ShF ks ps n) (t : Nat) {k : Nat} (hk : k < n) : domU ks ps t (ps.getD k 0) = domL ks ps n k t := domU_step h t hk (by omega)
theorem domU_hit {t : Nat} {a : Int} (h0 : 0 ≤ a) (hc : ks.getD a.toNat 0 = 1 ∧ a.toNat ≠ t ∧ undB ps t a = true) : domU ks ps t a = a := by
  unfold domU; rw [if_pos h0, if_pos hc]
theorem domU_miss (h : ShF ks ps n) {t : Nat} {k : Nat} (hk : k < n) (hc : ¬ (ks.getD k 0 = 1 ∧ k ≠ t ∧ undB ps t k = true)) : domU ks ps t (ps.getD k 0) = domU ks ps t k := by
  rw [domU_step h t hk (Nat.le_refl k)]
  conv => rhs; unfold domU
  rw [if_pos (by omega), Int.toNat_natCast, if_neg hc]
/-- what the statements make is well -/
theorem ShF.val (h : ShF ks ps n) (h0 : 0 < n) (hn : n ≤ 24) : valB ks ps = true := by
  have hsz : szN ks ps = n := by unfold szN; rw [h.kl, h.pl]; omega
  unfold valB
  rw [h.kl, h.pl, Bool.and_eq_true, Bool.and_eq_true, Bool.and_eq_true, Bool.and_eq_true]
  refine ⟨⟨⟨⟨by simp, decide_eq_true (by omega)⟩, decide_eq_true hn⟩, ?_⟩, ?_⟩
  · rw [List.all_eq_true]
    intro k hk
    have hk := List.mem_range.1 hk
    have h1 := h.kd k hk
    have h2 := h.pa k hk
    unfold fitB
    have e1 : decide (ks.getD k 0 < 1) = false := decide_eq_false (by omega)
    have e2 : decide (4 < ks.getD k 0) = false := decide_eq_false (by omega)
    have e3 : decide (ps.getD k 0 < -1) = false := decide_eq_false (by omega)
    have e4 : decide ((k : Int) ≤ ps.getD k 0) = false := decide_eq_false (by omega)
    rw [e1, e2, e3, e4]
    cases hh : hl ks k
    · obtain ⟨q, e, hq, _⟩ := h.hi k hk hh
      rw [e, Int.toNat_natCast, hq]; simp
    · by_cases h0 : ps.getD k 0 < 0
      · rw [decide_eq_true h0]; simp
      · have := h.up k (ps.getD k 0).toNat hk (by omega)
        rw [this]; simp
  · rw [List.all_eq_true]
    intro i hi
    have hi := List.mem_range.1 hi
    unfold iniB
    rw [hsz, Bool.not_eq_true', Bool.and_eq_false_iff]
    by_cases hz : 0 < (kidsTo ps ((i : Int) - 1) n).length
    · right
      obtain ⟨k, hk⟩ := List.exists_mem_of_length_pos hz
      obtain ⟨hkn, e⟩ := mem_kidsTo.1 hk
      have hex : ∃ j, j < n ∧ isKid ks ps ((i : Int) - 1) j = true := by
        cases hh : hl ks k
        · obtain ⟨q, e2, _, j, hj, hkj⟩ := h.hi k hkn hh
          have : (i : Int) - 1 = q := by omega
          rw [this]; exact ⟨j, hj, hkj⟩
        · refine ⟨k, hkn, ?_⟩
          unfold isKid
          rw [e, hh]; simp
      rw [ini_iniN hex]
      exact decide_eq_false (by omega)
    · left; exact decide_eq_false hz
end
end Go.Proofs.Ytaolebdcmdmnjaa
