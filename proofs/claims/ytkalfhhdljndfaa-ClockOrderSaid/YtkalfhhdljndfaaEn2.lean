/-
  Ways up, a step at a time: plain, no program in it.
-/
import Derived.Test.YtkalfhhdljndfaaEnt6
import Derived.Test.YtkalfhhdljndfaaOwnI
import Derived.Test.YtkalfhhdljndfaaWth
import Derived.Test.YtkalfhhdljndfaaD0
import Derived.Lib.Tables
import Derived.Test.YtkalfhhdljndfaaDArg
namespace Go.Proofs.Ytkalfhhdljndfaa
set_option maxRecDepth 100000

section
variable {ks ps : List Int} {n : Nat}
/-- what the statements make is well -/
theorem ShF.val (h : ShF ks ps n) (h0 : 0 < n) (hn : n ≤ 24) : valB ks ps = true := by
  have hsz : szN ks ps = n := by unfold szN; rw [h.kl, h.pl]; omega
  unfold valB
  rw [h.kl, h.pl, Bool.and_eq_true, Bool.and_eq_true, Bool.and_eq_true, Bool.and_eq_true]
  refine ⟨⟨⟨⟨by simp, decide_eq_true (by omega)⟩, decide_eq_true hn⟩, ?_⟩, ?_⟩
  · rw [List.all_eq_true]
    intro k hk
    have hk := List.mem_range.1 hk
    have h1 := h.kd k hk
    have h2 := h.pa k hk
    unfold fitS
    have e1 : decide (ks.getD k 0 < 1) = false := decide_eq_false (by omega)
    have e2 : decide (4 < ks.getD k 0) = false := decide_eq_false (by omega)
    have e3 : decide (ps.getD k 0 < -1) = false := decide_eq_false (by omega)
    have e4 : decide ((k : Int) ≤ ps.getD k 0) = false := decide_eq_false (by omega)
    rw [e1, e2, e3, e4]
    cases hh : hl ks k
    · obtain ⟨q, e, hq, _⟩ := h.hi k hk hh
      rw [e, Int.toNat_natCast, hq]; simp
    · by_cases h0 : ps.getD k 0 < 0
      · rw [decide_eq_true h0]; simp
      · have := h.up k (ps.getD k 0).toNat hk (by omega)
        rw [this]; simp
  · rw [List.all_eq_true]
    intro i hi
    have hi := List.mem_range.1 hi
    unfold iniB
    rw [hsz, Bool.not_eq_true', Bool.and_eq_false_iff]
    by_cases hz : 0 < (kidsTo ps ((i : Int) - 1) n).length
    · right
      obtain ⟨k, hk⟩ := List.exists_mem_of_length_pos hz
      obtain ⟨hkn, e⟩ := mem_kidsTo.1 hk
      have hex : ∃ j, j < n ∧ isKid ks ps ((i : Int) - 1) j = true := by
        cases hh : hl ks k
        · obtain ⟨q, e2, _, j, hj, hkj⟩ := h.hi k hkn hh
          have : (i : Int) - 1 = q := by omega
          rw [this]; exact ⟨j, hj, hkj⟩
        · refine ⟨k, hkn, ?_⟩
          unfold isKid
          rw [e, hh]; simp
      rw [ini_iniN hex]
      exact decide_eq_false (by omega)
    · left; exact decide_eq_false hz
end
end Go.Proofs.Ytkalfhhdljndfaa
/-
  Package enter: inside, told, union.
-/
namespace Go.Proofs.Ytkalfhhdljndfaa
set_option maxRecDepth 100000
open Go.ChangeShapes Go.WideShapes Go.ChangeAt Go.RowKit

/-- a list of states in memory of the call's own -/
def OwnN (w : World) (base : Nat) (v : Value) (l : List Nat) : Prop := w.ownsRow base 3 1 v l.length (icells (l.map fun k : Nat => (k : Int)))
theorem OwnN.ints {w : World} {base : Nat} {v : Value} {l : List Nat} (h : OwnN w base v l) : OwnI w base v (l.map fun k : Nat => (k : Int)) := by
  unfold OwnI; rw [List.length_map]; exact h
theorem OwnN.of {w : World} {base : Nat} {v : Value} {l : List Nat} (h : OwnI w base v (l.map fun k : Nat => (k : Int))) : OwnN w base v l := by
  unfold OwnI at h; rw [List.length_map] at h; exact h
theorem U32sAt.below {w w' : World} {v : Value} {rs : List Nat} (h : U32sAt w v rs) (hb : Below w.heap.size w w') : U32sAt w' v rs := by
  obtain ⟨A, c, e, hl, hc⟩ := h
  refine ⟨A, c, e, hl, fun k hk => ?_⟩
  obtain ⟨b, off, e2, hlt, hx, hw⟩ := hc k hk
  exact ⟨b, off, e2, Nat.lt_of_lt_of_le hlt hb.size, (hb.cell (p := ⟨b, off + k, none⟩) hlt).trans hx, hw⟩
end Go.Proofs.Ytkalfhhdljndfaa
