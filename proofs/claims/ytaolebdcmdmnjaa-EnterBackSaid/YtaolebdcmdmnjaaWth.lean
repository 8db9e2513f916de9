/-
  A help of the statements: Within.
-/
import Derived.Test.YtaolebdcmdmnjaaBase
import Derived.Deep.RegionWith
import Derived.StillTailTactics
namespace Go.Proofs.Ytaolebdcmdmnjaa
set_option maxRecDepth 100000
open Go.ChangeShapes Go.WideShapes Go.ChangeAt Go.RowKit

def within (v n : Int) : Int := if n < 1 then 0 else v % n
theorem within_bd (v n : Int) (h : 1 ≤ n) : 0 ≤ within v n ∧ within v n < n := by
  unfold within; rw [if_neg (by omega)]; exact ⟨Int.emod_nonneg _ (by omega), Int.emod_lt_of_pos _ (by omega)⟩
theorem Within_any (v n : Int) (w : World) (hv : (Lit.int .i64 v).wf = true) (h1 : 1 ≤ n) (h2 : n ≤ 4611686018427387904) :
    Calls Try.prog 17 #[.int .i64 v, .int .i64 n] w fun e w' => e = .returned (.int .i64 (within v n)) ∧ w = w' := by
  have hb := bounds_i64 hv
  have h0 : ¬ n < 1 := by omega
  have hw := within_bd v n h1
  have hwe : within v n = v % n := by unfold within; rw [if_neg h0]
  rw [hwe] at hw
  by_cases hx : 0 ≤ v
  · have HT : Hid (v.tmod n = within v n) := by show _ = _; rw [hwe, Int.tmod_eq_emod_of_nonneg hx]
    clear hwe
    go_enter Try.func17, Try.ntmps17
    go_wp2
    go_ret
    refine ⟨ret_int ?_, rfl⟩
    rw [← HT.out, Int.tmod_eq_emod_of_nonneg hx]
  · by_cases hz : v % n = 0
    · have ht : v.tmod n = 0 := by
        have := Int.dvd_of_emod_eq_zero hz
        exact Int.tmod_eq_zero_of_dvd this
      rw [hz] at hwe
      have HW := Lib.hid hwe
      clear hwe hz hw
      go_enter Try.func17, Try.ntmps17
      go_wp2
      go_ret
      refine ⟨ret_int ?_, rfl⟩
      rw [HW.out]
    · have ht : v.tmod n = v % n - n := by
        rw [Int.tmod_eq_emod, if_neg]
        · congr 1; omega
        · rintro (h | h)
          · exact hx h
          · exact hz (Int.emod_eq_zero_of_dvd h)
      generalize hr : v % n = r at *
      have ht1 : v.tmod n < 0 := by omega
      have ht2 : -n ≤ v.tmod n := by omega
      have HT : Hid (v.tmod n + n = within v n) := by show _ = _; rw [hwe, ht]; omega
      clear hwe hr ht
      go_enter Try.func17, Try.ntmps17
      go_wp2
      go_ret
      exact ⟨ret_int HT.out, rfl⟩

end Go.Proofs.Ytaolebdcmdmnjaa
