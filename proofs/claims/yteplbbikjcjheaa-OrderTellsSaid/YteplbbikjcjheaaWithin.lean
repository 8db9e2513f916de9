/-
  Contracts of the helps of the statements: Within; a text of one byte.
-/
import Derived.Test.YteplbbikjcjheaaBase
import Derived.Deep.RegionWith
import Derived.StillTailTactics
namespace Go.Proofs.Yteplbbikjcjheaa
set_option maxRecDepth 100000
open Go.ChangeShapes Go.WideShapes Go.ChangeAt Go.RowKit

def within (v n : Int) : Int := if n < 1 then 0 else v % n
theorem within_bd (v n : Int) (h : 1 ≤ n) : 0 ≤ within v n ∧ within v n < n := by
  unfold within; rw [if_neg (by omega)]; exact ⟨Int.emod_nonneg _ (by omega), Int.emod_lt_of_pos _ (by omega)⟩
theorem Within_any (v n : Int) (w : World) (hv : (Lit.int .i64 v).wf = true) (h1 : 1 ≤ n) (h2 : n ≤ 4611686018427387904) :
    Calls Try.prog 9 #[.int .i64 v, .int .i64 n] w fun e w' => e = .returned (.int .i64 (within v n)) ∧ w = w' := by
  have hb := bounds_i64 hv
  have h0 : ¬ n < 1 := by omega
  have hw := within_bd v n h1
  have hwe : within v n = v % n := by unfold within; rw [if_neg h0]
  rw [hwe] at hw
  by_cases hx : 0 ≤ v
  · have HT : Hid (v.tmod n = within v n) := by show _ = _; rw [hwe, Int.tmod_eq_emod_of_nonneg hx]
    clear hwe
    go_enter Try.func9, Try.ntmps9
    go_wp2
    go_ret
    refine ⟨ret_int ?_, rfl⟩
    rw [← HT.out, Int.tmod_eq_emod_of_nonneg hx]
  · by_cases hz : v % n = 0
    · have ht : v.tmod n = 0 := by
        have := Int.dvd_of_emod_eq_zero hz
        exact Int.tmod_eq_zero_of_dvd this
      rw [hz] at hwe
      have HW := Lib.hid hwe
      clear hwe hz hw
      go_enter Try.func9, Try.ntmps9
      go_wp2
      go_ret
      refine ⟨ret_int ?_, rfl⟩
      rw [HW.out]
    · have ht : v.tmod n = v % n - n := by
        rw [Int.tmod_eq_emod, if_neg]
        · congr 1; omega
        · rintro (h | h)
          · exact hx h
          · exact hz (Int.emod_eq_zero_of_dvd h)
      generalize hr : v % n = r at *
      have ht1 : v.tmod n < 0 := by omega
      have ht2 : -n ≤ v.tmod n := by omega
      have HT : Hid (v.tmod n + n = within v n) := by show _ = _; rw [hwe, ht]; omega
      clear hwe hr ht
      go_enter Try.func9, Try.ntmps9
      go_wp2
      go_ret
      exact ⟨ret_int HT.out, rfl⟩

/-- a byte of a number; a digit's sign -/
def byteOf (n : Nat) : UInt8 := UInt8.ofNat n
def dgt (n : Nat) : UInt8 := byteOf (48 + n)
theorem dgt_nat (n : Nat) (h : n < 10) : (dgt n).toNat = 48 + n := by unfold dgt byteOf; simp; omega
/-- a text of one byte, out of a list of one byte -/
theorem conv_one (W : World) (b cap : Nat) (c : Int) (h0 : 0 ≤ c) (h1 : c ≤ 255) (hc : W.cell? ⟨b, 0, none⟩ = some (.int .u8 c)) :
    (convert 75 9 (.slice (some ⟨b, 0, none⟩) 1 cap)).run Try.prog W = .ok (.string (bs [byteOf c.toNat])) W := by
  have := run_convert_bytes_back (P := Try.prog) W 75 9 5 ⟨b, 0, none⟩ cap [UInt8.ofNat c.toNat] Try.underlying75 Try.underlying5 Try.underlying9 (by
    intro j hj
    simp at hj
    subst hj
    have e : ((UInt8.ofNat c.toNat).toNat : Int) = c := by simp; omega
    simp only [List.getElem_cons_zero, e]
    exact hc)
  exact this
def StrNew (l : List UInt8) (w : World) (e : Ending) (w' : World) : Prop := e = .returned (.string (bs l)) ∧ Below w.heap.size w w'
end Go.Proofs.Yteplbbikjcjheaa
