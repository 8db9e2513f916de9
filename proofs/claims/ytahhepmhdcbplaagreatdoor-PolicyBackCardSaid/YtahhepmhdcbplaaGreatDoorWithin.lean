/-
  within; digits.
-/
import Derived.Test.YtahhepmhdcbplaaGreatDoorBase
import Derived.Deep.RegionWith
import Derived.StillTailTactics
namespace Go.Proofs.YtahhepmhdcbplaaGreatDoor
set_option maxRecDepth 100000
open Go.ChangeShapes Go.WideShapes Go.ChangeAt Go.RowKit

def within (v n : Int) : Int := if n < 1 then 0 else v % n
theorem within_bd (v n : Int) (h : 1 ≤ n) : 0 ≤ within v n ∧ within v n < n := by
  unfold within; rw [if_neg (by omega)]; exact ⟨Int.emod_nonneg _ (by omega), Int.emod_lt_of_pos _ (by omega)⟩
theorem Within_any (v n : Int) (w : World) (hv : (Lit.int .i64 v).wf = true) (h1 : 1 ≤ n) (h2 : n ≤ 4611686018427387904) :
    Calls Tryz.prog 16 #[.int .i64 v, .int .i64 n] w fun e w' => e = .returned (.int .i64 (within v n)) ∧ w = w' := by
  have hb := bounds_i64 hv
  have h0 : ¬ n < 1 := by omega
  have hw := within_bd v n h1
  have hwe : within v n = v % n := by unfold within; rw [if_neg h0]
  rw [hwe] at hw
  by_cases hx : 0 ≤ v
  · have HT : Hid (v.tmod n = within v n) := by show _ = _; rw [hwe, Int.tmod_eq_emod_of_nonneg hx]
    clear hwe
    go_enter Tryz.func16, Tryz.ntmps16
    go_wp2
    go_ret
    refine ⟨ret_int ?_, rfl⟩
    rw [← HT.out, Int.tmod_eq_emod_of_nonneg hx]
  · by_cases hz : v % n = 0
    · have ht : v.tmod n = 0 := by
        have := Int.dvd_of_emod_eq_zero hz
        exact Int.tmod_eq_zero_of_dvd this
      rw [hz] at hwe
      have HW := Lib.hid hwe
      clear hwe hz hw
      go_enter Tryz.func16, Tryz.ntmps16
      go_wp2
      go_ret
      refine ⟨ret_int ?_, rfl⟩
      rw [HW.out]
    · have ht : v.tmod n = v % n - n := by
        rw [Int.tmod_eq_emod, if_neg]
        · congr 1; omega
        · rintro (h | h)
          · exact hx h
          · exact hz (Int.emod_eq_zero_of_dvd h)
      generalize hr : v % n = r at *
      have ht1 : v.tmod n < 0 := by omega
      have ht2 : -n ≤ v.tmod n := by omega
      have HT : Hid (v.tmod n + n = within v n) := by show _ = _; rw [hwe, ht]; omega
      clear hwe hr ht
      go_enter Tryz.func16, Tryz.ntmps16
      go_wp2
      go_ret
      exact ⟨ret_int HT.out, rfl⟩

/-- a byte of a number; a digit's sign -/
def byteOf (n : Nat) : UInt8 := UInt8.ofNat n
def dgt (n : Nat) : UInt8 := byteOf (48 + n)
theorem dgt_nat (n : Nat) (h : n < 10) : (dgt n).toNat = 48 + n := by unfold dgt byteOf; simp; omega
/-- a text of one byte, out of a list of one byte -/
theorem conv_one (W : World) (b cap : Nat) (c : Int) (h0 : 0 ≤ c) (h1 : c ≤ 255) (hc : W.cell? ⟨b, 0, none⟩ = some (.int .u8 c)) :
    (convert 77 9 (.slice (some ⟨b, 0, none⟩) 1 cap)).run Tryz.prog W = .ok (.string (bs [byteOf c.toNat])) W := by
  have := run_convert_bytes_back (P := Tryz.prog) W 77 9 5 ⟨b, 0, none⟩ cap [UInt8.ofNat c.toNat] Tryz.underlying77 Tryz.underlying5 Tryz.underlying9 (by
    intro j hj
    simp at hj
    subst hj
    have e : ((UInt8.ofNat c.toNat).toNat : Int) = c := by simp; omega
    simp only [List.getElem_cons_zero, e]
    exact hc)
  exact this
def StrNew (l : List UInt8) (w : World) (e : Ending) (w' : World) : Prop := e = .returned (.string (bs l)) ∧ Below w.heap.size w w'
end Go.Proofs.YtahhepmhdcbplaaGreatDoor
namespace Go.Proofs.YtahhepmhdcbplaaGreatDoor
set_option maxRecDepth 100000
open Go.ChangeShapes Go.WideShapes Go.ChangeAt Go.RowKit

/-- a number's digits -/
def digs (n : Nat) : List UInt8 := if n < 10 then [dgt n] else digs (n / 10) ++ [dgt (n % 10)]
theorem digs_le (n : Nat) : (digs n).length ≤ n + 1 := by
  induction n using Nat.strongRecOn with
  | ind n ih =>
    rw [digs]; split
    · simp
    · have := ih (n / 10) (by omega); simp; omega
theorem digs_step {n : Nat} (h : ¬ n < 10) : bs (digs (n / 10)) ++ bs [dgt (n % 10)] = bs (digs n) := by
  conv => rhs; rw [digs, if_neg h]
  exact bs_append _ _
theorem Digits_any (n : Nat) : ∀ (w : World), n ≤ 4611686018427387904 →
    Calls Tryz.prog 29 #[.int .i64 n] w (StrNew (digs n) w) := by
  induction n using Nat.strongRecOn with
  | ind n ih =>
    intro w hn
    by_cases h : n < 10
    · have hcv := fun W b cap hc => conv_one W b cap (48 + n) (by omega) (by omega) hc
      have hb : (48 + (n : Int)).toNat = 48 + n := by omega
      rw [hb, ← dgt] at hcv
      clear hb
      go_enter Tryz.func29, Tryz.ntmps29
      go_wp2
      go_ret
      exact ⟨ret_str (by rw [digs, if_pos h]), (Below.refl _ _).alloc (Nat.le_refl _) _⟩
    · have hd : ((n / 10 : Nat) : Int) = (n : Int) / 10 := by omega
      have ih1 := fun W => ih (n / 10) (by omega) W (by omega)
      rw [hd] at ih1
      have IH := Lib.hid ih1
      clear ih1 hd ih
      have hcv := fun W b cap hc => conv_one W b cap (48 + (n : Int) % 10) (by omega) (by omega) hc
      have hb : (48 + (n : Int) % 10).toNat = 48 + n % 10 := by omega
      rw [hb, ← dgt] at hcv
      clear hb
      have hl : (bs (digs (n / 10))).size ≤ n := by have := digs_le (n / 10); rw [size_bs]; omega
      have hl1 : (bs [dgt (n % 10)]).size ≤ 1 := Nat.le_refl _
      have e1 : IntKind.i64.wrap (48 + (n : Int) % 10) = 48 + (n : Int) % 10 := by rw [IntKind.wrap_i64]; omega
      have e2 : (n : Int).tdiv 10 = (n : Int) / 10 := Int.tdiv_eq_ediv_of_nonneg (by omega)
      have e3 : (n : Int).tmod 10 = (n : Int) % 10 := Int.tmod_eq_emod_of_nonneg (by omega)
      have e4 : IntKind.i64.wrap ((n : Int) / 10) = (n : Int) / 10 := by rw [IntKind.wrap_i64]; omega
      have e5 : IntKind.i64.wrap ((n : Int) % 10) = (n : Int) % 10 := by rw [IntKind.wrap_i64]; omega
      have e6 : IntKind.u8.wrap (48 + (n : Int) % 10) = 48 + (n : Int) % 10 := by simp only [IntKind.wrap, IntKind.bits, IntKind.signed]; simp; omega
      go_enter Tryz.func29, Tryz.ntmps29
      go_wp2_with fail
      go_region_with (go_at_call 29; refine (IH.out _).mono ?_; rintro e w1 ⟨rfl, hb⟩; have hcc := fun b o (h : b < _) => hb.cell (p := ⟨b, o, none⟩) h)
      all_goals
        go_wp2
        go_ret
        refine ⟨ret_str (digs_step h), ?_⟩
      · exact (below_then (Below.refl _ _).drew hb (by simp)).alloc (by have := hb.size; simpa using this) _
      all_goals exact below_then ((Below.refl _ _).alloc (Nat.le_refl _) _).drew hb (by simp)
end Go.Proofs.YtahhepmhdcbplaaGreatDoor
