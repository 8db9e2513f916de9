/-
  within; digits.
-/
import Derived.Test.YtkgjcahcpeehjaaGreatDoorWth
import Derived.Deep.RegionWith
import Derived.StillTailTactics
namespace Go.Proofs.YtkgjcahcpeehjaaGreatDoor
set_option maxRecDepth 100000
open Go.ChangeShapes Go.WideShapes Go.ChangeAt Go.RowKit

/-- a byte of a number; a digit's sign -/
def byteOf (n : Nat) : UInt8 := UInt8.ofNat n
def dgt (n : Nat) : UInt8 := byteOf (48 + n)
theorem dgt_nat (n : Nat) (h : n < 10) : (dgt n).toNat = 48 + n := by unfold dgt byteOf; simp; omega
/-- a text of one byte, out of a list of one byte -/
theorem conv_one (W : World) (b cap : Nat) (c : Int) (h0 : 0 ≤ c) (h1 : c ≤ 255) (hc : W.cell? ⟨b, 0, none⟩ = some (.int .u8 c)) :
    (convert 70 9 (.slice (some ⟨b, 0, none⟩) 1 cap)).run Tryz.prog W = .ok (.string (bs [byteOf c.toNat])) W := by
  have := run_convert_bytes_back (P := Tryz.prog) W 70 9 5 ⟨b, 0, none⟩ cap [UInt8.ofNat c.toNat] Tryz.underlying70 Tryz.underlying5 Tryz.underlying9 (by
    intro j hj
    simp at hj
    subst hj
    have e : ((UInt8.ofNat c.toNat).toNat : Int) = c := by simp; omega
    simp only [List.getElem_cons_zero, e]
    exact hc)
  exact this
def StrNew (l : List UInt8) (w : World) (e : Ending) (w' : World) : Prop := e = .returned (.string (bs l)) ∧ Below w.heap.size w w'
end Go.Proofs.YtkgjcahcpeehjaaGreatDoor
namespace Go.Proofs.YtkgjcahcpeehjaaGreatDoor
set_option maxRecDepth 100000
open Go.ChangeShapes Go.WideShapes Go.ChangeAt Go.RowKit

/-- a number's digits -/
def digs (n : Nat) : List UInt8 := if n < 10 then [dgt n] else digs (n / 10) ++ [dgt (n % 10)]
theorem digs_le (n : Nat) : (digs n).length ≤ n + 1 := by
  induction n using Nat.strongRecOn with
  | ind n ih =>
    rw [digs]; split
    · simp
    · have := ih (n / 10) (by omega); simp; omega
theorem digs_step {n : Nat} (h : ¬ n < 10) : bs (digs (n / 10)) ++ bs [dgt (n % 10)] = bs (digs n) := by
  conv => rhs; rw [digs, if_neg h]
  exact bs_append _ _
theorem Digits_any (n : Nat) : ∀ (w : World), n ≤ 9223372036854775807 →
    Calls Tryz.prog 49 #[.int .i64 n] w (StrNew (digs n) w) := by
  induction n using Nat.strongRecOn with
  | ind n ih =>
    intro w hn
    by_cases h : n < 10
    · have hcv := fun W b cap hc => conv_one W b cap (48 + n) (by omega) (by omega) hc
      have hb : (48 + (n : Int)).toNat = 48 + n := by omega
      rw [hb, ← dgt] at hcv
      clear hb
      go_enter Tryz.func49, Tryz.ntmps49
      go_wp2
      go_ret
      exact ⟨ret_str (by rw [digs, if_pos h]), (Below.refl _ _).alloc (Nat.le_refl _) _⟩
    · have hd : ((n / 10 : Nat) : Int) = (n : Int) / 10 := by omega
      have ih1 := fun W => ih (n / 10) (by omega) W (by omega)
      rw [hd] at ih1
      have IH := Lib.hid ih1
      clear ih1 hd ih
      have hcv := fun W b cap hc => conv_one W b cap (48 + (n : Int) % 10) (by omega) (by omega) hc
      have hb : (48 + (n : Int) % 10).toNat = 48 + n % 10 := by omega
      rw [hb, ← dgt] at hcv
      clear hb
      have hl : (bs (digs (n / 10))).size ≤ 4611686018427387904 := by have := digs_le (n / 10); rw [size_bs]; omega
      have hl1 : (bs [dgt (n % 10)]).size ≤ 1 := Nat.le_refl _
      have e1 : IntKind.i64.wrap (48 + (n : Int) % 10) = 48 + (n : Int) % 10 := by rw [IntKind.wrap_i64]; omega
      have e2 : (n : Int).tdiv 10 = (n : Int) / 10 := Int.tdiv_eq_ediv_of_nonneg (by omega)
      have e3 : (n : Int).tmod 10 = (n : Int) % 10 := Int.tmod_eq_emod_of_nonneg (by omega)
      have e4 : IntKind.i64.wrap ((n : Int) / 10) = (n : Int) / 10 := by rw [IntKind.wrap_i64]; omega
      have e5 : IntKind.i64.wrap ((n : Int) % 10) = (n : Int) % 10 := by rw [IntKind.wrap_i64]; omega
      have e6 : IntKind.u8.wrap (48 + (n : Int) % 10) = 48 + (n : Int) % 10 := by simp only [IntKind.wrap, IntKind.bits, IntKind.signed]; simp; omega
      go_enter Tryz.func49, Tryz.ntmps49
      go_wp2_with fail
      go_region_with (go_at_call 49; refine (IH.out _).mono ?_; rintro e w1 ⟨rfl, hb⟩; have hcc := fun b o (h : b < _) => hb.cell (p := ⟨b, o, none⟩) h)
      all_goals
        go_wp2
        go_ret
        refine ⟨ret_str (digs_step h), ?_⟩
      · exact (below_then (Below.refl _ _).drew hb (by simp)).alloc (by have := hb.size; simpa using this) _
      all_goals exact below_then ((Below.refl _ _).alloc (Nat.le_refl _) _).drew hb (by simp)
end Go.Proofs.YtkgjcahcpeehjaaGreatDoor
