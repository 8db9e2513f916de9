/-
  Package clock: which of two Dues comes first.
-/
import Derived.Test.YtkalfhhdljndfaaCk3
import Derived.Laws.Cover1
namespace Go.Proofs.Ytkalfhhdljndfaa
set_option maxRecDepth 100000
open Go.ChangeShapes Go.WideShapes Go.ChangeAt Go.RowKit

def cmpI (x y : Int) : Int := if x < y then -1 else if y < x then 1 else 0
theorem cmpI_any (x y : Int) (w : World) : Calls Try.prog 16 #[.int .i64 x, .int .i64 y] w fun e w' => e = .returned (.int .i64 (cmpI x y)) ∧ w = w' := by
  have HE : Hid (cmpI x y = if x < y then -1 else if y < x then 1 else 0) := rfl
  generalize cmpI x y = z at *
  rcases (by omega : x < y ∨ x = y ∨ y < x) with h | h | h
  · rw [if_pos h] at HE
    go_enter Try.func16, Try.ntmps16
    go_wp2_with (go_at_call 29; refine (isNaN_any _ _).mono ?_; rintro e w2 ⟨rfl, rfl⟩)
    go_ret
    exact ⟨ret_int HE.out.symm, rfl⟩
  · subst h
    rw [if_neg (by omega), if_neg (by omega)] at HE
    go_enter Try.func16, Try.ntmps16
    go_wp2_with (go_at_call 29; refine (isNaN_any _ _).mono ?_; rintro e w2 ⟨rfl, rfl⟩)
    go_ret
    exact ⟨ret_int HE.out.symm, rfl⟩
  · have h2 : ¬ x < y := by omega
    rw [if_neg h2, if_pos h] at HE
    go_enter Try.func16, Try.ntmps16
    go_wp2_with (go_at_call 29; refine (isNaN_any _ _).mono ?_; rintro e w2 ⟨rfl, rfl⟩)
    go_ret
    exact ⟨ret_int HE.out.symm, rfl⟩
theorem isNaNS_any (x : ByteArray) (w : World) : Calls Try.prog 30 #[.string x] w fun e w' => e = .returned (.bool false) ∧ w = w' := by
  have h : (x.toList != x.toList) = false := by simp
  go_enter Try.func30, Try.ntmps30
  go_wp2
  go_ret
  exact ⟨rfl, rfl⟩
def cmpB (x y : List UInt8) : Int := if Op.bytesLess x y = true then -1 else if (x == y) = true then 0 else 1
theorem cmpS_any (x y : ByteArray) (w : World) : Calls Try.prog 17 #[.string x, .string y] w fun e w' => e = .returned (.int .i64 (cmpB x.toList y.toList)) ∧ w = w' := by
  have HE : Hid (cmpB x.toList y.toList = if Op.bytesLess x.toList y.toList = true then -1 else if (x.toList == y.toList) = true then 0 else 1) := rfl
  generalize cmpB x.toList y.toList = z at *
  cases h1 : Op.bytesLess x.toList y.toList
  · cases h2 : (x.toList == y.toList)
    · rw [h1, h2, if_neg (by simp), if_neg (by simp)] at HE
      go_enter Try.func17, Try.ntmps17
      go_wp2_with (go_at_call 30; refine (isNaNS_any _ _).mono ?_; rintro e w2 ⟨rfl, rfl⟩)
      go_ret
      exact ⟨ret_int HE.out.symm, rfl⟩
    · rw [h1, h2, if_neg (by simp), if_pos rfl] at HE
      go_enter Try.func17, Try.ntmps17
      go_wp2_with (go_at_call 30; refine (isNaNS_any _ _).mono ?_; rintro e w2 ⟨rfl, rfl⟩)
      go_ret
      exact ⟨ret_int HE.out.symm, rfl⟩
  · rw [h1, if_pos rfl] at HE
    go_enter Try.func17, Try.ntmps17
    go_wp2_with (go_at_call 30; refine (isNaNS_any _ _).mono ?_; rintro e w2 ⟨rfl, rfl⟩)
    go_ret
    exact ⟨ret_int HE.out.symm, rfl⟩
def or3 (a b c : Int) : Int := if a ≠ 0 then a else if b ≠ 0 then b else c
set_option maxHeartbeats 2000000 in
theorem Or_any (g : Nat) (a b c : Int) (w : World) (h0 : w.cell? ⟨g, 0, none⟩ = some (.int .i64 a)) (h1 : w.cell? ⟨g, 1, none⟩ = some (.int .i64 b)) (h2 : w.cell? ⟨g, 2, none⟩ = some (.int .i64 c)) :
    Calls Try.prog 15 #[.slice (some ⟨g, 0, none⟩) 3 3] w fun e w' => e = .returned (.int .i64 (or3 a b c)) ∧ w = w' := by
  have HE : Hid (or3 a b c = if a ≠ 0 then a else if b ≠ 0 then b else c) := rfl
  generalize or3 a b c = z at *
  go_enter Try.func15, Try.ntmps15
  go_upto_region 3 with fail
  go_loopw [8] (fun i wr => ∃ k : Nat, k ≤ 3 ∧ i = .int .i64 k ∧ wr = w ∧ Hid ((1 ≤ k → a = 0) ∧ (2 ≤ k → b = 0) ∧ (3 ≤ k → c = 0))) (fun i _ => 3 - (intOf i).toNat)
  case atStart => exact ⟨0, by omega, rfl, rfl, fun h => by omega, fun h => by omega, fun h => by omega⟩
  case round =>
    obtain ⟨k, hk, rfl, rfl, HZ⟩ := hrel
    rcases (by omega : k = 0 ∨ k = 1 ∨ k = 2 ∨ k = 3) with rfl | rfl | rfl | rfl
    · by_cases hz : a = 0
      · subst hz
        go_wp2
        go_roundw
        case rel => exact ⟨1, by omega, by go_num, by simp, by unfold Hid; simp⟩
        case measure => simp [intOf]
      · rw [if_pos hz] at HE
        go_wp2
        go_ret
        exact ⟨ret_int HE.out.symm, rfl⟩
    · obtain rfl := HZ.out.1 (by omega)
      by_cases hz : b = 0
      · subst hz
        go_wp2
        go_roundw
        case rel => exact ⟨2, by omega, by go_num, by simp, by unfold Hid; simp⟩
        case measure => simp [intOf]
      · rw [if_neg (by simp), if_pos hz] at HE
        go_wp2
        go_ret
        exact ⟨ret_int HE.out.symm, rfl⟩
    · obtain rfl := HZ.out.1 (by omega)
      obtain rfl := HZ.out.2.1 (by omega)
      rw [if_neg (by simp), if_neg (by simp)] at HE
      by_cases hz : c = 0
      · subst hz
        go_wp2
        go_roundw
        case rel => exact ⟨3, by omega, by go_num, by simp, by unfold Hid; simp⟩
        case measure => simp [intOf]
      · go_wp2
        go_ret
        exact ⟨ret_int HE.out.symm, rfl⟩
    · obtain rfl := HZ.out.1 (by omega)
      obtain rfl := HZ.out.2.1 (by omega)
      obtain rfl := HZ.out.2.2 (by omega)
      rw [if_neg (by simp), if_neg (by simp)] at HE
      go_wp2
      go_ret
      exact ⟨ret_int HE.out.symm, rfl⟩
end Go.Proofs.Ytkalfhhdljndfaa
