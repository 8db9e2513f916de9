/-
  bits.OnesCount32: how many bits of a number are 1.
-/
import Derived.Test.YtaolebdcmdmnjaaBase
import Derived.Test.YtaolebdcmdmnjaaD0
import Derived.Lib.Tables
namespace Go.Proofs.Ytaolebdcmdmnjaa
set_option maxRecDepth 100000
open Go.ChangeShapes Go.WideShapes Go.ChangeAt Go.RowKit

theorem tab_fold : (⟨((List.append (List.append ([0, 1, 1, 2, 1, 2, 2, 3, 1, 2, 2, 3, 2, 3, 3, 4, 1, 2, 2, 3, 2, 3, 3, 4, 2, 3, 3, 4, 3, 4, 4, 5, 1, 2, 2, 3, 2, 3, 3, 4, 2, 3, 3, 4, 3, 4, 4, 5, 2, 3, 3, 4, 3, 4, 4, 5, 3, 4, 4, 5, 4, 5, 5, 6] : List UInt8) [1, 2, 2, 3, 2, 3, 3, 4, 2, 3, 3, 4, 3, 4, 4, 5, 2, 3, 3, 4, 3, 4, 4, 5, 3, 4, 4, 5, 4, 5, 5, 6, 2, 3, 3, 4, 3, 4, 4, 5, 3, 4, 4, 5, 4, 5, 5, 6, 3, 4, 4, 5, 4, 5, 5, 6, 4, 5, 5, 6, 5, 6, 6, 7]) (List.append [1, 2, 2, 3, 2, 3, 3, 4, 2, 3, 3, 4, 3, 4, 4, 5, 2, 3, 3, 4, 3, 4, 4, 5, 3, 4, 4, 5, 4, 5, 5, 6, 2, 3, 3, 4, 3, 4, 4, 5, 3, 4, 4, 5, 4, 5, 5, 6, 3, 4, 4, 5, 4, 5, 5, 6, 4, 5, 5, 6, 5, 6, 6, 7] [2, 3, 3, 4, 3, 4, 4, 5, 3, 4, 4, 5, 4, 5, 5, 6, 3, 4, 4, 5, 4, 5, 5, 6, 4, 5, 5, 6, 5, 6, 6, 7, 3, 4, 4, 5, 4, 5, 5, 6, 4, 5, 5, 6, 5, 6, 6, 7, 4, 5, 5, 6, 5, 6, 6, 7, 5, 6, 6, 7, 6, 7, 7, 8]))).toArray⟩ : ByteArray) = Lib.pop8tab := by kernel_rfl
theorem pop_nat (n : Nat) (h : n < 256) : Lib.pop8 (n : Int) = (cntTo n 8 : Int) := cnt8 ⟨n, h⟩
set_option maxHeartbeats 1000000 in
theorem Ones_any (s : Nat) (w : World) (hs : s < 4294967296) : Calls Try.prog 37 #[.int .u32 s] w fun e w' => e = .returned (.int .i64 (cnt s : Nat)) ∧ ∃ n, w' = w.drewN n := by
  have a1 := u32_and_nat (s / 65536) 255 (by omega) (by omega)
  have a2 := u32_and_nat (s / 256) 255 (by omega) (by omega)
  have a3 := u32_and_nat s 255 hs (by omega)
  rw [show (255 : Nat) = 2 ^ 8 - 1 by rfl, Nat.and_two_pow_sub_one_eq_mod] at a1 a2 a3
  have a1 : bits .and .u32 ((s : Int) / 65536) 255 = (s : Int) / 65536 % 256 := by simpa using a1
  have a2 : bits .and .u32 ((s : Int) / 256) 255 = (s : Int) / 256 % 256 := by simpa using a2
  have a3 : bits .and .u32 (s : Int) 255 = (s : Int) % 256 := by simpa using a3
  have b0 : (0 : Int) ≤ (s : Int) / 16777216 := by omega
  have b1 : (s : Int) / 16777216 ≤ 255 := by omega
  have b2 : (0 : Int) ≤ (s : Int) / 65536 % 256 := by omega
  have b3 : (s : Int) / 65536 % 256 ≤ 255 := by omega
  have b4 : (0 : Int) ≤ (s : Int) / 256 % 256 := by omega
  have b5 : (s : Int) / 256 % 256 ≤ 255 := by omega
  have b6 : (0 : Int) ≤ (s : Int) % 256 := by omega
  have b7 : (s : Int) % 256 ≤ 255 := by omega
  go_enter Try.func37, Try.ntmps37
  go_wp2
  simp only [tab_fold]
  go_quiet (fail)
  go_wp2
  go_ret
  refine ⟨ret_int ?_, nq, rfl⟩
  have e1 : Lib.pop8 ((s : Int) / 16777216) = _ := pop_nat (s / 16777216) (by omega)
  have e2 : Lib.pop8 ((s : Int) / 65536 % 256) = _ := pop_nat (s / 65536 % 256) (by omega)
  have e3 : Lib.pop8 ((s : Int) / 256 % 256) = _ := pop_nat (s / 256 % 256) (by omega)
  have e4 : Lib.pop8 ((s : Int) % 256) = _ := pop_nat (s % 256) (by omega)
  rw [e1, e2, e3, e4]
  have hc := cnt_bytes s
  have hle := cnt_le s
  have e0 : s / 2 ^ 24 % 2 ^ 8 = s / 16777216 := by omega
  rw [e0] at hc
  have e5 : s / 2 ^ 16 % 2 ^ 8 = s / 65536 % 256 := by omega
  have e6 : s / 2 ^ 8 % 2 ^ 8 = s / 256 % 256 := by omega
  have e7 : s % 2 ^ 8 = s % 256 := by omega
  rw [e5, e6, e7] at hc
  omega
end Go.Proofs.Ytaolebdcmdmnjaa
