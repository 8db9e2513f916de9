/-
  Package duty: Count, First, Apart; sets in cells.
-/
import Derived.Test.YteplbbikjcjheaaBase
import Derived.Test.YteplbbikjcjheaaD0
import Derived.Lib.Tables
namespace Go.Proofs.Yteplbbikjcjheaa
set_option maxRecDepth 100000
open Go.ChangeShapes Go.WideShapes Go.ChangeAt Go.RowKit

/-- sets in cells -/
def StAt (w : World) (A : Option Addr) (c : Nat) (l : List (Int × Nat)) : Prop := l.length ≤ c ∧ ∀ j (hj : j < l.length), ∃ g, A = some ⟨g, 0, none⟩ ∧ g < w.heap.size ∧ w.cell? ⟨g, j * 2, none⟩ = some (.int .i64 l[j].1) ∧ w.cell? ⟨g, j * 2 + 1, none⟩ = some (.int .u32 (l[j].2 : Nat)) ∧ l[j].2 < 4294967296
theorem StAt.below {w w' : World} {A : Option Addr} {c : Nat} {l : List (Int × Nat)} (h : StAt w A c l) (hb : Below w.heap.size w w') : StAt w' A c l :=
  ⟨h.1, fun j hj => let ⟨g, e, hl, hc, hd, hlt⟩ := h.2 j hj; ⟨g, e, Nat.lt_of_lt_of_le hl hb.size, (hb.cell (p := ⟨g, j * 2, none⟩) hl).trans hc, (hb.cell (p := ⟨g, j * 2 + 1, none⟩) hl).trans hd, hlt⟩⟩
theorem StAt.take {w : World} {A : Option Addr} {c : Nat} {l : List (Int × Nat)} (h : StAt w A c l) (k : Nat) : StAt w A c (l.take k) :=
  ⟨by rw [List.length_take]; have := h.1; omega, fun j hj => by
    have hj' : j < l.length := by rw [List.length_take] at hj; omega
    have := h.2 j hj'
    simpa using this⟩
theorem tab_fold : (⟨((List.append (List.append ([0, 1, 1, 2, 1, 2, 2, 3, 1, 2, 2, 3, 2, 3, 3, 4, 1, 2, 2, 3, 2, 3, 3, 4, 2, 3, 3, 4, 3, 4, 4, 5, 1, 2, 2, 3, 2, 3, 3, 4, 2, 3, 3, 4, 3, 4, 4, 5, 2, 3, 3, 4, 3, 4, 4, 5, 3, 4, 4, 5, 4, 5, 5, 6] : List UInt8) [1, 2, 2, 3, 2, 3, 3, 4, 2, 3, 3, 4, 3, 4, 4, 5, 2, 3, 3, 4, 3, 4, 4, 5, 3, 4, 4, 5, 4, 5, 5, 6, 2, 3, 3, 4, 3, 4, 4, 5, 3, 4, 4, 5, 4, 5, 5, 6, 3, 4, 4, 5, 4, 5, 5, 6, 4, 5, 5, 6, 5, 6, 6, 7]) (List.append [1, 2, 2, 3, 2, 3, 3, 4, 2, 3, 3, 4, 3, 4, 4, 5, 2, 3, 3, 4, 3, 4, 4, 5, 3, 4, 4, 5, 4, 5, 5, 6, 2, 3, 3, 4, 3, 4, 4, 5, 3, 4, 4, 5, 4, 5, 5, 6, 3, 4, 4, 5, 4, 5, 5, 6, 4, 5, 5, 6, 5, 6, 6, 7] [2, 3, 3, 4, 3, 4, 4, 5, 3, 4, 4, 5, 4, 5, 5, 6, 3, 4, 4, 5, 4, 5, 5, 6, 4, 5, 5, 6, 5, 6, 6, 7, 3, 4, 4, 5, 4, 5, 5, 6, 4, 5, 5, 6, 5, 6, 6, 7, 4, 5, 5, 6, 5, 6, 6, 7, 5, 6, 6, 7, 6, 7, 7, 8]))).toArray⟩ : ByteArray) = Lib.pop8tab := by kernel_rfl
theorem pop_nat (n : Nat) (h : n < 256) : Lib.pop8 (n : Int) = (cntTo n 8 : Int) := cnt8 ⟨n, h⟩
set_option maxHeartbeats 1000000 in
theorem Ones_any (s : Nat) (w : World) (hs : s < 4294967296) : Calls Try.prog 48 #[.int .u32 s] w fun e w' => e = .returned (.int .i64 (cnt s : Nat)) ∧ ∃ n, w' = w.drewN n := by
  have a1 := u32_and_nat (s / 65536) 255 (by omega) (by omega)
  have a2 := u32_and_nat (s / 256) 255 (by omega) (by omega)
  have a3 := u32_and_nat s 255 hs (by omega)
  rw [show (255 : Nat) = 2 ^ 8 - 1 by rfl, Nat.and_two_pow_sub_one_eq_mod] at a1 a2 a3
  have a1 : bits .and .u32 ((s : Int) / 65536) 255 = (s : Int) / 65536 % 256 := by simpa using a1
  have a2 : bits .and .u32 ((s : Int) / 256) 255 = (s : Int) / 256 % 256 := by simpa using a2
  have a3 : bits .and .u32 (s : Int) 255 = (s : Int) % 256 := by simpa using a3
  have b0 : (0 : Int) ≤ (s : Int) / 16777216 := by omega
  have b1 : (s : Int) / 16777216 ≤ 255 := by omega
  have b2 : (0 : Int) ≤ (s : Int) / 65536 % 256 := by omega
  have b3 : (s : Int) / 65536 % 256 ≤ 255 := by omega
  have b4 : (0 : Int) ≤ (s : Int) / 256 % 256 := by omega
  have b5 : (s : Int) / 256 % 256 ≤ 255 := by omega
  have b6 : (0 : Int) ≤ (s : Int) % 256 := by omega
  have b7 : (s : Int) % 256 ≤ 255 := by omega
  go_enter Try.func48, Try.ntmps48
  go_wp2
  simp only [tab_fold]
  go_quiet (fail)
  go_wp2
  go_ret
  refine ⟨ret_int ?_, nq, rfl⟩
  have e1 : Lib.pop8 ((s : Int) / 16777216) = _ := pop_nat (s / 16777216) (by omega)
  have e2 : Lib.pop8 ((s : Int) / 65536 % 256) = _ := pop_nat (s / 65536 % 256) (by omega)
  have e3 : Lib.pop8 ((s : Int) / 256 % 256) = _ := pop_nat (s / 256 % 256) (by omega)
  have e4 : Lib.pop8 ((s : Int) % 256) = _ := pop_nat (s % 256) (by omega)
  rw [e1, e2, e3, e4]
  have hc := cnt_bytes s
  have hle := cnt_le s
  have e0 : s / 2 ^ 24 % 2 ^ 8 = s / 16777216 := by omega
  rw [e0] at hc
  have e5 : s / 2 ^ 16 % 2 ^ 8 = s / 65536 % 256 := by omega
  have e6 : s / 2 ^ 8 % 2 ^ 8 = s / 256 % 256 := by omega
  have e7 : s % 2 ^ 8 = s % 256 := by omega
  rw [e5, e6, e7] at hc
  omega
theorem Count_any (s : Nat) (w : World) (hs : s < 4294967296) : Calls Try.prog 30 #[.int .u32 s] w fun e w' => e = .returned (.int .i64 (cnt s : Nat)) ∧ ∃ n, w' = w.drewN n := by
  have O := Lib.hid (Ones_any s w hs)
  go_enter Try.func30, Try.ntmps30
  go_wp2_with (go_at_call 48; refine O.out.mono ?_; rintro e w1 ⟨rfl, n, rfl⟩)
  go_ret
  exact ⟨rfl, n, rfl⟩
/-- the closure of First: is a set broken? -/
theorem clo_any (s : Nat) (a : Int × Nat) (b : Nat) (w : World) (hs : s < 4294967296) (ha : a.2 < 4294967296) (hb : b < w.heap.size) (hc : w.cell? ⟨b, 0, none⟩ = some (.int .u32 s)) :
    Calls Try.prog 50 #[.agg #[.int .i64 a.1, .int .u32 a.2], .pointer (some ⟨b, 0, none⟩)] w fun e w' => e = .returned (.bool (brk s a)) ∧ Below w.heap.size w w' := by
  obtain ⟨n, r⟩ := a
  simp only at ha ⊢
  have HB := Lib.hid (show decide (n ≤ (cnt (s &&& r) : Int)) = brk s (n, r) from rfl)
  have han := u32_and_nat s r hs ha
  have hlt : s &&& r < 4294967296 := Nat.and_lt_two_pow (n := 32) s ha
  have CN := Lib.hid (fun W => Count_any (s &&& r) W hlt)
  have R := heap_alloc_new w (.cells #[.int .i64 n, .int .u32 r] 72)
  have x0 : (w.alloc (.cells #[.int .i64 n, .int .u32 r] 72)).cell? ⟨b, 0, none⟩ = some (.int .u32 s) := (World.cell?_alloc_lt _ _ _ hb).trans hc
  have x1 : (w.alloc (.cells #[.int .i64 n, .int .u32 r] 72)).cell? ⟨w.heap.size, 0, none⟩ = some (.int .i64 n) := by rw [cell_of_row _ _ _ _ _ _ R]; rfl
  have x2 : (w.alloc (.cells #[.int .i64 n, .int .u32 r] 72)).cell? ⟨w.heap.size, 1, none⟩ = some (.int .u32 r) := by rw [cell_of_row _ _ _ _ _ _ R]; rfl
  have hbz : Below w.heap.size w (w.alloc (.cells #[.int .i64 n, .int .u32 r] 72)) := (Below.refl _ _).alloc (Nat.le_refl _) _
  have HZ := Lib.hid hbz
  clear R hc hlt ha hbz
  generalize s &&& r = q at *
  go_enter Try.func50, Try.ntmps50
  go_wp2
  generalize w.alloc (.cells #[.int .i64 n, .int .u32 r] 72) = w1 at *
  go_quiet ((go_at_call 30; exact Calls.quiet_of (CN.out _)))
  go_wp2
  go_ret
  exact ⟨ret_bool HB.out, below_drewN HZ.out _⟩
end Go.Proofs.Yteplbbikjcjheaa
