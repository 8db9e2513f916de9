/-
  Package duty: First, Apart; the document's Count, First.
-/
import Derived.Test.YteplbbikjcjheaaDuty1
namespace Go.Proofs.Yteplbbikjcjheaa
set_option maxRecDepth 100000
open Go.ChangeShapes Go.WideShapes Go.ChangeAt Go.RowKit

section
variable (s : Nat) (l : List (Int × Nat)) (A : Option Addr) (c : Nat) (w : World)
set_option maxHeartbeats 1000000 in
theorem IdxSet_any (b : Nat) (hs : s < 4294967296) (h : StAt w A c l) (hl : l.length ≤ 1000000) (hb : b < w.heap.size) (hc : w.cell? ⟨b, 0, none⟩ = some (.int .u32 s)) :
    Calls Try.prog 49 #[.slice A l.length c, .func (.func 50) #[] #[.pointer (some ⟨b, 0, none⟩)]] w fun e w' => e = .returned (.int .i64 (fstI s l)) ∧ Below w.heap.size w w' := by
  have HS := Lib.hid h
  have hcc := h.1
  clear h
  go_enter Try.func49, Try.ntmps49
  go_wp2
  go_loopw [5, 8] (fun _ i wr => ∃ k : Nat, k ≤ l.length ∧ i = .int .i64 k ∧ Hid (Below w.heap.size w wr) ∧ Hid (∀ j (_ : j < k) (h : j < l.length), brk s l[j] = false)) (fun _ i _ => l.length - (intOf i).toNat)
  case atStart => exact ⟨0, Nat.zero_le _, rfl, Below.refl _ _, fun j hj _ => by omega⟩
  case round =>
    obtain ⟨k, hk, rfl, HB, HI⟩ := hrel
    by_cases hlt : k < l.length
    · obtain ⟨g, rfl, hgl, x1, x2, hr⟩ := (HS.out.below HB.out).2 k hlt
      have hb2 : b < wr.heap.size := Nat.lt_of_lt_of_le hb HB.out.size
      have hc2 := (HB.out.cell (p := ⟨b, 0, none⟩) hb).trans hc
      have CL := Lib.hid (clo_any s l[k] b wr hs hr hb2 hc2)
      have HH : Hid (brk s l[k] = true → fstI s l = k) := fun hb => fst_hit hlt hb fun j hj => HI.out j hj (by omega)
      have HT : Hid (brk s l[k] = false → ∀ j (_ : j < k + 1) (h : j < l.length), brk s l[j] = false) := fun hb j hj h => by
        by_cases e : j = k
        · subst e; exact hb
        · exact HI.out j (by omega) h
      clear hc2 hb2 hr
      generalize l[k] = a at *
      cases hq : brk s a
      · have HT2 := Lib.hid (HT.out hq)
        rw [hq] at CL
        clear hq HH HT HI
        go_wp2_with (go_at_call 50; refine CL.out.mono ?_; rintro e w2 ⟨rfl, hb2⟩)
        have HB2 := Lib.hid (below_then HB.out hb2 HB.out.size)
        go_roundw
        case rel => exact ⟨k + 1, by omega, by go_num, HB2, HT2⟩
        case measure => simp [intOf]; omega
      · have HE := Lib.hid (HH.out hq)
        rw [hq] at CL
        clear hq HH HT HI
        go_wp2_with (go_at_call 50; refine CL.out.mono ?_; rintro e w2 ⟨rfl, hb2⟩)
        go_ret
        exact ⟨ret_int HE.out.symm, below_then HB.out hb2 HB.out.size⟩
    · have HE : Hid (fstI s l = -1) := fst_miss fun j hj => HI.out j (by omega) hj
      clear HI
      go_wp2
      go_ret
      exact ⟨ret_int HE.out.symm, HB.out⟩
theorem First_any (hs : s < 4294967296) (h : StAt w A c l) (hl : l.length ≤ 1000000) :
    Calls Try.prog 32 #[.int .u32 s, .slice A l.length c] w fun e w' => e = .returned (.int .i64 (fstI s l)) ∧ Below w.heap.size w w' := by
  have R := heap_alloc_new w (.cells #[.int .u32 s] 23)
  have hbz : Below w.heap.size w (w.alloc (.cells #[.int .u32 s] 23)) := (Below.refl _ _).alloc (Nat.le_refl _) _
  have IX := Lib.hid (IdxSet_any s l A c (w.alloc (.cells #[.int .u32 s] 23)) w.heap.size hs (h.below hbz) hl (by simp) (by rw [cell_of_row _ _ _ _ _ _ R]; rfl))
  have HB := Lib.hid hbz
  have hmf : ∀ (fn : Fn) (first cap : Array Value) (w : World), (Instr.makeFunc fn first cap).run Try.prog w = .ok (.func fn first cap) w := fun _ _ _ _ => rfl
  clear h R hbz
  go_enter Try.func32, Try.ntmps32
  go_wp2_with (go_at_call 49; refine IX.out.mono ?_; rintro e w2 ⟨rfl, hb2⟩)
  go_ret
  exact ⟨rfl, below_then HB.out hb2 HB.out.size⟩
theorem Apart_any (hs : s < 4294967296) (h : StAt w A c l) (hl : l.length ≤ 1000000) :
    Calls Try.prog 33 #[.int .u32 s, .slice A l.length c] w fun e w' => e = .returned (.bool (decide (fstI s l < 0))) ∧ Below w.heap.size w w' := by
  have F := Lib.hid (First_any s l A c w hs h hl)
  clear h
  generalize fstI s l = r at *
  go_enter Try.func33, Try.ntmps33
  go_wp2_with (go_at_call 32; refine F.out.mono ?_; rintro e w2 ⟨rfl, hb2⟩)
  go_ret
  exact ⟨rfl, hb2⟩
theorem RCount_any (hs : s < 4294967296) : Calls Try.prog 31 #[.int .u32 s] w fun e w' => e = .returned (.int .i64 (cnt s : Nat)) ∧ w' = w := by
  go_enter Try.func31, Try.ntmps31
  go_wp2
  go_loop [0, 3] (fun x n => ∃ k : Nat, k ≤ 32 ∧ x = .int .u32 (s / 2 ^ k : Nat) ∧ n = .int .i64 (cntTo s k : Nat)) (fun x _ => (intOf x).toNat)
  case atStart => exact ⟨0, by omega, by simp, rfl⟩
  case round =>
    obtain ⟨k, hk, rfl, rfl⟩ := hrel
    by_cases h0 : s / 2 ^ k = 0
    · have HE : Hid (cntTo s k = cnt s) := by
        have := cntTo_rest h0 (32 - k)
        rw [show k + (32 - k) = 32 by omega] at this
        exact this.symm
      rw [h0]
      clear h0
      generalize cntTo s k = n at *
      go_wp2
      go_ret
      exact ⟨ret_int (by rw [HE.out]), rfl⟩
    · have hk32 : k < 32 := by
        apply Nat.lt_of_le_of_ne hk
        intro e
        subst e
        exact h0 (Nat.div_eq_of_lt (by omega))
      have hb := cnt_bit s k
      have hsn : cntTo s (k + 1) = cntTo s k + (s.testBit k).toNat := rfl
      rw [← hb] at hsn
      have hdv : s / 2 ^ (k + 1) = s / 2 ^ k / 2 := by rw [Nat.div_div_eq_div_mul, Nat.pow_succ]
      have hlt : s / 2 ^ k < 4294967296 := Nat.lt_of_le_of_lt (Nat.div_le_self _ _) hs
      have hle := cntTo_le s k
      have HSN := Lib.hid hsn
      have HDV := Lib.hid hdv
      clear hsn hdv hb
      generalize cntTo s k = n at *
      generalize s / 2 ^ k = y at *
      have ha := u32_and_nat y 1 hlt (by omega)
      rw [Nat.and_one_is_mod] at ha
      have ha : bits .and .u32 (y : Int) 1 = (y : Int) % 2 := by simpa using ha
      have hpos : (0 : Int) < y := by omega
      go_wp2
      go_round
      case rel => exact ⟨k + 1, by omega, by rw [HDV.out]; go_num, by rw [HSN.out]; go_num⟩
      case measure => simp [intOf]; omega
    
set_option maxHeartbeats 1000000 in
theorem RFirst_any (hs : s < 4294967296) (h : StAt w A c l) (hl : l.length ≤ 1000000) :
    Calls Try.prog 29 #[.int .u32 s, .slice A l.length c] w fun e w' => e = .returned (.int .i64 (fstI s l)) ∧ ∃ n, w' = w.drewN n := by
  have HS := Lib.hid h
  have hcc := h.1
  clear h
  go_enter Try.func29, Try.ntmps29
  go_wp2
  go_loopw [5, 8] (fun _ i wr => ∃ k : Nat, k ≤ l.length ∧ i = .int .i64 k ∧ Hid (∃ n, wr = w.drewN n) ∧ Hid (∀ j (_ : j < k) (h : j < l.length), brk s l[j] = false)) (fun _ i _ => l.length - (intOf i).toNat)
  case atStart => exact ⟨0, Nat.zero_le _, rfl, ⟨0, rfl⟩, fun j hj _ => by omega⟩
  case round =>
    obtain ⟨k, hk, rfl, HM, HI⟩ := hrel
    have hbw : Below w.heap.size w wr := by obtain ⟨m, rfl⟩ := HM.out; exact below_drewN (Below.refl _ _) m
    by_cases hlt : k < l.length
    · obtain ⟨g, rfl, hgl, x1, x2, hr⟩ := (HS.out.below hbw).2 k hlt
      clear hbw
      have HH : Hid (brk s l[k] = true → fstI s l = k) := fun hb => fst_hit hlt hb fun j hj => HI.out j hj (by omega)
      have HT : Hid (brk s l[k] = false → ∀ j (_ : j < k + 1) (h : j < l.length), brk s l[j] = false) := fun hb j hj h => by
        by_cases e : j = k
        · subst e; exact hb
        · exact HI.out j (by omega) h
      generalize l[k] = a at *
      obtain ⟨n, r⟩ := a
      simp only at x1 x2 hr
      have HQ := Lib.hid (show decide (n ≤ (cnt (s &&& r) : Int)) = brk s (n, r) from rfl)
      have han := u32_and_nat s r hs hr
      have hlt2 : s &&& r < 4294967296 := Nat.and_lt_two_pow (n := 32) s hr
      have CN := Lib.hid (fun W => RCount_any (s &&& r) W hlt2)
      clear hlt2
      generalize s &&& r = q at *
      go_wp2
      go_quiet ((go_at_call 31; exact Calls.quiet_of_same (CN.out _)))
      have HM2 : Hid (∃ n, wr.drewN nq = w.drewN n) := by
        obtain ⟨m, e⟩ := HM.out
        exact ⟨m + nq, by rw [e, World.drewN_drewN]⟩
      generalize wr.drewN nq = w2 at *
      have hq := HQ.out
      cases hb : brk s (n, r)
      · have HT2 := Lib.hid (HT.out hb)
        rw [hb] at hq
        have hq2 : ¬ n ≤ (cnt q : Int) := by simpa using hq
        clear HQ hb HH HT HI hq
        go_wp2
        go_roundw
        case rel => exact ⟨k + 1, by omega, by go_num, HM2, HT2⟩
        case measure => simp [intOf]; omega
      · have HE := Lib.hid (HH.out hb)
        rw [hb] at hq
        have hq2 : n ≤ (cnt q : Int) := by simpa using hq
        clear HQ hb HH HT HI hq
        go_wp2
        go_ret
        exact ⟨ret_int HE.out.symm, HM2.out⟩
    · have HE : Hid (fstI s l = -1) := fst_miss fun j hj => HI.out j (by omega) hj
      clear HI
      go_wp2
      go_ret
      exact ⟨ret_int HE.out.symm, HM.out⟩
end
end Go.Proofs.Yteplbbikjcjheaa
