/-
  Packages shape and enter: there, Under, properly, has, told, inside.
-/
import Derived.Test.YtaolebdcmdmnjaaOwnI
import Derived.Test.YtaolebdcmdmnjaaDArg
import Derived.Test.YtaolebdcmdmnjaaEn0
namespace Go.Proofs.Ytaolebdcmdmnjaa
set_option maxRecDepth 100000
open Go.ChangeShapes Go.WideShapes Go.ChangeAt Go.RowKit

section
variable {ks ps : List Int} {A B : Option Addr} {n c d : Nat}
theorem there_any (k : Nat) (w : World) (hn : n ≤ 100) (hk : k < n) :
    Calls Try.prog 43 #[.agg #[.slice A n c, .slice B n d], .int .i64 k] w fun e w' => e = .returned (.bool true) ∧ Below w.heap.size w w' := by
  have x0 := box_0 w 24 (.slice A n c) (.slice B n d)
  have x1 := box_1 w 24 (.slice A n c) (.slice B n d)
  have HZ := Lib.hid (box_b w (.cells #[.slice A n c, .slice B n d] 24))
  have SZ := fun W => size_any 24 A B n c n d W (by omega) (by omega)
  rw [Nat.min_self] at SZ
  have SZ := Lib.hid SZ
  have hki : (k : Int) < n := by omega
  go_enter Try.func43, Try.ntmps43
  go_wp2_with (go_at_call 36; refine (SZ.out _).mono ?_; rintro e w1 ⟨rfl, hb1⟩)
  go_ret
  exact ⟨rfl, below_then HZ.out hb1 HZ.out.size⟩
set_option maxHeartbeats 1000000 in
theorem Under_any (k : Nat) (t : Int) (w : World) (h : IntsAt w (.slice A n c) ks ∧ IntsAt w (.slice B n d) ps) (hf : ShF ks ps n) (hn : n ≤ 100) (hk : k < n) :
    Calls Try.prog 23 #[.agg #[.slice A n c, .slice B n d], .int .i64 k, .int .i64 t] w fun e w' => e = .returned (.bool (undB ps k t)) ∧ Below w.heap.size w w' := by
  have x0 := box_0 w 24 (.slice A n c) (.slice B n d)
  have x1 := box_1 w 24 (.slice A n c) (.slice B n d)
  have hz := box_b w (.cells #[.slice A n c, .slice B n d] 24)
  have hlt : w.heap.size < (w.alloc (.cells #[.slice A n c, .slice B n d] 24)).heap.size := by simp
  have S1 := Lib.hid (shp_below h hz)
  have HZ := Lib.hid hz
  have HF := Lib.hid hf
  clear h hz hf
  go_enter Try.func23, Try.ntmps23
  go_upto_region 1 with (fail)
  generalize w.alloc (.cells #[.slice A n c, .slice B n d] 24) = w0 at *
  have TH := Lib.hid (fun W => there_any (A := A) (B := B) (c := c) (d := d) k W hn hk)
  have PA := Lib.hid (fun W (hW : Below w0.heap.size w0 W) (q : Nat) (hq : q < n) => parent_any ps A B n c n d q W (shp_below S1.out hW).2 HF.out.pl.symm hq (by omega))
  go_wp2_with (go_at_call 43; refine (TH.out _).mono ?_; rintro e w1 ⟨rfl, hb1⟩)
  have HB1 := Lib.hid hb1
  clear hb1
  go_loopw [1] (fun i wr => ∃ a : Int, i = .int .i64 a ∧ Hid (-1 ≤ a ∧ a < n ∧ upB ps a t = undB ps k t) ∧ Hid (Below w0.heap.size w0 wr)) (fun i _ => (intOf i + 1).toNat)
  case atStart => exact ⟨k, rfl, ⟨by omega, by omega, by unfold upB; rw [if_pos (by omega), Int.toNat_natCast]⟩, HB1.out⟩
  case round =>
    obtain ⟨a, rfl, HA, HB⟩ := hrel
    have z0 := (HB.out.cell (p := ⟨w.heap.size, 0, none⟩) hlt).trans x0
    have z1 := (HB.out.cell (p := ⟨w.heap.size, 1, none⟩) hlt).trans x1
    by_cases h0 : 0 ≤ a
    · by_cases hat : a = t
      · have HE : Hid (undB ps k t = true) := by show _ = _; rw [← HA.out.2.2, upB_end HA.out.1 (.inr hat), decide_eq_true hat]
        have g1 : (a != t) = false := by simp [hat]
        have g2 : (a == t) = true := by simp [hat]
        clear HA
        go_wp2
        go_ret
        exact ⟨ret_bool HE.out.symm, below_then HZ.out HB.out HZ.out.size⟩
      · obtain ⟨q, rfl⟩ : ∃ q : Nat, a = q := ⟨a.toNat, by omega⟩
        have hq : q < n := by have := HA.out.2.1; omega
        have PQ := Lib.hid (PA.out _ HB.out q hq)
        have hpq := HF.out.pa q hq
        have epar : par ps q = ps.getD q 0 := by unfold par; omega
        rw [epar] at PQ
        have HS : Hid (upB ps (ps.getD q 0) t = undB ps k t) := by
          show _ = _
          rw [upB_step HF.out hq hat, ← HA.out.2.2]
          unfold upB; rw [if_pos h0, Int.toNat_natCast]
        have HP := Lib.hid hpq
        have g1 : ((q : Int) != t) = true := by simpa using hat
        clear HA hpq epar
        generalize ps.getD q 0 = p at *
        go_wp2_with (go_at_call 44; refine PQ.out.mono ?_; rintro e w2 ⟨rfl, hb2⟩)
        go_roundw
        case rel => exact ⟨p, rfl, ⟨HP.out.1, by have := HP.out.2; omega, HS.out⟩, below_then HB.out hb2 HB.out.size⟩
        case measure => have := HP.out; simp [intOf]; omega
    · have HE : Hid (undB ps k t = (a == t)) := by
        show _ = _
        rw [← HA.out.2.2, upB_end HA.out.1 (.inl (by omega))]
        rfl
      clear HA
      generalize hg : (a == t) = g at *
      have HG := Lib.hid hg
      clear hg
      go_wp2
      go_ret
      exact ⟨ret_bool (by rw [HE.out, HG.out]), below_then HZ.out HB.out HZ.out.size⟩
theorem properly_any (k : Nat) (t : Int) (w : World) (h : IntsAt w (.slice A n c) ks ∧ IntsAt w (.slice B n d) ps) (hf : ShF ks ps n) (hn : n ≤ 100) (hk : k < n) :
    Calls Try.prog 45 #[.agg #[.slice A n c, .slice B n d], .int .i64 k, .int .i64 t] w fun e w' => e = .returned (.bool (decide ((k : Int) ≠ t) && undB ps k t)) ∧ Below w.heap.size w w' := by
  have x0 := box_0 w 24 (.slice A n c) (.slice B n d)
  have x1 := box_1 w 24 (.slice A n c) (.slice B n d)
  have hz := box_b w (.cells #[.slice A n c, .slice B n d] 24)
  have UN := Lib.hid (Under_any k t _ (shp_below h hz) hf hn hk)
  have HZ := Lib.hid hz
  clear h hz hf
  by_cases hkt : (k : Int) = t
  · have g1 : ((k : Int) != t) = false := by simp [hkt]
    have HE : Hid ((decide ((k : Int) ≠ t) && undB ps k t) = false) := by show _ = _; rw [decide_eq_false (fun h => h hkt), Bool.false_and]
    go_enter Try.func45, Try.ntmps45
    go_wp2
    go_ret
    exact ⟨ret_bool HE.out.symm, HZ.out⟩
  · have g1 : ((k : Int) != t) = true := by simpa using hkt
    have HE : Hid ((decide ((k : Int) ≠ t) && undB ps k t) = undB ps k t) := by show _ = _; rw [decide_eq_true hkt, Bool.true_and]
    go_enter Try.func45, Try.ntmps45
    go_wp2_with (go_at_call 23; refine UN.out.mono ?_; rintro e w1 ⟨rfl, hb1⟩)
    go_ret
    exact ⟨ret_bool HE.out.symm, below_then HZ.out hb1 HZ.out.size⟩
theorem hasE_any (s k : Nat) (w : World) (hs : s < 4294967296) (hk : k < 32) :
    Calls Try.prog 63 #[.int .u32 s, .int .i64 k] w fun e w' => e = .returned (.bool (s.testBit k)) ∧ w = w' := by
  have HV := Lib.hid (has_shr s k hs hk)
  go_enter Try.func63, Try.ntmps63
  go_wp2
  go_ret
  exact ⟨ret_bool HV.out, rfl⟩
end
end Go.Proofs.Ytaolebdcmdmnjaa
