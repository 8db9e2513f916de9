import Derived.Test.YtkalfhhdljndfaaGreatDoorGc0
import Derived.Test.YtkalfhhdljndfaaGreatDoorGw
import Derived.Test.YtkalfhhdljndfaaGreatDoorSplit
import Derived.LaidEql
import Derived.Lib.IfaceEq
import Derived.Stop.Asserts
import Derived.RowKitTokens
import Derived.Test.YtkalfhhdljndfaaGreatDoorOnes
namespace Go.Proofs.YtkalfhhdljndfaaGreatDoor
set_option maxRecDepth 100000
open Go.ChangeShapes Go.WideShapes Go.ChangeAt Go.RowKit
theorem givTo_yesC {k : Int} (hk : k = 0) {x : Gr} {w0 w' : World} {b : Nat} {v : Value} {gs : List Gr} {last : Int} {e : Ending} (h : GivTo k x w0 b v gs last e w') : e = .returned (.tuple #[.int .i64 x.num, .nilIface]) ∧ GrTo w0 b v (gs ++ [x]) x.num w' := by
 unfold GivTo at h; rwa [if_pos hk] at h
theorem givTo_notC {k : Int} (hk : k ≠ 0) {x : Gr} {w0 w' : World} {b : Nat} {v : Value} {gs : List Gr} {last : Int} {e : Ending} (h : GivTo k x w0 b v gs last e w') : e = .returned (.tuple #[.int .i64 0, .iface 49 (.int .i64 k)]) ∧ GrTo w0 b v gs last w' := by
 unfold GivTo at h; rw [if_neg hk, erV_no hk] at h; exact h
set_option maxHeartbeats 8000000 in
theorem gchain_walk (w : World) (a0 a1 a2 : Int) (ha0 : (Lit.int .i64 a0).wf = true) (ha1 : (Lit.int .i64 a1).wf = true) (ha2 : (Lit.int .i64 a2).wf = true) (hg : HandleAt w) (ht : TabAt w) :
  Calls Tryz.prog 5 #[.int .i64 a0, .int .i64 a1, .int .i64 a2] w (TrueOn w) := by
 have b0 := within_bd a0 3 (by omega)
 have b1 := within_bd a1 10 (by omega)
 have b2 := within_bd a2 2 (by omega)
 have W0 := Lib.hid (fun W => Within_any a0 3 W ha0 (by omega) (by omega))
 have W1 := Lib.hid (fun W => Within_any a1 10 W ha1 (by omega) (by omega))
 have W2 := Lib.hid (fun W => Within_any a2 2 W ha2 (by omega) (by omega))
 generalize within a0 3 = z0 at *
 generalize within a1 10 = z1 at *
 generalize within a2 2 = z2 at *
 obtain ⟨d, hd⟩ : ∃ d : Nat, 1 + z0 = d := ⟨(1 + z0).toNat, by omega⟩
 obtain ⟨t, htt⟩ : ∃ t : Int, 1 + z1 = t := ⟨_, rfl⟩
 have hd1 : 1 ≤ d := by omega
 have hd3 : d ≤ 3 := by omega
 have t1 : 1 ≤ t := by omega
 have t2 : t ≤ 10 := by omega
 have SM := Lib.hid (some_any d hd1 hd3 w hg ht)
 clear ha0 ha1 ha2 hg ht
 go_enter Tryz.func5, Tryz.ntmps5
 go_upto_region 2 with (go_at_call 27; refine (W0.out _).mono ?_; rintro e w0 ⟨rfl, rfl⟩)
 try rw [hd]
 clear hd b0 W0
 go_upto_region 3 with (go_at_call 28; refine SM.out.mono ?_; rintro e w1 ⟨hb1, rb, ro, rfl, _, hR⟩; have HB1 := Lib.hid hb1; have HRR := Lib.hid hR; have NW := Lib.hid (NewG_any w1); clear hb1 hR)
 go_upto_region 4 with (go_at_call 29; refine NW.out.mono ?_; rintro e w2 ⟨rfl, hm2, hb2⟩; have HM2 := Lib.hid hm2; have HB2 := Lib.hid hb2; clear hm2 hb2)
 go_upto_region 7 with (go_at_call 27; refine (W1.out _).mono ?_; rintro e w0 ⟨rfl, rfl⟩)
 try rw [htt]
 clear htt b1 W1
 have hmb : w1.heap.size < w2.heap.size := HM2.out.lt
 have GV1 : Hid (Calls Tryz.prog 30 #[.pointer (some ⟨w1.heap.size, 0, none⟩), .pointer (some ⟨rb, 0, none⟩), .string (bs [117, 97]), .string (bs [117, 98]), .string (bs [114, 98]), .int .i64 0, .int .i64 0, .int .i64 t] w2 (GivTo 0 (gc1 t) w2 w1.heap.size (.slice none 0 0) [] 0)) := by
  have h := give_any HRR.out HM2.out gc_i0 HB2.out [117, 97] [117, 98] [114, 98] (by decide) 0 0 t (gc_loan d)
  rw [gc_e1 hd1 hd3 t1 t2, gc_g1 t] at h
  exact h
 go_upto_region 8 with (go_at_call 30; refine GV1.out.mono ?_; intro e w3 h3; obtain ⟨e9, hg3⟩ := givTo_yesC rfl h3; subst e9; clear h3; have HG3 := Lib.hid (grTo_on HB2.out (Nat.le_of_lt hmb) hg3 (Nat.le_refl _) (fun k e => by simp [Value.ownBlock] at e)); clear hg3)
 obtain ⟨v3, hm3', hb3, hv3, hc3⟩ := HG3.out
 have hm3 : GrM w3 w1.heap.size v3 [gc1 t] 1 := hm3'
 have HV3 : Hid (∀ k, v3.ownBlock = some k → w1.heap.size ≤ k) := fun k e => (hv3 k e).elim (fun h => by simp [Value.ownBlock] at h) (fun h => by omega)
 have GV2 : Hid (Calls Tryz.prog 30 #[.pointer (some ⟨w1.heap.size, 0, none⟩), .pointer (some ⟨rb, 0, none⟩), .string (bs [117, 98]), .string (bs [117, 99]), .string (bs [114, 98]), .int .i64 1, .int .i64 0, .int .i64 10] w3 (GivTo (if 2 ≤ d then 0 else 8) (gc2 t) w3 w1.heap.size v3 [gc1 t] 1)) := by
  have h := give_any HRR.out hm3 (gc_i1 t1 t2) hb3 [117, 98] [117, 99] [114, 98] (by decide) 1 0 10 (gc_loan d)
  rw [gc_e2 hd1 hd3 t, gc_g2 t2] at h
  exact h
 have HM3 := Lib.hid hm3
 have HB3 := Lib.hid hb3
 have h3z : w1.heap.size < w3.heap.size := hm3.lt
 clear GV1 HG3 hm3' hb3 hv3 hc3 hm3 HM2
 dsimp only [gc1]
 by_cases hd2 : 2 ≤ d
 ·rw [if_pos hd2] at GV2
  have hd2i : (2 : Int) ≤ d := by omega
  have hd2j : ¬ (d : Int) < 2 := by omega
  have hd2d := decide_eq_true hd2i
  go_upto_region 9 with (go_at_call 30; refine GV2.out.mono ?_; intro e w4 h4; obtain ⟨e9, hg4⟩ := givTo_yesC rfl h4; subst e9; clear h4; have HG4 := Lib.hid (grTo_on HB3.out (Nat.le_of_lt h3z) hg4 (Nat.le_refl _) HV3.out); clear hg4)
  obtain ⟨v4, hm4', hb4, hv4, hc4⟩ := HG4.out
  have hm4 : GrM w4 w1.heap.size v4 [gc1 t, gc2 t] 2 := hm4'
  have HV4 : Hid (∀ k, v4.ownBlock = some k → w1.heap.size ≤ k) := fun k e => (hv4 k e).elim (HV3.out k) (fun h => by omega)
  have HM4 := Lib.hid hm4
  have HB4 := Lib.hid hb4
  have h4z : w1.heap.size < w4.heap.size := hm4.lt
  have LI := Lib.hid (ListG_any hm4 (by simp))
  clear GV2 HG4 hm4' hb4 hv4 hc4 hm4 HM3 HB3 HV3 h3z
  dsimp only [gc2]
  go_upto_region 14 with (go_at_call 31; refine LI.out.mono ?_; rintro e w5 ⟨A5, c5, rfl, ho5, hb5⟩; obtain ⟨g5, cap5, e5, hbs5, hlt5, _, hcl5⟩ := own_form ho5 (by simp); obtain rfl : A5 = some ⟨g5, 0, none⟩ := (by injection e5); have HCL := Lib.hid hcl5; have HB5 := Lib.hid hb5; have HCC := Lib.hid (own_cap ho5); clear ho5 hb5 e5 hcl5)
  have y1 : w5.cell? ⟨g5, 1, none⟩ = some (.string (bs [117, 97])) := HCL.out 1 _ rfl
  have y8 : w5.cell? ⟨g5, 8, none⟩ = some (.string (bs [117, 98])) := HCL.out 8 _ rfl
  have y11 : w5.cell? ⟨g5, 11, none⟩ = some (.int .i64 t) := HCL.out 11 _ rfl
  have y12 : w5.cell? ⟨g5, 12, none⟩ = some (.int .i64 2) := HCL.out 12 _ rfl
  have y13 : w5.cell? ⟨g5, 13, none⟩ = some (.int .i64 1) := HCL.out 13 _ rfl
  have hcc5 : 2 ≤ c5 := HCC.out
  have HO : Hid (Calls Tryz.prog 33 #[.pointer (some ⟨w1.heap.size, 0, none⟩), .pointer (some ⟨rb, 0, none⟩), .string (bs [117, 99])] w5 fun e w' => e = .returned (.int .u32 2) ∧ Below w5.heap.size w5 w') := by
   have h := Holds_any HRR.out (HM4.out.below HB5.out) (below_then HB4.out HB5.out (Nat.le_of_lt h4z)) (by simp) [117, 99]
   unfold HolTo at h
   rw [gc_holds] at h
   exact h
  clear LI HCL HCC
  have h5z := HB5.out.size
  have HM5 := Lib.hid (HM4.out.below HB5.out)
  have HB6 := Lib.hid (below_then HB4.out HB5.out (Nat.le_of_lt h4z))
  have hmin : min t 10 = t := by omega
  have hnl : ¬ (10 : Int) < t := by omega
  rcases (by omega : t < 10 ∨ t = 10) with ht10 | ht10
  ·go_upto_region 16 with (go_at_call 33; refine HO.out.mono ?_; rintro e w6 ⟨rfl, hb6⟩; have HB7 := Lib.hid (below_then HB6.out hb6 (by omega)); have HM6 := Lib.hid (HM5.out.below hb6); have h6z := hb6.size; have y1' := (hb6.cell (p := ⟨g5, 1, none⟩) hlt5).trans y1; have y8' := (hb6.cell (p := ⟨g5, 8, none⟩) hlt5).trans y8; clear hb6)
   clear y1 y8 y11 y12 y13 HO HM5 HB5 HB6
   have GV3 : Hid (Calls Tryz.prog 30 #[.pointer (some ⟨w1.heap.size, 0, none⟩), .pointer (some ⟨rb, 0, none⟩), .string (bs [117, 99]), .string (bs [117, 97]), .string (bs [114, 98]), .int .i64 2, .int .i64 0, .int .i64 1] w6 (GivTo (if 3 ≤ d then 0 else 8) gc3 w6 w1.heap.size v4 [gc1 t, gc2 t] 2)) := by
    have h := give_any HRR.out HM6.out (gc_i2 t1 t2) HB7.out [117, 99] [117, 97] [114, 98] (by decide) 2 0 1 (gc_loan d)
    rw [gc_e3 hd2 hd3 t, gc_g3 t1] at h
    exact h
   have h6b : w1.heap.size < w6.heap.size := HM6.out.lt
   have HG5 : Hid (∀ k, v4.ownBlock = some k → k < g5) := fun k e => Nat.lt_of_lt_of_le (HM4.out.own.lt k e).2 hbs5
   have hg1 : w1.heap.size < g5 := by omega
   have hlt6 : g5 < w6.heap.size := by omega
   clear HM4
   by_cases hdd : 3 ≤ d
   ·rw [if_pos hdd] at GV3
    have hd3i : (3 : Int) ≤ d := by omega
    have hd3d := decide_eq_true hd3i
    go_upto_region 17 with (go_at_call 30; refine GV3.out.mono ?_; intro e w7 h7; obtain ⟨e9, hg7⟩ := givTo_yesC rfl h7; subst e9; clear h7; have HG7 := Lib.hid (grTo_on HB7.out (Nat.le_of_lt h6b) hg7 (Nat.le_refl _) HV4.out); clear hg7)
    obtain ⟨v7, hm7', hb7, hv7, hc7⟩ := HG7.out
    have hm7 : GrM w7 w1.heap.size v7 [gc1 t, gc2 t, gc3] 3 := hm7'
    have y1 := (World.cell?_of_block (a := ⟨g5, 1, none⟩) (hc7.block g5 hlt6 (fun h => h.elim (fun e => by omega) (fun e => by have := HG5.out _ e; omega)))).trans y1'
    have y8 := (World.cell?_of_block (a := ⟨g5, 8, none⟩) (hc7.block g5 hlt6 (fun h => h.elim (fun e => by omega) (fun e => by have := HG5.out _ e; omega)))).trans y8'
    have HV7 : Hid (∀ k, v7.ownBlock = some k → w1.heap.size ≤ k) := fun k e => (hv7 k e).elim (HV4.out k) (fun h => by omega)
    have HM7 := Lib.hid hm7
    have HB8 := Lib.hid hb7
    have h7z : w1.heap.size < w7.heap.size := hm7.lt
    have GE := Lib.hid (gc_end3 t)
    clear GV3 HG7 hm7' hb7 hv7 hc7 hm7 HV4 HM6 HB7 y1' y8'
    rcases (by omega : z2 = 0 ∨ z2 = 1) with rfl | rfl
    ·have RV := Lib.hid (Revoke_ok HM7.out GE.out.few 1 (gc1 t) GE.out.f1)
     have HRL : Hid ((remP (fun g => g.num == 1) [gc1 t, gc2 t, gc3]).1.length = 0) := GE.out.r1
     clear GE
     generalize (remP (fun g => g.num == 1) [gc1 t, gc2 t, gc3]).1 = gs8 at *
     dsimp only [gc1] at RV
     go_wp2_with (first
      | (go_at_call 27; refine (W2.out _).mono ?_; rintro e w0 ⟨rfl, rfl⟩)
      | (go_at_call 34; refine RV.out.mono ?_; rintro e w8 ⟨rfl, hg8⟩; obtain ⟨v8, hm8, hb8, hv8, hc8⟩ := grTo_on HB8.out (Nat.le_of_lt h7z) hg8 (Nat.le_refl _) HV7.out; have HB9 := Lib.hid hb8; have LI8 := Lib.hid (ListG_any hm8 (by have := HRL.out; omega)); have h8z := hm8.lt; clear hg8 hm8 hb8 hv8 hc8)
      | (go_at_call 31; refine LI8.out.mono ?_; rintro e w9 ⟨A9, c9, rfl, _, hb9⟩; rw [HRL.out]; have HB10 := Lib.hid (below_then HB9.out hb9 (Nat.le_of_lt h8z)); have h9z := hb9.size; clear hb9)
      | (go_at_call 32; refine (wakes12 _).mono ?_; rintro e w10 ⟨rfl, hb10⟩; have HB11 := Lib.hid (below_then HB10.out hb10 (by omega)); clear hb10))
     go_ret
     exact ⟨rfl, below_then HB1.out HB11.out HB1.out.size⟩
    ·have RV := Lib.hid (Revoke_ok HM7.out GE.out.few 2 (gc2 t) GE.out.f2)
     have HRL : Hid ((remP (fun g => g.num == 2) [gc1 t, gc2 t, gc3]).1.length = 1) := GE.out.r2
     clear GE
     generalize (remP (fun g => g.num == 2) [gc1 t, gc2 t, gc3]).1 = gs8 at *
     dsimp only [gc2] at RV
     go_wp2_with (first
      | (go_at_call 27; refine (W2.out _).mono ?_; rintro e w0 ⟨rfl, rfl⟩)
      | (go_at_call 34; refine RV.out.mono ?_; rintro e w8 ⟨rfl, hg8⟩; obtain ⟨v8, hm8, hb8, hv8, hc8⟩ := grTo_on HB8.out (Nat.le_of_lt h7z) hg8 (Nat.le_refl _) HV7.out; have HB9 := Lib.hid hb8; have LI8 := Lib.hid (ListG_any hm8 (by have := HRL.out; omega)); have h8z := hm8.lt; clear hg8 hm8 hb8 hv8 hc8)
      | (go_at_call 31; refine LI8.out.mono ?_; rintro e w9 ⟨A9, c9, rfl, _, hb9⟩; rw [HRL.out]; have HB10 := Lib.hid (below_then HB9.out hb9 (Nat.le_of_lt h8z)); have h9z := hb9.size; clear hb9)
      | (go_at_call 32; refine (wakes12 _).mono ?_; rintro e w10 ⟨rfl, hb10⟩; have HB11 := Lib.hid (below_then HB10.out hb10 (by omega)); clear hb10))
     go_ret
     exact ⟨rfl, below_then HB1.out HB11.out HB1.out.size⟩
   ·rw [if_neg hdd] at GV3
    have hd3i : ¬ (3 : Int) ≤ d := by omega
    have hd3d := decide_eq_false hd3i
    go_upto_region 17 with (go_at_call 30; refine GV3.out.mono ?_; intro e w7 h7; obtain ⟨e9, hg7⟩ := givTo_notC (by decide) h7; subst e9; clear h7; have HG7 := Lib.hid (grTo_on HB7.out (Nat.le_of_lt h6b) hg7 (Nat.le_refl _) HV4.out); clear hg7)
    obtain ⟨v7, hm7', hb7, hv7, hc7⟩ := HG7.out
    have hm7 : GrM w7 w1.heap.size v7 [gc1 t, gc2 t] 2 := hm7'
    have y1 := (World.cell?_of_block (a := ⟨g5, 1, none⟩) (hc7.block g5 hlt6 (fun h => h.elim (fun e => by omega) (fun e => by have := HG5.out _ e; omega)))).trans y1'
    have y8 := (World.cell?_of_block (a := ⟨g5, 8, none⟩) (hc7.block g5 hlt6 (fun h => h.elim (fun e => by omega) (fun e => by have := HG5.out _ e; omega)))).trans y8'
    have HV7 : Hid (∀ k, v7.ownBlock = some k → w1.heap.size ≤ k) := fun k e => (hv7 k e).elim (HV4.out k) (fun h => by omega)
    have HM7 := Lib.hid hm7
    have HB8 := Lib.hid hb7
    have h7z : w1.heap.size < w7.heap.size := hm7.lt
    have GE := Lib.hid (gc_end2 t)
    clear GV3 HG7 hm7' hb7 hv7 hc7 hm7 HV4 HM6 HB7 y1' y8'
    rcases (by omega : z2 = 0 ∨ z2 = 1) with rfl | rfl
    ·have RV := Lib.hid (Revoke_ok HM7.out GE.out.few 1 (gc1 t) GE.out.f1)
     have HRL : Hid ((remP (fun g => g.num == 1) [gc1 t, gc2 t]).1.length = 0) := GE.out.r1
     clear GE
     generalize (remP (fun g => g.num == 1) [gc1 t, gc2 t]).1 = gs8 at *
     dsimp only [gc1] at RV
     go_wp2_with (first
      | (go_at_call 27; refine (W2.out _).mono ?_; rintro e w0 ⟨rfl, rfl⟩)
      | (go_at_call 34; refine RV.out.mono ?_; rintro e w8 ⟨rfl, hg8⟩; obtain ⟨v8, hm8, hb8, hv8, hc8⟩ := grTo_on HB8.out (Nat.le_of_lt h7z) hg8 (Nat.le_refl _) HV7.out; have HB9 := Lib.hid hb8; have LI8 := Lib.hid (ListG_any hm8 (by have := HRL.out; omega)); have h8z := hm8.lt; clear hg8 hm8 hb8 hv8 hc8)
      | (go_at_call 31; refine LI8.out.mono ?_; rintro e w9 ⟨A9, c9, rfl, _, hb9⟩; rw [HRL.out]; have HB10 := Lib.hid (below_then HB9.out hb9 (Nat.le_of_lt h8z)); have h9z := hb9.size; clear hb9)
      | (go_at_call 32; refine (wakes12 _).mono ?_; rintro e w10 ⟨rfl, hb10⟩; have HB11 := Lib.hid (below_then HB10.out hb10 (by omega)); clear hb10))
     go_ret
     exact ⟨rfl, below_then HB1.out HB11.out HB1.out.size⟩
    ·have RV := Lib.hid (Revoke_ok HM7.out GE.out.few 2 (gc2 t) GE.out.f2)
     have HRL : Hid ((remP (fun g => g.num == 2) [gc1 t, gc2 t]).1.length = 1) := GE.out.r2
     clear GE
     generalize (remP (fun g => g.num == 2) [gc1 t, gc2 t]).1 = gs8 at *
     dsimp only [gc2] at RV
     go_wp2_with (first
      | (go_at_call 27; refine (W2.out _).mono ?_; rintro e w0 ⟨rfl, rfl⟩)
      | (go_at_call 34; refine RV.out.mono ?_; rintro e w8 ⟨rfl, hg8⟩; obtain ⟨v8, hm8, hb8, hv8, hc8⟩ := grTo_on HB8.out (Nat.le_of_lt h7z) hg8 (Nat.le_refl _) HV7.out; have HB9 := Lib.hid hb8; have LI8 := Lib.hid (ListG_any hm8 (by have := HRL.out; omega)); have h8z := hm8.lt; clear hg8 hm8 hb8 hv8 hc8)
      | (go_at_call 31; refine LI8.out.mono ?_; rintro e w9 ⟨A9, c9, rfl, _, hb9⟩; rw [HRL.out]; have HB10 := Lib.hid (below_then HB9.out hb9 (Nat.le_of_lt h8z)); have h9z := hb9.size; clear hb9)
      | (go_at_call 32; refine (wakes12 _).mono ?_; rintro e w10 ⟨rfl, hb10⟩; have HB11 := Lib.hid (below_then HB10.out hb10 (by omega)); clear hb10))
     go_ret
     exact ⟨rfl, below_then HB1.out HB11.out HB1.out.size⟩
  ·subst ht10
   go_upto_region 16 with (go_at_call 33; refine HO.out.mono ?_; rintro e w6 ⟨rfl, hb6⟩; have HB7 := Lib.hid (below_then HB6.out hb6 (by omega)); have HM6 := Lib.hid (HM5.out.below hb6); have h6z := hb6.size; have y1' := (hb6.cell (p := ⟨g5, 1, none⟩) hlt5).trans y1; have y8' := (hb6.cell (p := ⟨g5, 8, none⟩) hlt5).trans y8; clear hb6)
   clear y1 y8 y11 y12 y13 HO HM5 HB5 HB6
   have GV3 : Hid (Calls Tryz.prog 30 #[.pointer (some ⟨w1.heap.size, 0, none⟩), .pointer (some ⟨rb, 0, none⟩), .string (bs [117, 99]), .string (bs [117, 97]), .string (bs [114, 98]), .int .i64 2, .int .i64 0, .int .i64 1] w6 (GivTo (if 3 ≤ d then 0 else 8) gc3 w6 w1.heap.size v4 [gc1 10, gc2 10] 2)) := by
    have h := give_any HRR.out HM6.out (gc_i2 t1 t2) HB7.out [117, 99] [117, 97] [114, 98] (by decide) 2 0 1 (gc_loan d)
    rw [gc_e3 hd2 hd3 10, gc_g3 t1] at h
    exact h
   have h6b : w1.heap.size < w6.heap.size := HM6.out.lt
   have HG5 : Hid (∀ k, v4.ownBlock = some k → k < g5) := fun k e => Nat.lt_of_lt_of_le (HM4.out.own.lt k e).2 hbs5
   have hg1 : w1.heap.size < g5 := by omega
   have hlt6 : g5 < w6.heap.size := by omega
   clear HM4
   by_cases hdd : 3 ≤ d
   ·rw [if_pos hdd] at GV3
    have hd3i : (3 : Int) ≤ d := by omega
    have hd3d := decide_eq_true hd3i
    go_upto_region 17 with (go_at_call 30; refine GV3.out.mono ?_; intro e w7 h7; obtain ⟨e9, hg7⟩ := givTo_yesC rfl h7; subst e9; clear h7; have HG7 := Lib.hid (grTo_on HB7.out (Nat.le_of_lt h6b) hg7 (Nat.le_refl _) HV4.out); clear hg7)
    obtain ⟨v7, hm7', hb7, hv7, hc7⟩ := HG7.out
    have hm7 : GrM w7 w1.heap.size v7 [gc1 10, gc2 10, gc3] 3 := hm7'
    have y1 := (World.cell?_of_block (a := ⟨g5, 1, none⟩) (hc7.block g5 hlt6 (fun h => h.elim (fun e => by omega) (fun e => by have := HG5.out _ e; omega)))).trans y1'
    have y8 := (World.cell?_of_block (a := ⟨g5, 8, none⟩) (hc7.block g5 hlt6 (fun h => h.elim (fun e => by omega) (fun e => by have := HG5.out _ e; omega)))).trans y8'
    have HV7 : Hid (∀ k, v7.ownBlock = some k → w1.heap.size ≤ k) := fun k e => (hv7 k e).elim (HV4.out k) (fun h => by omega)
    have HM7 := Lib.hid hm7
    have HB8 := Lib.hid hb7
    have h7z : w1.heap.size < w7.heap.size := hm7.lt
    have GE := Lib.hid (gc_end3 10)
    clear GV3 HG7 hm7' hb7 hv7 hc7 hm7 HV4 HM6 HB7 y1' y8'
    rcases (by omega : z2 = 0 ∨ z2 = 1) with rfl | rfl
    ·have RV := Lib.hid (Revoke_ok HM7.out GE.out.few 1 (gc1 10) GE.out.f1)
     have HRL : Hid ((remP (fun g => g.num == 1) [gc1 10, gc2 10, gc3]).1.length = 0) := GE.out.r1
     clear GE
     generalize (remP (fun g => g.num == 1) [gc1 10, gc2 10, gc3]).1 = gs8 at *
     dsimp only [gc1] at RV
     go_wp2_with (first
      | (go_at_call 27; refine (W2.out _).mono ?_; rintro e w0 ⟨rfl, rfl⟩)
      | (go_at_call 34; refine RV.out.mono ?_; rintro e w8 ⟨rfl, hg8⟩; obtain ⟨v8, hm8, hb8, hv8, hc8⟩ := grTo_on HB8.out (Nat.le_of_lt h7z) hg8 (Nat.le_refl _) HV7.out; have HB9 := Lib.hid hb8; have LI8 := Lib.hid (ListG_any hm8 (by have := HRL.out; omega)); have h8z := hm8.lt; clear hg8 hm8 hb8 hv8 hc8)
      | (go_at_call 31; refine LI8.out.mono ?_; rintro e w9 ⟨A9, c9, rfl, _, hb9⟩; rw [HRL.out]; have HB10 := Lib.hid (below_then HB9.out hb9 (Nat.le_of_lt h8z)); have h9z := hb9.size; clear hb9)
      | (go_at_call 32; refine (wakes12 _).mono ?_; rintro e w10 ⟨rfl, hb10⟩; have HB11 := Lib.hid (below_then HB10.out hb10 (by omega)); clear hb10))
     go_ret
     exact ⟨rfl, below_then HB1.out HB11.out HB1.out.size⟩
    ·have RV := Lib.hid (Revoke_ok HM7.out GE.out.few 2 (gc2 10) GE.out.f2)
     have HRL : Hid ((remP (fun g => g.num == 2) [gc1 10, gc2 10, gc3]).1.length = 1) := GE.out.r2
     clear GE
     generalize (remP (fun g => g.num == 2) [gc1 10, gc2 10, gc3]).1 = gs8 at *
     dsimp only [gc2] at RV
     go_wp2_with (first
      | (go_at_call 27; refine (W2.out _).mono ?_; rintro e w0 ⟨rfl, rfl⟩)
      | (go_at_call 34; refine RV.out.mono ?_; rintro e w8 ⟨rfl, hg8⟩; obtain ⟨v8, hm8, hb8, hv8, hc8⟩ := grTo_on HB8.out (Nat.le_of_lt h7z) hg8 (Nat.le_refl _) HV7.out; have HB9 := Lib.hid hb8; have LI8 := Lib.hid (ListG_any hm8 (by have := HRL.out; omega)); have h8z := hm8.lt; clear hg8 hm8 hb8 hv8 hc8)
      | (go_at_call 31; refine LI8.out.mono ?_; rintro e w9 ⟨A9, c9, rfl, _, hb9⟩; rw [HRL.out]; have HB10 := Lib.hid (below_then HB9.out hb9 (Nat.le_of_lt h8z)); have h9z := hb9.size; clear hb9)
      | (go_at_call 32; refine (wakes12 _).mono ?_; rintro e w10 ⟨rfl, hb10⟩; have HB11 := Lib.hid (below_then HB10.out hb10 (by omega)); clear hb10))
     go_ret
     exact ⟨rfl, below_then HB1.out HB11.out HB1.out.size⟩
   ·rw [if_neg hdd] at GV3
    have hd3i : ¬ (3 : Int) ≤ d := by omega
    have hd3d := decide_eq_false hd3i
    go_upto_region 17 with (go_at_call 30; refine GV3.out.mono ?_; intro e w7 h7; obtain ⟨e9, hg7⟩ := givTo_notC (by decide) h7; subst e9; clear h7; have HG7 := Lib.hid (grTo_on HB7.out (Nat.le_of_lt h6b) hg7 (Nat.le_refl _) HV4.out); clear hg7)
    obtain ⟨v7, hm7', hb7, hv7, hc7⟩ := HG7.out
    have hm7 : GrM w7 w1.heap.size v7 [gc1 10, gc2 10] 2 := hm7'
    have y1 := (World.cell?_of_block (a := ⟨g5, 1, none⟩) (hc7.block g5 hlt6 (fun h => h.elim (fun e => by omega) (fun e => by have := HG5.out _ e; omega)))).trans y1'
    have y8 := (World.cell?_of_block (a := ⟨g5, 8, none⟩) (hc7.block g5 hlt6 (fun h => h.elim (fun e => by omega) (fun e => by have := HG5.out _ e; omega)))).trans y8'
    have HV7 : Hid (∀ k, v7.ownBlock = some k → w1.heap.size ≤ k) := fun k e => (hv7 k e).elim (HV4.out k) (fun h => by omega)
    have HM7 := Lib.hid hm7
    have HB8 := Lib.hid hb7
    have h7z : w1.heap.size < w7.heap.size := hm7.lt
    have GE := Lib.hid (gc_end2 10)
    clear GV3 HG7 hm7' hb7 hv7 hc7 hm7 HV4 HM6 HB7 y1' y8'
    rcases (by omega : z2 = 0 ∨ z2 = 1) with rfl | rfl
    ·have RV := Lib.hid (Revoke_ok HM7.out GE.out.few 1 (gc1 10) GE.out.f1)
     have HRL : Hid ((remP (fun g => g.num == 1) [gc1 10, gc2 10]).1.length = 0) := GE.out.r1
     clear GE
     generalize (remP (fun g => g.num == 1) [gc1 10, gc2 10]).1 = gs8 at *
     dsimp only [gc1] at RV
     go_wp2_with (first
      | (go_at_call 27; refine (W2.out _).mono ?_; rintro e w0 ⟨rfl, rfl⟩)
      | (go_at_call 34; refine RV.out.mono ?_; rintro e w8 ⟨rfl, hg8⟩; obtain ⟨v8, hm8, hb8, hv8, hc8⟩ := grTo_on HB8.out (Nat.le_of_lt h7z) hg8 (Nat.le_refl _) HV7.out; have HB9 := Lib.hid hb8; have LI8 := Lib.hid (ListG_any hm8 (by have := HRL.out; omega)); have h8z := hm8.lt; clear hg8 hm8 hb8 hv8 hc8)
      | (go_at_call 31; refine LI8.out.mono ?_; rintro e w9 ⟨A9, c9, rfl, _, hb9⟩; rw [HRL.out]; have HB10 := Lib.hid (below_then HB9.out hb9 (Nat.le_of_lt h8z)); have h9z := hb9.size; clear hb9)
      | (go_at_call 32; refine (wakes12 _).mono ?_; rintro e w10 ⟨rfl, hb10⟩; have HB11 := Lib.hid (below_then HB10.out hb10 (by omega)); clear hb10))
     go_ret
     exact ⟨rfl, below_then HB1.out HB11.out HB1.out.size⟩
    ·have RV := Lib.hid (Revoke_ok HM7.out GE.out.few 2 (gc2 10) GE.out.f2)
     have HRL : Hid ((remP (fun g => g.num == 2) [gc1 10, gc2 10]).1.length = 1) := GE.out.r2
     clear GE
     generalize (remP (fun g => g.num == 2) [gc1 10, gc2 10]).1 = gs8 at *
     dsimp only [gc2] at RV
     go_wp2_with (first
      | (go_at_call 27; refine (W2.out _).mono ?_; rintro e w0 ⟨rfl, rfl⟩)
      | (go_at_call 34; refine RV.out.mono ?_; rintro e w8 ⟨rfl, hg8⟩; obtain ⟨v8, hm8, hb8, hv8, hc8⟩ := grTo_on HB8.out (Nat.le_of_lt h7z) hg8 (Nat.le_refl _) HV7.out; have HB9 := Lib.hid hb8; have LI8 := Lib.hid (ListG_any hm8 (by have := HRL.out; omega)); have h8z := hm8.lt; clear hg8 hm8 hb8 hv8 hc8)
      | (go_at_call 31; refine LI8.out.mono ?_; rintro e w9 ⟨A9, c9, rfl, _, hb9⟩; rw [HRL.out]; have HB10 := Lib.hid (below_then HB9.out hb9 (Nat.le_of_lt h8z)); have h9z := hb9.size; clear hb9)
      | (go_at_call 32; refine (wakes12 _).mono ?_; rintro e w10 ⟨rfl, hb10⟩; have HB11 := Lib.hid (below_then HB10.out hb10 (by omega)); clear hb10))
     go_ret
     exact ⟨rfl, below_then HB1.out HB11.out HB1.out.size⟩
 ·have hd1' : d = 1 := by omega
  rw [if_neg hd2] at GV2
  have hd2i : ¬ (2 : Int) ≤ d := by omega
  have hd2j : (d : Int) < 2 := by omega
  have hd2d := decide_eq_false hd2i
  clear hd1'
  go_wp2_with (first
   | (go_at_call 30; refine GV2.out.mono ?_; intro e w4 h4; obtain ⟨e9, hg4⟩ := givTo_notC (by decide) h4; subst e9; clear h4; obtain ⟨v4, hm4, hb4, hv4, hc4⟩ := grTo_on HB3.out (Nat.le_of_lt h3z) hg4 (Nat.le_refl _) HV3.out; have HB4 := Lib.hid hb4; have LI := Lib.hid (ListG_any hm4 (by simp)); have h4z := hm4.lt; clear hg4 hm4 hb4 hv4 hc4)
   | (go_at_call 24; refine (ko.keepIsO 8 8 _ (by omega) (by omega)).mono ?_; rintro e w7 ⟨rfl, rfl⟩)
   | (go_at_call 31; refine LI.out.mono ?_; rintro e w9 ⟨A9, c9, rfl, _, hb9⟩; have HB10 := Lib.hid (below_then HB4.out hb9 (Nat.le_of_lt h4z)); have h9z := hb9.size; clear hb9)
   | (go_at_call 32; refine (wakes12 _).mono ?_; rintro e w10 ⟨rfl, hb10⟩; have HB11 := Lib.hid (below_then HB10.out hb10 (by omega)); clear hb10))
  go_ret
  exact ⟨rfl, below_then HB1.out HB11.out HB1.out.size⟩
end Go.Proofs.YtkalfhhdljndfaaGreatDoor
