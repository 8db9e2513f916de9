import Derived.Test.YtgffbgmieppckaaGreatDoorSd1
import Derived.Test.YtgffbgmieppckaaGreatDoorSplit
import Derived.Deep.RegionWith
import Derived.StillTailTactics
namespace Go.Proofs.YtgffbgmieppckaaGreatDoor
set_option maxRecDepth 100000
open Go.ChangeShapes Go.WideShapes Go.ChangeAt Go.RowKit
set_option maxHeartbeats 16000000 in
theorem sduties_walk (w : World) (a0 a1 : Int) (ha1 : (Lit.int .i64 a1).wf = true) (hg : HandleAt w) (ht : TabAt w) :
  Calls Tryz.prog 9 #[.int .i64 a0, .int .i64 a1] w (TrueOn w) := by
 have b1 := within_bd a1 9 (by omega)
 have W1 := Lib.hid (fun W => Within_any a1 9 W ha1 (by omega) (by omega))
 generalize within a1 9 = z1 at *
 obtain ⟨t, htt⟩ : ∃ t : Int, 1 + z1 = t := ⟨_, rfl⟩
 have t1 : 1 ≤ t := by omega
 have t2 : t ≤ 9 := by omega
 have htw : IntKind.i64.wrap (1 + z1) = t := by rw [IntKind.wrap_i64]; omega
 have PR := Lib.hid (fun T W => PlayRules_any T W)
 have HG := Lib.hid hg
 have HT := Lib.hid ht
 have HS := Lib.hid (fun w1 e w' hb h => somS_of sd_at sd_bl (w := w) (w1 := w1) (w' := w') (e := e) hb h)
 have HTX : Hid (∀ x : Tx, x = sdTx → (polT x).l = (polT sdTx).l) := fun x h => by rw [h]
 clear ha1 hg ht htt b1
 go_enter Tryz.func9, Tryz.ntmps9
 go_upto_region 2 with (first
  | (go_at_call 13; refine (PR.out _ _).mono ?_; rintro e w3 ⟨hb3, v3, acc, rfl, hacc, hr⟩; obtain ⟨A3, cap3, rfl⟩ := own_slice hr.1; have HB3 := Lib.hid hb3; have CC := Lib.hid (RComp_pol acc A3 cap3 _ w3 hr (hacc.trans (HTX.out _ rfl)) (HG.out.below' HB3.out) (HT.out.below HB3.out)); clear hb3 hr hacc)
  | (go_at_call 17; refine CC.out.mono ?_; intro e w1 h9; obtain ⟨hb4, rb, ro, e9, hlt, hR⟩ := HS.out _ _ _ HB3.out h9; subst e9; clear h9; have HR := Lib.hid hR; have HB1 := Lib.hid hb4; have NG := Lib.hid (NewG_any w1); clear hR hb4))
 clear CC HS PR HTX HB3 HG HT
 go_upto_region 6 with (first
  | (go_at_call 24; refine NG.out.mono ?_; rintro e w2 ⟨rfl, hm2, hb2⟩; have HM2 := Lib.hid hm2; have HB2 := Lib.hid hb2; have NS := Lib.hid (NewSe_any w2); clear hm2 hb2)
  | (go_at_call 46; refine NS.out.mono ?_; rintro e w3 ⟨rfl, hm3, hb3⟩; have D0 : Hid (SD w1 w3 w2.heap.size w1.heap.size (.slice none 0 0) (.slice none 0 0) [] [] 0 0) := (⟨hm3, HM2.out.below hb3, below_then HB2.out hb3 HB2.out.size, HB2.out.size, Nat.le_refl _, fun k e => by simp [Value.ownBlock] at e, fun k e => by simp [Value.ownBlock] at e⟩ : SD _ _ _ _ _ _ _ _ _ _); clear hm3 hb3))
 clear NG NS HM2
 generalize hbS : w2.heap.size = bS at *
 generalize hbG : w1.heap.size = bG at *
 clear hbS hbG
 go_cut [39] (fun c wx => wx = w3 ∧ ∃ cb : Bool, c = .bool cb)
 case first =>
  rcases bor_cases (a := (a0.tmod 2 == 0)) with g | g
  ·have g' : (a0.tmod 2 != 0) = false := by simp only [bne, g]; rfl
   go_wp2
   go_meet
   exact ⟨rfl, false, rfl⟩
  ·have g' : (a0.tmod 2 != 0) = true := by simp only [bne, g]; rfl
   go_wp2
   go_meet
   exact ⟨rfl, true, rfl⟩
 case rest =>
 obtain ⟨hw9, cb, rfl⟩ := hcut
 subst hw9
 obtain ⟨w3, rfl⟩ : ∃ w9 : World, w9 = wc := ⟨_, rfl⟩
 go_upto_if 39 with fail
 go_cut [9, 10] (fun x y wx => wx = w3 ∧ ∃ sw : Bool, x = .string (bs (dA sw)) ∧ y = .string (bs (dB sw)))
 case first =>
  cases cb with
  | false =>
   go_wp2
   go_meet
   exact ⟨rfl, false, rfl, rfl⟩
  | true =>
   go_wp2
   go_meet
   exact ⟨rfl, true, rfl, rfl⟩
 case rest =>
 obtain ⟨hw9, sw, rfl, rfl⟩ := hcut
 subst hw9
 obtain ⟨w3, rfl⟩ : ∃ w9 : World, w9 = wc := ⟨_, rfl⟩
 clear cb
 go_upto_region 9 with (go_at_call 25; refine (W1.out _).mono ?_; rintro e w0 ⟨rfl, rfl⟩)
 clear W1 htw
 have O1 := Lib.hid (sd_open HR.out D0.out (by decide) [117, 97] (by decide) (by decide) sdo1 (rfl : _ = sd1))
 have tk1 : True := trivial
 go_upto_region 12 with (first
  | (have _t := tk1; go_at_call 49; refine O1.out.mono ?_; rintro e wx1 ⟨rfl, v1, d1⟩; have D1 := Lib.hid d1; have O2 := Lib.hid (sd_open HR.out d1 (by decide) [117, 97] (by decide) (by decide) sdo2 (rfl : _ = sd2)); clear tk1 _t d1 O1; have tk2 : True := trivial)
  | (have _t := tk2; go_at_call 49; refine O2.out.mono ?_; rintro e wx2 ⟨rfl, v2, d2⟩; have D2 := Lib.hid d2; have O3 := Lib.hid (sd_open HR.out d2 (by decide) [117, 98] (by decide) (by decide) sdo3 (rfl : _ = sd3)); clear tk2 _t d2 O2; have tk3 : True := trivial)
  | (have _t := tk3; go_at_call 49; refine O3.out.mono ?_; rintro e wx3 ⟨rfl, v3, d3⟩; have D3 := Lib.hid d3; clear tk3 _t d3 O3; have tk4 : True := trivial))
 clear D0 D1 D2
 have e3 : SD w1 wx3 bS bG v3 (.slice none 0 0) sd3 [] 3 0 := D3.out
 have A1 := Lib.hid (sd_act HR.out e3 (by decide) (by decide) (sd_lt sw).1 1 (dA sw) (sda1 sw).1 (sda1 sw).2)
 clear e3
 go_upto_region 14 with (first
  | (have _t := tk4; go_at_call 51; refine A1.out.mono ?_; rintro e wy1 ⟨rfl, u1, d1⟩; have E1 := Lib.hid d1; have A2 := Lib.hid (sd_actNo HR.out d1 (sd_ln sw).1 (by decide) (sd_lt sw).2.1 1 (dB sw) (sda2 sw) (by decide)); clear tk4 _t d1 A1; have tk5 : True := trivial)
  | (have _t := tk5; go_at_call 51; refine A2.out.mono ?_; rintro e wy2 ⟨rfl, d2⟩; have E2 := Lib.hid d2; have A3 := Lib.hid (sd_act HR.out d2 (sd_ln sw).1 (by decide) (sd_lt sw).2.1 2 (dB sw) (sda3 sw).1 (sda3 sw).2); clear tk5 _t d2 A2; have tk6 : True := trivial; have ti7 : True := trivial)
  | (have _t := tk6; go_at_call 51; refine A3.out.mono ?_; rintro e wy3 ⟨rfl, u3, d3⟩; have E3 := Lib.hid d3; have A4 := Lib.hid (sd_act HR.out d3 (sd_ln sw).2.1 (by decide) (sd_lt sw).2.2.1 3 [114, 99] (sda4 sw).1 (sda4 sw).2); clear tk6 _t d3 A3; have tk7 : True := trivial)
  | (have _t := tk7; go_at_call 51; refine A4.out.mono ?_; rintro e wy4 ⟨rfl, u4, d4⟩; have E4 := Lib.hid d4; have A5 := Lib.hid (sd_actNo HR.out d4 (sd_ln sw).2.2.1 (by decide) (sd_lt sw).2.2.2.1 3 [114, 98] (sda5 sw) (by decide)); clear tk7 _t d4 A4; have tk8 : True := trivial)
  | (have _t := tk8; go_at_call 51; refine A5.out.mono ?_; rintro e wy5 ⟨rfl, d5⟩; have E5 := Lib.hid d5; clear tk8 _t d5 A5; have tk9 : True := trivial; have ti8 : True := trivial)
  | (have _t := ti7; go_at_call 19; refine (ko.keepIsO 7 7 _ (by omega) (by omega)).mono ?_; rintro e w4 ⟨rfl, rfl⟩; clear ti7 _t)
  | (have _t := ti8; go_at_call 19; refine (ko.keepIsO 8 8 _ (by omega) (by omega)).mono ?_; rintro e w4 ⟨rfl, rfl⟩; clear ti8 _t))
 clear E1 E2 E3 E4 D3
 have GV : Hid (Calls Tryz.prog 52 #[.pointer (some ⟨bG, 0, none⟩), .pointer (some ⟨rb, 0, none⟩), .string (bs [117, 97]), .string (bs [117, 98]), .string (bs [114, 98]), .int .i64 0, .int .i64 0, .int .i64 t] wy5 (GivTo 0 (sdG t) wy5 bG (.slice none 0 0) [] 0)) := by
  have h := give_any HR.out.B E5.out.g sd_i0 E5.out.be [117, 97] [117, 98] [114, 98] (by decide) 0 0 t sd_loan
  rw [sd_e1 t1 t2, sd_g1 t] at h
  exact h
 go_upto_region 15 with (go_at_call 52; refine GV.out.mono ?_; intro e wg h3; obtain ⟨e9, hg3⟩ : e = .returned (.tuple #[.int .i64 1, .nilIface]) ∧ GrTo wy5 bG (.slice none 0 0) [sdG t] 1 wg := (by unfold GivTo at h3; rwa [if_pos rfl] at h3); subst e9; clear h3; obtain ⟨vg, d6⟩ := E5.out.grant hg3; have E6 := Lib.hid d6; have A6 := Lib.hid (sd_act HR.out d6 (sd_ln sw).2.2.1 (by simp) (sd_lt sw).2.2.2.1 3 [114, 98] (sda6 sw t).1 (sda6 sw t).2); clear hg3 d6)
 clear GV E5
 go_upto_region 17 with (go_at_call 51; refine A6.out.mono ?_; rintro e wy7 ⟨rfl, u7, d7⟩; have E7 := Lib.hid d7; clear d7)
 clear A6 E6
 have M1 := Lib.hid (sd_may HR.out E7.out (sd_ln sw).2.2.2 (sd_lt sw).2.2.2.2 3 [112, 97] sdu1 (sdm1 sw))
 have tm1 : True := trivial
 have ea : ((bs (dA sw)).toList == [114, 97]) = !sw := by rw [Lib.toList_data, list_bs]; cases sw <;> rfl
 have eb : ((bs (dB sw)).toList == [114, 97]) = sw := by rw [Lib.toList_data, list_bs]; cases sw <;> rfl
 have nn : ((!sw) != !sw) = false := by cases sw <;> rfl
 have ss : (sw != sw) = false := by cases sw <;> rfl
 go_upto_region 19 with (first
  | (have _t := tm1; go_at_call 53; refine M1.out.mono ?_; rintro e wm1 ⟨rfl, d1⟩; have F1 := Lib.hid d1; have M2 := Lib.hid (sd_may HR.out d1 (sd_ln sw).2.2.2 (sd_lt sw).2.2.2.2 1 [112, 97] sdu1 (sdm2 sw)); clear tm1 _t d1 M1; have tm2 : True := trivial)
  | (have _t := tm2; go_at_call 53; refine M2.out.mono ?_; rintro e wm2 ⟨rfl, d2⟩; have F2 := Lib.hid d2; have M3 := Lib.hid (sd_may HR.out d2 (sd_ln sw).2.2.2 (sd_lt sw).2.2.2.2 2 [112, 97] sdu1 (sdm3 sw)); clear tm2 _t d2 M2; have tm3 : True := trivial)
  | (have _t := tm3; go_at_call 53; refine M3.out.mono ?_; rintro e wm3 ⟨rfl, d3⟩; have F3 := Lib.hid d3; have M4 := Lib.hid (sd_may HR.out d3 (sd_ln sw).2.2.2 (sd_lt sw).2.2.2.2 9 [112, 97] sdu1 (sdm4 sw)); clear tm3 _t d3 M3; have tm4 : True := trivial)
  | (have _t := tm4; go_at_call 53; refine M4.out.mono ?_; rintro e wm4 ⟨rfl, d4⟩; have F4 := Lib.hid d4; have M5 := Lib.hid (sd_may HR.out d4 (sd_ln sw).2.2.2 (sd_lt sw).2.2.2.2 1 [112, 120] sdu2 (sdm5 sw)); clear tm4 _t d4 M4; have tm5 : True := trivial)
  | (have _t := tm5; go_at_call 53; refine M5.out.mono ?_; rintro e wm5 ⟨rfl, d5⟩; have F5 := Lib.hid d5; have M6 := Lib.hid (sd_may HR.out d5 (sd_ln sw).2.2.2 (sd_lt sw).2.2.2.2 1 [] sdu3 (sdm6 sw)); clear tm5 _t d5 M5; have tm6 : True := trivial)
  | (have _t := tm6; go_at_call 53; refine M6.out.mono ?_; rintro e wm6 ⟨rfl, d6⟩; have F6 := Lib.hid d6; clear tm6 _t d6 M6; have tm7 : True := trivial))
 clear E7 F1 F2 F3 F4 F5 ea eb nn ss
 have EX := Lib.hid (Expire_any F6.out.g (by simp) t)
 rw [sd_rem t] at EX
 go_upto_region 20 with (go_at_call 29; refine EX.out.mono ?_; rintro e wz ⟨A8, c8, rfl, _, hg8⟩; obtain ⟨vg8, d8⟩ := F6.out.grant hg8; have E8 := Lib.hid d8; have P1 := Lib.hid (sd_prune HR.out d8 (sd_ln sw).2.2.2 (by decide) (sd_lt sw).2.2.2.2 (sdp1 sw).1 (sdp1 sw).2); clear hg8 d8)
 clear EX F6
 go_upto_region 21 with (go_at_call 54; refine P1.out.mono ?_; rintro e wp ⟨A9, c9, rfl, ho9, u9, d9⟩; have E9 := Lib.hid d9; have HO9 := Lib.hid ho9; have GT := Lib.hid (sd_get d9 (sd_ln sw).2.2.1 3 (sdg3 sw)); clear ho9 d9)
 clear P1 E8
 obtain ⟨g9, cap9, e9, hbs9, hlt9, _, hcl9⟩ := own_form HO9.out (by decide)
 have eA : A9 = some ⟨g9, 0, none⟩ := by injection e9
 subst eA
 have hcc9 : 1 ≤ c9 := own_cap HO9.out
 have y9 : wp.cell? ⟨g9, 0, none⟩ = some (.int .i64 3) := hcl9 0 _ rfl
 clear e9 hcl9 HO9
 go_upto_region 22 with (go_at_call 55; refine GT.out.mono ?_; rintro e wq ⟨rfl, dq, hq⟩; have EQ := Lib.hid dq; have HQ := Lib.hid hq; clear dq hq)
 have HX := heap_alloc_new wq (.cells #[.int .i64 3, .string (bs [117, 98]), .int .u32 4] 106)
 have hbx := rbox wq (.cells #[.int .i64 3, .string (bs [117, 98]), .int .u32 4] 106)
 have ER := Lib.hid (EQ.out.below hbx)
 have z9 := (hbx.cell (p := ⟨g9, 0, none⟩) (Nat.lt_of_lt_of_le hlt9 HQ.out.size)).trans ((HQ.out.cell (p := ⟨g9, 0, none⟩) hlt9).trans y9)
 have x2 := tq2 HX
 clear HX hbx y9 E9 EQ HQ GT
 have P2 := Lib.hid (sd_prune HR.out ER.out (sd_ln sw).2.2.1 (by decide) (sd_lt sw).2.2.2.1 (sdp2 sw).1 (sdp2 sw).2)
 have WK := Lib.hid (fun W => wakes13 W)
 go_wp2_with (first
  | (go_at_call 54; refine P2.out.mono ?_; rintro e wu ⟨A7, c7, rfl, _, u7, d7⟩; have E11 := Lib.hid d7; clear d7)
  | (go_at_call 50; refine (WK.out _).mono ?_; rintro e wv ⟨rfl, hbv⟩; have HBV := Lib.hid (below_then E11.out.be hbv E11.out.size); clear hbv))
 go_ret
 exact ⟨rfl, below_then HB1.out HBV.out HB1.out.size⟩
end Go.Proofs.YtgffbgmieppckaaGreatDoor
