/-
  EnterTells: the walk.
-/
import Derived.Test.YtaolebdcmdmnjaaEl4
import Derived.Test.YtaolebdcmdmnjaaEm6m
import Derived.Deep.RegionHeld3
namespace Go.Proofs.Ytaolebdcmdmnjaa
set_option maxRecDepth 100000
open Go.ChangeShapes Go.WideShapes Go.ChangeAt Go.RowKit

set_option maxHeartbeats 16000000 in
theorem enterTells_walk (w : World) (v : Value) (l : List Int) (h : IntsAt w v l) (u : Value) (l2 : List Int) (hu : IntsAt w u l2) (fr : Int) (hfr : (Lit.int .i64 fr).wf = true) (tz : Int) (htz : (Lit.int .i64 tz).wf = true) (uz : Value) (Z : List (List Int)) (hz : RowsAt2 w uz Z) :
    Calls Try.prog 6 #[v, u, .int .i64 fr, .int .i64 tz, uz] w (TrueOn w) := by
  obtain ⟨A0, c0, rfl⟩ := ints_form h
  obtain ⟨A1, c1, rfl⟩ := ints_form hu
  obtain ⟨AZ, cZ, rfl⟩ : ∃ A c, uz = .slice A Z.length c := by obtain ⟨A, c, e, _⟩ := hz; exact ⟨A, c, e⟩
  have OF := Lib.hid (Of_full _ l w h)
  have HU := Lib.hid hu
  have HZ9 := Lib.hid hz
  clear h hu hz
  go_enter Try.func6, Try.ntmps6
  go_upto_region 2 with (go_at_call 9; refine OF.out.mono ?_; rintro e w2 ⟨A, c, B, d, A', c', B', d', n, ks, ps, rfl, ok, hf, h0, h12, hn, S1, S2, hb2⟩; clear hn)
  have q0 : ((w2.alloc (.cells #[.slice A n c, .slice B n d] 24)).alloc (.cells #[.slice A' n c', .slice B' n d'] 25)).cell? ⟨w2.heap.size, 0, none⟩ = some (.slice A n c) := box_x _ (by simp) (box_0 _ _ _ _)
  have q1 : ((w2.alloc (.cells #[.slice A n c, .slice B n d] 24)).alloc (.cells #[.slice A' n c', .slice B' n d'] 25)).cell? ⟨w2.heap.size, 1, none⟩ = some (.slice B n d) := box_x _ (by simp) (box_1 _ _ _ _)
  have hs1 : (w2.alloc (.cells #[.slice A n c, .slice B n d] 24)).heap.size = w2.heap.size + 1 := by simp
  have r0 := box_0 (w2.alloc (.cells #[.slice A n c, .slice B n d] 24)) 25 (.slice A' n c') (.slice B' n d')
  have r1 := box_1 (w2.alloc (.cells #[.slice A n c, .slice B n d] 24)) 25 (.slice A' n c') (.slice B' n d')
  rw [hs1] at r0 r1
  have b3 : Below w2.heap.size w2 ((w2.alloc (.cells #[.slice A n c, .slice B n d] 24)).alloc (.cells #[.slice A' n c', .slice B' n d'] 25)) := ((Below.refl _ _).alloc (Nat.le_refl _) _).alloc (by simp) _
  have hlt : w2.heap.size + 1 < ((w2.alloc (.cells #[.slice A n c, .slice B n d] 24)).alloc (.cells #[.slice A' n c', .slice B' n d'] 25)).heap.size := by simp
  generalize (w2.alloc (.cells #[.slice A n c, .slice B n d] 24)).alloc (.cells #[.slice A' n c', .slice B' n d'] 25) = w3 at *
  have hlt0 : w2.heap.size < w3.heap.size := by omega
  have S3 := Lib.hid (shp_below S1 b3)
  have T3 := Lib.hid (shp_below S2 b3)
  have HB3 := Lib.hid (below_then hb2 b3 hb2.size)
  have U3 := Lib.hid (HU.out.below HB3.out)
  have Z3 := Lib.hid (RowsAt2.below HZ9.out HB3.out)
  have HOK := Lib.hid ok
  have HF := Lib.hid hf
  have CELLS : Hid (∀ W, Below w3.heap.size w3 W → W.cell? ⟨w2.heap.size, 0, none⟩ = some (.slice A n c) ∧ W.cell? ⟨w2.heap.size, 1, none⟩ = some (.slice B n d) ∧ W.cell? ⟨w2.heap.size + 1, 0, none⟩ = some (.slice A' n c') ∧ W.cell? ⟨w2.heap.size + 1, 1, none⟩ = some (.slice B' n d')) := fun W hW =>
    ⟨(hW.cell (p := ⟨w2.heap.size, 0, none⟩) hlt0).trans q0, (hW.cell (p := ⟨w2.heap.size, 1, none⟩) hlt0).trans q1, (hW.cell (p := ⟨w2.heap.size + 1, 0, none⟩) hlt).trans r0, (hW.cell (p := ⟨w2.heap.size + 1, 1, none⟩) hlt).trans r1⟩
  have CF := Lib.hid (Config_any ks ps A' B' n c' d' _ l2 w3 T3.out ok hf.kl.symm h0 (by omega) U3.out)
  have KC := Lib.hid (fun W (hW : Below w3.heap.size w3 W) k (hk : k < n) => ints_cell (shp_below S3.out hW).1 (k := k) (by rw [HF.out.kl]; exact hk))
  have PC := Lib.hid (fun W (hW : Below w3.heap.size w3 W) k (hk : k < n) => ints_cell (shp_below S3.out hW).2 (k := k) (by rw [HF.out.pl]; exact hk))
  have PS := Lib.hid (fun W (hW : Below w3.heap.size w3 W) => Past_any ks ps A' B' n c' d' _ Z W (shp_below T3.out hW) HOK.out HF.out h0 (by omega) (RowsAt2.below Z3.out hW))
  have LV := Lib.hid (fun W (hW : Below w3.heap.size w3 W) s t hs => Leave_list s t W (shp_below S3.out hW) HF.out h0 (by omega) hs)
  have EN := Lib.hid (fun W (hW : Below w3.heap.size w3 W) v rs t dm hu hp ht htd hne => Enter_list (A := A) (B := B) (c := c) (d := d) t dm v rs W (shp_below S3.out hW) HF.out (by omega) hu hp ht htd hne)
  have UD := Lib.hid (fun W (hW : Below w3.heap.size w3 W) k t hk => Under_any k t W (shp_below S3.out hW) HF.out (by omega) hk)
  clear S1 S2 b3 hb2 ok hs1 OF HU HZ9 hf
  go_upto_region 4 with (go_at_call 16; refine CF.out.mono ?_; rintro e w4 ⟨s, hs, rfl, hps, hb4⟩)
  have HPS := Lib.hid hps
  have HS := Lib.hid hs
  have HB4 := Lib.hid hb4
  have hs32 : s < 4294967296 := Nat.lt_of_lt_of_le hs (Nat.pow_le_pow_right (n := 2) (by omega) (show n ≤ 32 by omega))
  clear CF hs hps hb4 q0 q1 r0 r1
  have hbf := within_bd fr (n : Int) (by omega)
  have hbt := within_bd tz (n : Int) (by omega)
  have WF := Lib.hid (fun W => Within_any fr (n : Int) W hfr (by omega) (by omega))
  have WT := Lib.hid (fun W => Within_any tz (n : Int) W htz (by omega) (by omega))
  generalize within fr (n : Int) = zf at *
  generalize within tz (n : Int) = zt at *
  obtain ⟨f, rfl⟩ : ∃ k : Nat, zf = k := ⟨zf.toNat, by omega⟩
  obtain ⟨t, rfl⟩ : ∃ k : Nat, zt = k := ⟨zt.toNat, by omega⟩
  have hfn : f < n := by omega
  have htn : t < n := by omega
  have hti : (t : Int) < n := by omega
  have hfi : (f : Int) < n := by omega
  obtain ⟨y0, y1, y2, y3⟩ := CELLS.out _ HB4.out
  clear hbf hbt
  have tokF : True := trivial
  go_upto_region 5 with (first
    | (have _t := tokF; go_at_call 17; refine (WF.out _).mono ?_; rintro e w8 ⟨rfl, rfl⟩; clear tokF _t)
    | (go_at_call 17; refine (WT.out _).mono ?_; rintro e w9 ⟨rfl, rfl⟩))
  obtain ⟨bk, offk, eK, hbk, hck, _⟩ := ints_cell (shp_below T3.out HB4.out).1 (k := f) (by rw [HF.out.kl]; exact hfn)
  subst eK
  generalize ks.getD f 0 = z at *
  go_cut [41] (fun x wx => wx = w4 ∧ ∃ b : Bool, x = .bool b)
  case first =>
    by_cases h3 : z < 3
    · go_wp2
      go_meet
      exact ⟨rfl, _, rfl⟩
    · go_wp2
      go_meet
      exact ⟨rfl, _, rfl⟩
  case rest =>
    obtain ⟨hw9, bb, rfl⟩ := hcut
    subst hw9
    obtain ⟨w4, rfl⟩ : ∃ w1 : World, w1 = wc := ⟨_, rfl⟩
    go_upto_if 41 with fail
    go_cut [2] (fun x wx => wx = w4 ∧ ∃ f' : Nat, x = .int .i64 f' ∧ f' < n)
    case first =>
      cases bb
      · go_wp2
        go_meet
        exact ⟨rfl, f, rfl, hfn⟩
      · go_wp2
        go_meet
        exact ⟨rfl, 0, rfl, h0⟩
    case rest =>
    obtain ⟨hw9, f', rfl, hfn'⟩ := hcut
    subst hw9
    obtain ⟨w4, rfl⟩ : ∃ w1 : World, w1 = wc := ⟨_, rfl⟩
    clear hfn hfi hck
    obtain ⟨f, rfl⟩ : ∃ f1 : Nat, f1 = f' := ⟨_, rfl⟩
    have DM := Lib.hid (fun W (hW : Below w3.heap.size w3 W) => RDomain_any f t W (shp_below T3.out hW) HF.out (by omega) hfn' htn)
    have HDS := Lib.hid (domL_spec HF.out hfn' htn)
    generalize domL ks ps n f t = dm at *
    have htd := Lib.hid HDS.out.2.1
    have hne := Lib.hid HDS.out.2.2.1
    have hdb : -1 ≤ dm ∧ dm < n := by
      rcases HDS.out.1 with h | ⟨q, h, hq, _⟩ <;> omega
    have RL := Lib.hid (fun W (hW : Below w3.heap.size w3 W) => RLeave_list s dm W (shp_below T3.out hW) HF.out (by omega) hs32 hdb)
    go_upto_region 11 with (first
      | (go_at_call 25; refine (DM.out _ HB4.out).mono ?_; rintro e w5 ⟨rfl, hb5⟩; have HB5 : Hid (Below w3.heap.size w3 w5) := below_then HB4.out hb5 HB4.out.size; obtain ⟨y50, y51, y52, y53⟩ := CELLS.out _ HB5.out; clear hb5)
      | (go_at_call 21; refine (PS.out _ HB5.out).mono ?_; rintro e w6 ⟨v6, rs, rfl, hu6, hpo, hb6⟩; have HB6 : Hid (Below w3.heap.size w3 w6) := below_then HB5.out hb6 HB5.out.size; have HPO := Lib.hid hpo; have HU6 := Lib.hid hu6; obtain ⟨A6, c6, rfl⟩ := u32s_form hu6; obtain ⟨y60, y61, y62, y63⟩ := CELLS.out _ HB6.out; clear hu6 hpo hb6)
      | (go_at_call 26; refine (RL.out _ HB6.out).mono ?_; rintro e w7 ⟨A7, c7, rfl, hi7, hb7⟩; have HB7 : Hid (Below w3.heap.size w3 w7) := below_then HB6.out hb7 HB6.out.size; have HU7 := Lib.hid (HU6.out.below hb7); have HI7 := Lib.hid hi7; have CPY := Lib.hid (copy_u32 rs _ w7 HU7.out (by have := HPO.out.1; omega)); clear hi7 hb7)
      | (go_at_call 27; refine CPY.out.mono ?_; rintro e w10 ⟨A8, c8, rfl, hu8, hb8⟩; have HB10 : Hid (Below w3.heap.size w3 w10) := below_then HB7.out hb8 HB7.out.size; have HU10 := Lib.hid (HU7.out.below hb8); have HI10 := Lib.hid (HI7.out.below hb8); have HC10 := Lib.hid hu8; clear hu8 hb8))
    clear y0 y1 y2 y3 y50 y51 y52 y53 y60 y61 y62 y63 HU6 HU7 HI7 CPY DM RL PS
    have TW : Hid (∀ W, Below w10.heap.size w10 W → Below w3.heap.size w3 W) := fun W hW => below_then HB10.out hW HB10.out.size
    have SS : Hid (∀ W, Below w10.heap.size w10 W → W.cell? ⟨w2.heap.size, 0, none⟩ = some (.slice A n c) ∧ W.cell? ⟨w2.heap.size, 1, none⟩ = some (.slice B n d) ∧ W.cell? ⟨w2.heap.size + 1, 0, none⟩ = some (.slice (some ⟨bk, offk, none⟩) n c') ∧ W.cell? ⟨w2.heap.size + 1, 1, none⟩ = some (.slice B' n d')) := fun W hW => CELLS.out W (TW.out W hW)
    have HPK := Lib.hid (HPO.out.past HF.out (by omega))
    have HLL := Lib.hid (leave_len HF.out s dm)
    have HLT := Lib.hid (leave_lt (s := s) (d := dm) HF.out)
    have HEL := Lib.hid (enter_len HF.out HPK.out htn htd.out hne.out)
    have hk9 := iniN_kid HF.out.tp
    have HSL := Lib.hid (inS_len HF.out hk9.1 (kid_hl hk9.2))
    have P1 := Lib.hid (fun W (hW : Below w10.heap.size w10 W) => LV.out W (TW.out W hW) s dm hs32)
    have P2 := Lib.hid (fun W (hW : Below w10.heap.size w10 W) => EN.out W (TW.out W hW) _ rs t dm (HC10.out.below hW) HPK.out htn htd.out hne.out)
    have P3 := Lib.hid (fun W (hW : Below w10.heap.size w10 W) => REnter_list t dm _ rs W (shp_below T3.out (TW.out W hW)) HF.out (by omega) (HU10.out.below hW) HPK.out htn htd.out hne.out)
    have P4 := Lib.hid (fun W (hW : Below w10.heap.size w10 W) => Start_list W (shp_below S3.out (TW.out W hW)) HF.out h0 (by omega))
    have P5 := Lib.hid (fun W (hW : Below w10.heap.size w10 W) => RStart_list W (shp_below T3.out (TW.out W hW)) HF.out (by omega))
    have P6 := Lib.hid (fun W (hW : Below w10.heap.size w10 W) => Remember_any s A7 c7 _ _ rs W (shp_below S3.out (TW.out W hW)) HF.out h0 (by omega) hs32 (HI10.out.below hW) HLT.out (by have := HLL.out; omega) (HC10.out.below hW) HPO.out.1 HPO.out.2.1)
    have P7 := Lib.hid (fun W (hW : Below w10.heap.size w10 W) => RRem_any s A7 c7 _ _ rs W (shp_below T3.out (TW.out W hW)) HF.out h0 (by omega) hs32 (HI10.out.below hW) HLT.out (by have := HLL.out; omega) (HU10.out.below hW) HPO.out.1 HPO.out.2.1)
    have HML : Hid ((rememL ks ps n s (padL n rs) (leaveL ps n s dm)).length = n) := by show _ = _; rw [rememL_len]; exact padL_len HPO.out.1
    have hrl := HPO.out.1
    clear LV EN UD KC PC HDS hk9
    generalize leaveL ps n s dm = Ld at *
    generalize rememL ks ps n s (padL n rs) Ld = M at *
    generalize enterL ks ps n (pfun rs) dm t = E at *
    generalize inS ks ps n (iniN ks ps n (-1)) = S at *
    have SMN := Lib.hid (fun (l : List Nat) A B ca cb W (hl : l.length ≤ 1000) h1 h2 => same_nats l A B ca cb W hl h1 h2)
    have P8 := Lib.hid (fun W (hW : Below w10.heap.size w10 W) => same_u32 rs A8 A6 c8 c6 W (by omega) (HC10.out.below hW) (HU10.out.below hW))
    go_region_held3 (fun w' => w'.cell? ⟨w2.heap.size, 0, none⟩ = some (.slice A n c) ∧ w'.cell? ⟨w2.heap.size, 1, none⟩ = some (.slice B n d) ∧ w'.cell? ⟨w2.heap.size + 1, 0, none⟩ = some (.slice (some ⟨bk, offk, none⟩) n c') ∧ w'.cell? ⟨w2.heap.size + 1, 1, none⟩ = some (.slice B' n d'))
      (first | exact SS.out _ (below_drew (Below.refl _ _)) | exact SS.out _ (Below.refl _ _) | exact SS.out _ J1.out | exact SS.out _ J2.out | exact SS.out _ J3.out | exact SS.out _ J4.out | exact SS.out _ J5.out | exact SS.out _ J6.out | exact SS.out _ J7.out | exact SS.out _ J8.out | exact SS.out _ J9.out | exact SS.out _ J10.out | exact SS.out _ J11.out | exact SS.out _ J12.out | exact SS.out _ J13.out | go_keep)
      (first
        | (go_at_call 22; refine (P1.out _ (by first | exact Below.refl _ _ | exact below_drew (Below.refl _ _))).mono ?_; rintro e u1 ⟨B1, e1, rfl, hi1, hb1⟩; have J1 : Hid (Below w10.heap.size w10 u1) := (by first | exact hb1 | exact below_then (below_drew (Below.refl _ _)) hb1 (Nat.le_refl _)); have SM1 := Lib.hid (SMN.out Ld B1 A7 e1 c7 u1 (by have := HLL.out; omega) hi1 (HI10.out.below J1.out)); clear hi1 hb1)
        | (go_at_call_of 19 (Value.slice B1 Ld.length e1); refine SM1.out.mono ?_; rintro e u2 ⟨rfl, hb2⟩; have J2 : Hid (Below w10.heap.size w10 u2) := below_then J1.out hb2 J1.out.size; clear hb2)
        | (go_at_call 20; refine (P2.out _ J2.out).mono ?_; rintro e u3 ⟨B3, e3, rfl, hi3, hb3⟩; have J3 : Hid (Below w10.heap.size w10 u3) := below_then J2.out hb3 J2.out.size; have HI3 := Lib.hid hi3; clear hi3 hb3)
        | (go_at_call 28; refine (P3.out _ J3.out).mono ?_; rintro e u4 ⟨B4, e4, rfl, hi4, hb4⟩; have J4 : Hid (Below w10.heap.size w10 u4) := below_then J3.out hb4 J3.out.size; have SM4 := Lib.hid (SMN.out E B3 B4 e3 e4 u4 (by have := HEL.out; omega) (HI3.out.below hb4) hi4); clear hi4 hb4)
        | (go_at_call_of 19 (Value.slice B3 E.length e3); refine SM4.out.mono ?_; rintro e u5 ⟨rfl, hb5⟩; have J5 : Hid (Below w10.heap.size w10 u5) := below_then J4.out hb5 J4.out.size; clear hb5)
        | (go_at_call 10; refine (P4.out _ J5.out).mono ?_; rintro e u6 ⟨B6, e6, rfl, hi6, hb6⟩; have J6 : Hid (Below w10.heap.size w10 u6) := below_then J5.out hb6 J5.out.size; have HI6 := Lib.hid hi6; clear hi6 hb6)
        | (go_at_call 29; refine (P5.out _ J6.out).mono ?_; rintro e u7 ⟨B7, e7, rfl, hi7, hb7⟩; have J7 : Hid (Below w10.heap.size w10 u7) := below_then J6.out hb7 J6.out.size; have SM7 := Lib.hid (SMN.out S B6 B7 e6 e7 u7 (by have := HSL.out; omega) (HI6.out.below hb7) hi7); clear hi7 hb7)
        | (go_at_call_of 19 (Value.slice B6 S.length e6); refine SM7.out.mono ?_; rintro e u8 ⟨rfl, hb8⟩; have J8 : Hid (Below w10.heap.size w10 u8) := below_then J7.out hb8 J7.out.size; clear hb8)
        | (go_at_call 24; refine (P6.out _ J8.out).mono ?_; rintro e u9 ⟨g9, rfl, hm9, hb9⟩; have J9 : Hid (Below w10.heap.size w10 u9) := below_then J8.out hb9 J8.out.size; have HM9 := Lib.hid hm9; clear hm9 hb9)
        | (go_at_call 31; refine (P7.out _ J9.out).mono ?_; rintro e u10 ⟨g10, rfl, hm10, hb10⟩; have J10 : Hid (Below w10.heap.size w10 u10) := below_then J9.out hb10 J9.out.size; have SM10 := Lib.hid (same_u32 M (some ⟨g9, 0, none⟩) (some ⟨g10, 0, none⟩) n n u10 (by rw [HML.out]; omega) (by rw [HML.out]; exact HM9.out.below hb10) (by rw [HML.out]; exact hm10)); rw [HML.out] at SM10; clear hm10 hb10)
        | (go_at_call_of 30 (Value.slice (some ⟨g9, 0, none⟩) n n); refine SM10.out.mono ?_; rintro e u11 ⟨rfl, hb11⟩; have J11 : Hid (Below w10.heap.size w10 u11) := below_then J10.out hb11 J10.out.size; clear hb11)
        | (go_at_call 30; refine (P8.out _ J11.out).mono ?_; rintro e u12 ⟨rfl, hb12⟩; have J12 : Hid (Below w10.heap.size w10 u12) := below_then J11.out hb12 J11.out.size; clear hb12)
        | (go_at_call 15; refine (wakes07 _).mono ?_; rintro e u13 ⟨rfl, hb13⟩; have J13 : Hid (Below w10.heap.size w10 u13) := below_then J12.out hb13 J12.out.size; clear hb13))
    go_wp2
    go_ret
    exact ⟨rfl, below_then HB3.out (TW.out _ J13.out) HB3.out.size⟩
end Go.Proofs.Ytaolebdcmdmnjaa
