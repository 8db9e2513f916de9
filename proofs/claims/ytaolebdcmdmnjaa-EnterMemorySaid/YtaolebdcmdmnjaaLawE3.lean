/-
  EnterMemory: the walk.
-/
import Derived.Test.YtaolebdcmdmnjaaEl4
import Derived.Test.YtaolebdcmdmnjaaEn9
import Derived.Deep.RegionHeld3
namespace Go.Proofs.Ytaolebdcmdmnjaa
set_option maxRecDepth 100000
open Go.ChangeShapes Go.WideShapes Go.ChangeAt Go.RowKit

set_option maxHeartbeats 16000000 in
theorem enterMemory_walk (w : World) (v : Value) (l : List Int) (h : IntsAt w v l) (u : Value) (l2 : List Int) (hu : IntsAt w u l2) (a0 : Int) (ha0 : (Lit.int .i64 a0).wf = true) (uz : Value) (Z : List (List Int)) (hz : RowsAt2 w uz Z) :
    Calls Try.prog 5 #[v, u, .int .i64 a0, uz] w (TrueOn w) := by
  obtain ⟨A0, c0, rfl⟩ := ints_form h
  obtain ⟨A1, c1, rfl⟩ := ints_form hu
  obtain ⟨AZ, cZ, rfl⟩ : ∃ A c, uz = .slice A Z.length c := by obtain ⟨A, c, e, _⟩ := hz; exact ⟨A, c, e⟩
  have OF := Lib.hid (Of_full _ l w h)
  have HU := Lib.hid hu
  have HZ9 := Lib.hid hz
  clear h hu hz
  go_enter Try.func5, Try.ntmps5
  go_upto_region 2 with (go_at_call 9; refine OF.out.mono ?_; rintro e w2 ⟨A, c, B, d, A', c', B', d', n, ks, ps, rfl, ok, hf, h0, h12, hn, S1, S2, hb2⟩; clear hn)
  have q0 : ((w2.alloc (.cells #[.slice A n c, .slice B n d] 24)).alloc (.cells #[.slice A' n c', .slice B' n d'] 25)).cell? ⟨w2.heap.size, 0, none⟩ = some (.slice A n c) := box_x _ (by simp) (box_0 _ _ _ _)
  have q1 : ((w2.alloc (.cells #[.slice A n c, .slice B n d] 24)).alloc (.cells #[.slice A' n c', .slice B' n d'] 25)).cell? ⟨w2.heap.size, 1, none⟩ = some (.slice B n d) := box_x _ (by simp) (box_1 _ _ _ _)
  have hs1 : (w2.alloc (.cells #[.slice A n c, .slice B n d] 24)).heap.size = w2.heap.size + 1 := by simp
  have r0 := box_0 (w2.alloc (.cells #[.slice A n c, .slice B n d] 24)) 25 (.slice A' n c') (.slice B' n d')
  have r1 := box_1 (w2.alloc (.cells #[.slice A n c, .slice B n d] 24)) 25 (.slice A' n c') (.slice B' n d')
  rw [hs1] at r0 r1
  have b3 : Below w2.heap.size w2 ((w2.alloc (.cells #[.slice A n c, .slice B n d] 24)).alloc (.cells #[.slice A' n c', .slice B' n d'] 25)) := ((Below.refl _ _).alloc (Nat.le_refl _) _).alloc (by simp) _
  have hlt : w2.heap.size + 1 < ((w2.alloc (.cells #[.slice A n c, .slice B n d] 24)).alloc (.cells #[.slice A' n c', .slice B' n d'] 25)).heap.size := by simp
  generalize (w2.alloc (.cells #[.slice A n c, .slice B n d] 24)).alloc (.cells #[.slice A' n c', .slice B' n d'] 25) = w3 at *
  have hlt0 : w2.heap.size < w3.heap.size := by omega
  have S3 := Lib.hid (shp_below S1 b3)
  have T3 := Lib.hid (shp_below S2 b3)
  have HB3 := Lib.hid (below_then hb2 b3 hb2.size)
  have U3 := Lib.hid (HU.out.below HB3.out)
  have Z3 := Lib.hid (RowsAt2.below HZ9.out HB3.out)
  have HOK := Lib.hid ok
  have HF := Lib.hid hf
  have CELLS : Hid (∀ W, Below w3.heap.size w3 W → W.cell? ⟨w2.heap.size, 0, none⟩ = some (.slice A n c) ∧ W.cell? ⟨w2.heap.size, 1, none⟩ = some (.slice B n d) ∧ W.cell? ⟨w2.heap.size + 1, 0, none⟩ = some (.slice A' n c') ∧ W.cell? ⟨w2.heap.size + 1, 1, none⟩ = some (.slice B' n d')) := fun W hW =>
    ⟨(hW.cell (p := ⟨w2.heap.size, 0, none⟩) hlt0).trans q0, (hW.cell (p := ⟨w2.heap.size, 1, none⟩) hlt0).trans q1, (hW.cell (p := ⟨w2.heap.size + 1, 0, none⟩) hlt).trans r0, (hW.cell (p := ⟨w2.heap.size + 1, 1, none⟩) hlt).trans r1⟩
  have CF := Lib.hid (Config_any ks ps A' B' n c' d' _ l2 w3 T3.out ok hf.kl.symm h0 (by omega) U3.out)
  have KC := Lib.hid (fun W (hW : Below w3.heap.size w3 W) k (hk : k < n) => ints_cell (shp_below S3.out hW).1 (k := k) (by rw [HF.out.kl]; exact hk))
  have PC := Lib.hid (fun W (hW : Below w3.heap.size w3 W) k (hk : k < n) => ints_cell (shp_below S3.out hW).2 (k := k) (by rw [HF.out.pl]; exact hk))
  have PS := Lib.hid (fun W (hW : Below w3.heap.size w3 W) => Past_any ks ps A' B' n c' d' _ Z W (shp_below T3.out hW) HOK.out HF.out h0 (by omega) (RowsAt2.below Z3.out hW))
  have LV := Lib.hid (fun W (hW : Below w3.heap.size w3 W) s t hs => Leave_list s t W (shp_below S3.out hW) HF.out h0 (by omega) hs)
  have EN := Lib.hid (fun W (hW : Below w3.heap.size w3 W) v rs t dm hu hp ht htd hne => Enter_list (A := A) (B := B) (c := c) (d := d) t dm v rs W (shp_below S3.out hW) HF.out (by omega) hu hp ht htd hne)
  have UD := Lib.hid (fun W (hW : Below w3.heap.size w3 W) k t hk => Under_any k t W (shp_below S3.out hW) HF.out (by omega) hk)
  clear S1 S2 b3 hb2 ok hs1 OF HU HZ9 hf
  go_upto_region 3 with (go_at_call 16; refine CF.out.mono ?_; rintro e w4 ⟨s, hs, rfl, hps, hb4⟩)
  have HPS := Lib.hid hps
  have HS := Lib.hid hs
  have HB4 := Lib.hid hb4
  have hs32 : s < 4294967296 := Nat.lt_of_lt_of_le hs (Nat.pow_le_pow_right (n := 2) (by omega) (show n ≤ 32 by omega))
  clear CF hs hps hb4 q0 q1 r0 r1
  have hbd := within_bd a0 ((n : Int) + 1) (by omega)
  have WI := Lib.hid (fun W => Within_any a0 ((n : Int) + 1) W ha0 (by omega) (by omega))
  generalize within a0 ((n : Int) + 1) = z0 at *
  have hwp : IntKind.i64.wrap (z0 - 1) = z0 - 1 := by rw [IntKind.wrap_i64]; omega
  have hwn : IntKind.i64.wrap ((n : Int) + 1) = (n : Int) + 1 := by rw [IntKind.wrap_i64]; omega
  obtain ⟨y0, y1, y2, y3⟩ := CELLS.out _ HB4.out
  have LVd := Lib.hid (fun W hW dm => LV.out W hW s dm hs32)
  have RMx := Lib.hid (fun W (hW : Below w3.heap.size w3 W) AL cL (L : List Nat) v rs hL hLn hLl hu h1 h2 => Remember_any (A := A) (B := B) (c := c) (d := d) s AL cL L v rs W (shp_below S3.out hW) HF.out h0 (by omega) hs32 hL hLn hLl hu h1 h2)
  go_upto_region 7 with (first
    | (go_at_call 17; refine (WI.out _).mono ?_; rintro e w8 ⟨rfl, rfl⟩)
    | (go_at_call 21; refine (PS.out _ HB4.out).mono ?_; rintro e w6 ⟨v6, rs, rfl, hu6, hpo, hb6⟩; have HB6 : Hid (Below w3.heap.size w3 w6) := below_then HB4.out hb6 HB4.out.size; have HPO := Lib.hid hpo; have HU6 := Lib.hid hu6; obtain ⟨A6, c6, rfl⟩ := u32s_form hu6; obtain ⟨y60, y61, y62, y63⟩ := CELLS.out _ HB6.out; clear hu6 hpo hb6)
    | (go_at_call 22; refine (LVd.out _ HB6.out (z0 - 1)).mono ?_; rintro e w7 ⟨A7, c7, rfl, hi7, hb7⟩; have HB7 : Hid (Below w3.heap.size w3 w7) := below_then HB6.out hb7 HB6.out.size; have HU7 := Lib.hid (HU6.out.below hb7); have HI7 := Lib.hid hi7; obtain ⟨y70, y71, y72, y73⟩ := CELLS.out _ HB7.out; clear hi7 hb7)
    | (go_at_call 24; refine (RMx.out _ HB7.out A7 c7 _ _ rs HI7.out (leave_lt HF.out) (by have := leave_len HF.out s (z0 - 1); omega) HU7.out HPO.out.1 HPO.out.2.1).mono ?_; rintro e w9 ⟨g, rfl, hm9, hb9⟩; have HB9 : Hid (Below w3.heap.size w3 w9) := below_then HB7.out hb9 HB7.out.size; have HM9 := Lib.hid hm9; have HU9 := Lib.hid (HU7.out.below hb9); have HI9 := Lib.hid (HI7.out.below hb9); clear hm9 hb9))
  have HLEN : Hid ((rememL ks ps n s (padL n rs) (leaveL ps n s (z0 - 1))).length = n) := by show _ = _; rw [rememL_len]; exact padL_len HPO.out.1
  have HGD : Hid (∀ i, (rememL ks ps n s (padL n rs) (leaveL ps n s (z0 - 1))).getD i 0 = if i ∈ leaveL ps n s (z0 - 1) ∧ keepsB ks ps n i = true then setN (insL ps s i n) else rs.getD i 0) := fun i => by
    rw [rememL_getD s i _ _ (fun p hp => by rw [padL_len HPO.out.1]; exact leave_lt HF.out p hp), padL_getD]
  have HLT := Lib.hid (leave_lt (s := s) (d := z0 - 1) HF.out)
  have HLL := Lib.hid (leave_len HF.out s (z0 - 1))
  generalize leaveL ps n s (z0 - 1) = Ld at *
  generalize rememL ks ps n s (padL n rs) Ld = M at *
  have KD := fun W (hW : Below w3.heap.size w3 W) (a : Int) => Kids_any ks ps A B n c n d W a (shp_below S3.out hW) HF.out.kl.symm HF.out.pl.symm (by omega) (by omega)
  have hsz : szN ks ps = n := by unfold szN; rw [HF.out.kl, HF.out.pl]; omega
  rw [hsz] at KD
  have KD := Lib.hid KD
  have hnn : ((n : Int) != n) = false := by simp
  have hLd32 : setN Ld < 4294967296 := setN_lt32 (n := n) HLT.out (by omega)
  have BT := Lib.hid (fun k (hk : k < 32) => bit01 (setN Ld) k hLd32 hk)
  have BI := Lib.hid (fun W (hW : Below w9.heap.size w9 W) => bits_any Ld A7 c7 W (HI9.out.below hW) (fun k hk => by have := HLT.out k hk; omega))
  obtain ⟨y90, y91, y92, y93⟩ := CELLS.out _ HB9.out
  clear hsz LVd RMx PS hbd y0 y1 y2 y3 y60 y61 y62 y63 y70 y71 y72 y73
  go_wp2
  go_loopw [58] (fun i wr => ∃ k : Nat, k ≤ n ∧ i = .int .i64 k ∧ Hid (Below w9.heap.size w9 wr)) (fun i _ => n - (intOf i).toNat)
  case atStart => exact ⟨0, Nat.zero_le _, rfl, Below.refl _ _⟩
  case round =>
    obtain ⟨i, hi, rfl, HB⟩ := hrel
    have HBW := Lib.hid (below_then HB9.out HB.out HB9.out.size)
    obtain ⟨y0, y1, y2, y3⟩ := CELLS.out _ HBW.out
    have hbz := HB.out.size
    by_cases hin : i < n
    · have hini : (i : Int) < n := by omega
      have hi32 : (i : Int) < 32 := by omega
      have KDi := Lib.hid (KD.out wr HBW.out i)
      have HKB : Hid (keepsB ks ps n i = (kidsTo ps i n).any fun k => ks.getD k 0 == 3 || ks.getD k 0 == 4) := rfl
      have HMX : Hid (∀ k ∈ kidsTo ps i n, k < n) := fun k hk => (mem_kidsTo.1 hk).1
      have hkl := kidsTo_len ps i n
      have hgd := HGD.out i
      generalize kidsTo ps i n = kl at *
      go_upto_region 13 with (fail)
      go_wp2_with (go_at_call 14; refine KDi.out.mono ?_; rintro e w10 ⟨v10, rfl, hO10, hb10⟩; obtain ⟨A10, c10, rfl, hi10⟩ := kids_ints hO10 (fun k hk => by have := HMX.out k hk; omega) (by omega); have HB10 := Lib.hid (below_then HB.out hb10 hbz); have HI10 := Lib.hid hi10; clear hO10 hb10 hi10)
      have HBW10 := Lib.hid (below_then HB9.out HB10.out HB9.out.size)
      obtain ⟨y00, y01, y02, y03⟩ := CELLS.out _ HBW10.out
      go_loopw [16, 65] (fun b j wx => ∃ k : Nat, k ≤ kl.length ∧ j = .int .i64 k ∧ b = .bool ((kl.take k).any fun k => ks.getD k 0 == 3 || ks.getD k 0 == 4) ∧ wx = w10) (fun _ j _ => kl.length - (intOf j).toNat)
      case atStart => exact ⟨0, Nat.zero_le _, rfl, rfl, rfl⟩
      case round =>
        obtain ⟨k, hk, rfl, rfl, rfl⟩ := hrel
        by_cases hlk : k < kl.length
        · have hki : (k : Int) < kl.length := by omega
          obtain ⟨b9, off9, rfl, hb9, hx9⟩ := nat_cell HI10.out hlk
          have hkn := HMX.out _ (List.getElem_mem hlk)
          have hkni : (kl[k] : Int) < n := by omega
          obtain ⟨b8, off8, e8, hb8, hx8, _⟩ := KC.out _ HBW10.out kl[k] hkn
          subst e8
          have hkd := HF.out.kd kl[k] hkn
          have hsn : (kl.take (k + 1)).any (fun k => ks.getD k 0 == 3 || ks.getD k 0 == 4) = ((kl.take k).any (fun k => ks.getD k 0 == 3 || ks.getD k 0 == 4) || decide (3 ≤ ks.getD kl[k] 0)) := by
            rw [List.take_succ_eq_append_getElem hlk, List.any_append]
            congr 1
            rw [List.any_cons, List.any_nil, Bool.or_false, Bool.eq_iff_iff, decide_eq_true_eq, Bool.or_eq_true, beq_iff_eq, beq_iff_eq]
            omega
          have HSN := Lib.hid hsn
          clear hsn
          generalize (kl.take k).any (fun k => ks.getD k 0 == 3 || ks.getD k 0 == 4) = bb at *
          generalize ks.getD kl[k] 0 = z at *
          generalize kl[k] = kk at *
          cases bb
          · go_wp2
            go_roundw
            case rel => exact ⟨k + 1, by omega, by go_num, by rw [HSN.out, Bool.false_or], trivial⟩
            case measure => simp [intOf]; omega
          · go_wp2
            go_roundw
            case rel => exact ⟨k + 1, by omega, by go_num, by rw [HSN.out, Bool.true_or], trivial⟩
            case measure => simp [intOf]; omega
        · have e : k = kl.length := by omega
          subst e
          rw [List.take_length, ← HKB.out]
          clear HKB HMX
          generalize keepsB ks ps n i = kb at *
          go_upto_if 82 with fail
          go_cut [19] (fun x wx => wx = wr ∧ x = .int .u32 (rs.getD i 0 : Nat))
          case first =>
            by_cases hir : i < rs.length
            · obtain ⟨bp, offp, rfl, hbp, hcp, _⟩ := u32s_cell (HU9.out.below HB10.out) hir
              have hiri : (i : Int) < rs.length := by omega
              generalize rs.getD i 0 = x at *
              go_wp2
              go_meet
              exact ⟨rfl, rfl⟩
            · have hiri : ¬ (i : Int) < rs.length := by omega
              have HE : Hid (rs.getD i 0 = 0) := by show _ = _; rw [List.getD_eq_getElem?_getD, List.getElem?_eq_none (by omega)]; rfl
              go_wp2
              go_meet
              exact ⟨rfl, by rw [HE.out]; rfl⟩
          case rest =>
            obtain ⟨hw9, rfl⟩ := hcut
            subst hw9
            obtain ⟨wr, rfl⟩ : ∃ w1 : World, w1 = wc := ⟨_, rfl⟩
            generalize rs.getD i 0 = xr at *
            generalize hxm : M.getD i 0 = xm at *
            have HXM := Lib.hid hxm
            clear hxm
            have hbt := BT.out i (by omega)
            rw [setN_bit] at hbt
            go_upto_region 22 with (fail)
            go_cut [97] (fun x wx => wx = wr ∧ x = .bool (kb && decide (i ∈ Ld)))
            case first =>
              cases kb
              · go_wp2
                go_meet
                exact ⟨rfl, by rw [Bool.false_and]⟩
              · by_cases hm : i ∈ Ld
                · rw [decide_eq_true hm, if_pos rfl] at hbt
                  have HM := Lib.hid hm
                  clear hm
                  go_wp2_with (go_at_call 11; refine (BI.out _ HB10.out).mono ?_; rintro e w11 ⟨rfl, rfl⟩)
                  go_meet
                  exact ⟨rfl, by rw [decide_eq_true HM.out]; rfl⟩
                · rw [decide_eq_false hm, if_neg (by simp)] at hbt
                  have HM := Lib.hid hm
                  clear hm
                  go_wp2_with (go_at_call 11; refine (BI.out _ HB10.out).mono ?_; rintro e w11 ⟨rfl, rfl⟩)
                  go_meet
                  exact ⟨rfl, by rw [decide_eq_false HM.out]; rfl⟩
            case rest =>
              obtain ⟨hw9, rfl⟩ := hcut
              subst hw9
              obtain ⟨wr, rfl⟩ : ∃ w1 : World, w1 = wc := ⟨_, rfl⟩
              clear hbt
              go_upto_if 97 with fail
              go_cut [20] (fun x wx => x = .int .u32 (xm : Nat) ∧ Hid (Below wr.heap.size wr wx))
              case first =>
                by_cases hm : i ∈ Ld ∧ kb = true
                · rw [if_pos hm] at hgd
                  obtain ⟨hm1, rfl⟩ := hm
                  rw [decide_eq_true hm1, Bool.true_and]
                  have HGD1 := Lib.hid hgd
                  clear hgd hm1
                  go_upto_region 24 with (fail)
                  go_wp2
                  go_loopw [20, 101] (fun x j wx => ∃ k : Nat, k ≤ n ∧ j = .int .i64 k ∧ x = .int .u32 (setN (insL ps s i k) : Nat) ∧ Hid (Below wr.heap.size wr wx)) (fun _ j _ => n - (intOf j).toNat)
                  case atStart => exact ⟨0, Nat.zero_le _, rfl, rfl, Below.refl _ _⟩
                  case round =>
                    obtain ⟨k, hk, rfl, rfl, HB11⟩ := hrel
                    have HBW11 := Lib.hid (below_then HBW10.out HB11.out HBW10.out.size)
                    obtain ⟨x0, x1, x2, x3⟩ := CELLS.out _ HBW11.out
                    by_cases hlk : k < n
                    · have hki : (k : Int) < n := by omega
                      have hk32 : (k : Int) < 32 := by omega
                      have hsp := ins_set ps s i k
                      have hS0 : setN (insL ps s i k) < 4294967296 := setN_lt (n := 32) fun j hj => by have := ins_lt ps s i k j hj; omega
                      have h2 := two_lt (k := k) (by omega)
                      have hand := u32_and_nat s (2 ^ k) hs32 h2
                      have hor := u32_or_nat (setN (insL ps s i k)) (s &&& 2 ^ k) hS0 (Nat.lt_of_le_of_lt Nat.and_le_left hs32)
                      have hsh := two_val (i := k) (by omega)
                      have UK := Lib.hid (UD.out _ HBW11.out k i hlk)
                      by_cases hki2 : (k : Int) = i
                      · have g1 : ((k : Int) != i) = false := by simp [hki2]
                        rw [if_neg (by rw [decide_eq_false (fun h => h hki2)]; simp)] at hsp
                        have HSP := Lib.hid hsp
                        clear hsp hand hor hsh hki2
                        go_wp2
                        go_roundw
                        case rel => exact ⟨k + 1, by omega, by go_num, by rw [HSP.out], HB11⟩
                        case measure => simp [intOf]; omega
                      · have g1 : ((k : Int) != i) = true := by simpa using hki2
                        rw [decide_eq_true hki2, Bool.true_and] at hsp
                        cases hun : undB ps k i
                        · rw [hun] at UK
                          rw [hun, if_neg (by simp)] at hsp
                          have HSP := Lib.hid hsp
                          clear hsp hand hor hsh hun
                          go_wp2_with (go_at_call 23; refine UK.out.mono ?_; rintro e w12 ⟨rfl, hb12⟩)
                          go_roundw
                          case rel => exact ⟨k + 1, by omega, by go_num, by rw [HSP.out], below_then HB11.out hb12 HB11.out.size⟩
                          case measure => simp [intOf]; omega
                        · rw [hun] at UK
                          rw [hun, if_pos rfl] at hsp
                          have HSP := Lib.hid hsp
                          clear hsp hun
                          generalize 2 ^ k = p at *
                          generalize setN (insL ps s i k) = s9 at *
                          go_wp2_with (go_at_call 23; refine UK.out.mono ?_; rintro e w12 ⟨rfl, hb12⟩)
                          go_roundw
                          case rel => exact ⟨k + 1, by omega, by go_num, by rw [HSP.out], below_then HB11.out hb12 HB11.out.size⟩
                          case measure => simp [intOf]; omega
                    · have e : k = n := by omega
                      subst e
                      go_wp2
                      go_meet
                      exact ⟨by rw [HGD1.out], HB11⟩
                · rw [if_neg hm] at hgd
                  have hbb : (kb && decide (i ∈ Ld)) = false := by
                    cases hkb : kb
                    · rfl
                    · rw [Bool.true_and]; exact decide_eq_false fun h => hm ⟨h, hkb⟩
                  rw [hbb]
                  have HGD1 := Lib.hid hgd
                  clear hgd hm hbb
                  go_wp2
                  go_meet
                  exact ⟨by rw [HGD1.out], Below.refl _ _⟩
              case rest =>
                obtain ⟨rfl, HBc⟩ := hcut
                have HBc9 := Lib.hid (below_then HB10.out HBc.out HB10.out.size)
                obtain ⟨bm, offm, eM, hbm, hcm, _⟩ := u32s_cell (HM9.out.below HBc9.out) (k := i) (by rw [HLEN.out]; exact hin)
                injection eM with eM
                injection eM with eM1 eM2
                subst eM1; subst eM2
                rw [Nat.zero_add, HXM.out] at hcm
                clear hgd
                have g9 : ((xm : Int) != xm) = false := by simp
                go_wp2
                go_roundw
                case rel => exact ⟨i + 1, by omega, by go_num, HBc9⟩
                case measure => simp [intOf]; omega
    · go_wp2_with (go_at_call 15; refine (wakes07 _).mono ?_; rintro e w13 ⟨rfl, hb13⟩)
      go_ret
      exact ⟨rfl, below_then HB3.out (below_then HBW.out hb13 HBW.out.size) HB3.out.size⟩
end Go.Proofs.Ytaolebdcmdmnjaa
