/-
  EnterBack: the walk.
-/
import Derived.Test.YtaolebdcmdmnjaaEl4
import Derived.Test.YtaolebdcmdmnjaaEn9
import Derived.Deep.RegionHeld3
namespace Go.Proofs.Ytaolebdcmdmnjaa
set_option maxRecDepth 100000
open Go.ChangeShapes Go.WideShapes Go.ChangeAt Go.RowKit

set_option maxHeartbeats 16000000 in
theorem enterBack_walk (w : World) (v : Value) (l : List Int) (h : IntsAt w v l) (u : Value) (l2 : List Int) (hu : IntsAt w u l2) (a0 : Int) (ha0 : (Lit.int .i64 a0).wf = true) (uz : Value) (Z : List (List Int)) (hz : RowsAt2 w uz Z) :
    Calls Try.prog 8 #[v, u, .int .i64 a0, uz] w (TrueOn w) := by
  obtain ⟨A0, c0, rfl⟩ := ints_form h
  obtain ⟨A1, c1, rfl⟩ := ints_form hu
  obtain ⟨AZ, cZ, rfl⟩ : ∃ A c, uz = .slice A Z.length c := by obtain ⟨A, c, e, _⟩ := hz; exact ⟨A, c, e⟩
  have OF := Lib.hid (Of_full _ l w h)
  have HU := Lib.hid hu
  have HZ9 := Lib.hid hz
  clear h hu hz
  go_enter Try.func8, Try.ntmps8
  go_upto_region 2 with (go_at_call 9; refine OF.out.mono ?_; rintro e w2 ⟨A, c, B, d, A', c', B', d', n, ks, ps, rfl, ok, hf, h0, h12, hn, S1, S2, hb2⟩; clear hn)
  have q0 : ((w2.alloc (.cells #[.slice A n c, .slice B n d] 24)).alloc (.cells #[.slice A' n c', .slice B' n d'] 25)).cell? ⟨w2.heap.size, 0, none⟩ = some (.slice A n c) := box_x _ (by simp) (box_0 _ _ _ _)
  have q1 : ((w2.alloc (.cells #[.slice A n c, .slice B n d] 24)).alloc (.cells #[.slice A' n c', .slice B' n d'] 25)).cell? ⟨w2.heap.size, 1, none⟩ = some (.slice B n d) := box_x _ (by simp) (box_1 _ _ _ _)
  have hs1 : (w2.alloc (.cells #[.slice A n c, .slice B n d] 24)).heap.size = w2.heap.size + 1 := by simp
  have r0 := box_0 (w2.alloc (.cells #[.slice A n c, .slice B n d] 24)) 25 (.slice A' n c') (.slice B' n d')
  have r1 := box_1 (w2.alloc (.cells #[.slice A n c, .slice B n d] 24)) 25 (.slice A' n c') (.slice B' n d')
  rw [hs1] at r0 r1
  have b3 : Below w2.heap.size w2 ((w2.alloc (.cells #[.slice A n c, .slice B n d] 24)).alloc (.cells #[.slice A' n c', .slice B' n d'] 25)) := ((Below.refl _ _).alloc (Nat.le_refl _) _).alloc (by simp) _
  have hlt : w2.heap.size + 1 < ((w2.alloc (.cells #[.slice A n c, .slice B n d] 24)).alloc (.cells #[.slice A' n c', .slice B' n d'] 25)).heap.size := by simp
  generalize (w2.alloc (.cells #[.slice A n c, .slice B n d] 24)).alloc (.cells #[.slice A' n c', .slice B' n d'] 25) = w3 at *
  have hlt0 : w2.heap.size < w3.heap.size := by omega
  have S3 := Lib.hid (shp_below S1 b3)
  have T3 := Lib.hid (shp_below S2 b3)
  have HB3 := Lib.hid (below_then hb2 b3 hb2.size)
  have U3 := Lib.hid (HU.out.below HB3.out)
  have Z3 := Lib.hid (RowsAt2.below HZ9.out HB3.out)
  have HOK := Lib.hid ok
  have HF := Lib.hid hf
  have CELLS : Hid (∀ W, Below w3.heap.size w3 W → W.cell? ⟨w2.heap.size, 0, none⟩ = some (.slice A n c) ∧ W.cell? ⟨w2.heap.size, 1, none⟩ = some (.slice B n d) ∧ W.cell? ⟨w2.heap.size + 1, 0, none⟩ = some (.slice A' n c') ∧ W.cell? ⟨w2.heap.size + 1, 1, none⟩ = some (.slice B' n d')) := fun W hW =>
    ⟨(hW.cell (p := ⟨w2.heap.size, 0, none⟩) hlt0).trans q0, (hW.cell (p := ⟨w2.heap.size, 1, none⟩) hlt0).trans q1, (hW.cell (p := ⟨w2.heap.size + 1, 0, none⟩) hlt).trans r0, (hW.cell (p := ⟨w2.heap.size + 1, 1, none⟩) hlt).trans r1⟩
  have CF := Lib.hid (Config_any ks ps A' B' n c' d' _ l2 w3 T3.out ok hf.kl.symm h0 (by omega) U3.out)
  have KC := Lib.hid (fun W (hW : Below w3.heap.size w3 W) k (hk : k < n) => ints_cell (shp_below S3.out hW).1 (k := k) (by rw [HF.out.kl]; exact hk))
  have PC := Lib.hid (fun W (hW : Below w3.heap.size w3 W) k (hk : k < n) => ints_cell (shp_below S3.out hW).2 (k := k) (by rw [HF.out.pl]; exact hk))
  have PS := Lib.hid (fun W (hW : Below w3.heap.size w3 W) => Past_any ks ps A' B' n c' d' _ Z W (shp_below T3.out hW) HOK.out HF.out h0 (by omega) (RowsAt2.below Z3.out hW))
  have LV := Lib.hid (fun W (hW : Below w3.heap.size w3 W) s t hs => Leave_list s t W (shp_below S3.out hW) HF.out h0 (by omega) hs)
  have EN := Lib.hid (fun W (hW : Below w3.heap.size w3 W) v rs t dm hu hp ht htd hne => Enter_list (A := A) (B := B) (c := c) (d := d) t dm v rs W (shp_below S3.out hW) HF.out (by omega) hu hp ht htd hne)
  have UD := Lib.hid (fun W (hW : Below w3.heap.size w3 W) k t hk => Under_any k t W (shp_below S3.out hW) HF.out (by omega) hk)
  clear S1 S2 b3 hb2 ok hs1 OF HU HZ9 hf
  go_upto_region 3 with (go_at_call 16; refine CF.out.mono ?_; rintro e w4 ⟨s, hs, rfl, hps, hb4⟩)
  have HPS := Lib.hid hps
  have HS := Lib.hid hs
  have HB4 := Lib.hid hb4
  have hs32 : s < 4294967296 := Nat.lt_of_lt_of_le hs (Nat.pow_le_pow_right (n := 2) (by omega) (show n ≤ 32 by omega))
  clear CF hs hps hb4 q0 q1 r0 r1
  obtain ⟨y0, y1, y2, y3⟩ := CELLS.out _ HB4.out
  have BTs := Lib.hid (fun k (hk : k < 32) => bit01 s k hs32 hk)
  have HCONF := Lib.hid ((prop_conf HF.out (by omega) s).1 HPS.out).2
  go_upto_region 4 with (fail)
  go_wp2
  go_loopw [12, 33] (fun v i wr => ∃ k : Nat, k ≤ n ∧ i = .int .i64 k ∧ Hid (OwnN wr w4.heap.size v (histL ks ps s k)) ∧ Hid (Below w4.heap.size w4 wr)) (fun _ i _ => n - (intOf i).toNat)
  case atStart => exact ⟨0, Nat.zero_le _, rfl, OwnN.nil _ _, Below.refl _ _⟩
  case round =>
    obtain ⟨k, hk, rfl, HO, HB⟩ := hrel
    have HBW := Lib.hid (below_then HB4.out HB.out HB4.out.size)
    obtain ⟨y0, y1, y2, y3⟩ := CELLS.out _ HBW.out
    have hbz := HB.out.size
    obtain ⟨A5, c5, rfl⟩ := own_slice HO.out
    by_cases hlt : k < n
    · have hki : (k : Int) < n := by omega
      obtain ⟨bk, offk, eK, hbk, hck, _⟩ := KC.out _ HBW.out k hlt
      subst eK
      obtain ⟨bp, offp, eP, hbp, hcp, _⟩ := PC.out _ HBW.out k hlt
      subst eP
      have hsn := histL_succ ks ps s k
      have hln := histL_len ks ps s k
      have hkd := HF.out.kd k hlt
      have HHI := Lib.hid (HF.out.hi k hlt)
      have hhl : Hid (3 ≤ ks.getD k 0 → hl ks k = false) := fun h3 => by
        unfold hl
        rw [beq_eq_false_iff_ne.2 (by omega), beq_eq_false_iff_ne.2 (by omega)]; rfl
      by_cases h3 : 3 ≤ ks.getD k 0
      · obtain ⟨q, eq, _⟩ := HHI.out (hhl.out h3)
        have hqk := HF.out.lt hlt eq
        rw [eq] at hcp hsn
        rw [Int.toNat_natCast, decide_eq_true h3, Bool.true_and] at hsn
        have hbt := BTs.out q (by omega)
        have hq32 : (q : Int) < 32 := by omega
        clear HHI hhl eq
        generalize ks.getD k 0 = z at *
        cases hqb : s.testBit q
        · rw [hqb, if_neg (by simp)] at hbt hsn
          have HNw : Hid (OwnN wr w4.heap.size (.slice A5 (histL ks ps s k).length c5) (histL ks ps s (k + 1))) := by show OwnN _ _ _ _; rw [hsn]; exact HO.out
          clear hsn hqb
          go_wp2
          go_roundw
          case rel => exact ⟨k + 1, by omega, by go_num, HNw, HB⟩
          case measure => simp [intOf]; omega
        · rw [hqb, if_pos rfl] at hbt hsn
          have HSN := Lib.hid hsn
          clear hsn hqb
          go_wp2_with (at_builtin; go_must (refine wpList_append_nn rfl (.tmp 54) (.tmp 56) rfl rfl (HO.out.alloc _) rfl (one_own wr w4.heap.size k hbz) (by simp; omega) (by simp; omega) ?_; intro v' w7 hown' hg'))
          have HNw : Hid (OwnN w7 w4.heap.size v' (histL ks ps s (k + 1))) := by show OwnN _ _ _ _; rw [HSN.out]; exact hown'
          have HB7 := Lib.hid ((HB.out.alloc hbz _).grown hg' (by simp; omega) (fun j e => (HO.out.lt j e).1))
          clear hown' hg'
          go_roundw
          case rel => exact ⟨k + 1, by omega, by go_num, HNw, HB7⟩
          case measure => simp [intOf]; omega
      · have hd : decide (3 ≤ ks.getD k 0) = false := decide_eq_false h3
        rw [hd, Bool.false_and, if_neg (by simp)] at hsn
        have HNw : Hid (OwnN wr w4.heap.size (.slice A5 (histL ks ps s k).length c5) (histL ks ps s (k + 1))) := by show OwnN _ _ _ _; rw [hsn]; exact HO.out
        clear hsn hd HHI hhl
        generalize ks.getD k 0 = z at *
        go_wp2
        go_roundw
        case rel => exact ⟨k + 1, by omega, by go_num, HNw, HB⟩
        case measure => simp [intOf]; omega
    · have e : k = n := by omega
      have HKN := Lib.hid e
      clear e
      have hln := histL_len ks ps s k
      have HHM : Hid (∀ j ∈ histL ks ps s k, j < n ∧ 3 ≤ ks.getD j 0 ∧ s.testBit (ps.getD j 0).toNat = true) := fun j hj => by
        obtain ⟨h1, h2, h3⟩ := mem_histL.1 hj
        exact ⟨by omega, h2, h3⟩
      have I12 := Lib.hid (nat_ints HO.out (fun j hj => by have := (HHM.out j hj).1; omega) (by omega))
      generalize histL ks ps s k = hs at *
      by_cases h0s : hs.length = 0
      · have hz0 : ((hs.length : Int) == 0) = true := by simp [h0s]
        clear h0s
        go_wp2_with (go_at_call 15; refine (wakes07 _).mono ?_; rintro e w13 ⟨rfl, hb13⟩)
        go_ret
        exact ⟨rfl, below_then HB3.out (below_then HBW.out hb13 HBW.out.size) HB3.out.size⟩
      · have hz0 : ((hs.length : Int) == 0) = false := beq_eq_false_iff_ne.2 (by omega)
        have hbd := within_bd a0 (hs.length : Int) (by omega)
        have WI := Lib.hid (fun W => Within_any a0 (hs.length : Int) W ha0 (by omega) (by omega))
        generalize within a0 (hs.length : Int) = z0 at *
        obtain ⟨m, rfl⟩ : ∃ m : Nat, z0 = m := ⟨z0.toNat, by omega⟩
        have hm : m < hs.length := by omega
        have hmi : (m : Int) < hs.length := by omega
        obtain ⟨b9, off9, e9, hb9, hx9⟩ := nat_cell I12.out hm
        subst e9
        obtain ⟨htn, ht3, htb⟩ := HHM.out _ (List.getElem_mem hm)
        clear hbd HHM
        generalize hs[m] = t at *
        have hti : (t : Int) < n := by omega
        have hkd := HF.out.kd t htn
        have hhf : hl ks t = false := by
          unfold hl
          rw [beq_eq_false_iff_ne.2 (by omega), beq_eq_false_iff_ne.2 (by omega)]; rfl
        obtain ⟨q, eq, hqk1, _⟩ := HF.out.hi t htn hhf
        have hqt := HF.out.lt htn eq
        have hqn : q < n := by omega
        have hqi : (q : Int) < n := by omega
        have hq32 : (q : Int) < 32 := by omega
        rw [eq, Int.toNat_natCast] at htb
        have hkeep : keepsB ks ps n q = true := by
          unfold keepsB
          rw [List.any_eq_true]
          refine ⟨t, mem_kidsTo.2 ⟨htn, eq⟩, ?_⟩
          rw [Bool.or_eq_true, beq_iff_eq, beq_iff_eq]
          omega
        obtain ⟨bp, offp, eP, hbp, hcp, _⟩ := PC.out _ HBW.out t htn
        subst eP
        rw [eq] at hcp
        have LVt := Lib.hid (fun W hW => LV.out W hW s (-1) hs32)
        have HLT := Lib.hid (leave_lt (s := s) (d := -1) HF.out)
        have HLL := Lib.hid (leave_len HF.out s (-1))
        have HLW := Lib.hid (leave_whole HF.out HS.out)
        have HLA := Lib.hid (fun k (hk : k < n) => leaveL_all (s := s) HF.out hk)
        have RMx := Lib.hid (fun W (hW : Below w3.heap.size w3 W) AL cL (L : List Nat) v rs hL hLn hLl hu h1 h2 => Remember_any (A := A) (B := some ⟨bp, offp, none⟩) (c := c) (d := d) s AL cL L v rs W (shp_below S3.out hW) HF.out h0 (by omega) hs32 hL hLn hLl hu h1 h2)
        have HEQ := Lib.hid eq
        have HKP := Lib.hid hkeep
        have HHF := Lib.hid hhf
        have HTB := Lib.hid htb
        clear eq hkeep hhf htb
        generalize leaveL ps n s (-1) = Lt at *
        go_upto_region 15 with (first
          | (go_at_call 17; refine (WI.out _).mono ?_; rintro e w8 ⟨rfl, rfl⟩)
          | (go_at_call 22; refine (LVt.out _ HBW.out).mono ?_; rintro e w7 ⟨A7, c7, rfl, hi7, hb7⟩; have HB7 : Hid (Below w3.heap.size w3 w7) := below_then HBW.out hb7 HBW.out.size; have HI7 := Lib.hid hi7; clear hi7 hb7))
        obtain ⟨y70, y71, y72, y73⟩ := CELLS.out _ HB7.out
        go_region_held3 (fun w' => w'.cell? ⟨w2.heap.size, 0, none⟩ = some (.slice A n c) ∧ w'.cell? ⟨w2.heap.size, 1, none⟩ = some (.slice (some ⟨bp, offp, none⟩) n d) ∧ w'.cell? ⟨w2.heap.size + 1, 0, none⟩ = some (.slice A' n c') ∧ w'.cell? ⟨w2.heap.size + 1, 1, none⟩ = some (.slice B' n d'))
          (first | exact CELLS.out _ (below_drew HB7.out) | exact CELLS.out _ HB7.out | exact CELLS.out _ HB6.out | exact CELLS.out _ HB9.out | go_keep)
          (first
            | (go_at_call 21; refine (PS.out _ (by first | exact HB7.out | exact below_drew HB7.out)).mono ?_; rintro e w6 ⟨v6, rs, rfl, hu6, hpo, hb6⟩; have HB6 : Hid (Below w3.heap.size w3 w6) := (by first | exact below_then HB7.out hb6 HB7.out.size | exact below_then (below_drew HB7.out) hb6 HB7.out.size); have HPO := Lib.hid hpo; have HU6 := Lib.hid hu6; obtain ⟨A6, c6, rfl⟩ := u32s_form hu6; have HI6 := Lib.hid (show IntsAt w6 _ _ from (by first | exact HI7.out.below hb6 | exact IntsAt.below (HI7.out.below (below_drew (Below.refl _ _))) hb6)); clear hu6 hpo hb6)
            | (go_at_call 24; refine (RMx.out _ HB6.out A7 c7 _ _ rs HI6.out HLT.out (by have := HLL.out; omega) HU6.out HPO.out.1 HPO.out.2.1).mono ?_; rintro e w9 ⟨g, rfl, hm9, hb9⟩; have HB9 : Hid (Below w3.heap.size w3 w9) := below_then HB6.out hb9 HB6.out.size; have HM9 := Lib.hid hm9; have HI9 := Lib.hid (HI6.out.below hb9); clear hm9 hb9))
        have HGD : Hid (∀ i, (rememL ks ps n s (padL n rs) Lt).getD i 0 = if i ∈ Lt ∧ keepsB ks ps n i = true then setN (insL ps s i n) else rs.getD i 0) := fun i => by
          rw [rememL_getD s i _ _ (fun p hp => by rw [padL_len HPO.out.1]; exact HLT.out p hp), padL_getD]
        have HBI : Hid (∀ i k, k < n → (setN (insL ps s i n)).testBit k = (s.testBit k && (decide ((k : Int) ≠ i) && undB ps k i))) := fun i k hk => by
          rw [setN_bit]
          unfold insL
          rw [Bool.eq_iff_iff, decide_eq_true_eq, List.mem_filter, List.mem_range]
          exact ⟨fun h => h.2, fun h => ⟨hk, h⟩⟩
        have hPM : PastOk ks ps n (pfun (rememL ks ps n s (padL n rs) Lt)) := PastOk.of HF.out (by omega) fun j hj => by
          show (∀ k, k < n → ((rememL ks ps n s (padL n rs) Lt).getD j 0).testBit k = false) ∨ ∃ cf, prop ks ps cf = true ∧ ∀ k, k < n → ((rememL ks ps n s (padL n rs) Lt).getD j 0).testBit k = _
          rw [HGD.out j]
          by_cases hc9 : j ∈ Lt ∧ keepsB ks ps n j = true
          · rw [if_pos hc9]
            refine .inr ⟨s, HPS.out, fun k hk => ?_⟩
            rw [HBI.out j k hk, (HLA.out j hj).1 hc9.1, Bool.true_and]
            have e3 : decide ((k : Int) ≠ j) = decide (k ≠ j) := by rw [Bool.eq_iff_iff, decide_eq_true_eq, decide_eq_true_eq]; omega
            rw [e3]
          · rw [if_neg hc9]
            exact HPO.out.2.2 j hj
        have hback := back HF.out HCONF.out htn HHF.out HEQ.out (past := pfun (rememL ks ps n s (padL n rs) Lt)) ⟨hqn, HTB.out⟩ (fun k hk => by
          show ((rememL ks ps n s (padL n rs) Lt).getD q 0).testBit k = true ↔ _
          rw [HGD.out q, if_pos ⟨(HLA.out q hqn).2 HTB.out, HKP.out⟩, HBI.out q k hk, Bool.and_eq_true, Bool.and_eq_true, decide_eq_true_eq, undB_iff HF.out hk]
          constructor
          · rintro ⟨h1, h2, h3⟩; exact ⟨⟨hk, h1⟩, by omega, h3⟩
          · rintro ⟨⟨_, h1⟩, h2, h3⟩; exact ⟨h1, by omega, h3⟩)
        have HBK := Lib.hid hback
        have ENt := Lib.hid (EN.out _ HB9.out _ _ t (-1) HM9.out hPM htn (.top t) (by omega))
        have INT : Hid (∀ k, k ∈ enterL ks ps n (pfun (rememL ks ps n s (padL n rs) Lt)) (-1) t → k < n) := fun k hk => (enter_in HF.out hPM htn (.top t) (by omega) hk).1
        have BI9 := Lib.hid (bits_any Lt A7 c7 w9 HI9.out (fun k hk => by have := HLT.out k hk; omega))
        rw [HLW.out] at BI9
        clear hPM hback HGD HBI RMx PS LVt EN
        generalize enterL ks ps n (pfun (rememL ks ps n s (padL n rs) Lt)) (-1) t = E at *
        obtain ⟨y90, y91, y92, y93⟩ := CELLS.out _ HB9.out
        have hnn : ((n : Int) != n) = false := by simp
        have hss : ((s : Int) != s) = false := by simp
        have hE32 : setN E < 4294967296 := setN_lt32 (n := n) INT.out (by omega)
        have BTE := Lib.hid (fun k (hk : k < 32) => bit01 (setN E) k hE32 hk)
        go_upto_region 19 with (first
          | (go_at_call_of 11 (Value.slice A7 Lt.length c7); refine BI9.out.mono ?_; rintro e w10 ⟨rfl, rfl⟩)
          | (go_at_call 20; refine ENt.out.mono ?_; rintro e w11 ⟨A11, c11, rfl, hi11, hb11⟩; have HB11 : Hid (Below w3.heap.size w3 w11) := below_then HB9.out hb11 HB9.out.size; have BI11 := Lib.hid (bits_any E A11 c11 w11 hi11 (fun k hk => by have := INT.out k hk; omega)); clear hi11 hb11)
          | (go_at_call 11; refine BI11.out.mono ?_; rintro e w12 ⟨rfl, rfl⟩))
        obtain ⟨y110, y111, y112, y113⟩ := CELLS.out _ HB11.out
        have HEB : Hid (∀ k, (setN E).testBit k = decide (k ∈ E)) := fun k => setN_bit k E
        generalize setN E = xE at *
        go_wp2
        go_loopw [105] (fun i wr => ∃ k : Nat, k ≤ n ∧ i = .int .i64 k ∧ Hid (Below w3.heap.size w3 wr)) (fun i _ => n - (intOf i).toNat)
        case atStart => exact ⟨0, Nat.zero_le _, rfl, HB11.out⟩
        case round =>
          obtain ⟨k, hk, rfl, HB2⟩ := hrel
          obtain ⟨x0, x1, x2, x3⟩ := CELLS.out _ HB2.out
          have hb2z := HB2.out.size
          by_cases hlk : k < n
          · have hkin : (k : Int) < n := by omega
            have hk32 : (k : Int) < 32 := by omega
            have UK := Lib.hid (UD.out _ HB2.out k q hlk)
            by_cases hkq : (k : Int) = q
            · have g1 : ((k : Int) == q) = true := by simp [hkq]
              clear hkq
              go_wp2
              go_roundw
              case rel => exact ⟨k + 1, by omega, by go_num, HB2⟩
              case measure => simp [intOf]; omega
            · have g1 : ((k : Int) == q) = false := by simpa using hkq
              cases hun : undB ps k q
              · rw [hun] at UK
                clear hun hkq
                go_wp2_with (go_at_call 23; refine UK.out.mono ?_; rintro e w14 ⟨rfl, hb14⟩)
                go_roundw
                case rel => exact ⟨k + 1, by omega, by go_num, below_then HB2.out hb14 hb2z⟩
                case measure => simp [intOf]; omega
              · rw [hun] at UK
                have huk := (undB_iff HF.out hlk).1 hun
                have HBKk : Hid (ks.getD t 0 ≠ 3 ∨ ps.getD k 0 = q → xE.testBit k = s.testBit k) := fun h9 => by
                  have h8 := HBK.out.2 k hlk (by omega) huk h9
                  rw [HEB.out, Bool.eq_iff_iff, decide_eq_true_eq, h8]
                  exact ⟨fun h => h.2, fun h => ⟨hlk, h⟩⟩
                have hbs := BTs.out k (by omega)
                have hbe := BTE.out k (by omega)
                clear hun hkq huk
                go_upto_region 23 with (go_at_call 23; refine UK.out.mono ?_; rintro e w14 ⟨rfl, hb14⟩)
                have HB14 := Lib.hid (below_then HB2.out hb14 hb2z)
                obtain ⟨z0', z1', z2', z3'⟩ := CELLS.out _ HB14.out
                obtain ⟨bk, offk, eK, hbk, hck, _⟩ := KC.out _ HB14.out t htn
                subst eK
                obtain ⟨bp2, offp2, eP, hbp2, hcp2, _⟩ := PC.out _ HB14.out k hlk
                injection eP with eP
                injection eP with eP1 eP2
                subst eP1; subst eP2
                generalize xE.testBit k = be at *
                generalize s.testBit k = bs9 at *
                generalize ks.getD t 0 = z at *
                generalize ps.getD k 0 = p9 at *
                have hzz : z = 3 ∨ z = 4 := by omega
                rcases hzz with rfl | rfl
                · by_cases hp9 : p9 = q
                  · have hbb := HBKk.out (.inr hp9)
                    have g2 : (p9 == (q : Int)) = true := by simp [hp9]
                    subst hbb
                    clear hp9 HBKk
                    cases be
                    · rw [if_neg (by simp)] at hbs hbe
                      go_wp2
                      go_roundw
                      case rel => exact ⟨k + 1, by omega, by go_num, HB14⟩
                      case measure => simp [intOf]; omega
                    · rw [if_pos rfl] at hbs hbe
                      go_wp2
                      go_roundw
                      case rel => exact ⟨k + 1, by omega, by go_num, HB14⟩
                      case measure => simp [intOf]; omega
                  · have g2 : (p9 == (q : Int)) = false := by simpa using hp9
                    clear hp9 HBKk
                    cases be <;> cases bs9 <;> simp only [if_true, if_false, Bool.false_eq_true] at hbs hbe
                    all_goals
                      go_wp2
                      go_roundw
                      case rel => exact ⟨k + 1, by omega, by go_num, HB14⟩
                      case measure => simp [intOf]; omega
                · have hbb := HBKk.out (.inl (by omega))
                  subst hbb
                  clear HBKk
                  by_cases hp9 : p9 = q
                  case' pos => have g2 : (p9 == (q : Int)) = true := by simp [hp9]
                  case' neg => have g2 : (p9 == (q : Int)) = false := by simpa using hp9
                  all_goals
                    clear hp9
                    cases be <;> simp only [if_true, if_false, Bool.false_eq_true] at hbs hbe
                    all_goals
                      go_wp2
                      go_roundw
                      case rel => exact ⟨k + 1, by omega, by go_num, HB14⟩
                      case measure => simp [intOf]; omega
          · have hbe := BTE.out q (by omega)
            rw [HEB.out, decide_eq_true HBK.out.1, if_pos rfl] at hbe
            go_wp2_with (go_at_call 15; refine (wakes07 _).mono ?_; rintro e w15 ⟨rfl, hb15⟩)
            go_ret
            exact ⟨rfl, below_then HB3.out (below_then HB2.out hb15 hb2z) HB3.out.size⟩
end Go.Proofs.Ytaolebdcmdmnjaa
