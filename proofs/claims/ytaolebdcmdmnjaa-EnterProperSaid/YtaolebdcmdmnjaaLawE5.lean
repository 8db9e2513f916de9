/-
  EnterProper: the walk.
-/
import Derived.Test.YtaolebdcmdmnjaaEl4
import Derived.Test.YtaolebdcmdmnjaaEl5
import Derived.Deep.RegionHeld3
namespace Go.Proofs.Ytaolebdcmdmnjaa
set_option maxRecDepth 100000
open Go.ChangeShapes Go.WideShapes Go.ChangeAt Go.RowKit

set_option maxHeartbeats 16000000 in
theorem enterProper_walk (w : World) (v : Value) (l : List Int) (h : IntsAt w v l) (u : Value) (l2 : List Int) (hu : IntsAt w u l2) (fr : Int) (hfr : (Lit.int .i64 fr).wf = true) (tz : Int) (htz : (Lit.int .i64 tz).wf = true) (uz : Value) (Z : List (List Int)) (hz : RowsAt2 w uz Z) :
    Calls Try.prog 7 #[v, u, .int .i64 fr, .int .i64 tz, uz] w (TrueOn w) := by
  obtain ⟨A0, c0, rfl⟩ := ints_form h
  obtain ⟨A1, c1, rfl⟩ := ints_form hu
  obtain ⟨AZ, cZ, rfl⟩ : ∃ A c, uz = .slice A Z.length c := by obtain ⟨A, c, e, _⟩ := hz; exact ⟨A, c, e⟩
  have OF := Lib.hid (Of_full _ l w h)
  have HU := Lib.hid hu
  have HZ9 := Lib.hid hz
  clear h hu hz
  go_enter Try.func7, Try.ntmps7
  go_upto_region 2 with (go_at_call 9; refine OF.out.mono ?_; rintro e w2 ⟨A, c, B, d, A', c', B', d', n, ks, ps, rfl, ok, hf, h0, h12, hn, S1, S2, hb2⟩; clear hn)
  have q0 : ((w2.alloc (.cells #[.slice A n c, .slice B n d] 24)).alloc (.cells #[.slice A' n c', .slice B' n d'] 25)).cell? ⟨w2.heap.size, 0, none⟩ = some (.slice A n c) := box_x _ (by simp) (box_0 _ _ _ _)
  have q1 : ((w2.alloc (.cells #[.slice A n c, .slice B n d] 24)).alloc (.cells #[.slice A' n c', .slice B' n d'] 25)).cell? ⟨w2.heap.size, 1, none⟩ = some (.slice B n d) := box_x _ (by simp) (box_1 _ _ _ _)
  have hs1 : (w2.alloc (.cells #[.slice A n c, .slice B n d] 24)).heap.size = w2.heap.size + 1 := by simp
  have r0 := box_0 (w2.alloc (.cells #[.slice A n c, .slice B n d] 24)) 25 (.slice A' n c') (.slice B' n d')
  have r1 := box_1 (w2.alloc (.cells #[.slice A n c, .slice B n d] 24)) 25 (.slice A' n c') (.slice B' n d')
  rw [hs1] at r0 r1
  have b3 : Below w2.heap.size w2 ((w2.alloc (.cells #[.slice A n c, .slice B n d] 24)).alloc (.cells #[.slice A' n c', .slice B' n d'] 25)) := ((Below.refl _ _).alloc (Nat.le_refl _) _).alloc (by simp) _
  have hlt : w2.heap.size + 1 < ((w2.alloc (.cells #[.slice A n c, .slice B n d] 24)).alloc (.cells #[.slice A' n c', .slice B' n d'] 25)).heap.size := by simp
  generalize (w2.alloc (.cells #[.slice A n c, .slice B n d] 24)).alloc (.cells #[.slice A' n c', .slice B' n d'] 25) = w3 at *
  have hlt0 : w2.heap.size < w3.heap.size := by omega
  have S3 := Lib.hid (shp_below S1 b3)
  have T3 := Lib.hid (shp_below S2 b3)
  have HB3 := Lib.hid (below_then hb2 b3 hb2.size)
  have U3 := Lib.hid (HU.out.below HB3.out)
  have Z3 := Lib.hid (RowsAt2.below HZ9.out HB3.out)
  have HOK := Lib.hid ok
  have HF := Lib.hid hf
  have CELLS : Hid (∀ W, Below w3.heap.size w3 W → W.cell? ⟨w2.heap.size, 0, none⟩ = some (.slice A n c) ∧ W.cell? ⟨w2.heap.size, 1, none⟩ = some (.slice B n d) ∧ W.cell? ⟨w2.heap.size + 1, 0, none⟩ = some (.slice A' n c') ∧ W.cell? ⟨w2.heap.size + 1, 1, none⟩ = some (.slice B' n d')) := fun W hW =>
    ⟨(hW.cell (p := ⟨w2.heap.size, 0, none⟩) hlt0).trans q0, (hW.cell (p := ⟨w2.heap.size, 1, none⟩) hlt0).trans q1, (hW.cell (p := ⟨w2.heap.size + 1, 0, none⟩) hlt).trans r0, (hW.cell (p := ⟨w2.heap.size + 1, 1, none⟩) hlt).trans r1⟩
  have CF := Lib.hid (Config_any ks ps A' B' n c' d' _ l2 w3 T3.out ok hf.kl.symm h0 (by omega) U3.out)
  have KC := Lib.hid (fun W (hW : Below w3.heap.size w3 W) k (hk : k < n) => ints_cell (shp_below S3.out hW).1 (k := k) (by rw [HF.out.kl]; exact hk))
  have PC := Lib.hid (fun W (hW : Below w3.heap.size w3 W) k (hk : k < n) => ints_cell (shp_below S3.out hW).2 (k := k) (by rw [HF.out.pl]; exact hk))
  have PS := Lib.hid (fun W (hW : Below w3.heap.size w3 W) => Past_any ks ps A' B' n c' d' _ Z W (shp_below T3.out hW) HOK.out HF.out h0 (by omega) (RowsAt2.below Z3.out hW))
  have LV := Lib.hid (fun W (hW : Below w3.heap.size w3 W) s t hs => Leave_list s t W (shp_below S3.out hW) HF.out h0 (by omega) hs)
  have EN := Lib.hid (fun W (hW : Below w3.heap.size w3 W) v rs t dm hu hp ht htd hne => Enter_list (A := A) (B := B) (c := c) (d := d) t dm v rs W (shp_below S3.out hW) HF.out (by omega) hu hp ht htd hne)
  have UD := Lib.hid (fun W (hW : Below w3.heap.size w3 W) k t hk => Under_any k t W (shp_below S3.out hW) HF.out (by omega) hk)
  clear S1 S2 b3 hb2 ok hs1 OF HU HZ9 hf
  go_upto_region 3 with (go_at_call 16; refine CF.out.mono ?_; rintro e w4 ⟨s, hs, rfl, hps, hb4⟩)
  have HPS := Lib.hid hps
  have HS := Lib.hid hs
  have HB4 := Lib.hid hb4
  have hs32 : s < 4294967296 := Nat.lt_of_lt_of_le hs (Nat.pow_le_pow_right (n := 2) (by omega) (show n ≤ 32 by omega))
  clear CF hs hps hb4 q0 q1 r0 r1
  have hbf := within_bd fr (n : Int) (by omega)
  have hbt := within_bd tz (n : Int) (by omega)
  have WF := Lib.hid (fun W => Within_any fr (n : Int) W hfr (by omega) (by omega))
  have WT := Lib.hid (fun W => Within_any tz (n : Int) W htz (by omega) (by omega))
  generalize within fr (n : Int) = zf at *
  generalize within tz (n : Int) = zt at *
  obtain ⟨f, rfl⟩ : ∃ k : Nat, zf = k := ⟨zf.toNat, by omega⟩
  obtain ⟨t, rfl⟩ : ∃ k : Nat, zt = k := ⟨zt.toNat, by omega⟩
  have hfn : f < n := by omega
  have htn : t < n := by omega
  have hti : (t : Int) < n := by omega
  have DM := Lib.hid (fun W (hW : Below w3.heap.size w3 W) => Domain_any f t W (shp_below S3.out hW) HF.out (by omega) hfn htn)
  have HDS := Lib.hid (domL_spec HF.out hfn htn)
  have TRA : Hid (∀ rs r, PastOk ks ps n (pfun rs) → s.testBit f = true → (∀ i, r.testBit i = (s.testBit i && !decide (i ∈ leaveL ps n s (domL ks ps n f t)) || decide (i ∈ enterL ks ps n (pfun rs) (domL ks ps n f t) t))) → prop ks ps r = true) := fun rs r hp hks hr => trans_all HF.out (by omega) hp hfn htn HPS.out hks hr
  generalize domL ks ps n f t = dm at *
  obtain ⟨y0, y1, y2, y3⟩ := CELLS.out _ HB4.out
  clear hbf hbt
  go_region_held3 (fun w' => w'.cell? ⟨w2.heap.size, 0, none⟩ = some (.slice A n c))
    (first | exact y0 | go_keep)
    (first
      | (go_at_call_of 17 (Value.int .i64 fr); refine (WF.out _).mono ?_; rintro e w8 ⟨rfl, rfl⟩)
      | (go_at_call_of 17 (Value.int .i64 tz); refine (WT.out _).mono ?_; rintro e w9 ⟨rfl, rfl⟩))
  have hbtf := bit01 s f hs32 (by omega)
  have hf32 : (f : Int) < 32 := by omega
  cases hfb : s.testBit f
  · rw [hfb, if_neg (by simp)] at hbtf
    clear hfb
    go_wp2_with (go_at_call 15; refine (wakes07 _).mono ?_; rintro e w10 ⟨rfl, hb10⟩)
    go_ret
    exact ⟨rfl, below_then HB3.out (by first | exact below_then HB4.out hb10 HB4.out.size | exact below_then (below_drew HB4.out) hb10 HB4.out.size) HB3.out.size⟩
  · rw [hfb, if_pos rfl] at hbtf
    have HFB := Lib.hid hfb
    clear hfb
    have htd := Lib.hid HDS.out.2.1
    have hne := Lib.hid HDS.out.2.2.1
    have HFD := Lib.hid HDS.out.2.2.2
    have HDK := Lib.hid HDS.out.1
    have HLM : Hid (∀ k, k ∈ leaveL ps n s dm ↔ k < n ∧ s.testBit k = true ∧ (k : Int) ≠ dm ∧ Und ps k dm) := fun k => mem_leaveL HF.out
    have HLL := Lib.hid (leave_len HF.out s dm)
    have HLT := Lib.hid (leave_lt (s := s) (d := dm) HF.out)
    have HLD := Lib.hid (leaveL_down (ps := ps) (n := n) s dm)
    have HLN := Lib.hid (leaveL_nodup (ps := ps) (n := n) s dm)
    have LVd := Lib.hid (fun W hW => LV.out W hW s dm hs32)
    have ENc := Lib.hid (fun W (hW : Below w3.heap.size w3 W) v rs hu hp => Enter_listC (A := A) (B := B) (c := c) (d := d) t dm v rs W (shp_below S3.out hW) HF.out (by omega) hu hp htn htd.out hne.out)
    have INQ : Hid (∀ rs, PastOk ks ps n (pfun rs) → ∀ k, k ∈ enterL ks ps n (pfun rs) dm t → k < n ∧ (k : Int) ≠ dm ∧ Und ps k dm) := fun rs hp k hm => enter_in HF.out hp htn htd.out hne.out hm
    have LNQ : Hid (∀ rs, PastOk ks ps n (pfun rs) → (enterL ks ps n (pfun rs) dm t).length ≤ n) := fun rs hp => enter_len HF.out hp htn htd.out hne.out
    have LCQ : Hid (∀ rs, PastOk ks ps n (pfun rs) → (enterL ks ps n (pfun rs) dm t).Nodup ∧ Ahd ps dm [] (enterL ks ps n (pfun rs) dm t)) := fun rs hp => (enterL_LC HF.out hp htn htd.out hne.out).2
    have MEQ : Hid (∀ rs, hl ks t = true → t ∈ enterL ks ps n (pfun rs) dm t) := fun rs hh => enterL_mem HF.out htn htd.out hne.out hh
    have TRQ : Hid (∀ rs r, PastOk ks ps n (pfun rs) → (∀ i, r.testBit i = (s.testBit i && !decide (i ∈ leaveL ps n s dm) || decide (i ∈ enterL ks ps n (pfun rs) dm t))) → prop ks ps r = true) := fun rs r hp hr => TRA.out rs r hp HFB.out hr
    generalize leaveL ps n s dm = Ld at *
    go_upto_region 8 with (first
      | (go_at_call 18; refine (DM.out _ (by first | exact HB4.out | exact below_drew HB4.out)).mono ?_; rintro e w5 ⟨rfl, hb5⟩; have HB5 : Hid (Below w3.heap.size w3 w5) := (by first | exact below_then HB4.out hb5 HB4.out.size | exact below_then (below_drew HB4.out) hb5 HB4.out.size); obtain ⟨y50, y51, y52, y53⟩ := CELLS.out _ HB5.out)
      | (go_at_call 22; refine (LVd.out _ HB5.out).mono ?_; rintro e w7 ⟨A7, c7, rfl, hi7, hb7⟩; have HB7 : Hid (Below w3.heap.size w3 w7) := below_then HB5.out hb7 HB5.out.size; have HI7 := Lib.hid hi7; clear hi7 hb7))
    obtain ⟨y70, y71, y72, y73⟩ := CELLS.out _ HB7.out
    go_region_held3 (fun w' => w'.cell? ⟨w2.heap.size, 0, none⟩ = some (.slice A n c) ∧ w'.cell? ⟨w2.heap.size, 1, none⟩ = some (.slice B n d) ∧ w'.cell? ⟨w2.heap.size + 1, 0, none⟩ = some (.slice A' n c') ∧ w'.cell? ⟨w2.heap.size + 1, 1, none⟩ = some (.slice B' n d'))
      (first | exact CELLS.out _ (below_drew HB7.out) | exact CELLS.out _ HB7.out | exact CELLS.out _ HB6.out | exact CELLS.out _ HB8.out | go_keep)
      (first
        | (go_at_call 21; refine (PS.out _ (by first | exact HB7.out | exact below_drew HB7.out)).mono ?_; rintro e w6 ⟨v6, rs, rfl, hu6, hpo, hb6⟩; have HB6 : Hid (Below w3.heap.size w3 w6) := (by first | exact below_then HB7.out hb6 HB7.out.size | exact below_then (below_drew HB7.out) hb6 HB7.out.size); have HPO := Lib.hid (hpo.past HF.out (by omega)); have HU6 := Lib.hid hu6; obtain ⟨A6, c6, rfl⟩ := u32s_form hu6; have HI6 := Lib.hid (show IntsAt w6 _ _ from (by first | exact HI7.out.below hb6 | exact IntsAt.below (HI7.out.below (below_drew (Below.refl _ _))) hb6)); clear hu6 hpo hb6)
        | (go_at_call 20; refine (ENc.out _ HB6.out _ rs HU6.out HPO.out).mono ?_; rintro e w8 ⟨A8, c8, rfl, hc8, hi8, hb8⟩; have HB8 : Hid (Below w3.heap.size w3 w8) := below_then HB6.out hb8 HB6.out.size; have HI8 := Lib.hid hi8; have HI9 := Lib.hid (HI6.out.below hb8); clear hi8 hb8))
    have INR := Lib.hid (INQ.out rs HPO.out)
    have LNR := LNQ.out rs HPO.out
    have LCR := Lib.hid (LCQ.out rs HPO.out)
    have MER := Lib.hid (MEQ.out rs)
    have TRR := Lib.hid (fun r => TRQ.out rs r HPO.out)
    clear INQ LNQ LCQ MEQ TRQ TRA LVd ENc PS LV EN HU6
    generalize enterL ks ps n (pfun rs) dm t = E at *
    have hx32 : setN Ld < 4294967296 := setN_lt32 (n := n) HLT.out (by omega)
    have hy32 : setN E < 4294967296 := setN_lt32 (n := n) (fun k hk => (INR.out k hk).1) (by omega)
    have BI7 := Lib.hid (bits_any Ld A7 c7 w8 HI9.out (fun k hk => by have := HLT.out k hk; omega))
    have BI8 := Lib.hid (bits_any E A8 c8 w8 HI8.out (fun k hk => by have := (INR.out k hk).1; omega))
    have CT7 := Lib.hid (count_any Ld w8 HLN.out (fun k hk => by have := HLT.out k hk; omega) (by have := HLL.out; omega))
    have CT8 := Lib.hid (count_any E w8 LCR.out.1 (fun k hk => by have := (INR.out k hk).1; omega) (by omega))
    have ha1 := adn_u32 hx32 hs32
    have hz1 : adn (setN Ld) s = 0 := by
      apply Nat.eq_of_testBit_eq
      intro j
      rw [adn_bit hx32 hs32, setN_bit, Nat.zero_testBit]
      by_cases hm : j ∈ Ld
      · rw [((HLM.out j).1 hm).2.1]; simp
      · rw [decide_eq_false hm]; rfl
    rw [hz1] at ha1
    have hbx := bit01 (setN Ld) f hx32 (by omega)
    rw [setN_bit, decide_eq_true ((HLM.out f).2 ⟨hfn, HFB.out, by have := HFD.out.2; omega, HFD.out.1⟩), if_pos rfl] at hbx
    have ha2 := adn_u32 hs32 hx32
    have had32 := adn_lt (b := setN Ld) hs32
    have ha3 := u32_and_nat (adn s (setN Ld)) (setN E) had32 hy32
    have hz3 : adn s (setN Ld) &&& setN E = 0 := by
      apply Nat.eq_of_testBit_eq
      intro j
      rw [Nat.testBit_and, adn_bit hs32 hx32, setN_bit, setN_bit, Nat.zero_testBit]
      by_cases hm : j ∈ E
      · obtain ⟨h1, h2, h3⟩ := INR.out j hm
        cases hsj : s.testBit j
        · rfl
        · rw [decide_eq_true ((HLM.out j).2 ⟨h1, hsj, h2, h3⟩)]; simp
      · rw [decide_eq_false hm, Bool.and_false]
    rw [hz3] at ha3
    have hor := u32_or_nat (adn s (setN Ld)) (setN E) had32 hy32
    have hr32 : adn s (setN Ld) ||| setN E < 4294967296 := Nat.or_lt_two_pow (n := 32) had32 hy32
    have HPR : Hid (prop ks ps (adn s (setN Ld) ||| setN E) = true) := TRR.out _ fun i => by
      rw [Nat.testBit_or, adn_bit hs32 hx32, setN_bit, setN_bit]
    have HBY := Lib.hid (bit01 (setN E) t hy32 (by omega))
    have HYB := Lib.hid (setN_bit t E)
    have HOR := Lib.hid hor
    have HA2 := Lib.hid ha2
    clear hz1 hz3 hor
    generalize setN Ld = x at *
    generalize setN E = y at *
    have g7 : ((Ld.length : Int) != Ld.length) = false := by simp
    have g8 : ((E.length : Int) != E.length) = false := by simp
    obtain ⟨y80, y81, y82, y83⟩ := CELLS.out _ HB8.out
    go_upto_region 12 with (first
      | (go_at_call_of 11 (Value.slice A7 Ld.length c7); refine BI7.out.mono ?_; rintro e w10 ⟨rfl, rfl⟩)
      | (go_at_call 11; refine BI8.out.mono ?_; rintro e w10 ⟨rfl, rfl⟩)
      | (go_at_call_of 32 (Value.int .u32 (x : Int)); refine CT7.out.mono ?_; rintro e w10 ⟨rfl, rfl⟩)
      | (go_at_call 32; refine CT8.out.mono ?_; rintro e w10 ⟨rfl, rfl⟩))
    have AHR : Hid (∀ j (hj : j < E.length), ps.getD E[j] 0 = dm ∨ ∃ q : Nat, q ∈ E.take j ∧ ps.getD E[j] 0 = q) := fun j hj => by
      rcases LCR.out.2.at j E[j] (List.getElem?_eq_getElem hj) with h1 | ⟨q, h1, h2⟩
      · exact .inl h1
      · rcases h1 with h1 | h1
        · cases h1
        · exact .inr ⟨q, h1, h2⟩
    have LDR : Hid (∀ j (hj : j + 1 < Ld.length), Ld[j + 1] < Ld[j]) := fun j hj => (List.pairwise_iff_getElem.1 HLD.out) j (j + 1) (by omega) hj (by omega)
    have MEX : Hid (hl ks t = true → t ∈ E) := MER.out
    have PRX := Lib.hid (fun W (hW : Below w3.heap.size w3 W) s hs => Proper_any ks ps A B n c n d W s hs (shp_below S3.out hW) HF.out.kl.symm HF.out.pl.symm (by omega) (by omega))
    have STX := Lib.hid (fun W (hW : Below w3.heap.size w3 W) => Start_list (A := A) (B := B) (c := c) (d := d) W (shp_below S3.out hW) HF.out h0 (by omega))
    clear HLM HLN HLD MER TRR LCR BI7 BI8 CT7 CT8
    go_wp2
    go_loopw [108] (fun i wr => ∃ j : Nat, j ≤ E.length ∧ i = .int .i64 j ∧ wr = w8) (fun i _ => E.length - (intOf i).toNat)
    case atStart => exact ⟨0, Nat.zero_le _, rfl, rfl⟩
    case round =>
      obtain ⟨j, hj, rfl, rfl⟩ := hrel
      by_cases hjl : j < E.length
      · have hji : (j : Int) < E.length := by omega
        obtain ⟨b9, off9, e9, hb9, hx9⟩ := nat_cell HI8.out hjl
        subst e9
        have hkn := (INR.out _ (List.getElem_mem hjl)).1
        have HAJ := AHR.out j hjl
        obtain ⟨bp, offp, eP, hbp, hcp, _⟩ := PC.out _ HB8.out _ hkn
        subst eP
        have hpp := HF.out.pa _ hkn
        generalize E[j] = k at *
        have hki : (k : Int) < n := by omega
        have hki2 : ¬ (n : Int) ≤ k := by omega
        have HAJ := Lib.hid HAJ
        generalize ps.getD k 0 = p at *
        by_cases hpd : p = dm
        · have g1 : (p != dm) = false := by simp [hpd]
          clear hpd
          go_wp2
          go_roundw
          case rel => exact ⟨j + 1, by omega, by go_num, trivial⟩
          case measure => simp [intOf]; omega
        · have g1 : (p != dm) = true := by simpa using hpd
          by_cases hp0 : 0 ≤ p
          · obtain ⟨q, rfl⟩ : ∃ q : Nat, p = q := ⟨p.toNat, by omega⟩
            have hqm : q ∈ E.take j := by
              rcases HAJ.out with h1 | ⟨q', h1, h2⟩
              · exact absurd h1 hpd
              · have : q' = q := by omega
                subst this
                exact h1
            have HQM := Lib.hid hqm
            have hjc : (j : Int) ≤ c8 := by omega
            clear hqm hpd HAJ
            go_upto_region 20 with (fail)
            go_wp2
            go_loopw [22, 138] (fun b i wx => ∃ m : Nat, m ≤ j ∧ i = .int .i64 m ∧ b = .bool ((E.take m).any fun x => x == q) ∧ wx = wr) (fun _ i _ => j - (intOf i).toNat)
            case atStart => exact ⟨0, Nat.zero_le _, rfl, rfl, rfl⟩
            case round =>
              obtain ⟨m, hm, rfl, rfl, rfl⟩ := hrel
              by_cases hmj : m < j
              · have hmji : (m : Int) < j := by omega
                have hml : m < E.length := by omega
                obtain ⟨b7, off7, e7, hb7, hx7⟩ := nat_cell HI8.out hml
                injection e7 with e7
                injection e7 with e71 e72
                subst e71; subst e72
                have hsn : (E.take (m + 1)).any (fun x => x == q) = ((E.take m).any (fun x => x == q) || ((E[m] : Nat) : Int) == q) := by
                  rw [List.take_succ_eq_append_getElem hml, List.any_append]
                  congr 1
                  rw [List.any_cons, List.any_nil, Bool.or_false, nat_beq]
                have HSN := Lib.hid hsn
                clear hsn
                generalize E[m] = e at *
                generalize (E.take m).any (fun x => x == q) = bb at *
                generalize hg : ((e : Int) == (q : Int)) = g at *
                cases bb
                · go_wp2
                  go_roundw
                  case rel => exact ⟨m + 1, by omega, by go_num, by rw [HSN.out, Bool.false_or], trivial⟩
                  case measure => simp [intOf]; omega
                · go_wp2
                  go_roundw
                  case rel => exact ⟨m + 1, by omega, by go_num, by rw [HSN.out, Bool.true_or], trivial⟩
                  case measure => simp [intOf]; omega
              · have e : m = j := by omega
                subst e
                have hany : (E.take m).any (fun x => x == q) = true := by
                  rw [List.any_eq_true]
                  exact ⟨q, HQM.out, by simp⟩
                rw [hany]
                clear hany
                go_wp2
                go_roundw
                case rel => exact ⟨m + 1, by omega, by go_num, trivial⟩
                case measure => simp [intOf]; omega
          · clear HAJ hpd
            go_wp2
            go_roundw
            case rel => exact ⟨j + 1, by omega, by go_num, trivial⟩
            case measure => simp [intOf]; omega
      · go_wp2
        go_loopw [154] (fun i wx => ∃ j : Nat, j ≤ Ld.length ∧ i = .int .i64 j ∧ wx = wr) (fun i _ => Ld.length - (intOf i).toNat)
        case atStart => exact ⟨0, Nat.zero_le _, rfl, rfl⟩
        case round =>
          obtain ⟨m, hm, rfl, rfl⟩ := hrel
          by_cases hml : m < Ld.length
          · have hmi : (m : Int) < Ld.length := by omega
            obtain ⟨b7, off7, e7, hb7, hx7⟩ := nat_cell HI9.out hml
            subst e7
            by_cases h0m : 0 < m
            · have h0mi : (0 : Int) < m := by omega
              obtain ⟨m1, hm1⟩ : ∃ m1, m = m1 + 1 := ⟨m - 1, by omega⟩
              have hml2 : m1 < Ld.length := by omega
              obtain ⟨b6, off6, e6, hb6, hx6⟩ := nat_cell HI9.out hml2
              injection e6 with e6
              injection e6 with e61 e62
              subst e61; subst e62
              have hdn := LDR.out m1 (by omega)
              have hdni : ¬ ((Ld[m1] : Nat) : Int) ≤ ((Ld[m] : Nat) : Int) := by
                have : Ld[m1 + 1]'(by omega) = Ld[m] := by simp [hm1]
                omega
              have hw1 : IntKind.i64.wrap ((m : Int) - 1) = (m1 : Int) := by have := HLL.out; rw [IntKind.wrap_i64]; omega
              have hmm : (m1 : Int) < Ld.length := by omega
              have HM1 := Lib.hid hm1
              have hll9 := HLL.out
              have HLE : Hid (m + 1 ≤ Ld.length) := hml
              clear hdn hm1
              generalize Ld[m] = k1 at *
              generalize Ld[m1] = k0 at *
              go_wp2
              go_roundw
              case rel => exact ⟨m + 1, HLE.out, by go_num, trivial⟩
              case measure => have := HLE.out; simp [intOf]; omega
            · have h0mi : ¬ (0 : Int) < m := by omega
              generalize Ld[m] = k at *
              go_wp2
              go_roundw
              case rel => exact ⟨m + 1, by omega, by go_num, trivial⟩
              case measure => simp [intOf]; omega
          · have htg : Hid (ks.getD t 0 < 3 → y.testBit t = true) := fun h3 => by
              rw [HYB.out]
              exact decide_eq_true (MEX.out (hl_in (HF.out.kd t htn).1 (by omega)))
            obtain ⟨bk, offk, eK, hbk, hck, _⟩ := KC.out _ HB8.out t htn
            subst eK
            have hby := HBY.out
            have hor := HOR.out
            have ha2 := HA2.out
            have PR1 : Hid (∀ W, Below w3.heap.size w3 W → Calls Try.prog 12 #[.agg #[.slice (some ⟨bk, offk, none⟩) n c, .slice B n d], .int .u32 (adn s x ||| y : Nat)] W fun e w' => e = .returned (.bool true) ∧ Below W.heap.size W w') := fun W hW => by
              have := PRX.out W hW (adn s x ||| y) hr32
              rwa [HPR.out] at this
            generalize ks.getD t 0 = z at *
            go_upto_region 34 with (fail)
            go_cut [27] (fun x wx => wx = wr ∧ x = .bool true)
            case first =>
              by_cases h3 : z < 3
              · rw [htg.out h3, if_pos rfl] at hby
                have h3n : ¬ (3 : Int) ≤ z := by omega
                have ht32 : (t : Int) < 32 := by omega
                go_wp2
                go_meet
                exact ⟨rfl, rfl⟩
              · have h3n : (3 : Int) ≤ z := by omega
                go_wp2
                go_meet
                exact ⟨rfl, rfl⟩
            case rest =>
              obtain ⟨hw9, rfl⟩ := hcut
              subst hw9
              obtain ⟨wr, rfl⟩ : ∃ w1 : World, w1 = wc := ⟨_, rfl⟩
              have hik := iniN_kid HF.out.tp
              have SMX : Hid (∀ k ∈ inS ks ps n (iniN ks ps n (-1)), k < n) := fun k hk => (inS_und HF.out hik.1 (kid_hl hik.2) hk).1
              have SPR := Lib.hid (start_prop HF.out (by omega))
              clear hik htg hby
              generalize inS ks ps n (iniN ks ps n (-1)) = L at *
              have hL32 : setN L < 4294967296 := setN_lt32 (n := n) SMX.out (by omega)
              have PR2 : Hid (∀ W, Below w3.heap.size w3 W → Calls Try.prog 12 #[.agg #[.slice (some ⟨bk, offk, none⟩) n c, .slice B n d], .int .u32 (setN L : Nat)] W fun e w' => e = .returned (.bool true) ∧ Below W.heap.size W w') := fun W hW => by
                have := PRX.out W hW (setN L) hL32
                rwa [SPR.out] at this
              clear PRX SPR
              go_upto_region 35 with (fail)
              go_region_held3 (fun w' => w'.cell? ⟨w2.heap.size, 0, none⟩ = some (.slice (some ⟨bk, offk, none⟩) n c) ∧ w'.cell? ⟨w2.heap.size, 1, none⟩ = some (.slice B n d) ∧ w'.cell? ⟨w2.heap.size + 1, 0, none⟩ = some (.slice A' n c') ∧ w'.cell? ⟨w2.heap.size + 1, 1, none⟩ = some (.slice B' n d'))
                (first | exact CELLS.out _ (below_drew HB8.out) | exact CELLS.out _ HB8.out | exact CELLS.out _ HB14.out | exact CELLS.out _ HB15.out | exact CELLS.out _ HB17.out | exact CELLS.out _ HB18.out | go_keep)
                (first
                  | (go_at_call_of 12 (Value.int .u32 ((adn s x ||| y : Nat) : Int)); refine (PR1.out _ (by first | exact HB8.out | exact below_drew HB8.out)).mono ?_; rintro e w14 ⟨rfl, hb14⟩; have HB14 : Hid (Below w3.heap.size w3 w14) := (by first | exact below_then HB8.out hb14 HB8.out.size | exact below_then (below_drew HB8.out) hb14 HB8.out.size))
                  | (go_at_call 10; refine (STX.out _ HB14.out).mono ?_; rintro e w15 ⟨A15, c15, rfl, hi15, hb15⟩; have HB15 : Hid (Below w3.heap.size w3 w15) := below_then HB14.out hb15 HB14.out.size; have BI15 := Lib.hid (bits_any L A15 c15 w15 hi15 (fun k hk => by have := SMX.out k hk; omega)); clear hi15 hb15)
                  | (go_at_call 11; refine BI15.out.mono ?_; rintro e w16 ⟨rfl, rfl⟩)
                  | (go_at_call 12; refine (PR2.out _ HB15.out).mono ?_; rintro e w17 ⟨rfl, hb17⟩; have HB17 : Hid (Below w3.heap.size w3 w17) := below_then HB15.out hb17 HB15.out.size)
                  | (go_at_call 15; refine (wakes07 _).mono ?_; rintro e w18 ⟨rfl, hb18⟩; have HB18 : Hid (Below w3.heap.size w3 w18) := below_then HB17.out hb18 HB17.out.size))
              go_wp2
              go_ret
              exact ⟨rfl, below_then HB3.out HB18.out HB3.out.size⟩
end Go.Proofs.Ytaolebdcmdmnjaa
