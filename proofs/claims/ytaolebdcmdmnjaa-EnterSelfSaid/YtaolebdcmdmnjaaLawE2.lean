/-
  EnterSelf: the walk.
-/
import Derived.Test.YtaolebdcmdmnjaaEl4
import Derived.Deep.RegionHeld3
namespace Go.Proofs.Ytaolebdcmdmnjaa
set_option maxRecDepth 100000
open Go.ChangeShapes Go.WideShapes Go.ChangeAt Go.RowKit

set_option maxHeartbeats 16000000 in
theorem enterSelf_walk (w : World) (v : Value) (l : List Int) (h : IntsAt w v l) (u : Value) (l2 : List Int) (hu : IntsAt w u l2) (fr : Int) (hfr : (Lit.int .i64 fr).wf = true) (tz : Int) (htz : (Lit.int .i64 tz).wf = true) (uz : Value) (Z : List (List Int)) (hz : RowsAt2 w uz Z) :
    Calls Try.prog 4 #[v, u, .int .i64 fr, .int .i64 tz, uz] w (TrueOn w) := by
  obtain ⟨A0, c0, rfl⟩ := ints_form h
  obtain ⟨A1, c1, rfl⟩ := ints_form hu
  obtain ⟨AZ, cZ, rfl⟩ : ∃ A c, uz = .slice A Z.length c := by obtain ⟨A, c, e, _⟩ := hz; exact ⟨A, c, e⟩
  have OF := Lib.hid (Of_full _ l w h)
  have HU := Lib.hid hu
  have HZ9 := Lib.hid hz
  clear h hu hz
  go_enter Try.func4, Try.ntmps4
  go_upto_region 2 with (go_at_call 9; refine OF.out.mono ?_; rintro e w2 ⟨A, c, B, d, A', c', B', d', n, ks, ps, rfl, ok, hf, h0, h12, hn, S1, S2, hb2⟩; clear hn)
  have q0 : ((w2.alloc (.cells #[.slice A n c, .slice B n d] 24)).alloc (.cells #[.slice A' n c', .slice B' n d'] 25)).cell? ⟨w2.heap.size, 0, none⟩ = some (.slice A n c) := box_x _ (by simp) (box_0 _ _ _ _)
  have q1 : ((w2.alloc (.cells #[.slice A n c, .slice B n d] 24)).alloc (.cells #[.slice A' n c', .slice B' n d'] 25)).cell? ⟨w2.heap.size, 1, none⟩ = some (.slice B n d) := box_x _ (by simp) (box_1 _ _ _ _)
  have hs1 : (w2.alloc (.cells #[.slice A n c, .slice B n d] 24)).heap.size = w2.heap.size + 1 := by simp
  have r0 := box_0 (w2.alloc (.cells #[.slice A n c, .slice B n d] 24)) 25 (.slice A' n c') (.slice B' n d')
  have r1 := box_1 (w2.alloc (.cells #[.slice A n c, .slice B n d] 24)) 25 (.slice A' n c') (.slice B' n d')
  rw [hs1] at r0 r1
  have b3 : Below w2.heap.size w2 ((w2.alloc (.cells #[.slice A n c, .slice B n d] 24)).alloc (.cells #[.slice A' n c', .slice B' n d'] 25)) := ((Below.refl _ _).alloc (Nat.le_refl _) _).alloc (by simp) _
  have hlt : w2.heap.size + 1 < ((w2.alloc (.cells #[.slice A n c, .slice B n d] 24)).alloc (.cells #[.slice A' n c', .slice B' n d'] 25)).heap.size := by simp
  generalize (w2.alloc (.cells #[.slice A n c, .slice B n d] 24)).alloc (.cells #[.slice A' n c', .slice B' n d'] 25) = w3 at *
  have hlt0 : w2.heap.size < w3.heap.size := by omega
  have S3 := Lib.hid (shp_below S1 b3)
  have T3 := Lib.hid (shp_below S2 b3)
  have HB3 := Lib.hid (below_then hb2 b3 hb2.size)
  have U3 := Lib.hid (HU.out.below HB3.out)
  have Z3 := Lib.hid (RowsAt2.below HZ9.out HB3.out)
  have HOK := Lib.hid ok
  have HF := Lib.hid hf
  have CELLS : Hid (∀ W, Below w3.heap.size w3 W → W.cell? ⟨w2.heap.size, 0, none⟩ = some (.slice A n c) ∧ W.cell? ⟨w2.heap.size, 1, none⟩ = some (.slice B n d) ∧ W.cell? ⟨w2.heap.size + 1, 0, none⟩ = some (.slice A' n c') ∧ W.cell? ⟨w2.heap.size + 1, 1, none⟩ = some (.slice B' n d')) := fun W hW =>
    ⟨(hW.cell (p := ⟨w2.heap.size, 0, none⟩) hlt0).trans q0, (hW.cell (p := ⟨w2.heap.size, 1, none⟩) hlt0).trans q1, (hW.cell (p := ⟨w2.heap.size + 1, 0, none⟩) hlt).trans r0, (hW.cell (p := ⟨w2.heap.size + 1, 1, none⟩) hlt).trans r1⟩
  have CF := Lib.hid (Config_any ks ps A' B' n c' d' _ l2 w3 T3.out ok hf.kl.symm h0 (by omega) U3.out)
  have KC := Lib.hid (fun W (hW : Below w3.heap.size w3 W) k (hk : k < n) => ints_cell (shp_below S3.out hW).1 (k := k) (by rw [HF.out.kl]; exact hk))
  have PC := Lib.hid (fun W (hW : Below w3.heap.size w3 W) k (hk : k < n) => ints_cell (shp_below S3.out hW).2 (k := k) (by rw [HF.out.pl]; exact hk))
  have PS := Lib.hid (fun W (hW : Below w3.heap.size w3 W) => Past_any ks ps A' B' n c' d' _ Z W (shp_below T3.out hW) HOK.out HF.out h0 (by omega) (RowsAt2.below Z3.out hW))
  have LV := Lib.hid (fun W (hW : Below w3.heap.size w3 W) s t hs => Leave_list s t W (shp_below S3.out hW) HF.out h0 (by omega) hs)
  have EN := Lib.hid (fun W (hW : Below w3.heap.size w3 W) v rs t dm hu hp ht htd hne => Enter_list (A := A) (B := B) (c := c) (d := d) t dm v rs W (shp_below S3.out hW) HF.out (by omega) hu hp ht htd hne)
  have UD := Lib.hid (fun W (hW : Below w3.heap.size w3 W) k t hk => Under_any k t W (shp_below S3.out hW) HF.out (by omega) hk)
  clear S1 S2 b3 hb2 ok hs1 OF HU HZ9 hf
  go_upto_region 3 with (go_at_call 16; refine CF.out.mono ?_; rintro e w4 ⟨s, hs, rfl, hps, hb4⟩)
  have HPS := Lib.hid hps
  have HS := Lib.hid hs
  have HB4 := Lib.hid hb4
  have hs32 : s < 4294967296 := Nat.lt_of_lt_of_le hs (Nat.pow_le_pow_right (n := 2) (by omega) (show n ≤ 32 by omega))
  clear CF hs hps hb4 q0 q1 r0 r1
  have hbf := within_bd fr (n : Int) (by omega)
  have hbt := within_bd tz (n : Int) (by omega)
  have WF := Lib.hid (fun W => Within_any fr (n : Int) W hfr (by omega) (by omega))
  have WT := Lib.hid (fun W => Within_any tz (n : Int) W htz (by omega) (by omega))
  generalize within fr (n : Int) = zf at *
  generalize within tz (n : Int) = zt at *
  obtain ⟨f, rfl⟩ : ∃ k : Nat, zf = k := ⟨zf.toNat, by omega⟩
  obtain ⟨t, rfl⟩ : ∃ k : Nat, zt = k := ⟨zt.toNat, by omega⟩
  have hfn : f < n := by omega
  have htn : t < n := by omega
  have hti : (t : Int) < n := by omega
  have DM := Lib.hid (fun W (hW : Below w3.heap.size w3 W) => Domain_any f t W (shp_below S3.out hW) HF.out (by omega) hfn htn)
  have HDS := Lib.hid (domL_spec HF.out hfn htn)
  generalize domL ks ps n f t = dm at *
  obtain ⟨y0, y1, y2, y3⟩ := CELLS.out _ HB4.out
  clear hbf hbt
  go_region_held3 (fun w' => w'.cell? ⟨w2.heap.size, 0, none⟩ = some (.slice A n c))
    (first | exact y0 | go_keep)
    (first
      | (go_at_call_of 17 (Value.int .i64 fr); refine (WF.out _).mono ?_; rintro e w8 ⟨rfl, rfl⟩)
      | (go_at_call_of 17 (Value.int .i64 tz); refine (WT.out _).mono ?_; rintro e w9 ⟨rfl, rfl⟩))
  go_upto_region 5 with (go_at_call 18; refine (DM.out _ (by first | exact HB4.out | exact below_drew HB4.out)).mono ?_; rintro e w5 ⟨rfl, hb5⟩; have hb5' : Below w3.heap.size w3 w5 := (by first | exact below_then HB4.out hb5 HB4.out.size | exact below_then (below_drew HB4.out) hb5 HB4.out.size))
  have HB5 := Lib.hid hb5'
  clear hb5 hb5' y0 y1 y2 y3
  obtain ⟨y0, y1, y2, y3⟩ := CELLS.out _ HB5.out
  obtain ⟨bk, offk, eK, hbk, hck, _⟩ := KC.out _ HB5.out t htn
  subst eK
  have KCt : Hid (∀ W, Below w3.heap.size w3 W → W.cell? ⟨bk, offk + t, none⟩ = some (.int .i64 (ks.getD t 0))) := fun W hW => by
    obtain ⟨b7, o7, e7, _, h7, _⟩ := KC.out W hW t htn
    injection e7 with e7
    injection e7 with e71 e72
    subst e71; subst e72
    exact h7
  have hkd := HF.out.kd t htn
  have hhl : Hid (ks.getD t 0 < 3 → hl ks t = true) := fun h => hl_in hkd.1 (by omega)
  generalize ks.getD t 0 = z at *
  have SS : Hid (∀ W, Below w3.heap.size w3 W → W.cell? ⟨w2.heap.size, 0, none⟩ = some (.slice (some ⟨bk, offk, none⟩) n c) ∧ W.cell? ⟨w2.heap.size, 1, none⟩ = some (.slice B n d) ∧ W.cell? ⟨w2.heap.size + 1, 0, none⟩ = some (.slice A' n c') ∧ W.cell? ⟨w2.heap.size + 1, 1, none⟩ = some (.slice B' n d') ∧ W.cell? ⟨bk, offk + t, none⟩ = some (.int .i64 z)) := fun W hW => by
    obtain ⟨h1, h2, h3, h4⟩ := CELLS.out W hW
    exact ⟨h1, h2, h3, h4, KCt.out W hW⟩
  have htd := Lib.hid HDS.out.2.1
  have hne := Lib.hid HDS.out.2.2.1
  have INQ : Hid (∀ rs, PastOk ks ps n (pfun rs) → ∀ k, k ∈ enterL ks ps n (pfun rs) dm t → k < n ∧ (k : Int) ≠ dm ∧ Und ps k dm) := fun rs hp k hm => enter_in HF.out hp htn htd.out hne.out hm
  have LNQ : Hid (∀ rs, PastOk ks ps n (pfun rs) → (enterL ks ps n (pfun rs) dm t).length ≤ n) := fun rs hp => enter_len HF.out hp htn htd.out hne.out
  have ENQ := Lib.hid (fun W (hW : Below w3.heap.size w3 W) v rs hu hp => EN.out W hW v rs t dm hu hp htn htd.out hne.out)
  clear EN hkd hck
  -- the first test
  go_cut [60] (fun x wx => x = .bool false ∧ Hid (Below w3.heap.size w3 wx))
  case first =>
    by_cases h3 : z < 3
    · have hh := hhl.out h3
      have SLF : Hid (∀ rs, enterL ks ps n (pfun rs) dm t = enterL ks ps n (pfun []) dm t) := fun rs => enterL_self _ _ hh
      go_region_held3 (fun w' => w'.cell? ⟨w2.heap.size, 0, none⟩ = some (.slice (some ⟨bk, offk, none⟩) n c) ∧ w'.cell? ⟨w2.heap.size, 1, none⟩ = some (.slice B n d) ∧ w'.cell? ⟨w2.heap.size + 1, 0, none⟩ = some (.slice A' n c') ∧ w'.cell? ⟨w2.heap.size + 1, 1, none⟩ = some (.slice B' n d') ∧ w'.cell? ⟨bk, offk + t, none⟩ = some (.int .i64 z))
        (first | exact SS.out _ (below_drew HB5.out) | exact SS.out _ HB5.out | exact SS.out _ HB6.out | exact SS.out _ HB7.out | exact SS.out _ HB8.out | exact SS.out _ HB9.out | go_keep)
        (first
          | (go_at_call 21; refine (PS.out _ (by first | exact HB5.out | exact below_drew HB5.out)).mono ?_; rintro e w6 ⟨v6, rs, rfl, hu6, hpo, hb6⟩; have HB6 : Hid (Below w3.heap.size w3 w6) := (by first | exact below_then HB5.out hb6 HB5.out.size | exact below_then (below_drew HB5.out) hb6 HB5.out.size); have HPO := Lib.hid (hpo.past HF.out (by omega)); have HU6 := Lib.hid hu6; obtain ⟨A6, c6, rfl⟩ := u32s_form hu6; clear hu6 hpo hb6)
          | (go_at_call_of 20 (Value.slice A6 rs.length c6); refine (ENQ.out _ HB6.out _ rs HU6.out HPO.out).mono ?_; rintro e w7 ⟨A7, c7, rfl, hi7, hb7⟩; have HB7 : Hid (Below w3.heap.size w3 w7) := below_then HB6.out hb7 HB6.out.size; have HI7 := Lib.hid hi7; clear hi7 hb7)
          | (go_at_call 20; refine (ENQ.out _ HB7.out _ [] (nil_u32 _) (past_nil ks ps n)).mono ?_; rintro e w8 ⟨A8, c8, rfl, hi8, hb8⟩; have HB8 : Hid (Below w3.heap.size w3 w8) := below_then HB7.out hb8 HB7.out.size; have HI8 := Lib.hid hi8; rw [SLF.out rs] at HI7; have SM := Lib.hid (same_ints ((enterL ks ps n (pfun []) dm t).map fun k : Nat => (k : Int)) A7 A8 c7 c8 _ (by rw [List.length_map]; have := LNQ.out [] (past_nil ks ps n); omega) (by rw [List.length_map]; exact HI7.out.below hb8) (by rw [List.length_map]; exact HI8.out)); rw [List.length_map] at SM; clear hi8 hb8)
          | (go_at_call 19; rw [SLF.out rs]; refine SM.out.mono ?_; rintro e w9 ⟨rfl, hb9⟩; have HB9 : Hid (Below w3.heap.size w3 w9) := below_then HB8.out hb9 HB8.out.size))
      go_wp2
      go_meet
      exact ⟨rfl, HB9⟩
    · have hd3 : decide (z < 3) = false := decide_eq_false h3
      have hkt := KCt.out _ HB5.out
      go_quiet (fail)
      go_wp2
      go_meet
      exact ⟨rfl, below_drewN HB5.out _⟩
  case rest =>
    obtain ⟨rfl, HBC⟩ := hcut
    obtain ⟨y0, y1, y2, y3⟩ := CELLS.out _ HBC.out
    clear SS KCt hhl HB5
    have HLL := Lib.hid (leave_len HF.out s dm)
    have HLT := Lib.hid (leave_lt (s := s) (d := dm) HF.out)
    have HLP := Lib.hid (leave_part HF.out s dm)
    have HLW := Lib.hid (leave_whole HF.out HS.out)
    have HLWL := Lib.hid (leave_len HF.out s (-1))
    have HLWT := Lib.hid (leave_lt (s := s) (d := -1) HF.out)
    have HLM := Lib.hid (fun k => (mem_leaveL (s := s) (d := dm) (k := k) HF.out).1)
    have LVd := Lib.hid (fun W hW => LV.out W hW s dm hs32)
    have LVt := Lib.hid (fun W hW => LV.out W hW s (-1) hs32)
    generalize leaveL ps n s dm = Ld at *
    generalize leaveL ps n s (-1) = Lt at *
    go_upto_region 7 with (fail)
    go_region_held3 (fun w' => w'.cell? ⟨w2.heap.size, 0, none⟩ = some (.slice (some ⟨bk, offk, none⟩) n c) ∧ w'.cell? ⟨w2.heap.size, 1, none⟩ = some (.slice B n d) ∧ w'.cell? ⟨w2.heap.size + 1, 0, none⟩ = some (.slice A' n c') ∧ w'.cell? ⟨w2.heap.size + 1, 1, none⟩ = some (.slice B' n d'))
      (first | exact CELLS.out _ (below_drew HBC.out) | exact CELLS.out _ HBC.out | exact CELLS.out _ HB6.out | exact CELLS.out _ HB7.out | exact CELLS.out _ HB8.out | go_keep)
      (first
        | (go_at_call 21; refine (PS.out _ (by first | exact HBC.out | exact below_drew HBC.out)).mono ?_; rintro e w6 ⟨v6, rs, rfl, hu6, hpo, hb6⟩; have HB6 : Hid (Below w3.heap.size w3 w6) := (by first | exact below_then HBC.out hb6 HBC.out.size | exact below_then (below_drew HBC.out) hb6 HBC.out.size); have HPO := Lib.hid (hpo.past HF.out (by omega)); have HU6 := Lib.hid hu6; obtain ⟨A6, c6, rfl⟩ := u32s_form hu6; clear hu6 hpo hb6)
        | (go_at_call 20; refine (ENQ.out _ HB6.out _ rs HU6.out HPO.out).mono ?_; rintro e w7 ⟨A7, c7, rfl, hi7, hb7⟩; have HB7 : Hid (Below w3.heap.size w3 w7) := below_then HB6.out hb7 HB6.out.size; have BI7 := Lib.hid (bits_any (enterL ks ps n (pfun rs) dm t) A7 c7 _ hi7 (fun k hk => by have := (INQ.out rs HPO.out k hk).1; omega)); clear hi7 hb7)
        | (go_at_call_of 11 (Value.slice A7 (enterL ks ps n (pfun rs) dm t).length c7); refine BI7.out.mono ?_; rintro e w9 ⟨rfl, rfl⟩)
        | (go_at_call 22; refine (LVd.out _ HB7.out).mono ?_; rintro e w8 ⟨A8, c8, rfl, hi8, hb8⟩; have HB8 : Hid (Below w3.heap.size w3 w8) := below_then HB7.out hb8 HB7.out.size; have BI8 := Lib.hid (bits_any Ld A8 c8 _ hi8 (fun k hk => by have := HLT.out k hk; omega)); clear hi8 hb8)
        | (go_at_call 11; refine BI8.out.mono ?_; rintro e w10 ⟨rfl, rfl⟩))
    have INR := Lib.hid (INQ.out rs HPO.out)
    clear INQ LNQ ENQ HU6 BI7 BI8 PS
    generalize enterL ks ps n (pfun rs) dm t = E at *
    have hE32 : setN E < 4294967296 := setN_lt32 (n := n) (fun k hk => (INR.out k hk).1) (by omega)
    have hL32 : setN Ld < 4294967296 := setN_lt32 (n := n) HLT.out (by omega)
    have hor := u32_or_nat (setN E) (setN Ld) hE32 hL32
    have hO32 : setN E ||| setN Ld < 4294967296 := Nat.or_lt_two_pow (n := 32) hE32 hL32
    have BT := Lib.hid (fun k (hk : k < 32) => bit01 (setN E ||| setN Ld) k hO32 hk)
    have HNB : Hid (∀ k, k < n → ((k : Int) = dm ∨ undB ps k dm = false) → (setN E ||| setN Ld).testBit k = false) := fun k hk hd => by
      have hno : ∀ (_ : k < n ∧ (k : Int) ≠ dm ∧ Und ps k dm), False := fun ⟨_, h1, h2⟩ => by
        rcases hd with h3 | h3
        · exact h1 h3
        · rw [(undB_iff HF.out hk).2 h2] at h3; cases h3
      rw [Nat.testBit_or, setN_bit, setN_bit, decide_eq_false (fun hm => hno (INR.out k hm)), decide_eq_false (fun hm => by obtain ⟨h1, _, h2⟩ := HLM.out k hm; exact hno ⟨h1, h2⟩)]
      rfl
    have hand := u32_and_nat (setN Ld) s hL32 hs32
    rw [HLP.out] at hand
    have HHO := Lib.hid hor
    have HHA := Lib.hid hand
    clear hand hor
    generalize setN E = xE at *
    generalize setN Ld = xL at *
    go_wp2
    go_loopw [77] (fun i wr => ∃ k : Nat, k ≤ n ∧ i = .int .i64 k ∧ Hid (Below w3.heap.size w3 wr)) (fun i _ => n - (intOf i).toNat)
    case atStart => exact ⟨0, Nat.zero_le _, rfl, HB8.out⟩
    case round =>
      obtain ⟨k, hk, rfl, HB⟩ := hrel
      obtain ⟨y0, y1, y2, y3⟩ := CELLS.out _ HB.out
      have hbz := HB.out.size
      by_cases hlk : k < n
      · have hki : (k : Int) < n := by omega
        have hk32 : (k : Int) < 32 := by omega
        have hbt := BT.out k (by omega)
        have hor := HHO.out
        have UDk := Lib.hid (UD.out wr HB.out k dm hlk)
        by_cases hkd : (k : Int) = dm
        · have g1 : ((k : Int) == dm) = true := by simp [hkd]
          rw [HNB.out k hlk (.inl hkd), if_neg (by simp)] at hbt
          clear hkd
          go_wp2
          go_roundw
          case rel => exact ⟨k + 1, by omega, by go_num, HB⟩
          case measure => simp [intOf]; omega
        · have g1 : ((k : Int) == dm) = false := by simpa using hkd
          cases hun : undB ps k dm
          · rw [HNB.out k hlk (.inr hun), if_neg (by simp)] at hbt
            rw [hun] at UDk
            clear hun hkd
            go_wp2_with (go_at_call 23; refine UDk.out.mono ?_; rintro e w11 ⟨rfl, hb11⟩)
            go_roundw
            case rel => exact ⟨k + 1, by omega, by go_num, below_then HB.out hb11 hbz⟩
            case measure => simp [intOf]; omega
          · rw [hun] at UDk
            clear hun hkd
            go_wp2_with (go_at_call 23; refine UDk.out.mono ?_; rintro e w11 ⟨rfl, hb11⟩)
            go_roundw
            case rel => exact ⟨k + 1, by omega, by go_num, below_then HB.out hb11 hbz⟩
            case measure => simp [intOf]; omega
      · have hand := HHA.out
        have g5 : ((xL : Int) == xL) = true := by simp
        have g6 : ((s : Int) == s) = true := by simp
        go_wp2_with (first
          | (go_at_call 22; refine (LVt.out _ HB.out).mono ?_; rintro e w11 ⟨A11, c11, rfl, hi11, hb11⟩; have HB11 : Hid (Below w3.heap.size w3 w11) := below_then HB.out hb11 hbz; have BI11 := Lib.hid (bits_any Lt A11 c11 _ hi11 (fun k hk => by have := HLWT.out k hk; omega)); rw [HLW.out] at BI11; clear hi11 hb11)
          | (go_at_call 11; refine BI11.out.mono ?_; rintro e w12 ⟨rfl, rfl⟩)
          | (go_at_call 15; refine (wakes07 _).mono ?_; rintro e w13 ⟨rfl, hb13⟩))
        go_ret
        exact ⟨rfl, below_then HB3.out (below_then HB11.out hb13 HB11.out.size) HB3.out.size⟩
end Go.Proofs.Ytaolebdcmdmnjaa
