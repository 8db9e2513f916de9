/-
  The document's Compile: a rule of a transition.
-/
import Derived.Test.YtaoinedndnleoaaGreatRc2a
namespace Go.Proofs.YtaoinedndnleoaaGreat
set_option maxRecDepth 100000
open Go.ChangeShapes Go.WideShapes Go.ChangeAt Go.RowKit

set_option maxHeartbeats 8000000 in
theorem rc_trans : rcCut.2.1 := by
  intro acc cap w ha hac HI zz1 w1 hs0 zz2 u4 u5 u6 u21 u22 u23 u24 u25 u26 u27 u28 u29 u30 u31 u32 u33 u34 u35 zz3 zz4 HB zz5 i0 hi hz0 hz1 hz2 zz6 zz7 u9 u39 u40 u41 u42 u43 u44 u45 u46 u47 u48 u49 u50 zz8 AN cN HKD NS hnsl HTD HNS zz9 zz10 zz11 w3 HRB HEN hwr2 HLN wr u12 u13 u14 u15 u16 u17 u54 u55 u56 u57 u58 u59 u60 u61 u62 u63 u64 u65 u66 u67 u68 u69 u70 u71 u72 u73 u74 u75 u76 u77 u78 u79 u80 u81 u82 u83 u84 u85 u86 u87 u88 u89 u90 u91 u92 u93 u94 u95 u96 u97 u98 u99 u100 u101 u102 u103 u104 u105 u106 u107 u108 u109 u110 u111 u112 u113 u114 u115 u116 u117 u118 u119 u120 u121 u122 u123 u124 u125 u126 u127 u128 u129 u130 u131 u132 u133 u134 u135 u136 u137 u138 u139 u140 u141 u142 u143 u144 u145 u146 u147 u148 u149 u150 u151 u152 u153 u154 u155 u156 u157 u158 u159 u160 u161 u162 u163 u164 u165 u166 u167 u168 u169 u170 u171 u172 u173 u174 u175 u176 u177 u178 u179 u180 u181 u182 u183 u184 u185 u186 u187 u188 u189 u190 u191 u192 u193 u194 u195 u196 u197 u198 k c hk HCF hlt g HR zz12 zz13 zz14 zz15 hgl B c2 kd nm l rn rm rf rt rb ra ri ln HCT HRFk zz16 zz17 zz18 zz19 zz20 gr hgr wy HR0 p0 A1 c1 A2 c4 A3 c3 A4 c5 HD2 HIX s0 s1 s2 s3 h8 g8 h9
  have h9i : (9 : Int) ≤ kd := h9
  have hkd : 1 ≤ kd ∧ kd ≤ 11 := HRFk.out.kd
  have hTr : isTr ⟨kd, nm, l, rn, rm, rf, rt, rb, ra, ri⟩ := by show kd = 9 ∨ kd = 10 ∨ kd = 11; omega
  have HTE : Hid (takeE (stsOf (acc.map er)) c ⟨kd, nm, l, rn, rm, rf, rt, rb, ra, ri⟩ = trErr (stsOf (acc.map er)) c ⟨kd, nm, l, rn, rm, rf, rt, rb, ra, ri⟩) := by show _ = _; unfold takeE; rw [if_neg (by exact h8), if_pos hTr]
  have HTC : Hid (takeC (stsOf (acc.map er)) c ⟨kd, nm, l, rn, rm, rf, rt, rb, ra, ri⟩ = trAdd (stsOf (acc.map er)) c ⟨kd, nm, l, rn, rm, rf, rt, rb, ra, ri⟩) := by show _ = _; unfold takeC; rw [if_neg (by exact h8), if_pos hTr]
  have HNX : Hid (takeE (stsOf (acc.map er)) c ⟨kd, nm, l, rn, rm, rf, rt, rb, ra, ri⟩ = 0 → ChF (takeC (stsOf (acc.map er)) c ⟨kd, nm, l, rn, rm, rf, rt, rb, ra, ri⟩) ∧ ChI (takeC (stsOf (acc.map er)) c ⟨kd, nm, l, rn, rm, rf, rt, rb, ra, ri⟩) ∧ okK (takeC (stsOf (acc.map er)) c ⟨kd, nm, l, rn, rm, rf, rt, rb, ra, ri⟩).kinds) := fun h =>
    ⟨take_f HCF.out.1 h, by rw [HTC.out]; exact HCF.out.2.1, by rw [HTC.out]; exact HCF.out.2.2⟩
  have SD := HTD.out c ⟨kd, nm, l, rn, rm, rf, rt, rb, ra, ri⟩
  rw [HTE.out, HTC.out] at HCT HNX
  simp only at SD
  have HTA : Hid (trAdd (stsOf (acc.map er)) c ⟨kd, nm, l, rn, rm, rf, rt, rb, ra, ri⟩ = { c with trans := c.trans ++ [⟨kd, idxI NS rf, idxI NS rt, nm, rb, ra, rn⟩] }) := by show _ = _; unfold trAdd trOf frS toS; rw [HNS.out]
  have hn0 : kd ≠ 11 → rn = 0 := fun h => by
    rcases hTr with h1 | h1 | h1
    · exact (HRFk.out.on h1).2.2.2
    · exact (HRFk.out.au h1).2.2.2
    · exact absurd h1 h
  have hKD := HKD.out rf
  have HKO := Lib.hid (fun W (hW : Below wy.heap.size wy W) => RKindOf_any acc rf (some ⟨g, 0, none⟩) cap W (HR.out.below (below_then (below_then HRB.out HD2.out.be HRB.out.size) hW (below_then HRB.out HD2.out.be HRB.out.size).size)) ha hac)
  clear HTE HTC hTr HRFk hkd HTD HKD
  generalize trErr (stsOf (acc.map er)) c ⟨kd, nm, l, rn, rm, rf, rt, rb, ra, ri⟩ = es at *
  generalize trAdd (stsOf (acc.map er)) c ⟨kd, nm, l, rn, rm, rf, rt, rb, ra, ri⟩ = cn at *
  have p5 := row_q5 HR0.out; have p6 := row_q6 HR0.out
  have hbl := HD2.out.lt
  have FD : Hid (∀ X, Below wy.heap.size wy X → ∀ y, Calls Tryz.prog 59 #[.slice AN NS.length cN, .string (bs y)] X fun e w' => e = .returned (.int .i64 (idxI NS y)) ∧ Below X.heap.size X w') := fun X hX y =>
    (RIx_any NS y AN cN X ((HLN.out.below HD2.out.be).below hX) (by omega)).mono fun e w' h => ⟨h.1, by rw [← h.2]; exact Below.refl _ _⟩
  have hgl := (Array.getElem?_eq_some_iff.1 HR0.out).1
  have hq := idxI_lt NS rf
  have hp := idxI_lt NS rt
  generalize hqn : idxI NS rf = fn at *
  generalize hpn : idxI NS rt = tn at *
  have FR : Hid (∀ X, Below wy.heap.size wy X → Calls Tryz.prog 59 #[.slice AN NS.length cN, .string (bs rf)] X fun e w' => e = .returned (.int .i64 fn) ∧ Below X.heap.size X w') := fun X hX => by have := FD.out X hX rf; rw [hqn] at this; exact this
  have FT : Hid (∀ X, Below wy.heap.size wy X → Calls Tryz.prog 59 #[.slice AN NS.length cN, .string (bs rt)] X fun e w' => e = .returned (.int .i64 tn) ∧ Below X.heap.size X w') := fun X hX => by have := FD.out X hX rt; rw [hpn] at this; exact this
  clear hqn hpn HIX FD
  go_upto_region 33 with fail
  go_cut [15, 16] (fun x y wr => x = .int .i64 fn ∧ y = .int .i64 tn ∧ Hid (Below wy.heap.size wy wr))
  case first =>
    go_region_held3 (fun w' => w'.cell? ⟨gr, 5, none⟩ = some (.string (bs rf)) ∧ w'.cell? ⟨gr, 6, none⟩ = some (.string (bs rt)))
      (first | exact ⟨p5, p6⟩ | exact ⟨(HB5.out.cell (p := ⟨gr, 5, none⟩) hgl).trans p5, (HB5.out.cell (p := ⟨gr, 6, none⟩) hgl).trans p6⟩ | exact ⟨(HB6.out.cell (p := ⟨gr, 5, none⟩) hgl).trans p5, (HB6.out.cell (p := ⟨gr, 6, none⟩) hgl).trans p6⟩ | go_keep)
      (first
        | (go_at_call_of 59 (Value.string (bs rf)); refine (FR.out _ (by first | exact Below.refl _ _ | exact below_drew (Below.refl _ _) | exact HB6.out)).mono ?_; rintro e w5 ⟨rfl, hb5⟩; have HB5 : Hid (Below wy.heap.size wy w5) := (by first | exact hb5 | exact below_then (below_drew (Below.refl _ _)) hb5 (Nat.le_refl _) | exact below_then HB6.out hb5 HB6.out.size))
        | (go_at_call_of 59 (Value.string (bs rt)); refine (FT.out _ (by first | exact Below.refl _ _ | exact below_drew (Below.refl _ _) | exact HB5.out)).mono ?_; rintro e w6 ⟨rfl, hb6⟩; have HB6 : Hid (Below wy.heap.size wy w6) := (by first | exact hb6 | exact below_then (below_drew (Below.refl _ _)) hb6 (Nat.le_refl _) | exact below_then HB5.out hb6 HB5.out.size)))
    all_goals
      go_wp2_with fail
      go_meet
      exact ⟨rfl, rfl, by first | exact HB6 | exact HB5⟩
  case rest =>
  obtain ⟨rfl, rfl, HB3⟩ := hcut
  have HD3 := Lib.hid (HD2.out.below HB3.out)
  have HR3 := Lib.hid (row_below HR0.out HB3.out)
  have HKO3 := Lib.hid (fun W (hW : Below wc.heap.size wc W) => HKO.out W (below_then HB3.out hW HB3.out.size))
  clear p5 p6 FR FT hgl HD2 HR0 HKO s0 s1 s2 s3 p0
  obtain ⟨wz, rfl⟩ : ∃ x : World, x = wc := ⟨_, rfl⟩
  have q3 := HD3.out.q3
  have p5 := row_q5 HR3.out
  have htl := HCF.out.1.tl
  go_upto_block 7 with fail
  go_cut [13] (fun x wr => x = .int .i64 es ∧ Hid (Below wz.heap.size wz wr))
  case first =>
    by_cases h1 : 48 ≤ c.trans.length
    · have HE : Hid (es = 5) := by show _ = _; rw [SD, if_pos h1]
      have h1i : (48 : Int) ≤ c.trans.length := by omega
      clear SD
      go_wp2_with fail
      go_meet
      exact ⟨by rw [HE.out], Below.refl _ _⟩
    rw [if_neg h1] at SD
    have h1i : ¬ (48 : Int) ≤ c.trans.length := by omega
    by_cases h2 : fn = -1 ∨ tn = -1
    · have HE : Hid (es = 3) := by show _ = _; rw [SD, if_pos h2]
      clear SD
      by_cases e1 : fn = -1
      · subst e1
        clear h2 hq
        go_wp2_with fail
        (all_goals go_meet)
        (all_goals exact ⟨by rw [HE.out], Below.refl _ _⟩)
      · have e2 : tn = -1 := h2.resolve_left e1
        have hf0 : ¬ fn < 0 := by omega
        subst e2
        clear h2 e1 hq hp
        go_wp2_with fail
        (all_goals go_meet)
        (all_goals exact ⟨by rw [HE.out], Below.refl _ _⟩)
    rw [if_neg h2] at SD
    have hf0 : ¬ fn < 0 := by omega
    have ht0 : ¬ tn < 0 := by omega
    clear h2 hq hp
    generalize kindD (acc.map er) rf = kf at *
    by_cases h3 : 3 ≤ kf
    · have HE : Hid (es = 1) := by show _ = _; rw [SD, if_pos h3]
      clear SD
      go_wp2_with (go_at_call 60; refine (HKO3.out _ (Below.refl _ _)).mono ?_; rintro e w5 ⟨rfl, hb5⟩)
      (all_goals go_meet)
      (all_goals exact ⟨by rw [HE.out], hb5⟩)
    · have HE : Hid (es = 0) := by show _ = _; rw [SD, if_neg h3]
      clear SD
      go_wp2_with (go_at_call 60; refine (HKO3.out _ (Below.refl _ _)).mono ?_; rintro e w5 ⟨rfl, hb5⟩)
      (all_goals go_meet)
      (all_goals exact ⟨by rw [HE.out], hb5⟩)
  case rest =>
  obtain ⟨rfl, HB4⟩ := hcut
  have HD4 := Lib.hid (HD3.out.below HB4.out)
  have HR4 := Lib.hid (row_below HR3.out HB4.out)
  clear SD HD3 HR3 HKO3 q3 p5 HB3 HB4 hq hp
  obtain ⟨i1, ti, tz0, tz1, tz2⟩ := info_parts Tryz.infoTransD
  have p0 := row_q0 HR4.out; have p1 := row_q1 HR4.out; have p3 := row_q3 HR4.out; have p7 := row_q7 HR4.out; have p8 := row_q8 HR4.out
  obtain ⟨wv, rfl⟩ : ∃ x : World, x = wc := ⟨_, rfl⟩
  have hgl4 := (Array.getElem?_eq_some_iff.1 HR4.out).1
  go_upto_if 181 with fail
  have HBT := Lib.hid (box_b wv (.cells #[.int .i64 kd, .int .i64 fn, .int .i64 tn, .string (bs nm), .string (bs rb), .string (bs ra), .int .i64 0] 97))
  have HXT := Lib.hid (heap_alloc_new wv (.cells #[.int .i64 kd, .int .i64 fn, .int .i64 tn, .string (bs nm), .string (bs rb), .string (bs ra), .int .i64 0] 97))
  have HR5 := Lib.hid (row_below HR4.out HBT.out)
  have hgx : wv.heap.size ≠ gr := by omega
  clear p0 p1 p3 p7 p8
  generalize wv.alloc (.cells #[.int .i64 kd, .int .i64 fn, .int .i64 tn, .string (bs nm), .string (bs rb), .string (bs ra), .int .i64 0] 97) = wt at *
  have p3 := row_q3 HR5.out
  go_cut [13] (fun x wr => x = .int .i64 es ∧ Hid (Below wv.heap.size wv wr) ∧ Hid (wr.heap[wv.heap.size]? = some (.cells #[.int .i64 kd, .int .i64 fn, .int .i64 tn, .string (bs nm), .string (bs rb), .string (bs ra), .int .i64 rn] 97 (0, 0))))
  case first =>
    by_cases h11 : kd = 11
    · have g11 : (kd == 11) = true := by simpa using h11
      have z1 := fz_of HXT.out 6
      have z2 := cell_of_row _ _ 6 _ _ _ HXT.out
      clear h11 hn0
      go_wp2_with fail
      go_meet
      exact ⟨rfl, HBT.out.grown (grown_setCell _ _ _ _) HBT.out.size (fun g e => by cases e; exact Nat.le_refl _), by have := heap_set (j := 6) HXT.out (.int .i64 rn); show _ = _; simpa using this⟩
    · have g11 : (kd == 11) = false := beq_eq_false_iff_ne.2 h11
      have h0 := hn0 h11
      subst h0
      clear h11 hn0
      go_wp2_with fail
      go_meet
      exact ⟨rfl, HBT.out, HXT.out⟩
  case rest =>
  obtain ⟨rfl, HBX, HXX⟩ := hcut
  have HD6 := Lib.hid (HD4.out.below HBX.out)
  have HR6 := Lib.hid (row_below HR4.out HBX.out)
  clear HD4 HR4 HR5 HBT HXT HBX p3 hn0 hgl4
  have hxl := (Array.getElem?_eq_some_iff.1 HXX.out).1
  have x0 := cell_of_row _ _ 0 _ _ _ HXX.out; have x1 := cell_of_row _ _ 1 _ _ _ HXX.out; have x2 := cell_of_row _ _ 2 _ _ _ HXX.out; have x3 := cell_of_row _ _ 3 _ _ _ HXX.out; have x4 := cell_of_row _ _ 4 _ _ _ HXX.out; have x5 := cell_of_row _ _ 5 _ _ _ HXX.out; have x6 := cell_of_row _ _ 6 _ _ _ HXX.out
  have q3 := HD6.out.q3
  have htl := HCF.out.1.tl
  have hsz := HD6.out.be.size
  obtain ⟨wu, rfl⟩ : ∃ x : World, x = wc := ⟨_, rfl⟩
  go_upto_region 44 with (at_builtin; go_must (refine wpList_append_own _ rfl (.tmp 186) (.tmp 188) 32 rfl w3.heap.size 97 i1 _ 7 80 Tryz.underlying32 ti tz0 tz1 tz2 rfl (by decide) _ _ _ rfl (World.ownsRow.alloc HD6.out.oT _) ⟨wu.heap.size, 0, none⟩ 1 1 (tcells [(⟨kd, fn, tn, nm, rb, ra, rn⟩ : Tr)]) rfl rfl (cells_new _ _ _) (t_oneA _) (by unfold maxLen; omega) (by omega) (by simp; omega) ?_); intro v6 w6 hown6 hg6 _; obtain ⟨A6, c6, rfl⟩ := own_slice hown6; have hr9 := HD6.out.row1 (gr1D hg6) (own_row_ne HD6.out.oT HD6.out.row (by decide)); have z1 := fz_of hr9 2; have z1' := fz_of hr9 3; have z2 := cell_of_row _ _ 3 _ _ _ hr9; have HD9' := Lib.hid (HD6.out.trans (gr1D hg6) (ownTD_snoc hown6)); have HR9 := Lib.hid (ru_keepA (b := w3.heap.size) (j := 3) (v := .slice A6 (c.trans.length + 1) c6) HR6.out (gr1D hg6) (own_row_ne HD6.out.oT HR6.out (by decide)) (by omega)))
  clear hr9 z1 z1' z2 hown6 hg6 HD6 HR6 HXX x0 x1 x2 x3 x4 x5 x6 q3 hxl
  have HD9 := HD9'.out
  rw [← HTA.out] at HD9
  have HD9 := Lib.hid HD9
  clear HD9' HTA
  generalize w6.setCell ⟨w3.heap.size, 3, none⟩ (.slice A6 (c.trans.length + 1) c6) = w7 at *
  clear w6
  by_cases he : es = 0
  · have HCN : Hid (compR (acc.map er) = takeL (stsOf (acc.map er)) ((acc.map er).drop (k + 1)) cn) := by have := HCT.out; rwa [if_pos he] at this
    have HN9 := Lib.hid (HNX.out he)
    subst he
    clear HCT HNX
    go_wp2
    go_roundw
    case rel => exact ⟨k + 1, cn, _, _, _, _, by omega, by go_num, HCN.out, HN9.out, HD9.out⟩
    case measure => simp [intOf]; omega
  · have HBAD : Hid (compR (acc.map er) = .bad ln es) := by have := HCT.out; rwa [if_neg he] at this
    have ge : (es != 0) = true := by simpa using he
    have ge2 : (es == 0) = false := by simpa using he
    have p10 := row_q10 HR9.out
    obtain ⟨RC, RF, hbz⟩ := HEN.out _ HD9.out.be
    have d0 := cell_of_row _ _ 0 _ _ _ RC; have d1 := cell_of_row _ _ 1 _ _ _ RC; have d2 := cell_of_row _ _ 2 _ _ _ RC; have d3 := cell_of_row _ _ 3 _ _ _ RC; have f0 := fz_of RC 0; have f1 := fz_of RC 1; have f2 := fz_of RC 2; have f3 := fz_of RC 3
    have e0 := cell_of_row _ _ 0 _ _ _ RF; have e1 := cell_of_row _ _ 1 _ _ _ RF; have e2 := cell_of_row _ _ 2 _ _ _ RF; have g0 := fz_of RF 0; have g1 := fz_of RF 1; have g2 := fz_of RF 2
    clear HCT HNX he
    go_upto_region 45 with fail
    go_region
    all_goals go_wp2
    all_goals (try simp only [Exit.inBlock, Exit.then])
    all_goals
      have ct := cf_tellD (.slice none 0 0) (.slice none 0 0) (.slice none 0 0) (.slice none 0 0) (.int .i64 ln) (.int .i64 1) (.int .i64 es) RC RF
      refine bodyPost_ret (run_cell2' rfl _ _ w.heap.size (w.heap.size + 1) _ _ _ _ _ _ _ _ rfl rfl ct.1 ct.2 Tryz.underlying34 rfl (by kernel_rfl) Tryz.underlying85 rfl (by kernel_rfl)) rfl ?_
      rw [HBAD.out]
      exact ⟨below_drew (cf_below hbz (Nat.le_refl _) (Nat.le_refl _) _ _ _ _ _ _ _), rfl⟩
end Go.Proofs.YtaoinedndnleoaaGreat
