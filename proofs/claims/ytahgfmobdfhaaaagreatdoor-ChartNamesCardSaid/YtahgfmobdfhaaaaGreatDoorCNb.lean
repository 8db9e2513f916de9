/-
  ChartNames: the walk, with two parts of it left for themselves.
-/
import Derived.Test.YtahgfmobdfhaaaaGreatDoorCNa
namespace Go.Proofs.YtahgfmobdfhaaaaGreatDoor
set_option maxRecDepth 100000
open Go.ChangeShapes Go.WideShapes Go.ChangeAt Go.RowKit

set_option maxHeartbeats 8000000 in
noncomputable def cnCut : PSigma fun G1 : Prop => PSigma fun G2 : Prop => CutG G1 → CutG G2 → CNSt := by
 refine ⟨?_, ?_, ?_⟩
 rotate_left 2
 ·intro hG1 hG2 w v zs hz hg ht
  have hz1 : IntsAt (w.alloc (.cells #[v] 24)) v zs := hz.below ((Below.refl _ _).alloc (Nat.le_refl _) _)
  have CX := Lib.hid (chartTx_any v zs _ hz1)
  have PX := Lib.hid (fun t W => PlayRules_any t W)
  have HB0 : Hid (Below w.heap.size w (w.alloc (.cells #[v] 24))) := (Below.refl _ _).alloc (Nat.le_refl _) _
  have HG := Lib.hid hg
  have HT := Lib.hid ht
  obtain ⟨A0, n0, c0, rfl⟩ := ints_slice hz
  clear hz hz1 hg ht
  go_enter Tryz.func3, Tryz.ntmps3
  go_upto_region 2 with (first
    | (go_at_call 5; refine CX.out.mono ?_; rintro e w1 ⟨t, rfl, -, -, hb1⟩; have PY := Lib.hid (PX.out t); have HB1 := Lib.hid (below_then HB0.out hb1 HB0.out.size); have PF := Lib.hid (pol_fields t.data.toList); have PL := (pol_facts t.data.toList).1; have CP := Lib.hid (fun acc A cap base W => Comp_pol (s := t.data.toList) acc A cap base W); clear hb1; generalize (polT t.data.toList).l = L at *)
    | (go_at_call 4; refine (PY.out _).mono ?_; rintro e w2 ⟨hb2, vv, acc, rfl, hacc, hr⟩; obtain ⟨A, cap, rfl⟩ := own_slice hr.1; have HB2 := Lib.hid (below_then HB1.out hb2 HB1.out.size); have HR := Lib.hid (rIn_of hr); have hcap := own_cap hr.1; have CC := Lib.hid (CP.out acc A cap _ w2 hr hacc (HG.out.below' HB2.out) (HT.out.below HB2.out)); clear hr hb2 CP PX CX PY; subst hacc))
  clear HB0 HB1
  by_cases hno : ∀ c, compL (acc.map er) ≠ .ok c
  · have NC := Lib.hid (CC.out.mono fun e w' h => noTo_of hno h)
    clear CC hno
    go_upto_region 3 with (go_at_call 6; refine NC.out.mono ?_; rintro e w3 ⟨hb3, t9, v9, rfl⟩; have HB3 := Lib.hid (below_then HB2.out hb3 HB2.out.size); clear hb3)
    have R3 := heap_alloc_new w3 (.cells #[.slice none 0 0, .slice none 0 0, .slice none 0 0, .slice none 0 0] 33)
    have HB4 := Lib.hid (below_then HB3.out (box_b w3 (.cells #[.slice none 0 0, .slice none 0 0, .slice none 0 0, .slice none 0 0] 33)) HB3.out.size)
    have q0 := cell_of_row _ _ 0 _ _ _ R3
    have q3 := cell_of_row _ _ 3 _ _ _ R3
    clear R3
    generalize w3.alloc (.cells #[.slice none 0 0, .slice none 0 0, .slice none 0 0, .slice none 0 0] 33) = w4 at *
    go_wp2_with (go_at_call 7; refine (wakes08 _ (HG.out.below' HB4.out) (HT.out.below HB4.out)).mono ?_; rintro e w5 ⟨rfl, hb5⟩; (try dsimp only))
    go_ret
    exact ⟨rfl, below_then HB4.out hb5 HB4.out.size⟩
  obtain ⟨c, hc⟩ : ∃ c, compL (acc.map er) = .ok c := Classical.byContradiction fun h => hno fun c e => h ⟨c, e⟩
  have YC := Lib.hid (CC.out.mono fun e w' h => yesTo_of (by rw [hc] at h; exact h))
  have ST := Lib.hid (fun k (hk : k < acc.length) (h8 : acc[k].1.kind = 8) => by have := st_at hc PF.out k (by simpa using hk) (by simpa [er] using h8); simpa [er] using this)
  have TR := Lib.hid (fun k (hk : k < acc.length) (h8 : isTr acc[k].1) => by have := tr_at hc k (by simpa using hk) (by simpa [er] using h8); simpa [er] using this)
  have NO := Lib.hid (fun k (hk : k < acc.length) (h8 : acc[k].1.kind ≠ 8) (ht : ¬ isTr acc[k].1) => no_at (l := acc.map er) k (by simpa using hk) (by simpa [er] using h8) (by simpa [er] using ht))
  have KD : Hid (∀ k (hk : k < acc.length), 1 ≤ acc[k].1.kind ∧ acc[k].1.kind ≤ 11) := fun k hk => (PF.out (er acc[k]) (List.mem_map_of_mem (List.getElem_mem hk))).kd
  have NE := n_end hc
  rw [List.length_map] at NE
  have NE := Lib.hid NE
  have VB := Lib.hid (comp_valid hc PF.out)
  have hnl := (comp_ok hc).nl
  have htl := (comp_ok hc).tl
  have hal : acc.length ≤ 160 := by simpa using PL
  clear PL
  have H0 : nSt (acc.map er) 0 = 0 ∧ nTr (acc.map er) 0 = 0 := ⟨rfl, rfl⟩
  clear CC hno hc PF
  generalize nSt (acc.map er) = nS at *
  generalize nTr (acc.map er) = nT at *
  go_upto_region 3 with (go_at_call 6; refine YC.out.mono ?_; rintro e w3 ⟨hb3, AN, cN, AK, cK, AP, cP, AT, cT, rfl, hLN, hLI, hLT, hct⟩; have HB3 := Lib.hid (below_then HB2.out hb3 HB2.out.size); have HR3 := Lib.hid (HR.out.below hb3); have HLN := Lib.hid hLN; have HLI := Lib.hid hLI; have HLT := Lib.hid hLT; clear hb3 hLN hLI hLT)
  have hbx := box_b w3 (.cells #[.slice AN c.names.length cN, .slice AK c.kinds.length cK, .slice AP c.parents.length cP, .slice AT c.trans.length cT] 33)
  have HRC := Lib.hid (heap_alloc_new w3 (.cells #[.slice AN c.names.length cN, .slice AK c.kinds.length cK, .slice AP c.parents.length cP, .slice AT c.trans.length cT] 33))
  have hbl : w3.heap.size < (w3.alloc (.cells #[.slice AN c.names.length cN, .slice AK c.kinds.length cK, .slice AP c.parents.length cP, .slice AT c.trans.length cT] 33)).heap.size := by simp
  have HB4 := Lib.hid (below_then HB3.out hbx HB3.out.size)
  have HR4 := Lib.hid (HR3.out.below hbx)
  have HN4 := Lib.hid (HLN.out.below hbx)
  have HI4 : Hid (IntsAt (w3.alloc (.cells #[.slice AN c.names.length cN, .slice AK c.kinds.length cK, .slice AP c.parents.length cP, .slice AT c.trans.length cT] 33)) (.slice AK c.kinds.length cK) c.kinds ∧ IntsAt (w3.alloc (.cells #[.slice AN c.names.length cN, .slice AK c.kinds.length cK, .slice AP c.parents.length cP, .slice AT c.trans.length cT] 33)) (.slice AP c.parents.length cP) c.parents) := ⟨HLI.out.1.below hbx, HLI.out.2.below hbx⟩
  have HT4 := Lib.hid (HLT.out.below hbx)
  clear hbx HR HR3 HLN HLI HLT HB2 HB3 YC
  generalize w3.heap.size = gb at *
  generalize w3.alloc (.cells #[.slice AN c.names.length cN, .slice AK c.kinds.length cK, .slice AP c.parents.length cP, .slice AT c.trans.length cT] 33) = w4 at *
  have VV := Lib.hid (CValid_yes c AN AK AP AT cN cK cP cT w4 HN4.out HI4.out HT4.out hct hnl VB.out)
  have q0 := cell_of_row _ _ 0 _ _ _ HRC.out; have q1 := cell_of_row _ _ 1 _ _ _ HRC.out; have q2 := cell_of_row _ _ 2 _ _ _ HRC.out; have q3 := cell_of_row _ _ 3 _ _ _ HRC.out
  go_upto_region 9 with (go_at_call 8; refine VV.out.mono ?_; rintro e w5 ⟨rfl, hb5⟩; have HB5 := Lib.hid hb5; clear hb5)
  clear q0 q1 q2 q3 VV VB
  go_loopw [6, 7, 40] (fun n m i wr => ∃ k : Nat, k ≤ acc.length ∧ n = .int .i64 (nS k : Nat) ∧ m = .int .i64 (nT k : Nat) ∧ i = .int .i64 k ∧ Hid (Below w4.heap.size w4 wr)) (fun _ _ i _ => acc.length - (intOf i).toNat)
  case atStart => exact ⟨0, Nat.zero_le _, by rw [H0.1]; rfl, by rw [H0.2]; rfl, rfl, HB5.out⟩
  case round =>
    obtain ⟨k, hk, rfl, rfl, rfl, HB⟩ := hrel
    have HBW := Lib.hid (below_then HB4.out HB.out HB4.out.size)
    have RCw := (HB.out.block _ hbl).trans HRC.out
    by_cases hlt : k < acc.length
    · obtain ⟨g, rfl, hgl, hcell, B, c2, e2, hL⟩ := HR4.out k hlt
      have hkd := KD.out k hlt
      have STk := ST.out k hlt
      have TRk := TR.out k hlt
      have NOk := NO.out k hlt
      have q := fun f u hf hu => (HB.out.cell (p := ⟨g, k * 11 + f, none⟩) hgl).trans (hcell f u hf hu)
      clear hcell hL
      generalize acc[k] = x at *
      obtain ⟨⟨kd, nm, l, rn, rm, rf, rt, rb, ra, ri⟩, ln, L⟩ := x
      obtain rfl : L = .slice B l.length c2 := e2
      simp only at hkd STk TRk NOk
      have q0 := q 0 _ (by omega) rfl; have q1 := q 1 _ (by omega) rfl; have q2 := q 2 _ (by omega) rfl; have q3 := q 3 _ (by omega) rfl; have q4 := q 4 _ (by omega) rfl; have q5 := q 5 _ (by omega) rfl; have q6 := q 6 _ (by omega) rfl; have q7 := q 7 _ (by omega) rfl; have q8 := q 8 _ (by omega) rfl; have q9 := q 9 _ (by omega) rfl; have q10 := q 10 _ (by omega) rfl
      simp only [Nat.add_zero] at q0
      clear q
      go_upto_region 11 with fail
      have hbx := box_b wr (.cells #[.int .i64 kd, .string (bs nm), .slice B l.length c2, .int .i64 rn, .int .i64 rm, .string (bs rf), .string (bs rt), .string (bs rb), .string (bs ra), .string (bs ri), .int .i64 ln] 41)
      have R0 := heap_alloc_new wr (.cells #[.int .i64 kd, .string (bs nm), .slice B l.length c2, .int .i64 rn, .int .i64 rm, .string (bs rf), .string (bs rt), .string (bs rb), .string (bs ra), .string (bs ri), .int .i64 ln] 41)
      have HBX := Lib.hid (below_then HB.out hbx HB.out.size)
      have RC9 := (hbx.block _ (Nat.lt_of_lt_of_le hbl HB.out.size)).trans RCw
      clear q0 q1 q2 q3 q4 q5 q6 q7 q8 q9 q10 hbx RCw
      generalize wr.heap.size = gr at *
      generalize wr.alloc (.cells #[.int .i64 kd, .string (bs nm), .slice B l.length c2, .int .i64 rn, .int .i64 rm, .string (bs rf), .string (bs rt), .string (bs rb), .string (bs ra), .string (bs ri), .int .i64 ln] 41) = wx at *
      have HRX : Hid (∀ n, (wx.drewN n).heap[gb]? = some (.cells #[.slice AN c.names.length cN, .slice AK c.kinds.length cK, .slice AP c.parents.length cP, .slice AT c.trans.length cT] 33 (0, 0)) ∧ (wx.drewN n).heap[gr]? = some (.cells #[.int .i64 kd, .string (bs nm), .slice B l.length c2, .int .i64 rn, .int .i64 rm, .string (bs rf), .string (bs rt), .string (bs rb), .string (bs ra), .string (bs ri), .int .i64 ln] 41 (0, 0))) := fun n => ⟨RC9, R0⟩
      have u0 := cell_of_row _ _ 0 _ _ _ RC9; have u1 := cell_of_row _ _ 1 _ _ _ RC9; have u2 := cell_of_row _ _ 2 _ _ _ RC9; have u3 := cell_of_row _ _ 3 _ _ _ RC9
      have p0 := row_q0 R0; have p1 := row_q1 R0; have p2 := row_q2 R0; have p3 := row_q3 R0; have p5 := row_q5 R0; have p6 := row_q6 R0; have p7 := row_q7 R0; have p8 := row_q8 R0; have p9 := row_q9 R0
      clear R0 RC9
      by_cases h8 : kd = 8
      · skip
        rename_i zz1 zz2 zz3 zz4 zz5 zz6 zz7 zz8 zz9
        revert w zs HG HT A0 n0 c0 w1 t w2 acc cap hcap c KD hnl htl hal nS nT ST TR NO zz1 NE H0 w3 AN cN AK cK AP cP AT cT hct gb w4 HB4 HN4 HI4 HT4 HRC hbl w5 HB5 zz2 zz3 wr zz4 u9 u10 u11 u41 u42 u43 u44 u45 u46 u47 u48 u49 u50 u51 u52 u53 u54 u55 u56 u57 u58 u59 u60 u61 u62 u63 u64 u65 u66 u67 u68 u69 u70 u71 u72 u73 u74 u75 u76 u77 u78 u79 u80 u81 u82 u83 u84 u85 u86 u87 u88 u89 u90 u91 u92 u93 u94 u95 u96 u97 u98 u99 u100 u101 u102 u103 u104 u105 u106 u107 u108 u109 u110 u111 u112 u113 u114 u115 u116 u117 u118 u119 u120 u121 u122 u123 u124 u125 u126 u127 u128 u129 u130 u131 u132 u133 u134 u135 u136 u137 u138 u139 u140 u141 u142 u143 u144 u145 u146 u147 u148 u149 u150 u151 u152 u153 u154 u155 u156 u157 u158 u159 u160 u161 u162 u163 u164 u165 u166 u167 u168 u169 u170 u171 u172 u173 u174 u175 u176 u177 u178 u179 u180 u181 u182 u183 u184 u185 u186 u187 u188 u189 u190 u191 u192 u193 u194 u195 u196 u197 u198 u199 u200 u201 u202 u203 u204 u205 u206 u207 u208 u209 u210 u211 u212 u213 u214 u215 u216 u217 u218 u219 u220 u221 u222 u223 u224 u225 k hk HB HBW hlt g HR4 hgl B c2 kd nm l rn rm rf rt rb ra ri ln hkd STk TRk NOk zz5 zz6 zz7 zz8 zz9 gr wx HBX HRX u0 u1 u2 u3 p0 p1 p2 p3 p5 p6 p7 p8 p9 h8
        exact hG1.out
      by_cases ht : isTr ⟨kd, nm, l, rn, rm, rf, rt, rb, ra, ri⟩
      · skip
        rename_i zz1 zz2 zz3 zz4 zz5 zz6 zz7 zz8 zz9
        revert w zs HG HT A0 n0 c0 w1 t w2 acc cap hcap c KD hnl htl hal nS nT ST TR NO zz1 NE H0 w3 AN cN AK cK AP cP AT cT hct gb w4 HB4 HN4 HI4 HT4 HRC hbl w5 HB5 zz2 zz3 wr zz4 u9 u10 u11 u41 u42 u43 u44 u45 u46 u47 u48 u49 u50 u51 u52 u53 u54 u55 u56 u57 u58 u59 u60 u61 u62 u63 u64 u65 u66 u67 u68 u69 u70 u71 u72 u73 u74 u75 u76 u77 u78 u79 u80 u81 u82 u83 u84 u85 u86 u87 u88 u89 u90 u91 u92 u93 u94 u95 u96 u97 u98 u99 u100 u101 u102 u103 u104 u105 u106 u107 u108 u109 u110 u111 u112 u113 u114 u115 u116 u117 u118 u119 u120 u121 u122 u123 u124 u125 u126 u127 u128 u129 u130 u131 u132 u133 u134 u135 u136 u137 u138 u139 u140 u141 u142 u143 u144 u145 u146 u147 u148 u149 u150 u151 u152 u153 u154 u155 u156 u157 u158 u159 u160 u161 u162 u163 u164 u165 u166 u167 u168 u169 u170 u171 u172 u173 u174 u175 u176 u177 u178 u179 u180 u181 u182 u183 u184 u185 u186 u187 u188 u189 u190 u191 u192 u193 u194 u195 u196 u197 u198 u199 u200 u201 u202 u203 u204 u205 u206 u207 u208 u209 u210 u211 u212 u213 u214 u215 u216 u217 u218 u219 u220 u221 u222 u223 u224 u225 k hk HB HBW hlt g HR4 hgl B c2 kd nm l rn rm rf rt rb ra ri ln hkd STk TRk NOk zz5 zz6 zz7 zz8 zz9 gr wx HBX HRX u0 u1 u2 u3 p0 p1 p2 p3 p5 p6 p7 p8 p9 h8 ht
        exact hG2.out
      · obtain ⟨n1, n2⟩ := NOk h8 ht
        have g8 : (kd == 8) = false := beq_eq_false_iff_ne.2 h8
        have g9 : decide ((9 : Int) ≤ kd) = false := decide_eq_false fun h => ht (show kd = 9 ∨ kd = 10 ∨ kd = 11 by omega)
        clear NOk STk TRk
        go_wp2
        go_roundw
        case rel => exact ⟨k + 1, by omega, by rw [n1], by rw [n2], by go_num, HBX.out⟩
        case measure => simp [intOf]; omega
    · obtain ⟨e1, e2⟩ := NE.out
      have ek : k = acc.length := by omega
      subst ek
      have u0 := cell_of_row _ _ 0 _ _ _ RCw; have u3 := cell_of_row _ _ 3 _ _ _ RCw
      rw [e1, e2]
      go_wp2_with (go_at_call 7; refine (wakes08 _ (HG.out.below' HBW.out) (HT.out.below HBW.out)).mono ?_; rintro e w5 ⟨rfl, hb5⟩; (try dsimp only))
      go_ret
      exact ⟨rfl, below_then HBW.out hb5 HBW.out.size⟩
end Go.Proofs.YtahgfmobdfhaaaaGreatDoor
