/-
  ChartNames: a rule of a transition, up to whether it has a time.
-/
import Derived.Test.YtahgfmobdfhaaaaGreatDoorCNb
namespace Go.Proofs.YtahgfmobdfhaaaaGreatDoor
set_option maxRecDepth 100000
open Go.ChangeShapes Go.WideShapes Go.ChangeAt Go.RowKit

set_option maxHeartbeats 8000000 in
noncomputable def cnCutT : PSigma fun G1 : Prop => PSigma fun G2 : Prop => CutG G1 → CutG G2 → cnCut.2.1 := by
 refine ⟨?_, ?_, ?_⟩
 rotate_left 2
 ·intro hG1 hG2
  intro w zs HG HT A0 n0 c0 w1 t w2 acc cap hcap c KD hnl htl hal nS nT ST TR NO zz1 NE H0 w3 AN cN AK cK AP cP AT cT hct gb w4 HB4 HN4 HI4 HT4 HRC hbl w5 HB5 zz2 zz3 wr zz4 u9 u10 u11 u41 u42 u43 u44 u45 u46 u47 u48 u49 u50 u51 u52 u53 u54 u55 u56 u57 u58 u59 u60 u61 u62 u63 u64 u65 u66 u67 u68 u69 u70 u71 u72 u73 u74 u75 u76 u77 u78 u79 u80 u81 u82 u83 u84 u85 u86 u87 u88 u89 u90 u91 u92 u93 u94 u95 u96 u97 u98 u99 u100 u101 u102 u103 u104 u105 u106 u107 u108 u109 u110 u111 u112 u113 u114 u115 u116 u117 u118 u119 u120 u121 u122 u123 u124 u125 u126 u127 u128 u129 u130 u131 u132 u133 u134 u135 u136 u137 u138 u139 u140 u141 u142 u143 u144 u145 u146 u147 u148 u149 u150 u151 u152 u153 u154 u155 u156 u157 u158 u159 u160 u161 u162 u163 u164 u165 u166 u167 u168 u169 u170 u171 u172 u173 u174 u175 u176 u177 u178 u179 u180 u181 u182 u183 u184 u185 u186 u187 u188 u189 u190 u191 u192 u193 u194 u195 u196 u197 u198 u199 u200 u201 u202 u203 u204 u205 u206 u207 u208 u209 u210 u211 u212 u213 u214 u215 u216 u217 u218 u219 u220 u221 u222 u223 u224 u225 k hk HB HBW hlt g HR4 hgl B c2 kd nm l rn rm rf rt rb ra ri ln hkd STk TRk NOk zz5 zz6 zz7 zz8 zz9 gr wx HBX HRX u0 u1 u2 u3 p0 p1 p2 p3 p5 p6 p7 p8 p9 h8 ht
  obtain ⟨TO, n1, n2⟩ := TRk ht
  obtain ⟨f, t, hx, hf, ht2, hnf, hnt⟩ := TO.tr
  have hjl := TO.lt
  obtain ⟨gT, rfl, hgT, hcT⟩ := HT4.out (nT k) hjl
  have eT : c.trans[nT k] = ⟨kd, f, t, nm, rb, ra, rn⟩ := by rw [List.getElem?_eq_getElem hjl] at hx; injection hx
  rw [eT] at hcT
  have q := fun j u hj hu => (HBX.out.cell (p := ⟨gT, nT k * 7 + j, none⟩) hgT).trans (hcT j u hj hu)
  have r0 := q 0 _ (by omega) rfl; have r1 := q 1 _ (by omega) rfl; have r2 := q 2 _ (by omega) rfl; have r3 := q 3 _ (by omega) rfl; have r4 := q 4 _ (by omega) rfl; have r5 := q 5 _ (by omega) rfl; have r6 := q 6 _ (by omega) rfl
  simp only [Nat.add_zero] at r0
  obtain ⟨bN, rfl, hbN, hxf⟩ := HN4.out.2 f hf
  obtain ⟨b9, e9, _, hxt⟩ := HN4.out.2 t ht2
  injection e9 with e9
  injection e9 with e9
  subst e9
  have ef : c.names[f] = rf := by rw [List.getElem?_eq_getElem hf] at hnf; injection hnf
  have et : c.names[t] = rt := by rw [List.getElem?_eq_getElem ht2] at hnt; injection hnt
  rw [ef] at hxf
  rw [et] at hxt
  have yF := (HBX.out.cell (p := ⟨bN, f, none⟩) hbN).trans hxf
  have yT := (HBX.out.cell (p := ⟨bN, t, none⟩) hbN).trans hxt
  have c1 : decide ((c.trans.length : Int) ≤ (nT k : Int)) = false := decide_eq_false (by omega)
  have c2 : decide ((c.names.length : Int) ≤ (f : Int)) = false := decide_eq_false (by omega)
  have c3 : decide ((c.names.length : Int) ≤ (t : Int)) = false := decide_eq_false (by omega)
  have c4 : decide ((f : Int) < 0) = false := decide_eq_false (by omega)
  have c5 : decide ((t : Int) < 0) = false := decide_eq_false (by omega)
  have hcN := HN4.out.1
  have hfN : (f : Int) < c.names.length := by omega
  have htN : (t : Int) < c.names.length := by omega
  have hTT : (nT k : Int) < c.trans.length := by omega
  have hkk : kd = 9 ∨ kd = 10 ∨ kd = 11 := ht
  have s1 : ((bs nm).toList != (bs nm).toList) = false := by simp
  have s2 : ((bs rf).toList != (bs rf).toList) = false := by simp
  have s3 : ((bs rt).toList != (bs rt).toList) = false := by simp
  have s4 : ((bs rb).toList != (bs rb).toList) = false := by simp
  have s5 : ((bs ra).toList != (bs ra).toList) = false := by simp
  have g8 : (kd == 8) = false := beq_eq_false_iff_ne.2 h8
  have g9 : decide ((9 : Int) ≤ kd) = true := decide_eq_true (by rcases hkk with e | e | e <;> omega)
  have g1 : (kd == 11) = true ∨ (kd == 11) = false := by cases kd == 11 <;> simp
  have g2 : (kd != kd) = false := by simp
  have g3 : (rn != rn) = false := by simp
  obtain ⟨RCx, R0x⟩ := HRX.out 0
  have hbt := box_b wx (.cells #[.int .i64 kd, .int .i64 f, .int .i64 t, .string (bs nm), .string (bs rb), .string (bs ra), .int .i64 rn] 43)
  have RT := heap_alloc_new wx (.cells #[.int .i64 kd, .int .i64 f, .int .i64 t, .string (bs nm), .string (bs rb), .string (bs ra), .int .i64 rn] 43)
  have RC' := (hbt.block gb (Array.getElem?_eq_some_iff.1 RCx).1).trans RCx
  have R0' := row_below R0x hbt
  have HBT := Lib.hid (below_then HBX.out hbt HBX.out.size)
  have yF' := (hbt.cell (p := ⟨bN, f, none⟩) (Nat.lt_of_lt_of_le hbN HBX.out.size)).trans yF
  have yT' := (hbt.cell (p := ⟨bN, t, none⟩) (Nat.lt_of_lt_of_le hbN HBX.out.size)).trans yT
  clear TO hx hcT eT q hnf hnt hxf hxt ef et h8 NOk STk ht HRX hkk RCx R0x hbt
  go_upto_region 22 with fail
  clear u0 u1 u2 u3 p0 p1 p2 p3 p5 p6 p7 p8 p9 r0 r1 r2 r3 r4 r5 r6 yF yT
  generalize wx.heap.size = gt at *
  generalize wx.alloc (.cells #[.int .i64 kd, .int .i64 f, .int .i64 t, .string (bs nm), .string (bs rb), .string (bs ra), .int .i64 rn] 43) = wt at *
  have u0 := cell_of_row _ _ 0 _ _ _ RC'
  have p0 := row_q0 R0'; have p1 := row_q1 R0'; have p3 := row_q3 R0'; have p5 := row_q5 R0'; have p6 := row_q6 R0'; have p7 := row_q7 R0'; have p8 := row_q8 R0'
  have z0 := tr_q0 RT; have z1 := tr_q1 RT; have z2 := tr_q2 RT; have z3 := tr_q3 RT; have z4 := tr_q4 RT; have z5 := tr_q5 RT; have z6 := tr_q6 RT
  simp only [List.append_eq, List.cons_append, List.nil_append]
  rcases g1 with g1 | g1
  · skip
    rename_i zG5x1 zG5x2 zG5x3 zG5x4 zG5x5 zG5x6 zG5x7 zG5x8 zG5x9 zG5x10
    revert w zs HG HT A0 n0 c0 w1 zG5x1 w2 acc cap hcap c KD hnl htl hal nS nT ST TR NO zz1 NE H0 w3 cN AK cK AP cP cT hct gb w4 HB4 HI4 hbl w5 HB5 zz2 zz3 wr zz4 u9 u10 u11 u41 u42 u43 u44 u45 u46 u47 u48 u49 u50 u51 u52 u53 u54 u55 u56 u57 u58 u59 u60 u61 u62 u63 u64 u65 u66 u67 u68 u69 u70 u71 u72 u73 u74 u75 u76 u77 u78 u79 u80 u81 u82 u83 u84 u85 u86 u87 u88 u89 u90 u91 u92 u93 u94 u95 u96 u97 u98 u99 u100 u101 u102 u103 u104 u105 u106 u107 u108 u109 u110 u111 u112 u113 u114 u115 u116 u117 u118 u119 u120 u121 u122 u123 u124 u125 u126 u127 u128 u129 u130 u131 u132 u133 u134 u135 u136 u137 u138 u139 u140 u141 u142 u143 u144 u145 u146 u147 u148 u149 u150 u151 u152 u153 u154 u155 u156 u157 u158 u159 u160 u161 u162 u163 u164 u165 u166 u167 u168 u169 u170 u171 u172 u173 u174 u175 u176 u177 u178 u179 u180 u181 u182 u183 u184 u185 u186 u187 u188 u189 u190 u191 u192 u193 u194 u195 u196 u197 u198 u199 u200 u201 u202 u203 u204 u205 u206 u207 u208 u209 u210 u211 u212 u213 u214 u215 u216 u217 u218 u219 u220 u221 u222 u223 u224 u225 k hk HB HBW hlt g HR4 hgl B zG5x2 kd nm l rn rm rf rt rb ra ri ln hkd TRk zz6 gr wx HBX n1 n2 f t hf ht2 hjl gT HT4 hgT bN HN4 HRC zz5 zz7 hbN zG5x3 zG5x4 zG5x5 c1 c2 c3 c4 c5 hcN hfN htN hTT s1 s2 s3 s4 s5 g8 g9 g2 g3 zG5x6 zG5x7 zG5x8 zG5x9 zG5x10 gt wt RC' R0' HBT yF' yT' RT u0 p0 p1 p3 p5 p6 p7 p8 z0 z1 z2 z3 z4 z5 z6 g1
    exact hG1.out
  · skip
    rename_i zG6x1 zG6x2 zG6x3 zG6x4 zG6x5 zG6x6 zG6x7 zG6x8 zG6x9 zG6x10
    revert w zs HG HT A0 n0 c0 w1 zG6x1 w2 acc cap hcap c KD hnl htl hal nS nT ST TR NO zz1 NE H0 w3 cN AK cK AP cP cT hct gb w4 HB4 HI4 hbl w5 HB5 zz2 zz3 wr zz4 u9 u10 u11 u41 u42 u43 u44 u45 u46 u47 u48 u49 u50 u51 u52 u53 u54 u55 u56 u57 u58 u59 u60 u61 u62 u63 u64 u65 u66 u67 u68 u69 u70 u71 u72 u73 u74 u75 u76 u77 u78 u79 u80 u81 u82 u83 u84 u85 u86 u87 u88 u89 u90 u91 u92 u93 u94 u95 u96 u97 u98 u99 u100 u101 u102 u103 u104 u105 u106 u107 u108 u109 u110 u111 u112 u113 u114 u115 u116 u117 u118 u119 u120 u121 u122 u123 u124 u125 u126 u127 u128 u129 u130 u131 u132 u133 u134 u135 u136 u137 u138 u139 u140 u141 u142 u143 u144 u145 u146 u147 u148 u149 u150 u151 u152 u153 u154 u155 u156 u157 u158 u159 u160 u161 u162 u163 u164 u165 u166 u167 u168 u169 u170 u171 u172 u173 u174 u175 u176 u177 u178 u179 u180 u181 u182 u183 u184 u185 u186 u187 u188 u189 u190 u191 u192 u193 u194 u195 u196 u197 u198 u199 u200 u201 u202 u203 u204 u205 u206 u207 u208 u209 u210 u211 u212 u213 u214 u215 u216 u217 u218 u219 u220 u221 u222 u223 u224 u225 k hk HB HBW hlt g HR4 hgl B zG6x2 kd nm l rn rm rf rt rb ra ri ln hkd TRk zz6 gr wx HBX n1 n2 f t hf ht2 hjl gT HT4 hgT bN HN4 HRC zz5 zz7 hbN zG6x3 zG6x4 zG6x5 c1 c2 c3 c4 c5 hcN hfN htN hTT s1 s2 s3 s4 s5 g8 g9 g2 g3 zG6x6 zG6x7 zG6x8 zG6x9 zG6x10 gt wt RC' R0' HBT yF' yT' RT u0 p0 p1 p3 p5 p6 p7 p8 z0 z1 z2 z3 z4 z5 z6 g1
    exact hG2.out
end Go.Proofs.YtahgfmobdfhaaaaGreatDoor
