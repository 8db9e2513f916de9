/-
  ChartNames: a rule of a state, up to whether it lies in another one.
-/
import Derived.Test.YtahgfmobdfhaaaaGreatDoorCNb
namespace Go.Proofs.YtahgfmobdfhaaaaGreatDoor
set_option maxRecDepth 100000
open Go.ChangeShapes Go.WideShapes Go.ChangeAt Go.RowKit

set_option maxHeartbeats 8000000 in
noncomputable def cnCutS : PSigma fun G1 : Prop => PSigma fun G2 : Prop => CutG G1 → CutG G2 → cnCut.1 := by
 refine ⟨?_, ?_, ?_⟩
 rotate_left 2
 ·intro hG1 hG2
  intro w zs HG HT A0 n0 c0 w1 t w2 acc cap hcap c KD hnl htl hal nS nT ST TR NO zz1 NE H0 w3 AN cN AK cK AP cP AT cT hct gb w4 HB4 HN4 HI4 HT4 HRC hbl w5 HB5 zz2 zz3 wr zz4 u9 u10 u11 u41 u42 u43 u44 u45 u46 u47 u48 u49 u50 u51 u52 u53 u54 u55 u56 u57 u58 u59 u60 u61 u62 u63 u64 u65 u66 u67 u68 u69 u70 u71 u72 u73 u74 u75 u76 u77 u78 u79 u80 u81 u82 u83 u84 u85 u86 u87 u88 u89 u90 u91 u92 u93 u94 u95 u96 u97 u98 u99 u100 u101 u102 u103 u104 u105 u106 u107 u108 u109 u110 u111 u112 u113 u114 u115 u116 u117 u118 u119 u120 u121 u122 u123 u124 u125 u126 u127 u128 u129 u130 u131 u132 u133 u134 u135 u136 u137 u138 u139 u140 u141 u142 u143 u144 u145 u146 u147 u148 u149 u150 u151 u152 u153 u154 u155 u156 u157 u158 u159 u160 u161 u162 u163 u164 u165 u166 u167 u168 u169 u170 u171 u172 u173 u174 u175 u176 u177 u178 u179 u180 u181 u182 u183 u184 u185 u186 u187 u188 u189 u190 u191 u192 u193 u194 u195 u196 u197 u198 u199 u200 u201 u202 u203 u204 u205 u206 u207 u208 u209 u210 u211 u212 u213 u214 u215 u216 u217 u218 u219 u220 u221 u222 u223 u224 u225 k hk HB HBW hlt g HR4 hgl B c2 kd nm l rn rm rf rt rb ra ri ln hkd STk TRk NOk zz5 zz6 zz7 zz8 zz9 gr wx HBX HRX u0 u1 u2 u3 p0 p1 p2 p3 p5 p6 p7 p8 p9 h8
  obtain ⟨SO, n1, n2⟩ := STk h8
  subst h8
  obtain ⟨i, hpi, hpc⟩ := SO.pa
  have hjl := SO.lt
  obtain ⟨bN, rfl, hbN, hxN⟩ := HN4.out.2 (nS k) hjl
  have eN : c.names[nS k] = nm := by have := SO.nm; rw [List.getElem?_eq_getElem hjl] at this; injection this
  rw [eN] at hxN
  have hjk : nS k < c.kinds.length := (List.getElem?_eq_some_iff.1 SO.kn).1
  have hjp : nS k < c.parents.length := (List.getElem?_eq_some_iff.1 hpi).1
  obtain ⟨bK, oK, rfl, hbK, hxK, _⟩ := ints_cell HI4.out.1 hjk
  obtain ⟨bP, oP, rfl, hbP, hxP, _⟩ := ints_cell HI4.out.2 hjp
  have eK : c.kinds.getD (nS k) 0 = rn := by rw [List.getD_eq_getElem?_getD, SO.kn]; rfl
  have eP : c.parents.getD (nS k) 0 = i := by rw [List.getD_eq_getElem?_getD, hpi]; rfl
  rw [eK] at hxK
  rw [eP] at hxP
  have c1 : decide ((c.names.length : Int) ≤ (nS k : Int)) = false := decide_eq_false (by omega)
  have c2 : decide ((c.kinds.length : Int) ≤ (nS k : Int)) = false := decide_eq_false (by omega)
  have c3 : decide ((c.parents.length : Int) ≤ (nS k : Int)) = false := decide_eq_false (by omega)
  have s1 : ((bs nm).toList != (bs nm).toList) = false := by simp
  have yN := (HBX.out.cell (p := ⟨bN, nS k, none⟩) hbN).trans hxN
  have yK := (HBX.out.cell (p := ⟨bK, oK + nS k, none⟩) hbK).trans hxK
  have hnm2 : ∀ m : Nat, m < nS k → c.names[m]? = some ri → w4.cell? ⟨bN, m, none⟩ = some (.string (bs ri)) := fun m hm hx => by
    obtain ⟨b9, e9, _, h9⟩ := HN4.out.2 m (by omega)
    injection e9 with e9
    injection e9 with e9
    subst e9
    have : c.names[m] = ri := by rw [List.getElem?_eq_getElem (by omega)] at hx; injection hx
    rw [this] at h9
    exact h9
  have HNM := Lib.hid hnm2
  have hcN := HN4.out.1
  have hNI : (nS k : Int) < cN := by omega
  clear SO hpi eN eK eP hnm2 NOk TRk
  go_upto_region 12 with fail
  go_quiet (fail)
  go_upto_region 14 with fail
  obtain ⟨RC2, R02⟩ := HRX.out nq
  have HBX2 := Lib.hid (below_drewN HBX.out nq)
  clear HRX u0 u1 u2 u3 p0 p1 p2 p3 p5 p6 p7 p8 p9 yN yK
  generalize wx.drewN nq = wy at *
  have u0 := cell_of_row _ _ 0 _ _ _ RC2; have u2 := cell_of_row _ _ 2 _ _ _ RC2
  have p0 := row_q0 R02; have p9 := row_q9 R02
  have yP := (HBX2.out.cell (p := ⟨bP, oP + nS k, none⟩) hbP).trans hxP
  rcases hpc with ⟨rfl, rfl⟩ | ⟨hri, m, rfl, hm, hx⟩
  · skip
    rename_i zG3x1 zG3x2 zG3x3 zG3x4 zG3x5 zG3x6 zG3x7 zG3x8
    revert w zs HG HT A0 n0 c0 w1 t w2 acc cap hcap c KD hnl htl hal nS nT ST TR NO zz1 NE H0 w3 cN cK cP AT cT hct gb w4 HB4 HT4 hbl w5 HB5 zz2 zz3 wr zz4 u9 u10 u11 u41 u42 u43 u44 u45 u46 u47 u48 u49 u50 u51 u52 u53 u54 u55 u56 u57 u58 u59 u60 u61 u62 u63 u64 u65 u66 u67 u68 u69 u70 u71 u72 u73 u74 u75 u76 u77 u78 u79 u80 u81 u82 u83 u84 u85 u86 u87 u88 u89 u90 u91 u92 u93 u94 u95 u96 u97 u98 u99 u100 u101 u102 u103 u104 u105 u106 u107 u108 u109 u110 u111 u112 u113 u114 u115 u116 u117 u118 u119 u120 u121 u122 u123 u124 u125 u126 u127 u128 u129 u130 u131 u132 u133 u134 u135 u136 u137 u138 u139 u140 u141 u142 u143 u144 u145 u146 u147 u148 u149 u150 u151 u152 u153 u154 u155 u156 u157 u158 u159 u160 u161 u162 u163 u164 u165 u166 u167 u168 u169 u170 u171 u172 u173 u174 u175 u176 u177 u178 u179 u180 u181 u182 u183 u184 u185 u186 u187 u188 u189 u190 u191 u192 u193 u194 u195 u196 u197 u198 u199 u200 u201 u202 u203 u204 u205 u206 u207 u208 u209 u210 u211 u212 u213 u214 u215 u216 u217 u218 u219 u220 u221 u222 u223 u224 u225 k hk HB HBW hlt g HR4 hgl B zG3x1 nm l rn rm rf rt rb ra ln zz6 gr wx HBX n1 n2 hkd hjl bN HN4 hbN hxN hjk hjp bK oK hbK hxK zG3x2 bP oP HI4 HRC zz5 zz7 hbP zG3x3 c1 c2 c3 s1 hcN hNI nq zG3x4 zG3x5 zG3x6 zG3x7 zG3x8 wy RC2 HBX2 u0 u2 p0 STk HNM R02 p9 hxP yP
    exact hG1.out
  · skip
    rename_i zG4x1 zG4x2 zG4x3 zG4x4 zG4x5 zG4x6 zG4x7 zG4x8
    revert w zs HG HT A0 n0 c0 w1 t w2 acc cap hcap c KD hnl htl hal nS nT ST TR NO zz1 NE H0 w3 cN cK cP AT cT hct gb w4 HB4 HT4 hbl w5 HB5 zz2 zz3 wr zz4 u9 u10 u11 u41 u42 u43 u44 u45 u46 u47 u48 u49 u50 u51 u52 u53 u54 u55 u56 u57 u58 u59 u60 u61 u62 u63 u64 u65 u66 u67 u68 u69 u70 u71 u72 u73 u74 u75 u76 u77 u78 u79 u80 u81 u82 u83 u84 u85 u86 u87 u88 u89 u90 u91 u92 u93 u94 u95 u96 u97 u98 u99 u100 u101 u102 u103 u104 u105 u106 u107 u108 u109 u110 u111 u112 u113 u114 u115 u116 u117 u118 u119 u120 u121 u122 u123 u124 u125 u126 u127 u128 u129 u130 u131 u132 u133 u134 u135 u136 u137 u138 u139 u140 u141 u142 u143 u144 u145 u146 u147 u148 u149 u150 u151 u152 u153 u154 u155 u156 u157 u158 u159 u160 u161 u162 u163 u164 u165 u166 u167 u168 u169 u170 u171 u172 u173 u174 u175 u176 u177 u178 u179 u180 u181 u182 u183 u184 u185 u186 u187 u188 u189 u190 u191 u192 u193 u194 u195 u196 u197 u198 u199 u200 u201 u202 u203 u204 u205 u206 u207 u208 u209 u210 u211 u212 u213 u214 u215 u216 u217 u218 u219 u220 u221 u222 u223 u224 u225 k hk HB HBW hlt g HR4 hgl B zG4x1 nm l rn rm rf rt rb ra ri ln zz6 gr wx HBX n1 n2 hkd STk hjl bN HN4 hbN hxN hjk hjp bK oK hbK hxK zG4x2 bP oP HI4 HRC zz5 zz7 hbP zG4x3 c1 c2 c3 s1 HNM hcN hNI nq zG4x4 zG4x5 zG4x6 zG4x7 zG4x8 wy RC2 R02 HBX2 u0 u2 p0 p9 hri m hxP yP hm hx
    exact hG2.out
end Go.Proofs.YtahgfmobdfhaaaaGreatDoor
