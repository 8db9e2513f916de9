/-
  ChartNames: a rule of a state at the top.
-/
import Derived.Test.YtahgfmobdfhaaaaGreatDoorCNc
namespace Go.Proofs.YtahgfmobdfhaaaaGreatDoor
set_option maxRecDepth 100000
open Go.ChangeShapes Go.WideShapes Go.ChangeAt Go.RowKit

set_option maxHeartbeats 8000000 in
theorem cn_top : cnCutS.1 := by
  intro w zs HG HT A0 n0 c0 w1 t w2 acc cap hcap c KD hnl htl hal nS nT ST TR NO zz1 NE H0 w3 cN cK cP AT cT hct gb w4 HB4 HT4 hbl w5 HB5 zz2 zz3 wr zz4 u9 u10 u11 u41 u42 u43 u44 u45 u46 u47 u48 u49 u50 u51 u52 u53 u54 u55 u56 u57 u58 u59 u60 u61 u62 u63 u64 u65 u66 u67 u68 u69 u70 u71 u72 u73 u74 u75 u76 u77 u78 u79 u80 u81 u82 u83 u84 u85 u86 u87 u88 u89 u90 u91 u92 u93 u94 u95 u96 u97 u98 u99 u100 u101 u102 u103 u104 u105 u106 u107 u108 u109 u110 u111 u112 u113 u114 u115 u116 u117 u118 u119 u120 u121 u122 u123 u124 u125 u126 u127 u128 u129 u130 u131 u132 u133 u134 u135 u136 u137 u138 u139 u140 u141 u142 u143 u144 u145 u146 u147 u148 u149 u150 u151 u152 u153 u154 u155 u156 u157 u158 u159 u160 u161 u162 u163 u164 u165 u166 u167 u168 u169 u170 u171 u172 u173 u174 u175 u176 u177 u178 u179 u180 u181 u182 u183 u184 u185 u186 u187 u188 u189 u190 u191 u192 u193 u194 u195 u196 u197 u198 u199 u200 u201 u202 u203 u204 u205 u206 u207 u208 u209 u210 u211 u212 u213 u214 u215 u216 u217 u218 u219 u220 u221 u222 u223 u224 u225 k hk HB HBW hlt g HR4 hgl B zG3x1 nm l rn rm rf rt rb ra ln zz6 gr wx HBX n1 n2 hkd hjl bN HN4 hbN hxN hjk hjp bK oK hbK hxK zG3x2 bP oP HI4 HRC zz5 zz7 hbP zG3x3 c1 c2 c3 s1 hcN hNI nq zG3x4 zG3x5 zG3x6 zG3x7 zG3x8 wy RC2 HBX2 u0 u2 p0 STk HNM R02 p9 hxP yP
  obtain ⟨z1, z2, z3⟩ := isNil
  go_upto_region 15 with fail
  go_quiet (fail)
  have HBX3 := Lib.hid (below_drewN HBX2.out nq)
  have p09 := row_q0 (row_below R02 (below_drewN (Below.refl _ _) nq))
  clear p0 p9 yP u0 u2 R02 RC2
  generalize wy.drewN nq = wz at *
  go_wp2
  go_roundw
  case rel => exact ⟨k + 1, by omega, by rw [n1]; go_num, by rw [n2], by go_num, HBX3.out⟩
  case measure => simp [intOf]; omega
end Go.Proofs.YtahgfmobdfhaaaaGreatDoor
