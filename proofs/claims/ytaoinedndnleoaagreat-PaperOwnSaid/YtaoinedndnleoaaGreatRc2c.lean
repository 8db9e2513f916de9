/-
  The document's Compile: a state's errors.
-/
import Derived.Test.YtaoinedndnleoaaGreatRc2b
namespace Go.Proofs.YtaoinedndnleoaaGreat
set_option maxRecDepth 100000
open Go.ChangeShapes Go.WideShapes Go.ChangeAt Go.RowKit

set_option maxHeartbeats 8000000 in
theorem rc_arms : rcCutS.1 := by
  intro acc cap w ha hac HI zz1 w1 hs0 zz2 u4 u5 u6 u21 u22 u23 u24 u25 u26 u27 u28 u29 u30 u31 u32 u33 u34 u35 zz3 zz4 HB zz5 zG3x1 zG3x2 zG3x3 zG3x4 zG3x5 zz6 zz7 u9 u39 u40 u41 u42 u43 u44 u45 u46 u47 u48 u49 u50 zz8 AN cN NS hnsl HNS zz9 zz10 zz11 w3 HRB HEN hwr2 HLN wr u12 u13 u14 u15 u16 u17 u54 u55 u56 u57 u58 u59 u60 u61 u62 u63 u64 u65 u66 u67 u68 u69 u70 u71 u72 u73 u74 u75 u76 u77 u78 u79 u80 u81 u82 u83 u84 u85 u86 u87 u88 u89 u90 u91 u92 u93 u94 u95 u96 u97 u98 u99 u100 u101 u102 u103 u104 u105 u106 u107 u108 u109 u110 u111 u112 u113 u114 u115 u116 u117 u118 u119 u120 u121 u122 u123 u124 u125 u126 u127 u128 u129 u130 u131 u132 u133 u134 u135 u136 u137 u138 u139 u140 u141 u142 u143 u144 u145 u146 u147 u148 u149 u150 u151 u152 u153 u154 u155 u156 u157 u158 u159 u160 u161 u162 u163 u164 u165 u166 u167 u168 u169 u170 u171 u172 u173 u174 u175 u176 u177 u178 u179 u180 u181 u182 u183 u184 u185 u186 u187 u188 u189 u190 u191 u192 u193 u194 u195 u196 u197 u198 k c hk HCF hlt g HR zz12 zz13 zz14 zz15 hgl B c2 nm l rn rm rf rt rb ra ri ln zz16 zz17 zz18 gr hgr wy A1 c1 A2 c4 A3 c3 A4 c5 HD2 s0 s1 s2 s3 i0 hi hz0 hz1 hz2 HR0 p0 hwf hst2 es cn HCT HNX p1 p3 p9 hkl qn hq pn HSA hp SD HPN HIR HIN zG3x6 zG3x7 zG3x8 zG3x9 zG3x10 zG3x11 zG3x12 zG3x13
  by_cases h1 : qn ≠ -1
  · have HE : Hid (es = 4) := by show _ = _; rw [SD, if_pos h1]
    have hge : (0 : Int) ≤ qn := by omega
    clear SD h1 hq hp hst2
    go_wp2_with (go_at_call 59; refine HIN.out.mono ?_; rintro e w5 ⟨rfl, rfl⟩)
    go_meet
    exact ⟨rfl, by rw [HE.out]⟩
  have hq1 : qn = -1 := Classical.byContradiction fun e => h1 e
  rw [if_neg h1] at SD
  subst hq1
  clear h1 hq
  go_upto_region 24 with (go_at_call 59; refine HIN.out.mono ?_; rintro e w5 ⟨rfl, rfl⟩)
  by_cases h2 : 24 ≤ c.names.length
  · have HE : Hid (es = 5) := by show _ = _; rw [SD, if_pos h2]
    have h2i : (24 : Int) ≤ c.names.length := by omega
    clear SD hp hst2
    go_wp2_with fail
    go_meet
    exact ⟨rfl, by rw [HE.out]⟩
  rw [if_neg h2] at SD
  have h2i : ¬ (24 : Int) ≤ c.names.length := by omega
  go_upto_region 26 with fail
  by_cases h3 : ri ≠ [] ∧ pn = -1
  · have HE : Hid (es = 3) := by show _ = _; rw [SD, if_pos h3]
    obtain ⟨g3, rfl⟩ := h3
    obtain ⟨b3, b4, b5⟩ := neNilD g3
    clear SD g3 hp hst2
    go_wp2_with fail
    go_meet
    exact ⟨rfl, by rw [HE.out]⟩
  rw [if_neg h3] at SD
  have HS2 := Lib.hid hst2
  have HSD := Lib.hid SD
  have H3 := Lib.hid h3
  clear SD hst2 h3
  go_cut [77] (fun v wr => v = .bool false ∧ wr = wy)
  case first =>
    by_cases hr : ri = []
    · subst hr
      obtain ⟨b3, b4, b5⟩ := isNilD
      go_wp2_with fail
      go_meet
      exact ⟨rfl, rfl⟩
    · have hng : ¬ pn < 0 := fun e => H3.out ⟨hr, by omega⟩
      obtain ⟨b3, b4, b5⟩ := neNilD hr
      clear hr
      go_wp2_with fail
      go_meet
      exact ⟨rfl, rfl⟩
  case rest =>
  obtain ⟨rfl, hwb⟩ := hcut
  subst hwb
  go_upto_region 28 with fail
  by_cases hj1 : pn = -1
  · subst hj1
    clear hp H3
    by_cases g3 : 3 ≤ rn
    · have HE : Hid (es = 1) := by show _ = _; rw [HSD.out, if_pos (.inr ⟨g3, .inl (by decide)⟩)]
      go_wp2_with fail
      go_meet
      exact ⟨rfl, by rw [HE.out]⟩
    · have HE : Hid (es = 0) := by show _ = _; rw [HSD.out, if_neg (by unfold badSt; omega)]
      go_wp2_with fail
      go_meet
      exact ⟨rfl, by rw [HE.out]⟩
  · obtain ⟨j, rfl⟩ : ∃ j : Nat, pn = j := ⟨pn.toNat, by omega⟩
    have hjl : j < c.kinds.length := by omega
    have hji : (j : Int) < c.kinds.length := by omega
    obtain ⟨gk, rfl, hgk, hck⟩ := ownI_cell HD2.out.oK hjl
    have HSD2 : Hid (es = if ((0 : Int) ≤ j ∧ 3 ≤ c.kinds.getD j 0) ∨ (3 ≤ rn ∧ ((j : Int) < 0 ∨ c.kinds.getD j 0 ≠ 1)) then 1 else 0) := HSD.out
    clear HSD H3 hp hj1
    generalize c.kinds.getD j 0 = kj at *
    have hge : (0 : Int) ≤ j := by omega
    have hng : ¬ (j : Int) < 0 := by omega
    by_cases g3 : 3 ≤ kj
    · have HE : Hid (es = 1) := by show _ = _; rw [HSD2.out, if_pos (.inl ⟨by omega, g3⟩)]
      clear HSD2
      go_wp2_with fail
      go_meet
      exact ⟨rfl, by rw [HE.out]⟩
    · by_cases g4 : 3 ≤ rn
      · by_cases g5 : kj = 1
        · have HE : Hid (es = 0) := by show _ = _; rw [HSD2.out, if_neg (by omega)]
          clear HSD2
          subst g5
          go_wp2_with fail
          go_meet
          exact ⟨rfl, by rw [HE.out]⟩
        · have HE : Hid (es = 1) := by show _ = _; rw [HSD2.out, if_pos (.inr ⟨g4, .inr g5⟩)]
          have g6 : (kj != 1) = true := by simpa using g5
          have g7 : (kj == 1) = false := by simpa using g5
          clear HSD2
          go_wp2_with fail
          go_meet
          exact ⟨rfl, by rw [HE.out]⟩
      · have HE : Hid (es = 0) := by show _ = _; rw [HSD2.out, if_neg (by omega)]
        clear HSD2
        go_wp2_with fail
        go_meet
        exact ⟨rfl, by rw [HE.out]⟩
end Go.Proofs.YtaoinedndnleoaaGreat
