/-
  The document's Compile: a rule of a state, but for the switch's arms.
-/
import Derived.Test.YtaoinedndnleoaaGreatRc2a
namespace Go.Proofs.YtaoinedndnleoaaGreat
set_option maxRecDepth 100000
open Go.ChangeShapes Go.WideShapes Go.ChangeAt Go.RowKit

set_option maxHeartbeats 8000000 in
noncomputable def rcCutS : PSigma fun G3 : Prop => CutG G3 → rcCut.1 := by
 refine ⟨?_, ?_⟩
 rotate_left
 ·intro hG3
  intro acc cap w ha hac HI zz1 w1 hs0 zz2 u4 u5 u6 u21 u22 u23 u24 u25 u26 u27 u28 u29 u30 u31 u32 u33 u34 u35 zz3 zz4 HB zz5 i0 hi hz0 hz1 hz2 zz6 zz7 u9 u39 u40 u41 u42 u43 u44 u45 u46 u47 u48 u49 u50 zz8 AN cN HKD NS hnsl HTD HNS zz9 zz10 zz11 w3 HRB HEN hwr2 HLN wr u12 u13 u14 u15 u16 u17 u54 u55 u56 u57 u58 u59 u60 u61 u62 u63 u64 u65 u66 u67 u68 u69 u70 u71 u72 u73 u74 u75 u76 u77 u78 u79 u80 u81 u82 u83 u84 u85 u86 u87 u88 u89 u90 u91 u92 u93 u94 u95 u96 u97 u98 u99 u100 u101 u102 u103 u104 u105 u106 u107 u108 u109 u110 u111 u112 u113 u114 u115 u116 u117 u118 u119 u120 u121 u122 u123 u124 u125 u126 u127 u128 u129 u130 u131 u132 u133 u134 u135 u136 u137 u138 u139 u140 u141 u142 u143 u144 u145 u146 u147 u148 u149 u150 u151 u152 u153 u154 u155 u156 u157 u158 u159 u160 u161 u162 u163 u164 u165 u166 u167 u168 u169 u170 u171 u172 u173 u174 u175 u176 u177 u178 u179 u180 u181 u182 u183 u184 u185 u186 u187 u188 u189 u190 u191 u192 u193 u194 u195 u196 u197 u198 k c hk HCF hlt g HR zz12 zz13 zz14 zz15 hgl B c2 kd nm l rn rm rf rt rb ra ri ln HCT HRFk zz16 zz17 zz18 zz19 zz20 gr hgr wy HR0 p0 A1 c1 A2 c4 A3 c3 A4 c5 HD2 HIX s0 s1 s2 s3 h8
  obtain ⟨i0, hi, hz0, hz1, hz2⟩ := info_parts Tryz.infoString
  subst h8
  have hst := HRFk.out.st rfl
  have SD := stErr_doc c ⟨8, nm, l, rn, rm, rf, rt, rb, ra, ri⟩ hst.2 HCF.out.2.2 HCF.out.1
  simp only at SD
  have HSA : Hid (stAdd c ⟨8, nm, l, rn, rm, rf, rt, rb, ra, ri⟩ = { c with names := c.names ++ [nm], kinds := c.kinds ++ [rn], parents := c.parents ++ [idxI c.names ri] }) := rfl
  have HTE : Hid (takeE (stsOf (acc.map er)) c ⟨8, nm, l, rn, rm, rf, rt, rb, ra, ri⟩ = stErr c ⟨8, nm, l, rn, rm, rf, rt, rb, ra, ri⟩) := by show _ = _; unfold takeE; rw [if_pos rfl]
  have HTC : Hid (takeC (stsOf (acc.map er)) c ⟨8, nm, l, rn, rm, rf, rt, rb, ra, ri⟩ = stAdd c ⟨8, nm, l, rn, rm, rf, rt, rb, ra, ri⟩) := by show _ = _; unfold takeC; rw [if_pos rfl]
  have hwf : (Lit.int .i64 rn).wf = true := WalkArith.wf_i64 (by have : 1 ≤ rn ∧ rn ≤ 4 := hst.2; omega)
  have HNX : Hid (takeE (stsOf (acc.map er)) c ⟨8, nm, l, rn, rm, rf, rt, rb, ra, ri⟩ = 0 → ChF (takeC (stsOf (acc.map er)) c ⟨8, nm, l, rn, rm, rf, rt, rb, ra, ri⟩) ∧ ChI (takeC (stsOf (acc.map er)) c ⟨8, nm, l, rn, rm, rf, rt, rb, ra, ri⟩) ∧ okK (takeC (stsOf (acc.map er)) c ⟨8, nm, l, rn, rm, rf, rt, rb, ra, ri⟩).kinds) := fun h =>
    ⟨take_f HCF.out.1 h, chI_take HCF.out.1 HCF.out.2.1 hwf, by rw [HTC.out]; exact okK_snoc HCF.out.2.2 hst.2⟩
  rw [HTE.out, HTC.out] at HCT HNX
  have hst2 : 1 ≤ rn ∧ rn ≤ 4 := hst.2
  clear HTE HTC hst HRFk HTD HKD
  generalize stErr c ⟨8, nm, l, rn, rm, rf, rt, rb, ra, ri⟩ = es at *
  generalize stAdd c ⟨8, nm, l, rn, rm, rf, rt, rb, ra, ri⟩ = cn at *
  have p1 := row_q1 HR0.out; have p3 := row_q3 HR0.out; have p9 := row_q9 HR0.out
  have hq := idxI_lt c.names nm
  have hp := idxI_lt c.names ri
  have hkl := HCF.out.1.kl
  generalize hqn : idxI c.names nm = qn at *
  generalize hpn : idxI c.names ri = pn at *
  have HPN := Lib.hid hpn
  have HIR : Hid (Calls Tryz.prog 59 #[.slice A1 c.names.length c1, .string (bs ri)] wy fun e w' => e = .returned (.int .i64 pn) ∧ wy = w') := by have := HIX.out ri; rw [hpn] at this; exact this
  have HIN : Hid (Calls Tryz.prog 59 #[.slice A1 c.names.length c1, .string (bs nm)] wy fun e w' => e = .returned (.int .i64 qn) ∧ wy = w') := by have := HIX.out nm; rw [hqn] at this; exact this
  clear hpn hqn HIX
  go_upto_block 6 with (go_at_call 59; refine HIR.out.mono ?_; rintro e w5 ⟨rfl, rfl⟩)
  go_cut [13] (fun x wr => wr = wy ∧ x = .int .i64 es)
  case first =>
    rename_i zG3x1 zG3x2 zG3x3 zG3x4 zG3x5 zG3x6 zG3x7 zG3x8 zG3x9 zG3x10 zG3x11 zG3x12 zG3x13
    revert acc cap w ha hac HI zz1 w1 hs0 zz2 u4 u5 u6 u21 u22 u23 u24 u25 u26 u27 u28 u29 u30 u31 u32 u33 u34 u35 zz3 zz4 HB zz5 zG3x1 zG3x2 zG3x3 zG3x4 zG3x5 zz6 zz7 u9 u39 u40 u41 u42 u43 u44 u45 u46 u47 u48 u49 u50 zz8 AN cN NS hnsl HNS zz9 zz10 zz11 w3 HRB HEN hwr2 HLN wr u12 u13 u14 u15 u16 u17 u54 u55 u56 u57 u58 u59 u60 u61 u62 u63 u64 u65 u66 u67 u68 u69 u70 u71 u72 u73 u74 u75 u76 u77 u78 u79 u80 u81 u82 u83 u84 u85 u86 u87 u88 u89 u90 u91 u92 u93 u94 u95 u96 u97 u98 u99 u100 u101 u102 u103 u104 u105 u106 u107 u108 u109 u110 u111 u112 u113 u114 u115 u116 u117 u118 u119 u120 u121 u122 u123 u124 u125 u126 u127 u128 u129 u130 u131 u132 u133 u134 u135 u136 u137 u138 u139 u140 u141 u142 u143 u144 u145 u146 u147 u148 u149 u150 u151 u152 u153 u154 u155 u156 u157 u158 u159 u160 u161 u162 u163 u164 u165 u166 u167 u168 u169 u170 u171 u172 u173 u174 u175 u176 u177 u178 u179 u180 u181 u182 u183 u184 u185 u186 u187 u188 u189 u190 u191 u192 u193 u194 u195 u196 u197 u198 k c hk HCF hlt g HR zz12 zz13 zz14 zz15 hgl B c2 nm l rn rm rf rt rb ra ri ln zz16 zz17 zz18 gr hgr wy A1 c1 A2 c4 A3 c3 A4 c5 HD2 s0 s1 s2 s3 i0 hi hz0 hz1 hz2 HR0 p0 hwf hst2 es cn HCT HNX p1 p3 p9 hkl qn hq pn HSA hp SD HPN HIR HIN zG3x6 zG3x7 zG3x8 zG3x9 zG3x10 zG3x11 zG3x12 zG3x13
    exact hG3.out
  case rest =>
    obtain ⟨hwc, rfl⟩ := hcut
    subst hwc
    obtain ⟨i1, ii, iz0, iz1, iz2⟩ := info_parts Tryz.infoInt
    have hnl := HCF.out.1.nl
    have hpl := HCF.out.1.pl
    have hsz := HD2.out.be.size
    clear HIR HIN SD s1 s2 s3
    go_upto_region 31 with (at_builtin; go_must (refine wpList_append_own _ rfl (.tmp 116) (.tmp 119) 25 rfl w3.heap.size 9 i0 _ 1 16 Tryz.underlying25 hi hz0 hz1 hz2 rfl (by decide) _ _ _ rfl (World.ownsRow.alloc HD2.out.oN _) ⟨wc.heap.size, 0, none⟩ 1 1 (scells [nm]) rfl rfl (cells_new _ _ _) (sc_one _) (by unfold maxLen; omega) (by omega) (by simp; omega) ?_); intro v6 w6 hown6 hg6 _; obtain ⟨A6, c6, rfl⟩ := own_slice hown6; have hr9 := HD2.out.row1 (gr1D hg6) (own_row_ne HD2.out.oN HD2.out.row (by decide)); have z1 := fz_of hr9 0; have z2 := cell_of_row _ _ 0 _ _ _ hr9; have HD6 := Lib.hid (HD2.out.names (gr1D hg6) (ownL_snocA hown6)); have HR6 := Lib.hid (ru_keepA (b := w3.heap.size) (j := 0) (v := .slice A6 (c.names.length + 1) c6) HR0.out (gr1D hg6) (own_row_ne HD2.out.oN HR0.out (by decide)) (by omega)))
    clear hr9 z1 z2 hown6 hg6 HD2 HR0 s0 p0 p1 p3 p9
    generalize w6.setCell ⟨w3.heap.size, 0, none⟩ (.slice A6 (c.names.length + 1) c6) = w7 at *
    clear w6
    have q1 := HD6.out.q1; have q2 := HD6.out.q2; have p3 := row_q3 HR6.out
    have hbl := HD6.out.lt
    have hgl7 := (Array.getElem?_eq_some_iff.1 HR6.out).1
    have oK0 : w7.ownsRow w3.heap.size 3 1 (.slice A2 c.kinds.length c4) c.kinds.length (icells c.kinds) := HD6.out.oK
    have oP0 : w7.ownsRow w3.heap.size 3 1 (.slice A3 c.parents.length c3) c.parents.length (icells c.parents) := HD6.out.oP
    have y1 : ∀ O, (w7.alloc O).cell? ⟨w3.heap.size, 1, none⟩ = some (.slice A2 c.kinds.length c4) := fun O => (World.cell?_alloc_lt _ _ _ hbl).trans q1
    have y2 : ∀ O, (w7.alloc O).cell? ⟨w3.heap.size, 2, none⟩ = some (.slice A3 c.parents.length c3) := fun O => (World.cell?_alloc_lt _ _ _ hbl).trans q2
    have y3 : ∀ O, (w7.alloc O).cell? ⟨gr, 3, none⟩ = some (.int .i64 rn) := fun O => (World.cell?_alloc_lt _ _ _ hgl7).trans p3
    have yy1 : ∀ O O', ((w7.alloc O).alloc O').cell? ⟨w3.heap.size, 1, none⟩ = some (.slice A2 c.kinds.length c4) := fun O O' => (World.cell?_alloc_lt _ _ _ (Nat.lt_of_lt_of_le hbl (box_b w7 O).size)).trans (y1 O)
    have yy2 : ∀ O O', ((w7.alloc O).alloc O').cell? ⟨w3.heap.size, 2, none⟩ = some (.slice A3 c.parents.length c3) := fun O O' => (World.cell?_alloc_lt _ _ _ (Nat.lt_of_lt_of_le hbl (box_b w7 O).size)).trans (y2 O)
    have HKN := Lib.hid (fun g hg e => by have := (World.ownsRow.lt oK0 g e).2; omega : ∀ g, w7.heap.size ≤ g → (Value.slice A2 c.kinds.length c4).ownBlock ≠ some g)
    have hB7 := HD6.out.be
    have hs7 := hB7.size
    have hkm : c.kinds.length ≤ 24 := by omega
    have hpm : c.parents.length ≤ 24 := by omega
    clear hkl hpl hnl
    have hgrn : w3.heap.size ≠ gr := by omega
    go_cut [137] (fun _ wr => Hid ((∃ v8 v9, DA w3 wr w3.heap.size { c with names := c.names ++ [nm], kinds := c.kinds ++ [rn], parents := c.parents ++ [pn] } (.slice A6 (c.names.length + 1) c6) v8 v9 (.slice A4 c.trans.length c5)) ∧ wr.heap[gr]? = some (.cells #[.int .i64 8, .string (bs nm), .slice B l.length c2, .int .i64 rn, .int .i64 rm, .string (bs rf), .string (bs rt), .string (bs rb), .string (bs ra), .string (bs ri), .int .i64 ln] 92 (0, 0))))
    case first =>
      refine wp_region_til (S := fun w' => w'.heap[gr]? = some (.cells #[.int .i64 8, .string (bs nm), .slice B l.length c2, .int .i64 rn, .int .i64 rm, .string (bs rf), .string (bs rt), .string (bs rb), .string (bs ra), .string (bs ri), .int .i64 ln] 92 (0, 0)) ∧ w'.cell? ⟨w3.heap.size, 1, none⟩ = some (.slice A2 c.kinds.length c4) ∧ w'.cell? ⟨w3.heap.size, 2, none⟩ = some (.slice A3 c.parents.length c3)) 15 (by kernel_rfl) ⟨HR6.out, q1, q2⟩ (fun hHeld => ?_)
      refine wpTil_pure (i := 0) (v := ?_) rfl (by kernel_rfl) (by kernel_rfl) (by kernel_rfl) rfl (fun _ _ _ h => h) (Or.inl ⟨by rfl, ?_⟩) hHeld ?_
      rotate_left
      · intro w _
        go_simp
        (try with_reducible rfl)
      rotate_left
      (try simp only [Act.put, List.setIfInBounds_toArray, List.set_cons_zero, List.set_cons_succ])
      refine wpTil_pure (i := 1) (v := ?_) rfl (by kernel_rfl) (by kernel_rfl) (by kernel_rfl) rfl (fun _ _ _ h => h) (Or.inl ⟨by rfl, ?_⟩) hHeld ?_
      rotate_left
      · intro w _
        go_simp
        (try with_reducible rfl)
      rotate_left
      (try simp only [Act.put, List.setIfInBounds_toArray, List.set_cons_zero, List.set_cons_succ])
      refine wpTil_take (i := 2) (v := ?_) rfl (by kernel_rfl) (by kernel_rfl) (by kernel_rfl) (by kernel_rfl) rfl rfl (fun _ _ _ h => h) (Or.inl ⟨by rfl, ?_⟩) hHeld ?_
      rotate_left
      · intro w hSw
        obtain ⟨hs1, hs2, hs3⟩ := hSw
        go_simp
        (try with_reducible rfl)
      rotate_left
      (try simp only [Act.put, List.setIfInBounds_toArray, List.set_cons_zero, List.set_cons_succ])
      refine wpTil_pure (i := 3) (v := ?_) rfl (by kernel_rfl) (by kernel_rfl) (by kernel_rfl) rfl (fun _ _ _ h => h) (Or.inl ⟨by rfl, ?_⟩) hHeld ?_
      rotate_left
      · intro w _
        go_simp
        (try with_reducible rfl)
      rotate_left
      (try simp only [Act.put, List.setIfInBounds_toArray, List.set_cons_zero, List.set_cons_succ])
      refine wpTil_take (i := 4) (v := ?_) rfl (by kernel_rfl) (by kernel_rfl) (by kernel_rfl) (by kernel_rfl) rfl rfl (fun _ _ _ h => h) (Or.inl ⟨by rfl, ?_⟩) hHeld ?_
      rotate_left
      · intro w hSw
        obtain ⟨hs1, hs2, hs3⟩ := hSw
        have hsw3 := row_q3 hs1
        go_simp
        (try with_reducible rfl)
      rotate_left
      (try simp only [Act.put, List.setIfInBounds_toArray, List.set_cons_zero, List.set_cons_succ])
      refine wpTil_pure (i := 7) (v := ?_) rfl (by kernel_rfl) (by kernel_rfl) (by kernel_rfl) rfl (fun _ _ _ h => h) (Or.inl ⟨by rfl, ?_⟩) hHeld ?_
      rotate_left
      · intro w _
        go_simp
        (try with_reducible rfl)
      rotate_left
      (try simp only [Act.put, List.setIfInBounds_toArray, List.set_cons_zero, List.set_cons_succ])
      refine wpTil_pure (i := 8) (v := ?_) rfl (by kernel_rfl) (by kernel_rfl) (by kernel_rfl) rfl (fun _ _ _ h => h) (Or.inl ⟨by rfl, ?_⟩) hHeld ?_
      rotate_left
      · intro w _
        go_simp
        (try with_reducible rfl)
      rotate_left
      (try simp only [Act.put, List.setIfInBounds_toArray, List.set_cons_zero, List.set_cons_succ])
      refine wpTil_take (i := 9) (v := ?_) rfl (by kernel_rfl) (by kernel_rfl) (by kernel_rfl) (by kernel_rfl) rfl rfl (fun _ _ _ h => h) (Or.inl ⟨by rfl, ?_⟩) hHeld ?_
      rotate_left
      · intro w hSw
        obtain ⟨hs1, hs2, hs3⟩ := hSw
        go_simp
        (try with_reducible rfl)
      rotate_left
      (try simp only [Act.put, List.setIfInBounds_toArray, List.set_cons_zero, List.set_cons_succ])
      refine wpTil_pure (i := 10) (v := ?_) rfl (by kernel_rfl) (by kernel_rfl) (by kernel_rfl) rfl (fun _ _ _ h => h) (Or.inl ⟨by rfl, ?_⟩) hHeld ?_
      rotate_left
      · intro w _
        go_simp
        (try with_reducible rfl)
      rotate_left
      (try simp only [Act.put, List.setIfInBounds_toArray, List.set_cons_zero, List.set_cons_succ])
      refine wpTil_next (rs := [5, 11]) (by kernel_rfl) (by simp) ?_
      refine NextT.cons rfl (fun K hK => ?_) (NextT.cons rfl (fun K hK => ?_) NextT.nil)
      · skip
        go_simp
        refine hK.out _ _ (fun _ => heldAllocD hHeld) (fun hH => ?_)
        replace hHeld := hH rfl
        clear hK K hH
        refine wpTil_next (rs := [6, 11]) (by kernel_rfl) (by simp) ?_
        refine NextT.cons rfl (fun K hK => ?_) (NextT.cons rfl (fun K hK => ?_) NextT.nil)
        · skip
          refine step_append_lies _ rfl (.tmp 124) (.tmp 127) 22 rfl w3.heap.size 3 i1 _ 1 8 Tryz.underlying22 ii iz0 iz1 iz2 rfl (by decide) (.slice A2 c.kinds.length c4) c.kinds.length (icells c.kinds) (by simp [Act.eval]) (by first | exact World.ownsRow.alloc (World.ownsRow.alloc oK0 _) _ | exact World.ownsRow.alloc oK0 _) _ 1 1 (icells [rn]) rfl rfl (by first | exact cells_new _ _ _ | exact cells_new2D _ _ _ _ | exact cells_new1D _ _ _ _) (ic_oneA _) (by decide) (by unfold maxLen; omega) (by omega) (by first | exact ((hB7.alloc hs7 _).alloc (hB7.alloc hs7 _).size _).size | exact (hB7.alloc hs7 _).size) _ rfl ?_; intro g1 cp1 X1 hown1 hg1 hat1 hlt1
          have hgW : w7.grownBy X1 (Value.ownBlock (.slice A2 c.kinds.length c4)) := (by first | exact gr2D ⟨hg1.os, hg1.tape, hg1.output, hg1.size, hg1.block⟩ | exact gr1D ⟨hg1.os, hg1.tape, hg1.output, hg1.size, hg1.block⟩)
          have hlK := liesD2 (w := w7) (n := c.kinds.length + 1) (cp := cp1) hat1 (by first | exact ((Below.refl w7.heap.size w7).alloc (Nat.le_refl _) _).size | exact (((Below.refl w7.heap.size w7).alloc (Nat.le_refl _) _).alloc (box_b w7 _).size _).size)
          have hr9 := HD6.out.row1 hgW (own_row_ne HD6.out.oK HD6.out.row (by decide))
          have hR9 := (hgW.block gr hgl7 (fun e => own_row_ne HD6.out.oK HR6.out (by decide) e.symm)).trans HR6.out
          have p2 : X1.cell? ⟨w3.heap.size, 2, none⟩ = some (.slice A3 c.parents.length c3) := cell_of_row X1 w3.heap.size 2 _ _ _ hr9
          have hb9 : w3.heap.size < X1.heap.size := Nat.lt_of_lt_of_le hbl hgW.size
          have hg9 : gr < X1.heap.size := Nat.lt_of_lt_of_le hgl7 hgW.size
          have pp2 : ∀ O, (X1.alloc O).cell? ⟨w3.heap.size, 2, none⟩ = some (.slice A3 c.parents.length c3) := fun O => (World.cell?_alloc_lt _ _ _ hb9).trans p2
          have oP1 : X1.ownsRow w3.heap.size 3 1 (.slice A3 c.parents.length c3) c.parents.length (icells c.parents) := World.ownsRow.kept oP0 hgW (ap_cases fun g e1 e2 => HD6.out.ap g e2 e1)
          have hs1 : w3.heap.size ≤ X1.heap.size := Nat.le_trans hs7 hgW.size
          have hS1 : X1.heap[gr]? = some (.cells #[.int .i64 8, .string (bs nm), .slice B l.length c2, .int .i64 rn, .int .i64 rm, .string (bs rf), .string (bs rt), .string (bs rb), .string (bs ra), .string (bs ri), .int .i64 ln] 92 (0, 0)) ∧ X1.cell? ⟨w3.heap.size, 1, none⟩ = some (.slice A2 c.kinds.length c4) ∧ X1.cell? ⟨w3.heap.size, 2, none⟩ = some (.slice A3 c.parents.length c3) := ⟨hR9, cell_of_row X1 w3.heap.size 1 _ _ _ hr9, p2⟩
          refine hK.out _ _ (fun _ => hS1) (fun _ => ?_)
          clear hK K hHeld
          have hHeld := hS1
          refine wpTil_pure (i := 13) (v := ?_) rfl (by kernel_rfl) (by kernel_rfl) (by kernel_rfl) rfl (fun _ _ _ h => h) (Or.inl ⟨by rfl, ?_⟩) hHeld ?_
          rotate_left
          · intro w _
            go_simp
            (try with_reducible rfl)
          rotate_left
          (try simp only [Act.put, List.setIfInBounds_toArray, List.set_cons_zero, List.set_cons_succ])
          refine wpTil_pure (i := 14) (v := ?_) rfl (by kernel_rfl) (by kernel_rfl) (by kernel_rfl) rfl (fun _ _ _ h => h) (Or.inl ⟨by rfl, ?_⟩) hHeld ?_
          rotate_left
          · intro w _
            go_simp
            (try with_reducible rfl)
          rotate_left
          (try simp only [Act.put, List.setIfInBounds_toArray, List.set_cons_zero, List.set_cons_succ])
          refine wpTil_next (rs := [11]) (by kernel_rfl) (by simp) ?_
          refine NextT.cons rfl (fun K hK => ?_) NextT.nil
          · skip
            go_simp
            refine hK.out _ _ (fun _ => heldAllocD hHeld) (fun hH => ?_)
            replace hHeld := hH rfl
            clear hK K hH
            refine wpTil_next (rs := [12]) (by kernel_rfl) (by simp) ?_
            refine NextT.cons rfl (fun K hK => ?_) NextT.nil
            · skip
              refine step_append_lies _ rfl (.tmp 131) (.tmp 133) 22 rfl w3.heap.size 3 i1 _ 1 8 Tryz.underlying22 ii iz0 iz1 iz2 rfl (by decide) (.slice A3 c.parents.length c3) c.parents.length (icells c.parents) (by first | rfl | (simp [Act.eval]; done) | (simp [Act.eval, Act.put]; done)) (by first | exact oP1 | exact World.ownsRow.alloc oP1 _) _ 1 1 (icells [pn]) rfl rfl (by first | exact nb | exact cells_new _ _ _) (ic_oneA _) (by decide) (by unfold maxLen; omega) (by omega) (by first | exact hs1 | exact Nat.le_trans hs1 (box_b _ _).size) _ rfl ?_; intro g2 cp2 X2 hown2 hg2 hat2 hlt2
              have hgX : X1.grownBy X2 (Value.ownBlock (.slice A3 c.parents.length c3)) := (by first | exact ⟨hg2.os, hg2.tape, hg2.output, hg2.size, hg2.block⟩ | exact gr1D ⟨hg2.os, hg2.tape, hg2.output, hg2.size, hg2.block⟩)
              have hlP := liesD2 (w := X1) (n := c.parents.length + 1) (cp := cp2) hat2 (by first | exact Nat.le_refl _ | exact (box_b X1 _).size)
              have hneP := own_row_ne oP1 hr9 (by decide)
              have hr2 := (hgX.block w3.heap.size hb9 (fun e => hneP e.symm)).trans hr9
              have hR2 := (hgX.block gr hg9 (fun e => own_row_ne oP1 hR9 (by decide) e.symm)).trans hR9
              have z1 : X2.frozen? ⟨w3.heap.size, 1, none⟩ = false := by simp [World.frozen?, hr2]
              have z2 : X2.frozen? ⟨w3.heap.size, 2, none⟩ = false := by simp [World.frozen?, hr2]
              have z3 := cell_of_row X2 w3.heap.size 1 _ _ _ hr2
              have z4 := cell_of_row X2 w3.heap.size 2 _ _ _ hr2
              have RB5 := DA.two HD6.out (x := rn) (y := pn) (vK' := .slice (some ⟨g1, 0, none⟩) (c.kinds.length + 1) cp1) (vP' := .slice (some ⟨g2, 0, none⟩) (c.parents.length + 1) cp2) hgW (ownI_snocA hown1) hlK hgX (ownI_snocA hown2) hlP
              have RR4 := rule_keep1 (j := 1) (v := .slice (some ⟨g1, 0, none⟩) (c.kinds.length + 1) cp1) hR2 hgrn
              have RR5 := rule_keep2 (j := 1) (j2 := 2) (v := .slice (some ⟨g1, 0, none⟩) (c.kinds.length + 1) cp1) (v2 := .slice (some ⟨g2, 0, none⟩) (c.parents.length + 1) cp2) hR2 hgrn
              have hS2 : X2.heap[gr]? = some (.cells #[.int .i64 8, .string (bs nm), .slice B l.length c2, .int .i64 rn, .int .i64 rm, .string (bs rf), .string (bs rt), .string (bs rb), .string (bs ra), .string (bs ri), .int .i64 ln] 92 (0, 0)) ∧ X2.cell? ⟨w3.heap.size, 1, none⟩ = some (.slice A2 c.kinds.length c4) ∧ X2.cell? ⟨w3.heap.size, 2, none⟩ = some (.slice A3 c.parents.length c3) := ⟨hR2, z3, z4⟩
              refine hK.out _ _ (fun _ => hS2) (fun _ => ?_)
              clear hK K hHeld
              have hHeld := hS2
              refine wpTil_next (rs := [15]) (by kernel_rfl) (by simp) ?_
              refine NextT.cons rfl (fun K hK => ?_) NextT.nil
              go_simp
              refine hK.out _ _ (fun h => by cases h) (fun _ => ?_)
              clear hK K hHeld
              refine wpTil_past (i := 16) (v := ?_) rfl (by kernel_rfl) (by kernel_rfl) (by kernel_rfl) rfl rfl (fun _ _ _ h => h) (Or.inl ⟨by rfl, ?_⟩) ?_
              rotate_left
              · intro w _
                go_simp
                (try with_reducible rfl)
              rotate_left
              (try simp only [Act.put, List.setIfInBounds_toArray, List.set_cons_zero, List.set_cons_succ])
              refine wpTil_past (i := 17) (v := ?_) rfl (by kernel_rfl) (by kernel_rfl) (by kernel_rfl) rfl rfl (fun _ _ _ h => h) (Or.inl ⟨by rfl, ?_⟩) ?_
              rotate_left
              · intro w _
                go_simp
                (try with_reducible rfl)
              rotate_left
              (try simp only [Act.put, List.setIfInBounds_toArray, List.set_cons_zero, List.set_cons_succ])
              refine wpTil_next (rs := [18]) (by kernel_rfl) (by simp) ?_
              refine NextT.cons rfl (fun K hK => ?_) NextT.nil
              go_simp
              refine hK.out _ _ (fun h => by cases h) (fun _ => ?_)
              clear hK K
              refine wpTil_done (by kernel_rfl) ?_ _
              go_wp2_with fail
              go_meet
              exact ⟨⟨_, _, RB5⟩, RR5⟩
        · skip
          go_simp
          refine hK.out _ _ (fun _ => heldAllocD hHeld) (fun hH => ?_)
          replace hHeld := hH rfl
          clear hK K hH
          refine wpTil_next (rs := [6]) (by kernel_rfl) (by simp) ?_
          refine NextT.cons rfl (fun K hK => ?_) NextT.nil
          · skip
            refine step_append_lies _ rfl (.tmp 124) (.tmp 127) 22 rfl w3.heap.size 3 i1 _ 1 8 Tryz.underlying22 ii iz0 iz1 iz2 rfl (by decide) (.slice A2 c.kinds.length c4) c.kinds.length (icells c.kinds) (by simp [Act.eval]) (by first | exact World.ownsRow.alloc (World.ownsRow.alloc oK0 _) _ | exact World.ownsRow.alloc oK0 _) _ 1 1 (icells [rn]) rfl rfl (by first | exact cells_new _ _ _ | exact cells_new2D _ _ _ _ | exact cells_new1D _ _ _ _) (ic_oneA _) (by decide) (by unfold maxLen; omega) (by omega) (by first | exact ((hB7.alloc hs7 _).alloc (hB7.alloc hs7 _).size _).size | exact (hB7.alloc hs7 _).size) _ rfl ?_; intro g1 cp1 X1 hown1 hg1 hat1 hlt1
            have hgW : w7.grownBy X1 (Value.ownBlock (.slice A2 c.kinds.length c4)) := (by first | exact gr2D ⟨hg1.os, hg1.tape, hg1.output, hg1.size, hg1.block⟩ | exact gr1D ⟨hg1.os, hg1.tape, hg1.output, hg1.size, hg1.block⟩)
            have hlK := liesD2 (w := w7) (n := c.kinds.length + 1) (cp := cp1) hat1 (by first | exact ((Below.refl w7.heap.size w7).alloc (Nat.le_refl _) _).size | exact (((Below.refl w7.heap.size w7).alloc (Nat.le_refl _) _).alloc (box_b w7 _).size _).size)
            have hr9 := HD6.out.row1 hgW (own_row_ne HD6.out.oK HD6.out.row (by decide))
            have hR9 := (hgW.block gr hgl7 (fun e => own_row_ne HD6.out.oK HR6.out (by decide) e.symm)).trans HR6.out
            have p2 : X1.cell? ⟨w3.heap.size, 2, none⟩ = some (.slice A3 c.parents.length c3) := cell_of_row X1 w3.heap.size 2 _ _ _ hr9
            have hb9 : w3.heap.size < X1.heap.size := Nat.lt_of_lt_of_le hbl hgW.size
            have hg9 : gr < X1.heap.size := Nat.lt_of_lt_of_le hgl7 hgW.size
            have pp2 : ∀ O, (X1.alloc O).cell? ⟨w3.heap.size, 2, none⟩ = some (.slice A3 c.parents.length c3) := fun O => (World.cell?_alloc_lt _ _ _ hb9).trans p2
            have oP1 : X1.ownsRow w3.heap.size 3 1 (.slice A3 c.parents.length c3) c.parents.length (icells c.parents) := World.ownsRow.kept oP0 hgW (ap_cases fun g e1 e2 => HD6.out.ap g e2 e1)
            have hs1 : w3.heap.size ≤ X1.heap.size := Nat.le_trans hs7 hgW.size
            have nb : ∀ j u, (icells [pn])[j]? = some u → X1.cell? ((⟨w7.heap.size + 1, 0, none⟩ : Addr).add j) = some u := news_farD ⟨hg1.os, hg1.tape, hg1.output, hg1.size, hg1.block⟩ (cells_new1D w7 _ (icells [pn]) 3) (fun g e1 e2 => HKN.out g (by omega) e1)
            have hS1 : X1.heap[gr]? = some (.cells #[.int .i64 8, .string (bs nm), .slice B l.length c2, .int .i64 rn, .int .i64 rm, .string (bs rf), .string (bs rt), .string (bs rb), .string (bs ra), .string (bs ri), .int .i64 ln] 92 (0, 0)) ∧ X1.cell? ⟨w3.heap.size, 1, none⟩ = some (.slice A2 c.kinds.length c4) ∧ X1.cell? ⟨w3.heap.size, 2, none⟩ = some (.slice A3 c.parents.length c3) := ⟨hR9, cell_of_row X1 w3.heap.size 1 _ _ _ hr9, p2⟩
            refine hK.out _ _ (fun _ => hS1) (fun _ => ?_)
            clear hK K hHeld
            have hHeld := hS1
            refine wpTil_pure (i := 13) (v := ?_) rfl (by kernel_rfl) (by kernel_rfl) (by kernel_rfl) rfl (fun _ _ _ h => h) (Or.inl ⟨by rfl, ?_⟩) hHeld ?_
            rotate_left
            · intro w _
              go_simp
              (try with_reducible rfl)
            rotate_left
            (try simp only [Act.put, List.setIfInBounds_toArray, List.set_cons_zero, List.set_cons_succ])
            refine wpTil_pure (i := 14) (v := ?_) rfl (by kernel_rfl) (by kernel_rfl) (by kernel_rfl) rfl (fun _ _ _ h => h) (Or.inl ⟨by rfl, ?_⟩) hHeld ?_
            rotate_left
            · intro w _
              go_simp
              (try with_reducible rfl)
            rotate_left
            (try simp only [Act.put, List.setIfInBounds_toArray, List.set_cons_zero, List.set_cons_succ])
            refine wpTil_next (rs := [12]) (by kernel_rfl) (by simp) ?_
            refine NextT.cons rfl (fun K hK => ?_) NextT.nil
            · skip
              refine step_append_lies _ rfl (.tmp 131) (.tmp 133) 22 rfl w3.heap.size 3 i1 _ 1 8 Tryz.underlying22 ii iz0 iz1 iz2 rfl (by decide) (.slice A3 c.parents.length c3) c.parents.length (icells c.parents) (by first | rfl | (simp [Act.eval]; done) | (simp [Act.eval, Act.put]; done)) (by first | exact oP1 | exact World.ownsRow.alloc oP1 _) _ 1 1 (icells [pn]) rfl rfl (by first | exact nb | exact cells_new _ _ _) (ic_oneA _) (by decide) (by unfold maxLen; omega) (by omega) (by first | exact hs1 | exact Nat.le_trans hs1 (box_b _ _).size) _ rfl ?_; intro g2 cp2 X2 hown2 hg2 hat2 hlt2
              have hgX : X1.grownBy X2 (Value.ownBlock (.slice A3 c.parents.length c3)) := (by first | exact ⟨hg2.os, hg2.tape, hg2.output, hg2.size, hg2.block⟩ | exact gr1D ⟨hg2.os, hg2.tape, hg2.output, hg2.size, hg2.block⟩)
              have hlP := liesD2 (w := X1) (n := c.parents.length + 1) (cp := cp2) hat2 (by first | exact Nat.le_refl _ | exact (box_b X1 _).size)
              have hneP := own_row_ne oP1 hr9 (by decide)
              have hr2 := (hgX.block w3.heap.size hb9 (fun e => hneP e.symm)).trans hr9
              have hR2 := (hgX.block gr hg9 (fun e => own_row_ne oP1 hR9 (by decide) e.symm)).trans hR9
              have z1 : X2.frozen? ⟨w3.heap.size, 1, none⟩ = false := by simp [World.frozen?, hr2]
              have z2 : X2.frozen? ⟨w3.heap.size, 2, none⟩ = false := by simp [World.frozen?, hr2]
              have z3 := cell_of_row X2 w3.heap.size 1 _ _ _ hr2
              have z4 := cell_of_row X2 w3.heap.size 2 _ _ _ hr2
              have RB5 := DA.two HD6.out (x := rn) (y := pn) (vK' := .slice (some ⟨g1, 0, none⟩) (c.kinds.length + 1) cp1) (vP' := .slice (some ⟨g2, 0, none⟩) (c.parents.length + 1) cp2) hgW (ownI_snocA hown1) hlK hgX (ownI_snocA hown2) hlP
              have RR4 := rule_keep1 (j := 1) (v := .slice (some ⟨g1, 0, none⟩) (c.kinds.length + 1) cp1) hR2 hgrn
              have RR5 := rule_keep2 (j := 1) (j2 := 2) (v := .slice (some ⟨g1, 0, none⟩) (c.kinds.length + 1) cp1) (v2 := .slice (some ⟨g2, 0, none⟩) (c.parents.length + 1) cp2) hR2 hgrn
              have hS2 : X2.heap[gr]? = some (.cells #[.int .i64 8, .string (bs nm), .slice B l.length c2, .int .i64 rn, .int .i64 rm, .string (bs rf), .string (bs rt), .string (bs rb), .string (bs ra), .string (bs ri), .int .i64 ln] 92 (0, 0)) ∧ X2.cell? ⟨w3.heap.size, 1, none⟩ = some (.slice A2 c.kinds.length c4) ∧ X2.cell? ⟨w3.heap.size, 2, none⟩ = some (.slice A3 c.parents.length c3) := ⟨hR2, z3, z4⟩
              refine hK.out _ _ (fun _ => hS2) (fun _ => ?_)
              clear hK K hHeld
              have hHeld := hS2
              refine wpTil_next (rs := [15]) (by kernel_rfl) (by simp) ?_
              refine NextT.cons rfl (fun K hK => ?_) NextT.nil
              go_simp
              refine hK.out _ _ (fun h => by cases h) (fun _ => ?_)
              clear hK K hHeld
              refine wpTil_past (i := 16) (v := ?_) rfl (by kernel_rfl) (by kernel_rfl) (by kernel_rfl) rfl rfl (fun _ _ _ h => h) (Or.inl ⟨by rfl, ?_⟩) ?_
              rotate_left
              · intro w _
                go_simp
                (try with_reducible rfl)
              rotate_left
              (try simp only [Act.put, List.setIfInBounds_toArray, List.set_cons_zero, List.set_cons_succ])
              refine wpTil_past (i := 17) (v := ?_) rfl (by kernel_rfl) (by kernel_rfl) (by kernel_rfl) rfl rfl (fun _ _ _ h => h) (Or.inl ⟨by rfl, ?_⟩) ?_
              rotate_left
              · intro w _
                go_simp
                (try with_reducible rfl)
              rotate_left
              (try simp only [Act.put, List.setIfInBounds_toArray, List.set_cons_zero, List.set_cons_succ])
              refine wpTil_next (rs := [18]) (by kernel_rfl) (by simp) ?_
              refine NextT.cons rfl (fun K hK => ?_) NextT.nil
              go_simp
              refine hK.out _ _ (fun h => by cases h) (fun _ => ?_)
              clear hK K
              refine wpTil_done (by kernel_rfl) ?_ _
              go_wp2_with fail
              go_meet
              exact ⟨⟨_, _, RB5⟩, RR5⟩
      · skip
        go_simp
        refine hK.out _ _ (fun _ => heldAllocD hHeld) (fun hH => ?_)
        replace hHeld := hH rfl
        clear hK K hH
        refine wpTil_next (rs := [5]) (by kernel_rfl) (by simp) ?_
        refine NextT.cons rfl (fun K hK => ?_) NextT.nil
        · skip
          go_simp
          refine hK.out _ _ (fun _ => heldAllocD hHeld) (fun hH => ?_)
          replace hHeld := hH rfl
          clear hK K hH
          refine wpTil_next (rs := [6]) (by kernel_rfl) (by simp) ?_
          refine NextT.cons rfl (fun K hK => ?_) NextT.nil
          · skip
            refine step_append_lies _ rfl (.tmp 124) (.tmp 127) 22 rfl w3.heap.size 3 i1 _ 1 8 Tryz.underlying22 ii iz0 iz1 iz2 rfl (by decide) (.slice A2 c.kinds.length c4) c.kinds.length (icells c.kinds) (by simp [Act.eval]) (by first | exact World.ownsRow.alloc (World.ownsRow.alloc oK0 _) _ | exact World.ownsRow.alloc oK0 _) _ 1 1 (icells [rn]) rfl rfl (by first | exact cells_new _ _ _ | exact cells_new2D _ _ _ _ | exact cells_new1D _ _ _ _) (ic_oneA _) (by decide) (by unfold maxLen; omega) (by omega) (by first | exact ((hB7.alloc hs7 _).alloc (hB7.alloc hs7 _).size _).size | exact (hB7.alloc hs7 _).size) _ rfl ?_; intro g1 cp1 X1 hown1 hg1 hat1 hlt1
            have hgW : w7.grownBy X1 (Value.ownBlock (.slice A2 c.kinds.length c4)) := (by first | exact gr2D ⟨hg1.os, hg1.tape, hg1.output, hg1.size, hg1.block⟩ | exact gr1D ⟨hg1.os, hg1.tape, hg1.output, hg1.size, hg1.block⟩)
            have hlK := liesD2 (w := w7) (n := c.kinds.length + 1) (cp := cp1) hat1 (by first | exact ((Below.refl w7.heap.size w7).alloc (Nat.le_refl _) _).size | exact (((Below.refl w7.heap.size w7).alloc (Nat.le_refl _) _).alloc (box_b w7 _).size _).size)
            have hr9 := HD6.out.row1 hgW (own_row_ne HD6.out.oK HD6.out.row (by decide))
            have hR9 := (hgW.block gr hgl7 (fun e => own_row_ne HD6.out.oK HR6.out (by decide) e.symm)).trans HR6.out
            have p2 : X1.cell? ⟨w3.heap.size, 2, none⟩ = some (.slice A3 c.parents.length c3) := cell_of_row X1 w3.heap.size 2 _ _ _ hr9
            have hb9 : w3.heap.size < X1.heap.size := Nat.lt_of_lt_of_le hbl hgW.size
            have hg9 : gr < X1.heap.size := Nat.lt_of_lt_of_le hgl7 hgW.size
            have pp2 : ∀ O, (X1.alloc O).cell? ⟨w3.heap.size, 2, none⟩ = some (.slice A3 c.parents.length c3) := fun O => (World.cell?_alloc_lt _ _ _ hb9).trans p2
            have oP1 : X1.ownsRow w3.heap.size 3 1 (.slice A3 c.parents.length c3) c.parents.length (icells c.parents) := World.ownsRow.kept oP0 hgW (ap_cases fun g e1 e2 => HD6.out.ap g e2 e1)
            have hs1 : w3.heap.size ≤ X1.heap.size := Nat.le_trans hs7 hgW.size
            have nb : ∀ j u, (icells [pn])[j]? = some u → X1.cell? ((⟨w7.heap.size, 0, none⟩ : Addr).add j) = some u := news_farD ⟨hg1.os, hg1.tape, hg1.output, hg1.size, hg1.block⟩ (cells_new2D w7 (icells [pn]) 3 _) (fun g e1 e2 => HKN.out g (by omega) e1)
            have hS1 : X1.heap[gr]? = some (.cells #[.int .i64 8, .string (bs nm), .slice B l.length c2, .int .i64 rn, .int .i64 rm, .string (bs rf), .string (bs rt), .string (bs rb), .string (bs ra), .string (bs ri), .int .i64 ln] 92 (0, 0)) ∧ X1.cell? ⟨w3.heap.size, 1, none⟩ = some (.slice A2 c.kinds.length c4) ∧ X1.cell? ⟨w3.heap.size, 2, none⟩ = some (.slice A3 c.parents.length c3) := ⟨hR9, cell_of_row X1 w3.heap.size 1 _ _ _ hr9, p2⟩
            refine hK.out _ _ (fun _ => hS1) (fun _ => ?_)
            clear hK K hHeld
            have hHeld := hS1
            refine wpTil_pure (i := 13) (v := ?_) rfl (by kernel_rfl) (by kernel_rfl) (by kernel_rfl) rfl (fun _ _ _ h => h) (Or.inl ⟨by rfl, ?_⟩) hHeld ?_
            rotate_left
            · intro w _
              go_simp
              (try with_reducible rfl)
            rotate_left
            (try simp only [Act.put, List.setIfInBounds_toArray, List.set_cons_zero, List.set_cons_succ])
            refine wpTil_pure (i := 14) (v := ?_) rfl (by kernel_rfl) (by kernel_rfl) (by kernel_rfl) rfl (fun _ _ _ h => h) (Or.inl ⟨by rfl, ?_⟩) hHeld ?_
            rotate_left
            · intro w _
              go_simp
              (try with_reducible rfl)
            rotate_left
            (try simp only [Act.put, List.setIfInBounds_toArray, List.set_cons_zero, List.set_cons_succ])
            refine wpTil_next (rs := [12]) (by kernel_rfl) (by simp) ?_
            refine NextT.cons rfl (fun K hK => ?_) NextT.nil
            · skip
              refine step_append_lies _ rfl (.tmp 131) (.tmp 133) 22 rfl w3.heap.size 3 i1 _ 1 8 Tryz.underlying22 ii iz0 iz1 iz2 rfl (by decide) (.slice A3 c.parents.length c3) c.parents.length (icells c.parents) (by first | rfl | (simp [Act.eval]; done) | (simp [Act.eval, Act.put]; done)) (by first | exact oP1 | exact World.ownsRow.alloc oP1 _) _ 1 1 (icells [pn]) rfl rfl (by first | exact nb | exact cells_new _ _ _) (ic_oneA _) (by decide) (by unfold maxLen; omega) (by omega) (by first | exact hs1 | exact Nat.le_trans hs1 (box_b _ _).size) _ rfl ?_; intro g2 cp2 X2 hown2 hg2 hat2 hlt2
              have hgX : X1.grownBy X2 (Value.ownBlock (.slice A3 c.parents.length c3)) := (by first | exact ⟨hg2.os, hg2.tape, hg2.output, hg2.size, hg2.block⟩ | exact gr1D ⟨hg2.os, hg2.tape, hg2.output, hg2.size, hg2.block⟩)
              have hlP := liesD2 (w := X1) (n := c.parents.length + 1) (cp := cp2) hat2 (by first | exact Nat.le_refl _ | exact (box_b X1 _).size)
              have hneP := own_row_ne oP1 hr9 (by decide)
              have hr2 := (hgX.block w3.heap.size hb9 (fun e => hneP e.symm)).trans hr9
              have hR2 := (hgX.block gr hg9 (fun e => own_row_ne oP1 hR9 (by decide) e.symm)).trans hR9
              have z1 : X2.frozen? ⟨w3.heap.size, 1, none⟩ = false := by simp [World.frozen?, hr2]
              have z2 : X2.frozen? ⟨w3.heap.size, 2, none⟩ = false := by simp [World.frozen?, hr2]
              have z3 := cell_of_row X2 w3.heap.size 1 _ _ _ hr2
              have z4 := cell_of_row X2 w3.heap.size 2 _ _ _ hr2
              have RB5 := DA.two HD6.out (x := rn) (y := pn) (vK' := .slice (some ⟨g1, 0, none⟩) (c.kinds.length + 1) cp1) (vP' := .slice (some ⟨g2, 0, none⟩) (c.parents.length + 1) cp2) hgW (ownI_snocA hown1) hlK hgX (ownI_snocA hown2) hlP
              have RR4 := rule_keep1 (j := 1) (v := .slice (some ⟨g1, 0, none⟩) (c.kinds.length + 1) cp1) hR2 hgrn
              have RR5 := rule_keep2 (j := 1) (j2 := 2) (v := .slice (some ⟨g1, 0, none⟩) (c.kinds.length + 1) cp1) (v2 := .slice (some ⟨g2, 0, none⟩) (c.parents.length + 1) cp2) hR2 hgrn
              have hS2 : X2.heap[gr]? = some (.cells #[.int .i64 8, .string (bs nm), .slice B l.length c2, .int .i64 rn, .int .i64 rm, .string (bs rf), .string (bs rt), .string (bs rb), .string (bs ra), .string (bs ri), .int .i64 ln] 92 (0, 0)) ∧ X2.cell? ⟨w3.heap.size, 1, none⟩ = some (.slice A2 c.kinds.length c4) ∧ X2.cell? ⟨w3.heap.size, 2, none⟩ = some (.slice A3 c.parents.length c3) := ⟨hR2, z3, z4⟩
              refine hK.out _ _ (fun _ => hS2) (fun _ => ?_)
              clear hK K hHeld
              have hHeld := hS2
              refine wpTil_next (rs := [15]) (by kernel_rfl) (by simp) ?_
              refine NextT.cons rfl (fun K hK => ?_) NextT.nil
              go_simp
              refine hK.out _ _ (fun h => by cases h) (fun _ => ?_)
              clear hK K hHeld
              refine wpTil_past (i := 16) (v := ?_) rfl (by kernel_rfl) (by kernel_rfl) (by kernel_rfl) rfl rfl (fun _ _ _ h => h) (Or.inl ⟨by rfl, ?_⟩) ?_
              rotate_left
              · intro w _
                go_simp
                (try with_reducible rfl)
              rotate_left
              (try simp only [Act.put, List.setIfInBounds_toArray, List.set_cons_zero, List.set_cons_succ])
              refine wpTil_past (i := 17) (v := ?_) rfl (by kernel_rfl) (by kernel_rfl) (by kernel_rfl) rfl rfl (fun _ _ _ h => h) (Or.inl ⟨by rfl, ?_⟩) ?_
              rotate_left
              · intro w _
                go_simp
                (try with_reducible rfl)
              rotate_left
              (try simp only [Act.put, List.setIfInBounds_toArray, List.set_cons_zero, List.set_cons_succ])
              refine wpTil_next (rs := [18]) (by kernel_rfl) (by simp) ?_
              refine NextT.cons rfl (fun K hK => ?_) NextT.nil
              go_simp
              refine hK.out _ _ (fun h => by cases h) (fun _ => ?_)
              clear hK K
              refine wpTil_done (by kernel_rfl) ?_ _
              go_wp2_with fail
              go_meet
              exact ⟨⟨_, _, RB5⟩, RR5⟩
    case rest =>
    obtain ⟨⟨v8, v9, HD9⟩, HR9⟩ := hcut.out
    have HD9 := Lib.hid HD9
    have HR9 := Lib.hid HR9
    rw [← HSA.out] at HD9
    clear hcut HD6 HR6 q1 q2 p3 oK0 oP0 y1 y2 y3 yy1 yy2 HKN hB7 hs7 hbl hgl7 HSA
    have p0 := row_q0 HR9.out; have p10 := row_q10 HR9.out
    have hwl := HD9.out.be
    go_upto_region 44 with fail
    by_cases he : es = 0
    · have HCN : Hid (compR (acc.map er) = takeL (stsOf (acc.map er)) ((acc.map er).drop (k + 1)) cn) := by have := HCT.out; rwa [if_pos he] at this
      have HN9 := Lib.hid (HNX.out he)
      subst he
      clear HCT HNX
      go_wp2
      go_roundw
      case rel => exact ⟨k + 1, cn, _, _, _, _, by omega, by go_num, HCN.out, HN9.out, HD9.out⟩
      case measure => simp [intOf]; omega
    · have HBAD : Hid (compR (acc.map er) = .bad ln es) := by have := HCT.out; rwa [if_neg he] at this
      have ge : (es != 0) = true := by simpa using he
      have ge2 : (es == 0) = false := by simpa using he
      have p10 := row_q10 HR9.out
      obtain ⟨RC, RF, hbz⟩ := HEN.out _ HD9.out.be
      have d0 := cell_of_row _ _ 0 _ _ _ RC; have d1 := cell_of_row _ _ 1 _ _ _ RC; have d2 := cell_of_row _ _ 2 _ _ _ RC; have d3 := cell_of_row _ _ 3 _ _ _ RC; have f0 := fz_of RC 0; have f1 := fz_of RC 1; have f2 := fz_of RC 2; have f3 := fz_of RC 3
      have e0 := cell_of_row _ _ 0 _ _ _ RF; have e1 := cell_of_row _ _ 1 _ _ _ RF; have e2 := cell_of_row _ _ 2 _ _ _ RF; have g0 := fz_of RF 0; have g1 := fz_of RF 1; have g2 := fz_of RF 2
      clear HCT HNX he
      go_upto_region 45 with fail
      go_region
      all_goals go_wp2
      all_goals (try simp only [Exit.inBlock, Exit.then])
      all_goals
        have ct := cf_tellD (.slice none 0 0) (.slice none 0 0) (.slice none 0 0) (.slice none 0 0) (.int .i64 ln) (.int .i64 1) (.int .i64 es) RC RF
        refine bodyPost_ret (run_cell2' rfl _ _ w.heap.size (w.heap.size + 1) _ _ _ _ _ _ _ _ rfl rfl ct.1 ct.2 Tryz.underlying34 rfl (by kernel_rfl) Tryz.underlying85 rfl (by kernel_rfl)) rfl ?_
        rw [HBAD.out]
        exact ⟨below_drew (cf_below hbz (Nat.le_refl _) (Nat.le_refl _) _ _ _ _ _ _ _), rfl⟩
end Go.Proofs.YtaoinedndnleoaaGreat
