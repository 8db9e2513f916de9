/-
  The document's Compile: the walk, with two parts of it left for themselves.
-/
import Derived.Test.YtaoinedndnleoaaGreatRc2
namespace Go.Proofs.YtaoinedndnleoaaGreat
set_option maxRecDepth 100000
open Go.ChangeShapes Go.WideShapes Go.ChangeAt Go.RowKit

set_option maxHeartbeats 8000000 in
noncomputable def rcCut : PSigma fun G1 : Prop => PSigma fun G2 : Prop => CutG G1 → CutG G2 → RCompSt := by
 refine ⟨?_, ?_, ?_⟩
 rotate_left 2
 ·intro hG1 hG2 acc A cap w hR ha hac hPR
  have HR := Lib.hid hR
  have HI := Lib.hid hPR
  clear hR hPR
  have hs0 : ((w.alloc (.cells #[.slice none 0 0, .slice none 0 0, .slice none 0 0, .slice none 0 0] 34)).alloc (.cells #[.int .i64 0, .int .i64 0, .int .i64 0] 85)).heap.size = w.heap.size + 2 := by simp
  have HRC : Hid (((w.alloc (.cells #[.slice none 0 0, .slice none 0 0, .slice none 0 0, .slice none 0 0] 34)).alloc (.cells #[.int .i64 0, .int .i64 0, .int .i64 0] 85)).heap[w.heap.size]? = some (.cells #[.slice none 0 0, .slice none 0 0, .slice none 0 0, .slice none 0 0] 34 (0, 0))) :=
    (heap_alloc_old _ _ (by simp)).trans (heap_alloc_new _ _)
  have HRF : Hid (((w.alloc (.cells #[.slice none 0 0, .slice none 0 0, .slice none 0 0, .slice none 0 0] 34)).alloc (.cells #[.int .i64 0, .int .i64 0, .int .i64 0] 85)).heap[w.heap.size + 1]? = some (.cells #[.int .i64 0, .int .i64 0, .int .i64 0] 85 (0, 0))) := by
    have := heap_alloc_new (w.alloc (.cells #[.slice none 0 0, .slice none 0 0, .slice none 0 0, .slice none 0 0] 34)) (.cells #[.int .i64 0, .int .i64 0, .int .i64 0] 85)
    show _ = _
    simpa using this
  have HB0 : Hid (Below w.heap.size w ((w.alloc (.cells #[.slice none 0 0, .slice none 0 0, .slice none 0 0, .slice none 0 0] 34)).alloc (.cells #[.int .i64 0, .int .i64 0, .int .i64 0] 85))) := ((Below.refl _ _).alloc (Nat.le_refl _) _).alloc (by simp) _
  go_enter Tryz.func30, Tryz.ntmps30
  go_upto_region 2 with fail
  generalize (w.alloc (.cells #[.slice none 0 0, .slice none 0 0, .slice none 0 0, .slice none 0 0] 34)).alloc (.cells #[.int .i64 0, .int .i64 0, .int .i64 0] 85) = w1 at *
  have HE : Hid (∀ W, Below w1.heap.size w1 W → W.heap[w.heap.size]? = some (.cells #[.slice none 0 0, .slice none 0 0, .slice none 0 0, .slice none 0 0] 34 (0, 0)) ∧ W.heap[w.heap.size + 1]? = some (.cells #[.int .i64 0, .int .i64 0, .int .i64 0] 85 (0, 0)) ∧ Below w.heap.size w W) := fun W hW =>
    ⟨(hW.block _ (Array.getElem?_eq_some_iff.1 HRC.out).1).trans HRC.out, (hW.block _ (Array.getElem?_eq_some_iff.1 HRF.out).1).trans HRF.out, below_then HB0.out hW HB0.out.size⟩
  clear HRC HRF
  go_loopw [20] (fun i wr => ∃ k : Nat, k ≤ acc.length ∧ i = .int .i64 k ∧ Hid (∀ x ∈ (acc.take k).map er, printP x.1 ≠ none) ∧ Hid (Below w1.heap.size w1 wr)) (fun i _ => acc.length - (intOf i).toNat)
  case atStart => exact ⟨0, Nat.zero_le _, rfl, (fun x hx => by simp at hx), Below.refl _ _⟩
  case round =>
    obtain ⟨k, hk, rfl, HP, HB⟩ := hrel
    by_cases hlt : k < acc.length
    · obtain ⟨g, rfl, hgl, hc, B, c2, e2, hL⟩ := HR.out k hlt
      have hb1 : Below w.heap.size w wr := (HE.out _ HB.out).2.2
      have PI := Lib.hid (HI.out _ (List.getElem_mem hlt) B c2 wr e2 hb1)
      have hsn : (acc.take (k + 1)).map er = (acc.take k).map er ++ [er acc[k]] := by rw [List.take_succ_eq_append_getElem hlt, List.map_append]; rfl
      have hmem : er acc[k] ∈ acc.map er := List.mem_map_of_mem (List.getElem_mem hlt)
      have HSN := Lib.hid hsn
      have HME := Lib.hid hmem
      have q := fun f u hf hu => (hb1.cell (p := ⟨g, k * 11 + f, none⟩) hgl).trans (hc f u hf hu)
      clear hc hsn hmem hL
      generalize acc[k] = x at *
      obtain ⟨⟨kd, nm, l, rn, rm, rf, rt, rb, ra, ri⟩, ln, L⟩ := x
      obtain rfl : L = .slice B l.length c2 := e2
      have q0 := q 0 _ (by omega) rfl; have q1 := q 1 _ (by omega) rfl; have q2 := q 2 _ (by omega) rfl; have q3 := q 3 _ (by omega) rfl; have q4 := q 4 _ (by omega) rfl; have q5 := q 5 _ (by omega) rfl; have q6 := q 6 _ (by omega) rfl; have q7 := q 7 _ (by omega) rfl; have q8 := q 8 _ (by omega) rfl; have q9 := q 9 _ (by omega) rfl; have q10 := q 10 _ (by omega) rfl
      simp only [Nat.add_zero] at q0
      clear q
      unfold PrD at PI
      dsimp only [ruV] at PI
      clear hb1
      cases hp : printP ⟨kd, nm, l, rn, rm, rf, rt, rb, ra, ri⟩ with
      | none =>
        have HP9 := Lib.hid hp
        have HEE : Hid (compR (acc.map er) = .arg) := compR_no HME.out hp
        clear hp HSN HME HP
        go_wp2_with (go_at_call 58; refine PI.out.mono ?_; rintro e w2 ⟨hb2, h4⟩; simp only [HP9.out] at h4; subst h4; have HB2 := Lib.hid (below_then HB.out hb2 HB.out.size); obtain ⟨RC, RF, hbz⟩ := HE.out _ HB2.out; have c0 := cell_of_row _ _ 0 _ _ _ RC; have c1 := cell_of_row _ _ 1 _ _ _ RC; have c2 := cell_of_row _ _ 2 _ _ _ RC; have c3 := cell_of_row _ _ 3 _ _ _ RC; have f0 := fz_of RC 0; have f1 := fz_of RC 1; have f2 := fz_of RC 2; have f3 := fz_of RC 3; have d0 := cell_of_row _ _ 0 _ _ _ RF; have d1 := cell_of_row _ _ 1 _ _ _ RF; have d2 := cell_of_row _ _ 2 _ _ _ RF; have g0 := fz_of RF 0; have g1 := fz_of RF 1; have g2 := fz_of RF 2)
        (try simp only [Exit.inBlock, Exit.then])
        have ct := cf_tell (.slice none 0 0) (.slice none 0 0) (.slice none 0 0) (.slice none 0 0) (.int .i64 (-1)) (.int .i64 0) (.int .i64 1) RC RF
        refine bodyPost_ret (run_cell2' rfl _ _ w.heap.size (w.heap.size + 1) _ _ _ _ _ _ _ _ rfl rfl ct.1 ct.2 Tryz.underlying34 rfl (by kernel_rfl) Tryz.underlying85 rfl (by kernel_rfl)) rfl ?_
        rw [HEE.out]
        exact ⟨cf_below hbz (Nat.le_refl _) (Nat.le_refl _) _ _ _ _ _ _ _, rfl⟩
      | some t =>
        have HP9 := Lib.hid hp
        have HP2 : Hid (∀ x ∈ (acc.take (k + 1)).map er, printP x.1 ≠ none) := fun x hx => by
          rw [HSN.out, List.mem_append, List.mem_singleton] at hx
          rcases hx with hx | rfl
          · exact HP.out x hx
          · show printP ⟨kd, nm, l, rn, rm, rf, rt, rb, ra, ri⟩ ≠ none
            rw [hp]; simp
        clear hp HSN HME HP
        go_wp2_with (go_at_call 58; refine PI.out.mono ?_; rintro e w2 ⟨hb2, h4⟩; simp only [HP9.out] at h4; subst h4)
        go_roundw
        case rel => exact ⟨k + 1, by omega, by go_num, HP2.out, below_then HB.out hb2 HB.out.size⟩
        case measure => simp [intOf]; omega
    · have hall : ∀ x ∈ acc.map er, printP x.1 ≠ none := by have := HP.out; rwa [List.take_of_length_le (by omega)] at this
      have HPA := Lib.hid (compR_ok hall)
      have HRU := Lib.hid (rul_fields hall)
      clear HP hall
      have HNS := Lib.hid (fun k (hk : k < acc.length) => by have := nmS_take (l := acc.map er) (k := k) (by simpa using hk); simpa [er] using this : ∀ k (hk : k < acc.length), nmS (stsOf ((acc.map er).take (k + 1))) = if acc[k].1.kind = 8 then nmS (stsOf ((acc.map er).take k)) ++ [acc[k].1.name] else nmS (stsOf ((acc.map er).take k)))
      have HNL : Hid (∀ k, (nmS (stsOf ((acc.map er).take k))).length ≤ 1000) := fun k => by have := nmS_le ((acc.map er).take k); rw [List.length_take, List.length_map] at this; omega
      obtain ⟨i0, hi, hz0, hz1, hz2⟩ := info_parts Tryz.infoString
      go_upto_region 10 with fail
      go_loopw [7, 38] (fun v i wx => ∃ k : Nat, k ≤ acc.length ∧ i = .int .i64 k ∧ Hid (OwnL wx w1.heap.size v (nmS (stsOf ((acc.map er).take k)))) ∧ Hid (Below w1.heap.size w1 wx)) (fun _ i _ => acc.length - (intOf i).toNat)
      case atStart => exact ⟨0, Nat.zero_le _, rfl, ownL_nil _ _, HB.out⟩
      case round =>
        obtain ⟨k, hk, rfl, HO, HB⟩ := hrel
        by_cases hlt : k < acc.length
        · obtain ⟨g, rfl, hgl, hc, B, c2, e2, hL⟩ := HR.out k hlt
          have hb1 : Below w.heap.size w wr := (HE.out _ HB.out).2.2
          have hnx := HNS.out k hlt
          have hnl := HNL.out k
          have q := fun f u hf hu => (hb1.cell (p := ⟨g, k * 11 + f, none⟩) hgl).trans (hc f u hf hu)
          clear hc hL
          generalize acc[k] = x at *
          obtain ⟨⟨kd, nm, l, rn, rm, rf, rt, rb, ra, ri⟩, ln, L⟩ := x
          obtain rfl : L = .slice B l.length c2 := e2
          simp only at hnx
          have q0 := q 0 _ (by omega) rfl; have q1 := q 1 _ (by omega) rfl; have q2 := q 2 _ (by omega) rfl; have q3 := q 3 _ (by omega) rfl; have q4 := q 4 _ (by omega) rfl; have q5 := q 5 _ (by omega) rfl; have q6 := q 6 _ (by omega) rfl; have q7 := q 7 _ (by omega) rfl; have q8 := q 8 _ (by omega) rfl; have q9 := q 9 _ (by omega) rfl; have q10 := q 10 _ (by omega) rfl
          simp only [Nat.add_zero] at q0
          clear q hb1
          go_upto_region 12 with fail
          have hbx := box_b wr (.cells #[.int .i64 kd, .string (bs nm), .slice B l.length c2, .int .i64 rn, .int .i64 rm, .string (bs rf), .string (bs rt), .string (bs rb), .string (bs ra), .string (bs ri), .int .i64 ln] 92)
          have R0 := heap_alloc_new wr (.cells #[.int .i64 kd, .string (bs nm), .slice B l.length c2, .int .i64 rn, .int .i64 rm, .string (bs rf), .string (bs rt), .string (bs rb), .string (bs ra), .string (bs ri), .int .i64 ln] 92)
          have HB2 := Lib.hid (below_then HB.out hbx HB.out.size)
          have HO2 := Lib.hid (own_below HO.out hbx HB.out.size)
          clear q0 q1 q2 q3 q4 q5 q6 q7 q8 q9 q10 hbx HO
          generalize wr.heap.size = gr at *
          generalize wr.alloc (.cells #[.int .i64 kd, .string (bs nm), .slice B l.length c2, .int .i64 rn, .int .i64 rm, .string (bs rf), .string (bs rt), .string (bs rb), .string (bs ra), .string (bs ri), .int .i64 ln] 92) = wy at *
          have p0 := row_q0 R0; have p1 := row_q1 R0
          by_cases h8 : kd = 8
          · rw [if_pos h8] at hnx
            subst h8
            have HNX := Lib.hid hnx
            clear hnx
            generalize nmS (stsOf ((acc.map er).take k)) = ns at *
            have hbz := HB2.out.size
            go_wp2_with (at_builtin; go_must (refine wpList_append_own _ rfl (.tmp 45) (.tmp 48) 25 rfl w1.heap.size 9 i0 _ 1 16 Tryz.underlying25 hi hz0 hz1 hz2 rfl (by decide) _ _ _ rfl (World.ownsRow.alloc HO2.out _) ⟨wy.heap.size, 0, none⟩ 1 1 (scells [nm]) rfl rfl (cells_new _ _ _) (sc_one _) (by unfold maxLen; omega) (by omega) (by simp; omega) ?_); intro v' w4 hown' hg' _)
            have HB4 : Hid (Below w1.heap.size w1 w4) := (HB2.out.alloc HB2.out.size _).grown hg' (HB2.out.alloc HB2.out.size _).size (fun g e => (World.ownsRow.lt HO2.out g e).1)
            have HO4 : Hid (OwnL w4 w1.heap.size v' (ns ++ [nm])) := ownL_snocA hown'
            go_roundw
            case rel => exact ⟨k + 1, by omega, by go_num, by show OwnL _ _ _ _; rw [HNX.out]; exact HO4.out, HB4.out⟩
            case measure => simp [intOf]; omega
          · rw [if_neg h8] at hnx
            have g8 : (kd == 8) = false := beq_eq_false_iff_ne.2 h8
            have HNX := Lib.hid hnx
            clear hnx h8
            go_wp2
            go_roundw
            case rel => exact ⟨k + 1, by omega, by go_num, by show OwnL _ _ _ _; rw [HNX.out]; exact HO2.out, HB2.out⟩
            case measure => simp [intOf]; omega
        · have hO : OwnL wr w1.heap.size u7 (nmS (stsOf (acc.map er))) := by have := HO.out; rwa [List.take_of_length_le (by simp; omega)] at this
          obtain ⟨AN, cN, rfl⟩ := own_slice hO
          have HLN := Lib.hid (listAt_of hO)
          have hnsl : (nmS (stsOf (acc.map er))).length ≤ 1000 := by have := HNL.out acc.length; rwa [List.take_of_length_le (by simp)] at this
          have HCR : Hid (compR (acc.map er) = takeL (stsOf (acc.map er)) ((acc.map er).drop 0) {}) := HPA.out
          have HTL := Lib.hid (fun k (hk : k < acc.length) (c : Ch) => takeL_drop hk (stsOf (acc.map er)) c)
          have HRF := Lib.hid (fun k (hk : k < acc.length) => (HRU.out _ (List.mem_map_of_mem (f := er) (List.getElem_mem hk)) : RuF acc[k].1))
          have HTD := Lib.hid (fun c r => trErr_doc HRU.out c r)
          have HKD := Lib.hid (kindD_ok HRU.out)
          have HRB := Lib.hid (HE.out _ HB.out).2.2
          have HEN : Hid (∀ W, Below wr.heap.size wr W → W.heap[w.heap.size]? = some (.cells #[.slice none 0 0, .slice none 0 0, .slice none 0 0, .slice none 0 0] 34 (0, 0)) ∧ W.heap[w.heap.size + 1]? = some (.cells #[.int .i64 0, .int .i64 0, .int .i64 0] 85 (0, 0)) ∧ Below w.heap.size w W) := fun W hW => HE.out W (below_then HB.out hW HB.out.size)
          have hwr2 : w.heap.size + 2 ≤ wr.heap.size := by have := HB.out.size; omega
          clear HO hO HNS HNL HPA HE HB0 HB HRU
          generalize hNS : nmS (stsOf (acc.map er)) = NS at *
          have HNS := Lib.hid hNS
          clear hNS
          go_upto_region 17 with fail
          clear hlt hk
          have HD0 : Hid (DA wr (wr.alloc (.cells #[.slice none 0 0, .slice none 0 0, .slice none 0 0, .slice none 0 0] 34)) wr.heap.size {} (.slice none 0 0) (.slice none 0 0) (.slice none 0 0) (.slice none 0 0)) :=
            ⟨heap_alloc_new _ _, Nat.le_refl _, World.ownsRow_nil _ _ _ _, World.ownsRow_nil _ _ _ _, World.ownsRow_nil _ _ _ _, (fun g e => by cases e), World.ownsRow_nil _ _ _ _, box_b _ _⟩
          have HC0 : Hid (ChF ({} : Ch) ∧ ChI {} ∧ okK ({} : Ch).kinds) := ⟨chF_nil, ⟨fun x hx => absurd hx (by simp), fun x hx => absurd hx (by simp)⟩, fun x hx => absurd hx (by simp)⟩
          obtain ⟨w3, rfl⟩ : ∃ x : World, x = wr := ⟨_, rfl⟩
          go_loopw [53] (fun i wy => ∃ (k : Nat) (c : Ch) (vN vK vP vT : Value), k ≤ acc.length ∧ i = .int .i64 k ∧ Hid (compR (acc.map er) = takeL (stsOf (acc.map er)) ((acc.map er).drop k) c) ∧ Hid (ChF c ∧ ChI c ∧ okK c.kinds) ∧ Hid (DA w3 wy w3.heap.size c vN vK vP vT)) (fun i _ => acc.length - (intOf i).toNat)
          case atStart => exact ⟨0, {}, _, _, _, _, Nat.zero_le _, rfl, HCR, HC0, HD0⟩
          case round =>
            clear HCR HD0 HC0
            obtain ⟨k, c, vN, vK, vP, vT, hk, rfl, HCR, HCF, HD⟩ := hrel
            have hb1 : Below w.heap.size w wr := below_then HRB.out HD.out.be HRB.out.size
            by_cases hlt : k < acc.length
            · obtain ⟨g, rfl, hgl, hc, B, c2, e2, hL⟩ := HR.out k hlt
              have TLk := HTL.out k hlt c
              have RFk := HRF.out k hlt
              have q := fun f u hf hu => (hb1.cell (p := ⟨g, k * 11 + f, none⟩) hgl).trans (hc f u hf hu)
              clear hc hL
              generalize acc[k] = x at *
              obtain ⟨⟨kd, nm, l, rn, rm, rf, rt, rb, ra, ri⟩, ln, L⟩ := x
              obtain rfl : L = .slice B l.length c2 := e2
              simp only at TLk RFk
              have q0 := q 0 _ (by omega) rfl; have q1 := q 1 _ (by omega) rfl; have q2 := q 2 _ (by omega) rfl; have q3 := q 3 _ (by omega) rfl; have q4 := q 4 _ (by omega) rfl; have q5 := q 5 _ (by omega) rfl; have q6 := q 6 _ (by omega) rfl; have q7 := q 7 _ (by omega) rfl; have q8 := q 8 _ (by omega) rfl; have q9 := q 9 _ (by omega) rfl; have q10 := q 10 _ (by omega) rfl
              simp only [Nat.add_zero] at q0
              clear q
              have HCT : Hid (compR (acc.map er) = if takeE (stsOf (acc.map er)) c ⟨kd, nm, l, rn, rm, rf, rt, rb, ra, ri⟩ = 0 then takeL (stsOf (acc.map er)) ((acc.map er).drop (k + 1)) (takeC (stsOf (acc.map er)) c ⟨kd, nm, l, rn, rm, rf, rt, rb, ra, ri⟩) else .bad ln (takeE (stsOf (acc.map er)) c ⟨kd, nm, l, rn, rm, rf, rt, rb, ra, ri⟩)) := HCR.out.trans TLk
              have HRFk := Lib.hid RFk
              clear TLk RFk HCR HTL HRF
              go_upto_region 19 with fail
              have HD2 := Lib.hid (HD.out.below (box_b wr (.cells #[.int .i64 kd, .string (bs nm), .slice B l.length c2, .int .i64 rn, .int .i64 rm, .string (bs rf), .string (bs rt), .string (bs rb), .string (bs ra), .string (bs ri), .int .i64 ln] 92)))
              have HR0 := Lib.hid (heap_alloc_new wr (.cells #[.int .i64 kd, .string (bs nm), .slice B l.length c2, .int .i64 rn, .int .i64 rm, .string (bs rf), .string (bs rt), .string (bs rb), .string (bs ra), .string (bs ri), .int .i64 ln] 92))
              have hgr : w3.heap.size < wr.heap.size := HD.out.lt
              clear q0 q1 q2 q3 q4 q5 q6 q7 q8 q9 q10 HD hb1
              generalize wr.heap.size = gr at *
              generalize wr.alloc (.cells #[.int .i64 kd, .string (bs nm), .slice B l.length c2, .int .i64 rn, .int .i64 rm, .string (bs rf), .string (bs rt), .string (bs rb), .string (bs ra), .string (bs ri), .int .i64 ln] 92) = wy at *
              have p0 := row_q0 HR0.out
              obtain ⟨A1, c1, rfl⟩ := own_slice HD2.out.oN
              obtain ⟨A2, c4, rfl⟩ := own_slice HD2.out.oK
              obtain ⟨A3, c3, rfl⟩ := own_slice HD2.out.oP
              obtain ⟨A4, c5, rfl⟩ := own_slice HD2.out.oT
              have HIX := Lib.hid (fun x => RIx_any c.names x A1 c1 wy (listAt_of HD2.out.oN) (by have := HCF.out.1.nl; omega))
              have s0 := HD2.out.q0; have s1 := HD2.out.q1; have s2 := HD2.out.q2; have s3 := HD2.out.q3
              by_cases h8 : kd = 8
              · skip
                rename_i zz1 zz2 zz3 zz4 zz5 zz6 zz7 zz8 zz9 zz10 zz11 zz12 zz13 zz14 zz15 zz16 zz17 zz18 zz19 zz20
                revert acc cap w ha hac HI zz1 w1 hs0 zz2 u4 u5 u6 u21 u22 u23 u24 u25 u26 u27 u28 u29 u30 u31 u32 u33 u34 u35 zz3 zz4 HB zz5 i0 hi hz0 hz1 hz2 zz6 zz7 u9 u39 u40 u41 u42 u43 u44 u45 u46 u47 u48 u49 u50 zz8 AN cN HKD NS hnsl HTD HNS zz9 zz10 zz11 w3 HRB HEN hwr2 HLN wr u12 u13 u14 u15 u16 u17 u54 u55 u56 u57 u58 u59 u60 u61 u62 u63 u64 u65 u66 u67 u68 u69 u70 u71 u72 u73 u74 u75 u76 u77 u78 u79 u80 u81 u82 u83 u84 u85 u86 u87 u88 u89 u90 u91 u92 u93 u94 u95 u96 u97 u98 u99 u100 u101 u102 u103 u104 u105 u106 u107 u108 u109 u110 u111 u112 u113 u114 u115 u116 u117 u118 u119 u120 u121 u122 u123 u124 u125 u126 u127 u128 u129 u130 u131 u132 u133 u134 u135 u136 u137 u138 u139 u140 u141 u142 u143 u144 u145 u146 u147 u148 u149 u150 u151 u152 u153 u154 u155 u156 u157 u158 u159 u160 u161 u162 u163 u164 u165 u166 u167 u168 u169 u170 u171 u172 u173 u174 u175 u176 u177 u178 u179 u180 u181 u182 u183 u184 u185 u186 u187 u188 u189 u190 u191 u192 u193 u194 u195 u196 u197 u198 k c hk HCF hlt g HR zz12 zz13 zz14 zz15 hgl B c2 kd nm l rn rm rf rt rb ra ri ln HCT HRFk zz16 zz17 zz18 zz19 zz20 gr hgr wy HR0 p0 A1 c1 A2 c4 A3 c3 A4 c5 HD2 HIX s0 s1 s2 s3 h8
                exact hG1.out
              · have g8 : (kd == 8) = false := beq_eq_false_iff_ne.2 h8
                by_cases h9 : 9 ≤ kd
                · skip
                  rename_i zz1 zz2 zz3 zz4 zz5 zz6 zz7 zz8 zz9 zz10 zz11 zz12 zz13 zz14 zz15 zz16 zz17 zz18 zz19 zz20
                  revert acc cap w ha hac HI zz1 w1 hs0 zz2 u4 u5 u6 u21 u22 u23 u24 u25 u26 u27 u28 u29 u30 u31 u32 u33 u34 u35 zz3 zz4 HB zz5 i0 hi hz0 hz1 hz2 zz6 zz7 u9 u39 u40 u41 u42 u43 u44 u45 u46 u47 u48 u49 u50 zz8 AN cN HKD NS hnsl HTD HNS zz9 zz10 zz11 w3 HRB HEN hwr2 HLN wr u12 u13 u14 u15 u16 u17 u54 u55 u56 u57 u58 u59 u60 u61 u62 u63 u64 u65 u66 u67 u68 u69 u70 u71 u72 u73 u74 u75 u76 u77 u78 u79 u80 u81 u82 u83 u84 u85 u86 u87 u88 u89 u90 u91 u92 u93 u94 u95 u96 u97 u98 u99 u100 u101 u102 u103 u104 u105 u106 u107 u108 u109 u110 u111 u112 u113 u114 u115 u116 u117 u118 u119 u120 u121 u122 u123 u124 u125 u126 u127 u128 u129 u130 u131 u132 u133 u134 u135 u136 u137 u138 u139 u140 u141 u142 u143 u144 u145 u146 u147 u148 u149 u150 u151 u152 u153 u154 u155 u156 u157 u158 u159 u160 u161 u162 u163 u164 u165 u166 u167 u168 u169 u170 u171 u172 u173 u174 u175 u176 u177 u178 u179 u180 u181 u182 u183 u184 u185 u186 u187 u188 u189 u190 u191 u192 u193 u194 u195 u196 u197 u198 k c hk HCF hlt g HR zz12 zz13 zz14 zz15 hgl B c2 kd nm l rn rm rf rt rb ra ri ln HCT HRFk zz16 zz17 zz18 zz19 zz20 gr hgr wy HR0 p0 A1 c1 A2 c4 A3 c3 A4 c5 HD2 HIX s0 s1 s2 s3 h8 g8 h9
                  exact hG2.out
                · have h9i : ¬ (9 : Int) ≤ kd := h9
                  have HCN : Hid (compR (acc.map er) = takeL (stsOf (acc.map er)) ((acc.map er).drop (k + 1)) c) := by
                    have h1 : ¬ isTr ⟨kd, nm, l, rn, rm, rf, rt, rb, ra, ri⟩ := by show ¬ (kd = 9 ∨ kd = 10 ∨ kd = 11); omega
                    have e1 : takeE (stsOf (acc.map er)) c ⟨kd, nm, l, rn, rm, rf, rt, rb, ra, ri⟩ = 0 := by unfold takeE; rw [if_neg (by exact h8), if_neg h1]
                    have e2 : takeC (stsOf (acc.map er)) c ⟨kd, nm, l, rn, rm, rf, rt, rb, ra, ri⟩ = c := by unfold takeC; rw [if_neg (by exact h8), if_neg h1]
                    have := HCT.out
                    rw [e1, e2, if_pos rfl] at this
                    exact this
                  clear HCT HTD HKD
                  go_wp2
                  go_roundw
                  case rel => exact ⟨k + 1, c, _, _, _, _, by omega, by go_num, HCN.out, HCF.out, HD2.out⟩
                  case measure => simp [intOf]; omega
            · have HEND : Hid (compR (acc.map er) = if valB c.kinds c.parents = true then .ok c else .none) := by have := HCR.out; rw [List.drop_of_length_le (by simp; omega), takeL] at this; exact this
              obtain ⟨A1, c1, rfl⟩ := own_slice HD.out.oN
              obtain ⟨A2, c4, rfl⟩ := own_slice HD.out.oK
              obtain ⟨A3, c3, rfl⟩ := own_slice HD.out.oP
              obtain ⟨A4, c5, rfl⟩ := own_slice HD.out.oT
              have hkl := HCF.out.1.kl
              have hpl := HCF.out.1.pl
              have hnl := HCF.out.1.nl
              have HVA := Lib.hid (RValid_any c.kinds c.parents A2 A3 c.kinds.length c4 c.parents.length c3 wr ⟨ints_of_own HD.out.oK HCF.out.2.1.1 (by omega), ints_of_own HD.out.oP HCF.out.2.1.2 (by omega)⟩ rfl rfl (by omega) (by omega))
              have s1 := HD.out.q1; have s2 := HD.out.q2
              clear HCR HTL HRF HTD HKD hkl hpl hnl
              cases hv : valB c.kinds c.parents
              · have HEE : Hid (compR (acc.map er) = .none) := by have := HEND.out; rw [hv] at this; show _ = _; simpa using this
                rw [hv] at HVA
                clear HEND hv
                go_wp2_with (go_at_call 61; refine HVA.out.mono ?_; rintro e w5 ⟨rfl, hb5⟩; (try dsimp only); have HD5 := Lib.hid (HD.out.below hb5); obtain ⟨RC, RF, hbz⟩ := HEN.out _ HD5.out.be; have d0 := cell_of_row _ _ 0 _ _ _ RC; have d1 := cell_of_row _ _ 1 _ _ _ RC; have d2 := cell_of_row _ _ 2 _ _ _ RC; have d3 := cell_of_row _ _ 3 _ _ _ RC; have f0 := fz_of RC 0; have f1 := fz_of RC 1; have f2 := fz_of RC 2; have f3 := fz_of RC 3; have e0 := cell_of_row _ _ 0 _ _ _ RF; have e1 := cell_of_row _ _ 1 _ _ _ RF; have e2 := cell_of_row _ _ 2 _ _ _ RF; have g0 := fz_of RF 0; have g1 := fz_of RF 1; have g2 := fz_of RF 2)
                (try simp only [Exit.inBlock, Exit.then])
                have ct := cf_tell (.slice none 0 0) (.slice none 0 0) (.slice none 0 0) (.slice none 0 0) (.int .i64 0) (.int .i64 0) (.int .i64 3) RC RF
                refine bodyPost_ret (run_cell2' rfl _ _ w.heap.size (w.heap.size + 1) _ _ _ _ _ _ _ _ rfl rfl ct.1 ct.2 Tryz.underlying34 rfl (by kernel_rfl) Tryz.underlying85 rfl (by kernel_rfl)) rfl ?_
                rw [HEE.out]
                exact ⟨cf_below hbz (Nat.le_refl _) (Nat.le_refl _) _ _ _ _ _ _ _, rfl⟩
              · have HEE : Hid (compR (acc.map er) = .ok c) := by have := HEND.out; rw [hv] at this; show _ = _; simpa using this
                rw [hv] at HVA
                clear HEND hv
                go_wp2_with (go_at_call 61; refine HVA.out.mono ?_; rintro e w5 ⟨rfl, hb5⟩; (try dsimp only); have HD5 := Lib.hid (HD.out.below hb5); have t0 := HD5.out.q0; have t1 := HD5.out.q1; have t2 := HD5.out.q2; have t3 := HD5.out.q3; obtain ⟨RC, RF, hbz⟩ := HEN.out _ HD5.out.be; have d0 := cell_of_row _ _ 0 _ _ _ RC; have d1 := cell_of_row _ _ 1 _ _ _ RC; have d2 := cell_of_row _ _ 2 _ _ _ RC; have d3 := cell_of_row _ _ 3 _ _ _ RC; have f0 := fz_of RC 0; have f1 := fz_of RC 1; have f2 := fz_of RC 2; have f3 := fz_of RC 3; have e0 := cell_of_row _ _ 0 _ _ _ RF; have e1 := cell_of_row _ _ 1 _ _ _ RF; have e2 := cell_of_row _ _ 2 _ _ _ RF; have g0 := fz_of RF 0; have g1 := fz_of RF 1; have g2 := fz_of RF 2)
                (try simp only [Exit.inBlock, Exit.then])
                have ct := cf_tell (.slice A1 c.names.length c1) (.slice A2 c.kinds.length c4) (.slice A3 c.parents.length c3) (.slice A4 c.trans.length c5) (.int .i64 0) (.int .i64 0) (.int .i64 0) RC RF
                refine bodyPost_ret (run_cell2' rfl _ _ w.heap.size (w.heap.size + 1) _ _ _ _ _ _ _ _ rfl rfl ct.1 ct.2 Tryz.underlying34 rfl (by kernel_rfl) Tryz.underlying85 rfl (by kernel_rfl)) rfl ?_
                rw [HEE.out]
                have hw3 : w.heap.size ≤ w3.heap.size := by omega
                exact ⟨cf_below hbz (Nat.le_refl _) (Nat.le_refl _) _ _ _ _ _ _ _, ⟨_, _, _, _, rfl, own_mono2 (cf_own HD5.out.oN hwr2 _ _ _ _ _ _ _) hw3, own_mono2 (cf_own HD5.out.oK hwr2 _ _ _ _ _ _ _) hw3, own_mono2 (cf_own HD5.out.oP hwr2 _ _ _ _ _ _ _) hw3, HD5.out.ap, own_mono2 (cf_own HD5.out.oT hwr2 _ _ _ _ _ _ _) hw3⟩, HCF.out⟩

end Go.Proofs.YtaoinedndnleoaaGreat
