/-
  Package chart: Compile.
-/
import Derived.Test.YtahgfmobdfhaaaaGreatDoorSm0
namespace Go.Proofs.YtahgfmobdfhaaaaGreatDoor
set_option maxRecDepth 100000
open Go.ChangeShapes Go.WideShapes Go.ChangeAt Go.RowKit

theorem run_cellT {P : Program} {fn : Func} {p u : Tmp} {ty : TypeId} (h : fn.results = #[.cell p ty, .tmp u]) (tmps : Array Value) (w : World) (g : Nat) (t : TypeId) (cs : Array Value) (fr : Nat × Nat) (d : TypeDesc)
    (hp : tmps.getD p undef = .pointer (some ⟨g, 0, none⟩)) (hg : w.heap[g]? = some (.cells cs t fr))
    (hu : P.underlying ty = some d) (hd : (match d with | .struct _ | .array _ _ => true | _ => false) = true) (hi : (P.info? ty).map (·.size) = some cs.size) :
    (results fn tmps).run P w = .ok (.tuple #[.agg cs, tmps.getD u undef]) w := by
  have hp' : tmps[p]?.getD undef = .pointer (some ⟨g, 0, none⟩) := by simpa using hp
  simp [results, h, hp', asAddr, run_loadVar_row w g t ty cs fr d hg hu hd hi]
abbrev chZ : Value := .agg #[.slice none 0 0, .slice none 0 0, .slice none 0 0, .slice none 0 0]
/-- four cells of a chart, stored one by one -/
theorem ch_tell {W : World} {t : Nat} {a0 a1 a2 a3 : Value} (b0 b1 b2 b3 : Value) (R : W.heap[t]? = some (.cells #[a0, a1, a2, a3] 33 (0, 0))) :
    ((((W.setCell ⟨t, 0, none⟩ b0).setCell ⟨t, 1, none⟩ b1).setCell ⟨t, 2, none⟩ b2).setCell ⟨t, 3, none⟩ b3).heap[t]? = some (.cells #[b0, b1, b2, b3] 33 (0, 0)) ∧
    W.grownBy ((((W.setCell ⟨t, 0, none⟩ b0).setCell ⟨t, 1, none⟩ b1).setCell ⟨t, 2, none⟩ b2).setCell ⟨t, 3, none⟩ b3) (some t) := by
  have e := heap_set (j := 3) (heap_set (j := 2) (heap_set (j := 1) (heap_set (j := 0) R b0) b1) b2) b3
  exact ⟨by simpa using e, World.grownBy.trans (World.grownBy.trans (World.grownBy.trans (grown_setCell _ _ _ _) (grown_setCell _ _ _ _)) (grown_setCell _ _ _ _)) (grown_setCell _ _ _ _)⟩
theorem fz_of {W : World} {t : Nat} {cs : Array Value} {ty : TypeId} (R : W.heap[t]? = some (.cells cs ty (0, 0))) (j : Nat) : W.frozen? ⟨t, j, none⟩ = false := by simp [World.frozen?, R]
/-- a chart in memory of the call's own -/
structure ChAt (base : Nat) (W : World) (c : Ch) (vN vK vP vT : Value) : Prop where
  oN : OwnL W base vN c.names
  oK : OwnI W base vK c.kinds
  oP : OwnI W base vP c.parents
  ap : ∀ g, vK.ownBlock = some g → vP.ownBlock = some g → False
  oT : OwnT W base vT c.trans
theorem takeL_zero {sts : List (Ru × Nat)} {x : Ru × Nat} {l : List (Ru × Nat)} {c : Ch} (h : takeE sts c x.1 = 0) : takeL sts (x :: l) c = takeL sts l (takeC sts c x.1) := by rw [takeL, if_pos h]
theorem takeL_pos {sts : List (Ru × Nat)} {x : Ru × Nat} {l : List (Ru × Nat)} {c : Ch} (h : takeE sts c x.1 ≠ 0) : takeL sts (x :: l) c = .bad x.2 (takeE sts c x.1) := by rw [takeL, if_neg h]
theorem chI_take {sts : List (Ru × Nat)} {c : Ch} {r : Ru} (hf : ChF c) (hi : ChI c) (hn : (Lit.int .i64 r.n).wf = true) : ChI (takeC sts c r) := by
  unfold takeC
  split
  · refine ⟨fun x hx => ?_, fun x hx => ?_⟩
    · rcases List.mem_append.1 hx with h | h
      · exact hi.1 x h
      · rw [List.mem_singleton.1 h]; exact hn
    · rcases List.mem_append.1 hx with h | h
      · exact hi.2 x h
      · rw [List.mem_singleton.1 h]
        have := idxI_lt c.names r.in_
        have := hf.nl
        exact WalkArith.wf_i64 (by omega)
  · split
    · exact hi
    · exact hi
noncomputable def compR (l : List (Ru × Nat)) : ChR := by classical exact if ∀ x ∈ l, printP x.1 ≠ none then compL l else .arg
theorem compR_ok {l : List (Ru × Nat)} (h : ∀ x ∈ l, printP x.1 ≠ none) : compR l = compL l := by unfold compR; rw [if_pos h]
theorem compR_no {l : List (Ru × Nat)} {x : Ru × Nat} (hx : x ∈ l) (h : printP x.1 = none) : compR l = .arg := by unfold compR; rw [if_neg fun h9 => h9 x hx h]
def FltTo (ln k : Int) (cl : Int) (w : World) (e : Ending) (w' : World) : Prop := ∃ b, e = .returned (.tuple #[chZ, .iface 60 (.pointer (some ⟨b, 0, none⟩))]) ∧ w.heap.size ≤ b ∧ b < w'.heap.size ∧ FaultAt w' b ln cl k
def CompTo (p : ChR) (w : World) (e : Ending) (w' : World) : Prop := Below w.heap.size w w' ∧ match p with
  | .arg => e = .returned (.tuple #[chZ, .iface 45 (.int .i64 1)])
  | .bad ln k => FltTo ln k 1 w e w'
  | .none => FltTo 0 3 0 w e w'
  | .ok c => (∃ vN vK vP vT, e = .returned (.tuple #[.agg #[vN, vK, vP, vT], .nilIface]) ∧ ChAt w.heap.size w' c vN vK vP vT) ∧ ChF c ∧ ChI c
set_option maxHeartbeats 8000000 in
theorem Compile_any (acc : List RL) (A : Option Addr) (cap : Nat) (w : World) (hR : RIn w A acc) (ha : acc.length ≤ 1000) (hac : acc.length ≤ cap) (hsm : ∀ x ∈ acc, Small x.1) (hll : ∀ x ∈ acc, x.1.list.length ≤ 1000000)
    (hli : ∀ x ∈ acc, ∀ B c, x.2.2 = .slice B x.1.list.length c → LIn w B c x.1.list) (hg : HandleAt w) (ht : TabAt w) :
    Calls Tryz.prog 6 #[.slice A acc.length cap] w (CompTo (compR (acc.map er)) w) := by
  have HR := Lib.hid hR
  have HS := Lib.hid hsm
  have HI := Lib.hid hli
  have HH := Lib.hid hg
  have HT := Lib.hid ht
  have HLL := Lib.hid hll
  clear hR hsm hli hg ht hll
  have RC := heap_alloc_new w (.cells #[.slice none 0 0, .slice none 0 0, .slice none 0 0, .slice none 0 0] 33)
  have hb0 := box_b w (.cells #[.slice none 0 0, .slice none 0 0, .slice none 0 0, .slice none 0 0] 33)
  have hs0 : (w.alloc (.cells #[.slice none 0 0, .slice none 0 0, .slice none 0 0, .slice none 0 0] 33)).heap.size = w.heap.size + 1 := by simp
  have HB0 := Lib.hid hb0
  have HRC := Lib.hid RC
  clear hb0 RC
  go_enter Tryz.func6, Tryz.ntmps6
  go_upto_region 2 with fail
  generalize w.alloc (.cells #[.slice none 0 0, .slice none 0 0, .slice none 0 0, .slice none 0 0] 33) = w1 at *
  go_loopw [14] (fun i wr => ∃ k : Nat, k ≤ acc.length ∧ i = .int .i64 k ∧ Hid (∀ x ∈ (acc.take k).map er, printP x.1 ≠ none) ∧ Below w1.heap.size w1 wr) (fun i _ => acc.length - (intOf i).toNat)
  case atStart => exact ⟨0, Nat.zero_le _, rfl, (fun x hx => by simp at hx), Below.refl _ _⟩
  case round =>
    obtain ⟨k, hk, rfl, HP, hbw⟩ := hrel
    by_cases hlt : k < acc.length
    · obtain ⟨g, rfl, hgl, hc, B, c2, e2, hL⟩ := HR.out k hlt
      have hb1 : Below w.heap.size w wr := below_then HB0.out hbw HB0.out.size
      have hsk := HS.out _ (List.getElem_mem hlt)
      have hLI := (HI.out _ (List.getElem_mem hlt) B c2 e2).below hb1
      have hsn : (acc.take (k + 1)).map er = (acc.take k).map er ++ [er acc[k]] := by rw [List.take_succ_eq_append_getElem hlt, List.map_append]; rfl
      have hmem : er acc[k] ∈ acc.map er := List.mem_map_of_mem (List.getElem_mem hlt)
      have HSN := Lib.hid hsn
      have HME := Lib.hid hmem
      have hbz := hbw.size
      have q := fun f u hf hu => (hb1.cell (p := ⟨g, k * 11 + f, none⟩) hgl).trans (hc f u hf hu)
      clear hc hsn hmem hL
      generalize acc[k] = x at *
      obtain ⟨⟨kd, nm, l, rn, rm, rf, rt, rb, ra, ri⟩, ln, L⟩ := x
      obtain rfl : L = .slice B l.length c2 := e2
      simp only at hLI hsk
      have q0 := q 0 _ (by omega) rfl; have q1 := q 1 _ (by omega) rfl; have q2 := q 2 _ (by omega) rfl; have q3 := q 3 _ (by omega) rfl; have q4 := q 4 _ (by omega) rfl; have q5 := q 5 _ (by omega) rfl; have q6 := q 6 _ (by omega) rfl; have q7 := q 7 _ (by omega) rfl; have q8 := q 8 _ (by omega) rfl; have q9 := q 9 _ (by omega) rfl; have q10 := q 10 _ (by omega) rfl
      simp only [Nat.add_zero] at q0
      clear q
      have hbx := box_b wr (.cells #[.int .i64 kd, .string (bs nm), .slice B l.length c2, .int .i64 rn, .int .i64 rm, .string (bs rf), .string (bs rt), .string (bs rb), .string (bs ra), .string (bs ri), .int .i64 ln] 41)
      have PI := Lib.hid (print_in ⟨kd, nm, l, rn, rm, rf, rt, rb, ra, ri⟩ B c2 ln (wr.alloc (.cells #[.int .i64 kd, .string (bs nm), .slice B l.length c2, .int .i64 rn, .int .i64 rm, .string (bs rf), .string (bs rt), .string (bs rb), .string (bs ra), .string (bs ri), .int .i64 ln] 41)) (hLI.below hbx) hsk.1 hsk.2.1 hsk.2.2 ((HH.out.below' hb1).below' hbx) ((HT.out.below hb1).below hbx))
      have R0 := heap_alloc_new wr (.cells #[.int .i64 kd, .string (bs nm), .slice B l.length c2, .int .i64 rn, .int .i64 rm, .string (bs rf), .string (bs rt), .string (bs rb), .string (bs ra), .string (bs ri), .int .i64 ln] 41)
      have p0 := row_q0 R0; have p1 := row_q1 R0; have p2 := row_q2 R0; have p3 := row_q3 R0; have p4 := row_q4 R0; have p5 := row_q5 R0; have p6 := row_q6 R0; have p7 := row_q7 R0; have p8 := row_q8 R0; have p9 := row_q9 R0; have p10 := row_q10 R0
      have HBX := Lib.hid (below_then hbw hbx hbz)
      dsimp only [ruV] at PI
      clear hsk hLI hb1 R0 hbx
      cases hp : printP ⟨kd, nm, l, rn, rm, rf, rt, rb, ra, ri⟩ with
      | none =>
        have HE : Hid (compR (acc.map er) = .arg) := compR_no HME.out hp
        rw [hp] at PI
        clear hp HSN HME HP
        go_wp2_with (go_at_call 11; refine PI.out.mono ?_; rintro e w2 ⟨hb2, rfl⟩; have HB2 := Lib.hid (below_then HBX.out hb2 HBX.out.size); have RZ := (HB2.out.block _ (Array.getElem?_eq_some_iff.1 HRC.out).1).trans HRC.out; have c0 := cell_of_row w2 w.heap.size 0 _ _ _ RZ; have c1 := cell_of_row w2 w.heap.size 1 _ _ _ RZ; have c2 := cell_of_row w2 w.heap.size 2 _ _ _ RZ; have c3 := cell_of_row w2 w.heap.size 3 _ _ _ RZ; have f0 := fz_of RZ 0; have f1 := fz_of RZ 1; have f2 := fz_of RZ 2; have f3 := fz_of RZ 3)
        obtain ⟨h8, hg8⟩ := ch_tell (.slice none 0 0) (.slice none 0 0) (.slice none 0 0) (.slice none 0 0) RZ
        (try simp only [Exit.inBlock, Exit.then])
        refine bodyPost_ret (run_cellT rfl _ _ w.heap.size _ _ _ _ rfl h8 Tryz.underlying33 rfl (by kernel_rfl)) rfl ?_
        rw [HE.out]
        have hbz2 := below_then HB0.out HB2.out HB0.out.size
        exact ⟨hbz2.grown hg8 hbz2.size (fun g e => by cases e; exact Nat.le_refl _), rfl⟩
      | some t =>
        have HP2 : Hid (∀ x ∈ (acc.take (k + 1)).map er, printP x.1 ≠ none) := fun x hx => by
          rw [HSN.out, List.mem_append, List.mem_singleton] at hx
          rcases hx with hx | rfl
          · exact HP.out x hx
          · show printP ⟨kd, nm, l, rn, rm, rf, rt, rb, ra, ri⟩ ≠ none
            rw [hp]; simp
        rw [hp] at PI
        clear hp HSN HME HP
        go_wp2_with (go_at_call 11; refine PI.out.mono ?_; rintro e w2 ⟨hb2, rfl⟩)
        go_roundw
        case rel => exact ⟨k + 1, by omega, by go_num, HP2.out, below_then HBX.out hb2 HBX.out.size⟩
        case measure => simp [intOf]; omega
    · have HPA : Hid (compR (acc.map er) = compL (acc.map er)) := compR_ok (by have := HP.out; rwa [List.take_of_length_le (by omega)] at this)
      clear HP
      go_upto_region 8 with fail
      have hb1 : Below w.heap.size w wr := below_then HB0.out hbw HB0.out.size
      have hbk := box_b wr (.cells #[.int .i64 8] 3)
      have hb3 := below_then hb1 hbk hb1.size
      have OF := Lib.hid (Of_any6 acc A cap [8] (some ⟨wr.heap.size, 0, none⟩) 1 (wr.alloc (.cells #[.int .i64 8] 3)) (HR.out.below hb3) (fun j hj => by
        simp at hj
        subst hj
        exact ⟨_, rfl, by simp, by rw [cell_of_row _ _ _ _ _ _ (heap_alloc_new wr _)]; rfl⟩) (by decide) (by decide) ha hac HLL.out)
      have HBK := Lib.hid (below_then hbw hbk hbw.size)
      clear hb1 hbk hb3
      go_upto_region 9 with (go_at_call 12; refine OF.out.mono ?_; rintro e w2 ⟨vS, accS, rfl, hacs, hrows, hb2⟩; obtain ⟨AS, cS, rfl⟩ := own_slice hrows.1; have HB2 := Lib.hid (below_then HBK.out hb2 HBK.out.size); have HRO := Lib.hid hrows; have HAC := Lib.hid hacs; clear hb2 hrows hacs)
      have hws : (wr.alloc (.cells #[.int .i64 8] 3)).heap.size = wr.heap.size + 1 := by simp
      have hw1r := hbw.size
      have HSL : Hid (accS.map er = stsOf (acc.map er)) := HAC.out
      have hal : accS.length ≤ 1000 := by
        have h1 := congrArg List.length HAC.out
        have h2 := List.length_filter_le (kindIn [8]) (acc.map er)
        simp only [List.length_map] at h1 h2
        omega
      have hbn := box_b w2 (.cells #[.slice none 0 0, .slice none 0 0, .slice none 0 0, .slice none 0 0, .slice AS accS.length cS] 58)
      have hBA : BA w1 (w2.alloc (.cells #[.slice none 0 0, .slice none 0 0, .slice none 0 0, .slice none 0 0, .slice AS accS.length cS] 58)) w2.heap.size accS {} (.slice none 0 0) (.slice none 0 0) (.slice none 0 0) (.slice none 0 0) (.slice AS accS.length cS) :=
        ⟨heap_alloc_new _ _, HB2.out.size, World.ownsRow_nil _ _ _ _, World.ownsRow_nil _ _ _ _, World.ownsRow_nil _ _ _ _, fun g e => by simp [Value.ownBlock] at e, World.ownsRow_nil _ _ _ _,
          World.ownsRow.alloc (own_base HRO.out.1 (by omega)) _, fun x hx => by obtain ⟨B9, c9, e9⟩ := own_slice (HRO.out.2 x hx); exact ⟨B9, _, c9, e9⟩, below_then HB2.out hbn HB2.out.size⟩
      have HBA := Lib.hid hBA
      have hb2 : w2.heap.size < (w2.alloc (.cells #[.slice none 0 0, .slice none 0 0, .slice none 0 0, .slice none 0 0, .slice AS accS.length cS] 58)).heap.size := by simp
      clear hBA hbn HRO HAC HBK HB2 OF hws
      generalize w2.heap.size = b at *
      generalize w2.alloc (.cells #[.slice none 0 0, .slice none 0 0, .slice none 0 0, .slice none 0 0, .slice AS accS.length cS] 58) = w3 at *
      go_wp2
      go_loopw [34] (fun i wx => ∃ (k : Nat) (c : Ch) (vN vK vP vT : Value), k ≤ acc.length ∧ i = .int .i64 k ∧ Hid (compL (acc.map er) = takeL (stsOf (acc.map er)) ((acc.map er).drop k) c) ∧ Hid (ChF c) ∧ Hid (ChI c) ∧ Hid (BA w1 wx b accS c vN vK vP vT (.slice AS accS.length cS))) (fun i _ => acc.length - (intOf i).toNat)
      case atStart => exact ⟨0, {}, _, _, _, _, Nat.zero_le _, rfl, rfl, chF_nil, ⟨(fun x hx => by simp at hx), (fun x hx => by simp at hx)⟩, HBA.out⟩
      case round =>
        obtain ⟨k, c, vN, vK, vP, vT, hk, rfl, HP, HF, HCI, HA⟩ := hrel
        by_cases hlt : k < acc.length
        · have hbe := HA.out.be
          have hb1 : Below w.heap.size w wr := below_then HB0.out hbe HB0.out.size
          obtain ⟨g, rfl, hgl, hc, B, c2, e2, hL⟩ := HR.out k hlt
          have hsk := HS.out _ (List.getElem_mem hlt)
          have hdr : (acc.map er).drop k = er acc[k] :: (acc.map er).drop (k + 1) := by rw [List.drop_eq_getElem_cons (by simpa using hlt)]; simp
          have hpp := HP.out
          rw [hdr, ← HSL.out] at hpp
          have q := fun f u hf hu => (hb1.cell (p := ⟨g, k * 11 + f, none⟩) hgl).trans (hc f u hf hu)
          clear hc hL hdr
          generalize acc[k] = x at *
          obtain ⟨⟨kd, nm, l, rn, rm, rf, rt, rb, ra, ri⟩, ln, L⟩ := x
          obtain rfl : L = .slice B l.length c2 := e2
          simp only at hsk
          have q0 := q 0 _ (by omega) rfl; have q1 := q 1 _ (by omega) rfl; have q2 := q 2 _ (by omega) rfl; have q3 := q 3 _ (by omega) rfl; have q4 := q 4 _ (by omega) rfl; have q5 := q 5 _ (by omega) rfl; have q6 := q 6 _ (by omega) rfl; have q7 := q 7 _ (by omega) rfl; have q8 := q 8 _ (by omega) rfl; have q9 := q 9 _ (by omega) rfl; have q10 := q 10 _ (by omega) rfl
          simp only [Nat.add_zero] at q0
          clear q
          have hbx := box_b wr (.cells #[.int .i64 kd, .string (bs nm), .slice B l.length c2, .int .i64 rn, .int .i64 rm, .string (bs rf), .string (bs rt), .string (bs rb), .string (bs ra), .string (bs ri), .int .i64 ln] 41)
          have hwf : (Lit.int .i64 rn).wf = true := WalkArith.wf_i64 (by have := hsk.1; omega)
          have TK := takeR_any (HA.out.below hbx) HF.out HCI.out hal ⟨kd, nm, l, rn, rm, rf, rt, rb, ra, ri⟩ B l.length c2 ln hwf
          have HCN := Lib.hid (chI_take (sts := accS.map er) HF.out HCI.out (r := ⟨kd, nm, l, rn, rm, rf, rt, rb, ra, ri⟩) hwf)
          have HFN : Hid (takeE (accS.map er) c ⟨kd, nm, l, rn, rm, rf, rt, rb, ra, ri⟩ = 0 → ChF (takeC (accS.map er) c ⟨kd, nm, l, rn, rm, rf, rt, rb, ra, ri⟩)) := fun h => take_f HF.out h
          have R0 := heap_alloc_new wr (.cells #[.int .i64 kd, .string (bs nm), .slice B l.length c2, .int .i64 rn, .int .i64 rm, .string (bs rf), .string (bs rt), .string (bs rb), .string (bs ra), .string (bs ri), .int .i64 ln] 41)
          have p0 := row_q0 R0; have p1 := row_q1 R0; have p2 := row_q2 R0; have p3 := row_q3 R0; have p4 := row_q4 R0; have p5 := row_q5 R0; have p6 := row_q6 R0; have p7 := row_q7 R0; have p8 := row_q8 R0; have p9 := row_q9 R0; have p10 := row_q10 R0
          have HBX := Lib.hid (below_then hbe hbx hbe.size)
          have HR0 := Lib.hid R0
          have hxr : wr.heap.size < (wr.alloc (.cells #[.int .i64 kd, .string (bs nm), .slice B l.length c2, .int .i64 rn, .int .i64 rm, .string (bs rf), .string (bs rt), .string (bs rb), .string (bs ra), .string (bs ri), .int .i64 ln] 41)).heap.size := by simp
          have HP1 : Hid (takeE (accS.map er) c ⟨kd, nm, l, rn, rm, rf, rt, rb, ra, ri⟩ = 0 → compL (acc.map er) = takeL (accS.map er) ((acc.map er).drop (k + 1)) (takeC (accS.map er) c ⟨kd, nm, l, rn, rm, rf, rt, rb, ra, ri⟩)) := fun h => hpp.trans (takeL_zero h)
          have HP2 : Hid (takeE (accS.map er) c ⟨kd, nm, l, rn, rm, rf, rt, rb, ra, ri⟩ ≠ 0 → compL (acc.map er) = .bad ln (takeE (accS.map er) c ⟨kd, nm, l, rn, rm, rf, rt, rb, ra, ri⟩)) := fun h => hpp.trans (takeL_pos h)
          clear hpp
          dsimp only [ruV] at TK
          clear hsk hb1 R0 hbx hwf HP HF HCI HA
          generalize takeE (accS.map er) c ⟨kd, nm, l, rn, rm, rf, rt, rb, ra, ri⟩ = e9 at *
          generalize takeC (accS.map er) c ⟨kd, nm, l, rn, rm, rf, rt, rb, ra, ri⟩ = cn at *
          by_cases he : e9 = 0
          · have HPP : Hid (compL (acc.map er) = takeL (stsOf (acc.map er)) ((acc.map er).drop (k + 1)) cn) := by show _ = _; rw [HP1.out he, HSL.out]
            have HFF := Lib.hid (HFN.out he)
            have TZ := Lib.hid (TK.mono fun e w' h => tk_zero h he)
            clear he HP1 HP2 HFN TK
            go_wp2_with (go_at_call 13; refine TZ.out.mono ?_; rintro e w5 ⟨rfl, vN9, vK9, vP9, vT9, hba9⟩; have HBA9 := Lib.hid hba9; clear hba9)
            go_roundw
            case rel => exact ⟨k + 1, cn, vN9, vK9, vP9, vT9, by omega, by go_num, HPP.out, HFF.out, HCN.out, HBA9.out⟩
            case measure => simp [intOf]; omega
          · have HPP : Hid (compL (acc.map er) = .bad ln e9) := HP2.out he
            have TZ := Lib.hid (TK.mono fun e w' h => tk_pos h he)
            clear he HP1 HP2 HFN TK HCN
            go_wp2_with (go_at_call 13; refine TZ.out.mono ?_; rintro e w5 ⟨rfl, hb5⟩; have HB5 := Lib.hid (below_then HBX.out hb5 HBX.out.size); have RZ := (HB5.out.block _ (Array.getElem?_eq_some_iff.1 HRC.out).1).trans HRC.out; have p10 := row_q10 (row_below HR0.out hb5); have c0 := cell_of_row w5 w.heap.size 0 _ _ _ RZ; have c1 := cell_of_row w5 w.heap.size 1 _ _ _ RZ; have c2 := cell_of_row w5 w.heap.size 2 _ _ _ RZ; have c3 := cell_of_row w5 w.heap.size 3 _ _ _ RZ; have f0 := fz_of RZ 0; have f1 := fz_of RZ 1; have f2 := fz_of RZ 2; have f3 := fz_of RZ 3)
            have hrz : w.heap.size < w5.heap.size := (Array.getElem?_eq_some_iff.1 RZ).1
            go_region
            all_goals
              go_wp2
              obtain ⟨h8, hg8⟩ := ch_tell (.slice none 0 0) (.slice none 0 0) (.slice none 0 0) (.slice none 0 0) RZ
              have hXs : ((((w5.setCell ⟨w.heap.size, 0, none⟩ (.slice none 0 0)).setCell ⟨w.heap.size, 1, none⟩ (.slice none 0 0)).setCell ⟨w.heap.size, 2, none⟩ (.slice none 0 0)).setCell ⟨w.heap.size, 3, none⟩ (.slice none 0 0)).heap.size = w5.heap.size := by simp [World.setCell]
              generalize (((w5.setCell ⟨w.heap.size, 0, none⟩ (.slice none 0 0)).setCell ⟨w.heap.size, 1, none⟩ (.slice none 0 0)).setCell ⟨w.heap.size, 2, none⟩ (.slice none 0 0)).setCell ⟨w.heap.size, 3, none⟩ (.slice none 0 0) = X at *
              have hXl : w.heap.size < X.heap.size := by omega
              have h9 : ((X.alloc (.cells #[.int .i64 ln, .int .i64 1, .iface 45 (.int .i64 e9)] 62)).drew).heap[w.heap.size]? = some (.cells #[.slice none 0 0, .slice none 0 0, .slice none 0 0, .slice none 0 0] 33 (0, 0)) := (heap_alloc_old X _ hXl).trans h8
              have RF : ((X.alloc (.cells #[.int .i64 ln, .int .i64 1, .iface 45 (.int .i64 e9)] 62)).drew).heap[w5.heap.size]? = some (.cells #[.int .i64 ln, .int .i64 1, .iface 45 (.int .i64 e9)] 62 (0, 0)) := by have := heap_alloc_new X (.cells #[.int .i64 ln, .int .i64 1, .iface 45 (.int .i64 e9)] 62); rw [hXs] at this; exact this
              have hl5 := (Array.getElem?_eq_some_iff.1 RF).1
              (try simp only [Exit.inBlock, Exit.then])
              refine bodyPost_ret (run_cellT rfl _ _ w.heap.size _ _ _ _ rfl h9 Tryz.underlying33 rfl (by kernel_rfl)) rfl ?_
              have hbz5 := below_then HB0.out HB5.out HB0.out.size
              have hbzX := hbz5.grown hg8 hbz5.size (fun g e => by cases e; exact Nat.le_refl _)
              rw [HPA.out, HPP.out]
              exact ⟨below_drew (below_then hbzX (box_b X _) hbzX.size), w5.heap.size, rfl, Nat.le_of_lt hrz, hl5, by rw [cell_of_row _ _ _ _ _ _ RF]; rfl, by rw [cell_of_row _ _ _ _ _ _ RF]; rfl, by rw [cell_of_row _ _ _ _ _ _ RF]; rfl⟩
        · have hpp := HP.out
          rw [List.drop_of_length_le (by simp; omega), takeL] at hpp
          have hbe := HA.out.be
          obtain ⟨AN, cN, rfl⟩ := own_slice HA.out.oN
          obtain ⟨AK, cK, rfl⟩ := own_slice HA.out.oK
          obtain ⟨AP, cP, rfl⟩ := own_slice HA.out.oP
          obtain ⟨AT, cT, rfl⟩ := own_slice HA.out.oT
          have q0 := HA.out.q0; have q1 := HA.out.q1; have q2 := HA.out.q2; have q3 := HA.out.q3
          have hkl := HF.out.kl; have hpl := HF.out.pl; have hnl := HF.out.nl
          have VA := Lib.hid (Valid_any c.kinds c.parents AK AP c.kinds.length cK c.parents.length cP wr ⟨ints_of_own HA.out.oK HCI.out.1 (by omega), ints_of_own HA.out.oP HCI.out.2 (by omega)⟩ rfl rfl (by omega) (by omega))
          clear hkl hpl hnl
          have HBE := Lib.hid hbe
          have hbl := HA.out.lt
          have HQ : Hid (∀ X, Below wr.heap.size wr X → X.cell? ⟨b, 0, none⟩ = some (.slice AN c.names.length cN) ∧ X.cell? ⟨b, 1, none⟩ = some (.slice AK c.kinds.length cK) ∧ X.cell? ⟨b, 2, none⟩ = some (.slice AP c.parents.length cP) ∧ X.cell? ⟨b, 3, none⟩ = some (.slice AT c.trans.length cT)) := fun X hX =>
            ⟨(hX.cell (p := ⟨b, 0, none⟩) hbl).trans q0, (hX.cell (p := ⟨b, 1, none⟩) hbl).trans q1, (hX.cell (p := ⟨b, 2, none⟩) hbl).trans q2, (hX.cell (p := ⟨b, 3, none⟩) hbl).trans q3⟩
          clear hbe
          cases hv : valB c.kinds c.parents
          · have HPP : Hid (compL (acc.map er) = .none) := by show _ = _; rw [hpp, if_neg (by rw [hv]; decide)]
            rw [hv] at VA
            clear hv hpp HP
            go_wp2_with (go_at_call 14; refine VA.out.mono ?_; rintro e w5 ⟨rfl, hb5⟩; have HB5 := Lib.hid (below_then HBE.out hb5 HBE.out.size); have RZ0 := (HB5.out.block _ (Array.getElem?_eq_some_iff.1 HRC.out).1).trans HRC.out; have RZ := (heap_alloc_old w5 (.cells #[.int .i64 0, .int .i64 0, .iface 45 (.int .i64 3)] 62) (Array.getElem?_eq_some_iff.1 RZ0).1).trans RZ0; have c0 := cell_of_row (w5.alloc (.cells #[.int .i64 0, .int .i64 0, .iface 45 (.int .i64 3)] 62)) w.heap.size 0 _ _ _ RZ; have c1 := cell_of_row (w5.alloc (.cells #[.int .i64 0, .int .i64 0, .iface 45 (.int .i64 3)] 62)) w.heap.size 1 _ _ _ RZ; have c2 := cell_of_row (w5.alloc (.cells #[.int .i64 0, .int .i64 0, .iface 45 (.int .i64 3)] 62)) w.heap.size 2 _ _ _ RZ; have c3 := cell_of_row (w5.alloc (.cells #[.int .i64 0, .int .i64 0, .iface 45 (.int .i64 3)] 62)) w.heap.size 3 _ _ _ RZ; have f0 := fz_of RZ 0; have f1 := fz_of RZ 1; have f2 := fz_of RZ 2; have f3 := fz_of RZ 3)
            obtain ⟨h8, hg8⟩ := ch_tell (.slice none 0 0) (.slice none 0 0) (.slice none 0 0) (.slice none 0 0) RZ
            have RF := heap_alloc_new w5 (.cells #[.int .i64 0, .int .i64 0, .iface 45 (.int .i64 3)] 62)
            have hl5 := (Array.getElem?_eq_some_iff.1 RF).1
            have hrz : w.heap.size < w5.heap.size := (Array.getElem?_eq_some_iff.1 RZ0).1
            have RF2 := (hg8.block w5.heap.size hl5 (by simp; omega)).trans RF
            (try simp only [Exit.inBlock, Exit.then])
            refine bodyPost_ret (run_cellT rfl _ _ w.heap.size _ _ _ _ rfl h8 Tryz.underlying33 rfl (by kernel_rfl)) rfl ?_
            have hbz5 := below_then HB0.out HB5.out HB0.out.size
            have hbz6 := below_then hbz5 (box_b w5 (.cells #[.int .i64 0, .int .i64 0, .iface 45 (.int .i64 3)] 62)) hbz5.size
            rw [HPA.out, HPP.out]
            exact ⟨hbz6.grown hg8 hbz6.size (fun g e => by cases e; exact Nat.le_refl _), w5.heap.size, rfl, Nat.le_of_lt hrz, Nat.lt_of_lt_of_le hl5 hg8.size, by rw [cell_of_row _ _ _ _ _ _ RF2]; rfl, by rw [cell_of_row _ _ _ _ _ _ RF2]; rfl, by rw [cell_of_row _ _ _ _ _ _ RF2]; rfl⟩
          · have HPP : Hid (compL (acc.map er) = .ok c) := by show _ = _; rw [hpp, if_pos hv]
            rw [hv] at VA
            clear hv hpp HP
            go_wp2_with (go_at_call 14; refine VA.out.mono ?_; rintro e w5 ⟨rfl, hb5⟩; have HB5 := Lib.hid (below_then HBE.out hb5 HBE.out.size); have RZ := (HB5.out.block _ (Array.getElem?_eq_some_iff.1 HRC.out).1).trans HRC.out; have c0 := cell_of_row w5 w.heap.size 0 _ _ _ RZ; have c1 := cell_of_row w5 w.heap.size 1 _ _ _ RZ; have c2 := cell_of_row w5 w.heap.size 2 _ _ _ RZ; have c3 := cell_of_row w5 w.heap.size 3 _ _ _ RZ; have f0 := fz_of RZ 0; have f1 := fz_of RZ 1; have f2 := fz_of RZ 2; have f3 := fz_of RZ 3; obtain ⟨x0, x1, x2, x3⟩ := HQ.out _ hb5; have HA5 := Lib.hid (HA.out.below hb5))
            obtain ⟨h8, hg8⟩ := ch_tell (.slice AN c.names.length cN) (.slice AK c.kinds.length cK) (.slice AP c.parents.length cP) (.slice AT c.trans.length cT) RZ
            (try simp only [Exit.inBlock, Exit.then])
            refine bodyPost_ret (run_cellT rfl _ _ w.heap.size _ _ _ _ rfl h8 Tryz.underlying33 rfl (by kernel_rfl)) rfl ?_
            have hbz5 := below_then HB0.out HB5.out HB0.out.size
            rw [HPA.out, HPP.out]
            have hA := HA5.out
            have hne : ∀ {e s n : Nat} {v : Value} {xs : List Value}, w5.ownsRow w1.heap.size e s v n xs → v.ownBlock = none ∨ v.ownBlock ≠ some w.heap.size := fun h => .inr fun e => by have := (World.ownsRow.lt h _ e).1; omega
            exact ⟨hbz5.grown hg8 hbz5.size (fun g e => by cases e; exact Nat.le_refl _), ⟨_, _, _, _, rfl, own_base (World.ownsRow.kept hA.oN hg8 (hne hA.oN)) (by omega), own_base (World.ownsRow.kept hA.oK hg8 (hne hA.oK)) (by omega), own_base (World.ownsRow.kept hA.oP hg8 (hne hA.oP)) (by omega), hA.ap, own_base (World.ownsRow.kept hA.oT hg8 (hne hA.oT)) (by omega)⟩, HF.out, HCI.out⟩
end Go.Proofs.YtahgfmobdfhaaaaGreatDoor
