/-
  The statements' rule of raw parts: some rule, small, or the one that came in.
-/
import Derived.Test.YtkgjcahcpeehjaaGreatDoorRuleSt
import Derived.Deep.AppendLies
import Derived.Deep.RegionWith
import Derived.Deep.RegionLaw
import Derived.Deep.DeepCutAuto
namespace Go.Proofs.YtkgjcahcpeehjaaGreatDoor
set_option maxRecDepth 100000
open Go.ChangeShapes Go.WideShapes Go.ChangeAt Go.RowKit

theorem wp_last {P : Program} {s : Code} {Q : Exit → Act → World → Prop} {a : Act} {w : World} (h : ∀ K : Act → World → Prop, (K = fun a w => Q .normal a w) → s.wp P (Exit.then K Q) a w) : s.wp P Q a w :=
  wp_mono (h _ rfl) (fun e a w hq => by cases e <;> exact hq)
theorem ownNil (w : World) (b : Nat) : OwnL w b (.slice none 0 0) [] := World.ownsRow_nil _ _ _ _
theorem wf_nat {n : Nat} (h : n ≤ 4611686018427387904) : (Lit.int .i64 (n : Int)).wf = true := by
  have e : IntKind.i64.min = -9223372036854775808 := by decide
  simp [Lit.wf]; omega
theorem wf_of {n : Int} (h0 : -9223372036854775808 ≤ n) (h : n ≤ 9223372036854775807) : (Lit.int .i64 n).wf = true := by
  have e : IntKind.i64.min = -9223372036854775808 := by decide
  simp [Lit.wf]; omega
theorem within_b (v n : Int) (w : World) (hv : (Lit.int .i64 v).wf = true) (h1 : 1 ≤ n) (h2 : n ≤ 4611686018427387904) : Calls Tryz.prog 21 #[.int .i64 v, .int .i64 n] w fun e w' => e = .returned (.int .i64 (within v n)) ∧ Below w.heap.size w w' :=
  (Within_any v n w hv h1 h2).mono fun e w' h => ⟨h.1, by rw [← h.2]; exact Below.refl _ _⟩
theorem wf_int {n : Int} (h0 : -4611686018427387904 ≤ n) (h : n ≤ 4611686018427387904) : (Lit.int .i64 n).wf = true := by
  have e : IntKind.i64.min = -9223372036854775808 := by decide
  simp [Lit.wf]; omega
theorem sum_mem {l : List Tx} {t : Tx} (h : t ∈ l) : t.length + 1 ≤ sumL l := by
  induction l with
  | nil => simp at h
  | cons a r ih =>
    rw [List.mem_cons] at h
    simp only [sumL]
    rcases h with rfl | h
    · omega
    · have := ih h; omega
def Round (w wr : World) (rc : Array Value) (k : Int) (l : List Tx) (i : Value) : Prop := ∃ (j : Nat) (v : Value) (lx : List Tx), j ≤ l.length ∧ j ≤ 4 ∧ i = .int .i64 j ∧ XS w wr rc k [] v lx 0 0 [] [] [] [] [] ∧ lx.length = j ∧ sumL lx ≤ 12 * j
theorem held156 {X : World} {a0 a1 a2 a3 a4 a5 a6 a7 a8 a9 a10 : Value} {t : Nat} (r0 : X.heap[t]? = some (.cells #[a0, a1, a2, a3, a4, a5, a6, a7, a8, a9, a10] 24 (0, 0))) : X.cell? ⟨t, 1, none⟩ = some a1 ∧ X.cell? ⟨t, 5, none⟩ = some a5 ∧ X.cell? ⟨t, 6, none⟩ = some a6 := ⟨row_q1 r0, row_q5 r0, row_q6 r0⟩
theorem held34 {X : World} {a0 a1 a2 a3 a4 a5 a6 a7 a8 a9 a10 : Value} {t : Nat} (r0 : X.heap[t]? = some (.cells #[a0, a1, a2, a3, a4, a5, a6, a7, a8, a9, a10] 24 (0, 0))) : X.cell? ⟨t, 3, none⟩ = some a3 ∧ X.cell? ⟨t, 4, none⟩ = some a4 := ⟨row_q3 r0, row_q4 r0⟩
theorem xany_round {w wr : World} {rc : Array Value} {k : Int} {v : Value} {lx : List Tx} {j : Nat} (h : XS w wr rc k [] v lx 0 0 [] [] [] [] []) (h1 : lx.length = j) (h2 : j ≤ 4) (h3 : sumL lx ≤ 12 * j) : XAny w wr rc k :=
  ⟨_, _, _, _, _, _, _, _, _, _, h, ⟨by omega, by omega⟩, by simp, by omega, by omega⟩
set_option maxHeartbeats 4000000 in
theorem lawRule_any (r : Ru) (A : Option Addr) (ca : Nat) (ln how : Int) (w : World) (hw : (Lit.int .i64 how).wf = true) (hL : LIn w A ca r.list) (hn : -9223372036854775808 ≤ r.n ∧ r.n ≤ 9223372036854775807) (hm : -9223372036854775808 ≤ r.m ∧ r.m ≤ 9223372036854775807) (hs : totR r ≤ 1048576) :
    Calls Tryz.prog 11 #[ruV r (.slice A r.list.length ca) ln, .int .i64 how] w (RuleOut w) := by
  have hb := within_bd how 11 (by omega)
  generalize hk : within how 11 = k at *
  have HK := Lib.hid hk
  clear hk
  have e0 : IntKind.i64.wrap (1 + k) = 1 + k := by rw [IntKind.wrap_i64]; omega
  obtain ⟨kd, nm, l, rn, rm, rf, rt, rb, ra, ri⟩ := r
  have hll : l.length ≤ 1048576 := by have := sum_len l; simp only [totR] at hs; omega
  have hnm : nm.length ≤ 4611686018427387904 ∧ rf.length ≤ 4611686018427387904 ∧ rt.length ≤ 4611686018427387904 := by simp only [totR] at hs; omega
  obtain ⟨hln, hlf, hlt⟩ := hnm
  simp only [ruV] at *
  have HL := Lib.hid hL
  clear hL
  obtain ⟨i0, hi, hz0, hz1, hz2⟩ := info_parts Tryz.infoString
  go_enter Tryz.func11, Tryz.ntmps11
  go_upto_region 2 with (go_at_call 21; refine (Within_any _ _ _ hw (by omega) (by omega)).mono ?_; rintro e w' ⟨rfl, rfl⟩; rw [HK.out])
  have X0 : XS w (((w.alloc (.cells #[.int .i64 kd, .string (bs nm), .slice A l.length ca, .int .i64 rn, .int .i64 rm, .string (bs rf), .string (bs rt), .string (bs rb), .string (bs ra), .string (bs ri), .int .i64 ln] 24)).alloc (.cells zero11 24)).alloc (.cells #[.int .i64 (1 + k), .string ⟨#[]⟩, .slice none 0 0, .int .i64 0, .int .i64 0, .string ⟨#[]⟩, .string ⟨#[]⟩, .string ⟨#[]⟩, .string ⟨#[]⟩, .string ⟨#[]⟩, .int .i64 0] 24)) #[.int .i64 kd, .string (bs nm), .slice A l.length ca, .int .i64 rn, .int .i64 rm, .string (bs rf), .string (bs rt), .string (bs rb), .string (bs ra), .string (bs ri), .int .i64 ln] (1 + k) [] (.slice none 0 0) [] 0 0 [] [] [] [] [] :=
    ⟨row_alloc (row_alloc (heap_alloc_new w _) _) _, row_alloc (alloc_at (by simp) _) _, alloc_at (by simp) _, World.ownsRow_nil _ _ _ _, (((Below.refl _ _).alloc (Nat.le_refl _) _).alloc (by simp) _).alloc (by simp; omega) _⟩
  dsimp only [zero11] at X0
  generalize hW : ((w.alloc (.cells #[.int .i64 kd, .string (bs nm), .slice A l.length ca, .int .i64 rn, .int .i64 rm, .string (bs rf), .string (bs rt), .string (bs rb), .string (bs ra), .string (bs ri), .int .i64 ln] 24)).alloc (.cells #[.int .i64 0, .string ⟨#[]⟩, .slice none 0 0, .int .i64 0, .int .i64 0, .string ⟨#[]⟩, .string ⟨#[]⟩, .string ⟨#[]⟩, .string ⟨#[]⟩, .string ⟨#[]⟩, .int .i64 0] 24)).alloc (.cells #[.int .i64 (1 + k), .string ⟨#[]⟩, .slice none 0 0, .int .i64 0, .int .i64 0, .string ⟨#[]⟩, .string ⟨#[]⟩, .string ⟨#[]⟩, .string ⟨#[]⟩, .string ⟨#[]⟩, .int .i64 0] 24) = W1 at *
  clear hW e0
  go_wp2
  go_loopw [6] (fun i wr => Round w wr #[.int .i64 kd, .string (bs nm), .slice A l.length ca, .int .i64 rn, .int .i64 rm, .string (bs rf), .string (bs rt), .string (bs rb), .string (bs ra), .string (bs ri), .int .i64 ln] (1 + k) l i) (fun i _ => 4 - (intOf i).toNat)
  case atStart => exact ⟨0, _, [], Nat.zero_le _, by omega, rfl, X0, rfl, by simp [sumL]⟩
  case round =>
    obtain ⟨j, v, lx, hj1, hj2, rfl, XR, hlx, hsx⟩ := hrel
    have hq2 := row_q2 XR.r0
    have nlx : lx.length ≤ 4 := by omega
    have HLX := Lib.hid hlx
    clear hlx
    by_cases hjl : j < l.length ∧ j < 4
    · have g1 : decide (j < l.length) = true := by simp [hjl.1]
      have g2 : decide ((j : Int) < 4) = true := by simp; omega
      rcases HL.out with ⟨rfl, _⟩ | ⟨g, off, rfl, hg, hc, hcells⟩
      · simp at hjl
      have hel := hcells j hjl.1
      have h0j : (0 : Int) ≤ (j : Int) := by omega
      have hjn : (j : Int) < (l.length : Int) := by omega
      have hz : l[j].length ≤ 1048576 := by
        have := sum_mem (List.getElem_mem hjl.1); simp only [totR] at hs; omega
      have hsz : (bs l[j]).size = l[j].length := size_bs _
      generalize l[j] = X at *
      have e2 : 0 ≤ (X.length : Int).tmod 2 ∧ (X.length : Int).tmod 2 < 2 := by
        rw [Int.tmod_eq_emod_of_nonneg (by omega)]; omega
      have e1 : IntKind.i64.wrap ((j : Int) + (X.length : Int).tmod 2) = (j : Int) + (X.length : Int).tmod 2 := by rw [IntKind.wrap_i64]; omega
      clear hcells
      go_upto_region 5 with fail
      have XR := XR.drew
      obtain ⟨Av, cv, rfl⟩ := own_slice XR.own
      have p2 := XR.q2
      clear hq2
      have q2 := row_q2 XR.r0
      have x2 := (XR.low.cell (p := ⟨g, off + j, none⟩) hg).trans hel
      go_region_law (first
          | (refine step_append_lies _ rfl (.tmp 23) (.tmp 34) 22 rfl (w.heap.size + 3) 9 i0 _ 1 16 Tryz.underlying22 hi hz0 hz1 hz2 rfl (by decide) (.slice Av lx.length cv) lx.length (scells lx) (by simp [Act.eval]) (XR.own.alloc _) ⟨w5.heap.size, 0, none⟩ 1 1 (scells [T]) (by simp [Act.eval]) rfl (cells_new _ (scells [T]) _) (scells_one _) (by decide) (by unfold maxLen; omega) (by omega) (by have := XR.size; simp <;> omega) _ rfl ?_; intro g1 cp1 X1 hown1 hg1 hat1 hlt1; have XGr := XR.app (World.grownBy_alloc _ _ none) hg1 hown1; have z1 := XGr.fz 2; have z2 := row_q2 XGr.x0)
          | (go_simp; go_at_call 43; refine (keepNameK _ _ _ _ (wf_int (by omega) (by omega)) (by decide) (by decide) (by decide)).mono ?_; rintro e w5 ⟨T, rfl, hT, hb5⟩; have XR := XR.below hb5; have p2 := XR.q2; have hbx : w.heap.size + 1 + 1 < w5.heap.size := (by have := XR.size; omega); have p3 : ∀ o, (w5.alloc o).cell? ⟨w.heap.size + 1 + 1, 2, none⟩ = some (.slice Av lx.length cv) := fun o => (World.cell?_alloc_lt _ _ _ hbx).trans p2; have q2 := row_q2 XR.r0; have x2 := (XR.low.cell (p := ⟨g, off + j, none⟩) hg).trans hel))
      all_goals
        have XF := XGr.store
        clear z1 z2 x2 q2 p2
        go_wp2
        go_roundw
        case rel => exact ⟨j + 1, _, lx ++ [T], by omega, by omega, by go_num, XF, by simp [HLX.out], by rw [sum_app]; simp only [sumL]; omega⟩
        case measure => simp [intOf]; omega
    · have XA := xany_round XR HLX.out hj2 hsx
      obtain ⟨nm1, v1, l1, n1, m1, f1, t1, b1, a1, i1, X1, ⟨hl1, hs1⟩, hn1, ⟨hn2, hn3⟩, ⟨hm2, hm3⟩⟩ := XA
      clear nlx HLX hsx XR
      have HN := Lib.hid hn; have HM := Lib.hid hm
      refine wp_seq_k (fun K20 hK20 => ?_)
      refine wp_seq_k (fun K19 hK19 => ?_)
      clear hK20
      go_cut [19] (fun v wx => wx = wr ∧ v = .bool false)
      case first =>
        clear hK19
        by_cases hkl : j < l.length
        · have g1 : decide (j < l.length) = true := by simp [hkl]
          have g2 : decide ((j : Int) < 4) = false := by simp; omega
          go_wp2_with fail
          go_meet
          exact ⟨rfl, rfl⟩
        · have g1 : decide (j < l.length) = false := by simp [hkl]
          go_wp2_with fail
          go_meet
          exact ⟨rfl, rfl⟩
      case rest =>
        obtain ⟨rfl, rfl⟩ := hcut
        refine hK19 _ _ ?_
        clear hK19
        go_upto_region 6 with fail
        clear hjl hq2
        have X1 := X1.drew
        have z1 := X1.fz 1; have z5 := X1.fz 5; have z6 := X1.fz 6
        go_cut [] (fun wx => XAny w wx #[.int .i64 kd, .string (bs nm), .slice A l.length ca, .int .i64 rn, .int .i64 rm, .string (bs rf), .string (bs rt), .string (bs rb), .string (bs ra), .string (bs ri), .int .i64 ln] (1 + k))
        case first =>
          go_region_held3 (fun w' => w'.cell? ⟨w.heap.size, 1, none⟩ = some (.string (bs nm)) ∧ w'.cell? ⟨w.heap.size, 5, none⟩ = some (.string (bs rf)) ∧ w'.cell? ⟨w.heap.size, 6, none⟩ = some (.string (bs rt)))
            (first | exact held156 X1.r0 | exact held156 (far_row X1.r0 (by omega)) | exact held156 (far_row (far_row X1.r0 (by omega)) (by omega)) | exact held156 (far_row (far_row (far_row X1.r0 (by omega)) (by omega)) (by omega)))
            (first
              | (go_at_call 43; refine (keepNameK _ _ _ _ (wf_nat (by assumption)) (by decide) (by decide) (by decide)).mono ?_; rintro e w5 ⟨T, rfl, hT, hb5⟩; have X1 := X1.below hb5; have z1 := X1.fz 1; have z5 := X1.fz 5; have z6 := X1.fz 6; have y1 := X1.q1; have y5 := X1.q5; have y6 := X1.q6))
          all_goals
            go_wp2_with fail
            go_meet
            exact ⟨_, _, _, _, _, _, _, _, _, _, ((X1.set1 _).set5 _).set6 _, ⟨hl1, hs1⟩, by omega, ⟨hn2, hn3⟩, ⟨hm2, hm3⟩⟩
        case rest =>
        clear hn1 hn2 hn3 hm2 hm3 hl1 hs1 z1 z5 z6 X1
        obtain ⟨nm1, v1, l1, n1, m1, f1, t1, b1, a1, i1, X1, ⟨hl1, hs1⟩, hn1, ⟨hn2, hn3⟩, ⟨hm2, hm3⟩⟩ := hcut
        go_upto_region 7 with fail
        have X1 := X1.drew
        have z3 := X1.fz 3; have z4 := X1.fz 4; have y3 := X1.q3; have y4 := X1.q4
        have wn := wf_of HN.out.1 HN.out.2
        have wm := wf_of HM.out.1 HM.out.2
        have wb5 := within_bd rn 5 (by omega)
        have wb100 := within_bd rm 100 (by omega)
        have I5 := fun W => within_b rn 5 W wn (by omega) (by omega)
        have I100 := fun W => within_b rm 100 W wm (by omega) (by omega)
        generalize within rn 5 = n5 at *
        generalize within rm 100 = m100 at *
        go_cut [] (fun wx => XAny w wx #[.int .i64 kd, .string (bs nm), .slice A l.length ca, .int .i64 rn, .int .i64 rm, .string (bs rf), .string (bs rt), .string (bs rb), .string (bs ra), .string (bs ri), .int .i64 ln] (1 + k))
        case first =>
          go_region_held3 (fun w' => w'.cell? ⟨w.heap.size, 3, none⟩ = some (.int .i64 rn) ∧ w'.cell? ⟨w.heap.size, 4, none⟩ = some (.int .i64 rm))
            (first | exact held34 X1.r0 | exact held34 (far_row X1.r0 (by omega)) | exact held34 (far_row (far_row X1.r0 (by omega)) (by omega)))
            (first
              | (go_at_call_of 21 (Value.int .i64 rn); refine (I5 _).mono ?_; rintro e w5 ⟨rfl, hb5⟩; have X1 := X1.below hb5; have z3 := X1.fz 3; have z4 := X1.fz 4; have y3 := X1.q3; have y4 := X1.q4)
              | (go_at_call_of 21 (Value.int .i64 rm); refine (I100 _).mono ?_; rintro e w5 ⟨rfl, hb5⟩; have X1 := X1.below hb5; have z3 := X1.fz 3; have z4 := X1.fz 4; have y3 := X1.q3; have y4 := X1.q4))
          all_goals
            go_wp2_with fail
            go_meet
            exact ⟨_, _, _, _, _, _, _, _, _, _, (X1.set3 _).set4 _, ⟨hl1, hs1⟩, hn1, by omega, by omega⟩
        case rest =>
        clear hn1 hn2 hn3 hm2 hm3 hl1 hs1 z3 z4 y3 y4 X1 I5 I100 wb5 wb100 wn wm
        obtain ⟨nm1, v1, l1, n1, m1, f1, t1, b1, a1, i1, X1, ⟨hl1, hs1⟩, hn1, ⟨hn2, hn3⟩, ⟨hm2, hm3⟩⟩ := hcut
        have y0 := X1.q0
        go_upto_if 62 with fail
        clear y0
        go_cut [] (fun wx => XAny w wx #[.int .i64 kd, .string (bs nm), .slice A l.length ca, .int .i64 rn, .int .i64 rm, .string (bs rf), .string (bs rt), .string (bs rb), .string (bs ra), .string (bs ri), .int .i64 ln] (1 + k))
        case first =>
          have c7 := row_q7 X1.r0; have c8 := row_q8 X1.r0; have z7 := X1.fz 7; have z8 := X1.fz 8; have y7 := X1.q7; have y8 := X1.q8
          have e7 : (bs rb).size = rb.length := size_bs _
          have e8 : (bs ra).size = ra.length := size_bs _
          by_cases k9 : k = 8
          · subst k9
            by_cases h7 : 0 < rb.length
            · by_cases h8 : 0 < ra.length
              · go_wp2
                go_meet
                exact ⟨_, _, _, _, _, _, _, _, _, _, (X1.set7 [112, 97]).set8 [116, 97], ⟨hl1, hs1⟩, ⟨hn1.1, hn1.2.1, hn1.2.2.1, by decide, by decide, hn1.2.2.2.2.2⟩, ⟨hn2, hn3⟩, ⟨hm2, hm3⟩⟩
              · go_wp2
                go_meet
                exact ⟨_, _, _, _, _, _, _, _, _, _, X1.set7 [112, 97], ⟨hl1, hs1⟩, ⟨hn1.1, hn1.2.1, hn1.2.2.1, by decide, hn1.2.2.2.2⟩, ⟨hn2, hn3⟩, ⟨hm2, hm3⟩⟩
            · by_cases h8 : 0 < ra.length
              · go_wp2
                go_meet
                exact ⟨_, _, _, _, _, _, _, _, _, _, X1.set8 [116, 97], ⟨hl1, hs1⟩, ⟨hn1.1, hn1.2.1, hn1.2.2.1, hn1.2.2.2.1, by decide, hn1.2.2.2.2.2⟩, ⟨hn2, hn3⟩, ⟨hm2, hm3⟩⟩
              · go_wp2
                go_meet
                exact ⟨_, _, _, _, _, _, _, _, _, _, X1, ⟨hl1, hs1⟩, hn1, ⟨hn2, hn3⟩, ⟨hm2, hm3⟩⟩
          · have g9 : (1 + k == 9) = false := by simp; omega
            go_wp2
            go_meet
            exact ⟨_, _, _, _, _, _, _, _, _, _, X1, ⟨hl1, hs1⟩, hn1, ⟨hn2, hn3⟩, ⟨hm2, hm3⟩⟩
        case rest =>
        clear hn1 hn2 hn3 hm2 hm3 hl1 hs1 X1
        obtain ⟨nm1, v1, l1, n1, m1, f1, t1, b1, a1, i1, X1, ⟨hl1, hs1⟩, hn1, ⟨hn2, hn3⟩, ⟨hm2, hm3⟩⟩ := hcut
        --TAIL
        --TAIL
        have y0 := X1.q0
        have c9 := row_q9 X1.r0
        have e9 : (bs ri).size = ri.length := size_bs _
        go_upto_region 13 with fail
        go_cut [81] (fun v wx => wx = wc ∧ v = .bool (decide (k = 7 ∧ 0 < ri.length)))
        case first =>
          by_cases k8 : k = 7
          · subst k8
            by_cases h9 : 0 < ri.length
            · go_wp2_with fail
              go_meet
              exact ⟨rfl, congrArg Value.bool (by simp [h9])⟩
            · go_wp2_with fail
              go_meet
              exact ⟨rfl, congrArg Value.bool (by simp [h9])⟩
          · have g8 : (1 + k == 8) = false := by simp; omega
            go_wp2_with fail
            go_meet
            exact ⟨rfl, congrArg Value.bool (by simp [k8])⟩
        case rest =>
        obtain ⟨rfl, rfl⟩ := hcut
        go_upto_if 81 with fail
        go_cut [] (fun wx => XAny w wx #[.int .i64 kd, .string (bs nm), .slice A l.length ca, .int .i64 rn, .int .i64 rm, .string (bs rf), .string (bs rt), .string (bs rb), .string (bs ra), .string (bs ri), .int .i64 ln] (1 + k))
        case first =>
          have z9 := X1.fz 9; have y9 := X1.q9
          by_cases h8 : k = 7 ∧ 0 < ri.length
          · have g8 : decide (k = 7 ∧ 0 < ri.length) = true := by simp [h8]
            go_wp2
            go_meet
            exact ⟨_, _, _, _, _, _, _, _, _, _, X1.set9 [115, 97], ⟨hl1, hs1⟩, ⟨hn1.1, hn1.2.1, hn1.2.2.1, hn1.2.2.2.1, hn1.2.2.2.2.1, by decide⟩, ⟨hn2, hn3⟩, ⟨hm2, hm3⟩⟩
          · have g8 : decide (k = 7 ∧ 0 < ri.length) = false := by simp only [decide_eq_false_iff_not]; exact h8
            go_wp2
            go_meet
            exact ⟨_, _, _, _, _, _, _, _, _, _, X1, ⟨hl1, hs1⟩, hn1, ⟨hn2, hn3⟩, ⟨hm2, hm3⟩⟩
        case rest =>
        clear y0 c9 e9
        clear hn1 hn2 hn3 hm2 hm3 hl1 hs1 X1
        obtain ⟨nm1, v1, l1, n1, m1, f1, t1, b1, a1, i1, X1, ⟨hl1, hs1⟩, hn1, ⟨hn2, hn3⟩, ⟨hm2, hm3⟩⟩ := hcut
        have y0 := X1.q0
        go_upto_if 85 with fail
        go_cut [85] (fun v wx => wx = wc ∧ v = .bool (decide (k ≤ 2)))
        case first =>
          by_cases k0 : k = 0
          · subst k0
            go_wp2
            go_meet
            exact ⟨rfl, rfl⟩
          · by_cases k1 : k = 1
            · subst k1
              go_wp2
              go_meet
              exact ⟨rfl, rfl⟩
            · have g8 : (1 + k == 1) = false := by simp; omega
              have g9 : (1 + k == 2) = false := by simp; omega
              go_wp2
              go_meet
              exact ⟨rfl, congrArg Value.bool (by rw [Bool.eq_iff_iff]; simp; omega)⟩
        case rest =>
        obtain ⟨rfl, rfl⟩ := hcut
        have z1 := X1.fz 1; have z2 := X1.fz 2; have z3 := X1.fz 3; have z4 := X1.fz 4; have z5 := X1.fz 5; have z6 := X1.fz 6
        have y1 := X1.q1; have y2 := X1.q2; have y3 := X1.q3; have y4 := X1.q4; have y5 := X1.q5; have y6 := X1.q6
        have e29 : decide (how.tmod 29 = 28) = (how.tmod 29 == 28) := by rw [Bool.eq_iff_iff]; simp
        go_upto_if 85 with fail
        refine wp_last (fun K85 hK85 => ?_)
        go_cut [] (fun wx => XAny w wx #[.int .i64 kd, .string (bs nm), .slice A l.length ca, .int .i64 rn, .int .i64 rm, .string (bs rf), .string (bs rt), .string (bs rb), .string (bs ra), .string (bs ri), .int .i64 ln] (1 + k))
        case first =>
          clear hK85
          rcases (show k ≤ 2 ∨ k = 3 ∨ k = 4 ∨ k = 5 ∨ k = 6 ∨ k = 7 ∨ k = 8 ∨ k = 9 ∨ k = 10 by omega) with hk2 | rfl | rfl | rfl | rfl | rfl | rfl | rfl | rfl
          · have k2 : decide (k ≤ 2) = true := by simp [hk2]
            go_wp2
            go_meet
            exact ⟨_, _, _, _, _, _, _, _, _, _, (XS.set4 0 (XS.set3 0 (XS.set6 [] (XS.set5 [] X1)))), ⟨hl1, hs1⟩, ⟨hn1.1, by decide, by decide, hn1.2.2.2.1, hn1.2.2.2.2.1, hn1.2.2.2.2.2⟩, ⟨by decide, by decide⟩, ⟨by decide, by decide⟩⟩
          · go_wp2
            go_meet
            exact ⟨_, _, _, _, _, _, _, _, _, _, (XS.set4 0 (XS.set6 [] (XS.set5 [] (XS.set1 [] X1)))), ⟨hl1, hs1⟩, ⟨by decide, by decide, by decide, hn1.2.2.2.1, hn1.2.2.2.2.1, hn1.2.2.2.2.2⟩, ⟨hn2, hn3⟩, ⟨by decide, by decide⟩⟩
          · go_wp2
            go_meet
            exact ⟨_, _, _, _, _, _, _, _, _, _, (XS.set4 0 (XS.set6 [] (XS.set5 [] (XS.set1 [] X1)))), ⟨hl1, hs1⟩, ⟨by decide, by decide, by decide, hn1.2.2.2.1, hn1.2.2.2.2.1, hn1.2.2.2.2.2⟩, ⟨hn2, hn3⟩, ⟨by decide, by decide⟩⟩
          · go_wp2
            go_meet
            exact ⟨_, _, _, _, _, _, _, _, _, _, (XS.set4 0 (XS.set3 0 (XS.set6 [] (XS.set5 [] (XS.set1 [] X1))))), ⟨hl1, hs1⟩, ⟨by decide, by decide, by decide, hn1.2.2.2.1, hn1.2.2.2.2.1, hn1.2.2.2.2.2⟩, ⟨by decide, by decide⟩, ⟨by decide, by decide⟩⟩
          · go_wp2
            go_meet
            exact ⟨_, _, _, _, _, _, _, _, _, _, (XS.set2 (XS.set6 [] (XS.set5 [] X1)) (ownNil _ _)), ⟨by decide, by decide⟩, ⟨hn1.1, by decide, by decide, hn1.2.2.2.1, hn1.2.2.2.2.1, hn1.2.2.2.2.2⟩, ⟨hn2, hn3⟩, ⟨hm2, hm3⟩⟩
          · go_wp2
            go_meet
            exact ⟨_, _, _, _, _, _, _, _, _, _, (XS.set4 0 (XS.set2 (XS.set6 [] (XS.set5 [] X1)) (ownNil _ _))), ⟨by decide, by decide⟩, ⟨hn1.1, by decide, by decide, hn1.2.2.2.1, hn1.2.2.2.2.1, hn1.2.2.2.2.2⟩, ⟨hn2, hn3⟩, ⟨by decide, by decide⟩⟩
          · go_wp2
            go_meet
            exact ⟨_, _, _, _, _, _, _, _, _, _, (XS.set4 0 (XS.set3 0 (XS.set2 X1 (ownNil _ _)))), ⟨by decide, by decide⟩, ⟨hn1.1, hn1.2.1, hn1.2.2.1, hn1.2.2.2.1, hn1.2.2.2.2.1, hn1.2.2.2.2.2⟩, ⟨by decide, by decide⟩, ⟨by decide, by decide⟩⟩
          · go_wp2
            go_meet
            exact ⟨_, _, _, _, _, _, _, _, _, _, (XS.set4 0 (XS.set3 0 (XS.set2 (XS.set1 [] X1) (ownNil _ _)))), ⟨by decide, by decide⟩, ⟨by decide, hn1.2.1, hn1.2.2.1, hn1.2.2.2.1, hn1.2.2.2.2.1, hn1.2.2.2.2.2⟩, ⟨by decide, by decide⟩, ⟨by decide, by decide⟩⟩
          · go_wp2
            go_meet
            exact ⟨_, _, _, _, _, _, _, _, _, _, (XS.set4 0 (XS.set2 (XS.set1 [] X1) (ownNil _ _))), ⟨by decide, by decide⟩, ⟨by decide, hn1.2.1, hn1.2.2.1, hn1.2.2.2.1, hn1.2.2.2.2.1, hn1.2.2.2.2.2⟩, ⟨hn2, hn3⟩, ⟨by decide, by decide⟩⟩
        case rest =>
        subst hK85
        clear z1 z2 z3 z4 z5 z6 y1 y2 y3 y4 y5 y6 y0 X1 hl1 hs1 hn1 hn2 hn3 hm2 hm3
        obtain ⟨nm2, v2, l2, n2, m2, f2, t2, b2, a2, i2, X2, ⟨hl1, hs1⟩, hn1, ⟨hn2, hn3⟩, ⟨hm2, hm3⟩⟩ := hcut
        go_upto_if 136 with fail
        go_cut [] (fun wx => XEnd w wx)
        case first =>
          by_cases h29 : how.tmod 29 = 28
          · have g29 : (how.tmod 29 == 28) = true := by simp [h29]
            have R0 := X2.r0; have W0 := X2.x0
            have qr0 := row_q0 R0; have qr1 := row_q1 R0; have qr2 := row_q2 R0; have qr3 := row_q3 R0; have qr4 := row_q4 R0; have qr5 := row_q5 R0; have qr6 := row_q6 R0; have qr7 := row_q7 R0; have qr8 := row_q8 R0; have qr9 := row_q9 R0; have qr10 := row_q10 R0
            have qx0 := row_q0 W0; have qx1 := row_q1 W0; have qx2 := row_q2 W0; have qx3 := row_q3 W0; have qx4 := row_q4 W0; have qx5 := row_q5 W0; have qx6 := row_q6 W0; have qx7 := row_q7 W0; have qx8 := row_q8 W0; have qx9 := row_q9 W0; have qx10 := row_q10 W0
            have fx0 := row_fz W0 0; have fx1 := row_fz W0 1; have fx2 := row_fz W0 2; have fx3 := row_fz W0 3; have fx4 := row_fz W0 4; have fx5 := row_fz W0 5; have fx6 := row_fz W0 6; have fx7 := row_fz W0 7; have fx8 := row_fz W0 8; have fx9 := row_fz W0 9; have fx10 := row_fz W0 10
            have HH := Lib.hid h29
            clear h29
            go_wp2
            go_meet
            have T9 := row_tell (.int .i64 kd) (.string (bs nm)) (.slice A l.length ca) (.int .i64 rn) (.int .i64 rm) (.string (bs rf)) (.string (bs rt)) (.string (bs rb)) (.string (bs ra)) (.string (bs ri)) (.int .i64 ln) W0 _ rfl
            exact xend_came X2 HL.out HN.out HM.out hs T9.1 T9.2
          · have g29 : (how.tmod 29 == 28) = false := by simp [h29]
            clear h29
            go_wp2
            go_meet
            exact xend_made X2 hl1 hs1 hn1 ⟨hn2, hn3⟩ ⟨hm2, hm3⟩
        case rest =>
        obtain ⟨⟨kz, nz, lz, nnz, mz, fz, tz, bz, az, iz⟩, Az, cz, lnz, W0, T0, hLz, hnz, hmz, hsz2, hbz, hAz⟩ := hcut
        simp only at W0 hLz hnz hmz hAz
        dsimp only [zero11] at T0
        clear X2
        have qx0 := row_q0 W0; have qx1 := row_q1 W0; have qx2 := row_q2 W0; have qx3 := row_q3 W0; have qx4 := row_q4 W0; have qx5 := row_q5 W0; have qx6 := row_q6 W0; have qx7 := row_q7 W0; have qx8 := row_q8 W0; have qx9 := row_q9 W0; have qx10 := row_q10 W0
        have qt0 := row_q0 T0; have qt1 := row_q1 T0; have qt2 := row_q2 T0; have qt3 := row_q3 T0; have qt4 := row_q4 T0; have qt5 := row_q5 T0; have qt6 := row_q6 T0; have qt7 := row_q7 T0; have qt8 := row_q8 T0; have qt9 := row_q9 T0; have qt10 := row_q10 T0
        have ft0 := row_fz T0 0; have ft1 := row_fz T0 1; have ft2 := row_fz T0 2; have ft3 := row_fz T0 3; have ft4 := row_fz T0 4; have ft5 := row_fz T0 5; have ft6 := row_fz T0 6; have ft7 := row_fz T0 7; have ft8 := row_fz T0 8; have ft9 := row_fz T0 9; have ft10 := row_fz T0 10
        go_wp2
        have T9 := row_tell (.int .i64 kz) (.string (bs nz)) (.slice Az lz.length cz) (.int .i64 nnz) (.int .i64 mz) (.string (bs fz)) (.string (bs tz)) (.string (bs bz)) (.string (bs az)) (.string (bs iz)) (.int .i64 lnz) T0 _ rfl
        (try simp only [Exit.inBlock, Exit.then])
        refine bodyPost_ret (results_cell_row rfl _ _ (w.heap.size + 1) _ _ _ _ rfl T9.1 Tryz.underlying24 rfl (by kernel_rfl)) rfl ?_
        exact ruleOut_mk hLz hnz hmz hsz2 hbz hAz T9.2
end Go.Proofs.YtkgjcahcpeehjaaGreatDoor
