/-
  ParseRule of the document, of every kind that there is, in one walk.
-/
import Derived.Test.YtahgfmobdfhaaaaGreatDoorRdrB0
namespace Go.Proofs.YtahgfmobdfhaaaaGreatDoor
set_option maxRecDepth 100000
open Go.ChangeShapes Go.WideShapes Go.ChangeAt Go.RowKit

/-- behind the switch -/
def PEnd (w wx : World) (b g cap : Nat) (ws : List (Nat × Tx)) (r : Nat) (number : Int) (f : Value) : Prop := ∃ (ru : Ru) (k : Nat) (m : Bool) (AL : Option Addr) (cL B9 : Nat) (f0 : Int), f = .int .i64 f0 ∧ readR (tx ws) = (ru, k, m) ∧ (ru.list ≠ [] → f0 = ((firstR (tx ws) (kdR (tx ws)) : Nat) : Int)) ∧
  PS w wx b g cap ws w.heap.size (w.heap.size + 1) r k m #[.int .i64 ru.kind, .string (bs ru.name), .slice AL ru.list.length cL, .int .i64 ru.n, .int .i64 ru.m, .string (bs ru.from_), .string (bs ru.to_), .string (bs ru.by_), .string (bs ru.task), .string (bs ru.in_), .int .i64 number] ∧
  OwnL wx B9 (.slice AL ru.list.length cL) ru.list ∧ w.heap.size < B9 ∧ w.heap.size + 1 < B9 ∧ w.heap.size ≤ B9 ∧ B9 ≤ wx.heap.size
set_option maxHeartbeats 40000000 in
theorem rparV_any (s : ByteArray) (number : Int) (ws : List (Nat × Tx)) (w : World) (hs : s.size ≤ 1000000000) (hws : wordsL s.data.toList = ws) (hbad : badL s.data.toList = 0) (h0 : 0 < ws.length) (hpl : ws.length ≤ 1000000000) (hsz : ∀ j (hj : j < ws.length), ws[j].2.length ≤ 1000000000) (hk1 : 1 ≤ kdR (tx ws)) (hk2 : kdR (tx ws) ≤ 11) :
    Calls Tryz.prog 19 #[.string s, .int .i64 number] w (RPTo ws number w) := by
  have SP := Lib.hid (fun W => RSplit_any s W hs)
  rw [hws, hbad] at SP
  have HSZ := Lib.hid hsz
  clear hsz
  have KDC := Lib.hid (fun W => RKind_any (ws.headD (0, [])).2 W)
  generalize hkd : kdR (tx ws) = kd at *
  have hk9 : posR kindR (ws.headD (0, [])).2 0 = kd := by
    rw [← hkd]
    unfold kdR pk
    cases hws2 : ws with
    | nil => rw [hws2] at h0; simp at h0
    | cons a l => rfl
  rw [hk9] at KDC
  have HKD := Lib.hid hkd
  clear hk9 hws hbad hkd
  go_enter Tryz.func19, Tryz.ntmps19
  go_upto_region 1 with (fail)
  have ht : ((w.alloc (.cells #[.int .i64 0, .string ⟨#[]⟩, .slice none 0 0, .int .i64 0, .int .i64 0, .string ⟨#[]⟩, .string ⟨#[]⟩, .string ⟨#[]⟩, .string ⟨#[]⟩, .string ⟨#[]⟩, .int .i64 0] 41)).alloc (.cells #[.int .i64 0, .int .i64 0, .int .i64 0] 47)).heap[w.heap.size]? = some (.cells #[.int .i64 0, .string ⟨#[]⟩, .slice none 0 0, .int .i64 0, .int .i64 0, .string ⟨#[]⟩, .string ⟨#[]⟩, .string ⟨#[]⟩, .string ⟨#[]⟩, .string ⟨#[]⟩, .int .i64 0] 41 (0, 0)) := by rw [heap_alloc_old _ _ (by simp)]; exact heap_alloc_new _ _
  have hu : ((w.alloc (.cells #[.int .i64 0, .string ⟨#[]⟩, .slice none 0 0, .int .i64 0, .int .i64 0, .string ⟨#[]⟩, .string ⟨#[]⟩, .string ⟨#[]⟩, .string ⟨#[]⟩, .string ⟨#[]⟩, .int .i64 0] 41)).alloc (.cells #[.int .i64 0, .int .i64 0, .int .i64 0] 47)).heap[w.heap.size + 1]? = some (.cells #[.int .i64 0, .int .i64 0, .int .i64 0] 47 (0, 0)) := by
    have := heap_alloc_new (w.alloc (.cells #[.int .i64 0, .string ⟨#[]⟩, .slice none 0 0, .int .i64 0, .int .i64 0, .string ⟨#[]⟩, .string ⟨#[]⟩, .string ⟨#[]⟩, .string ⟨#[]⟩, .string ⟨#[]⟩, .int .i64 0] 41)) (.cells #[.int .i64 0, .int .i64 0, .int .i64 0] 47)
    simpa using this
  have hb0 : Below w.heap.size w ((w.alloc (.cells #[.int .i64 0, .string ⟨#[]⟩, .slice none 0 0, .int .i64 0, .int .i64 0, .string ⟨#[]⟩, .string ⟨#[]⟩, .string ⟨#[]⟩, .string ⟨#[]⟩, .string ⟨#[]⟩, .int .i64 0] 41)).alloc (.cells #[.int .i64 0, .int .i64 0, .int .i64 0] 47)) := ((Below.refl _ _).alloc (Nat.le_refl _) _).alloc (by simp) _
  have HT := Lib.hid ht
  have HU := Lib.hid hu
  have HB0 := Lib.hid hb0
  clear ht hu hb0
  generalize (w.alloc (.cells #[.int .i64 0, .string ⟨#[]⟩, .slice none 0 0, .int .i64 0, .int .i64 0, .string ⟨#[]⟩, .string ⟨#[]⟩, .string ⟨#[]⟩, .string ⟨#[]⟩, .string ⟨#[]⟩, .int .i64 0] 41)).alloc (.cells #[.int .i64 0, .int .i64 0, .int .i64 0] 47) = w1 at *
  have h0i : ((ws.length : Int) == 0) = false := beq_eq_false_iff_ne.2 (by omega)
  have h0p : (0 : Int) < ws.length := by omega
  have hk0 : (kd == 0) = false := beq_eq_false_iff_ne.2 (by omega)
  go_upto_region 6 with (go_at_call 41; refine (SP.out _).mono ?_; rintro e w2 ⟨v2, rfl, hown, hb2⟩; obtain ⟨g, cap, rfl, _, hg2, _, hcell⟩ := own_form hown h0; have HCL := Lib.hid hcell; have HGL := Lib.hid hg2; have HB2 := Lib.hid hb2; clear hown hcell hg2 hb2)
  have HW2 : Hid (WAt w2 g 0 ws) := fun j hj => by
    refine ⟨?_, ?_, ?_⟩
    · rw [Nat.zero_add]; exact HCL.out _ _ (wcellR_at ws j hj).1
    · rw [Nat.zero_add]; exact HCL.out _ _ (wcellR_at ws j hj).2
    · have := HSZ.out j hj; unfold maxLen; omega
  have ht2 := (HB2.out.block _ (Array.getElem?_eq_some_iff.1 HT.out).1).trans HT.out
  have hu2 := (HB2.out.block _ (Array.getElem?_eq_some_iff.1 HU.out).1).trans HU.out
  have hbz : Below w.heap.size w w2 := below_then HB0.out HB2.out HB0.out.size
  have hst := PS.start (cap := cap) hbz HW2.out HGL.out hpl ht2 hu2 ⟨Nat.le_refl _, by omega, by omega⟩
  have HST := Lib.hid hst
  have hc0 := (HW2.out 0 h0).1
  have hge : (ws[0]'h0).2 = (ws.headD (0, [])).2 := by cases ws with | nil => simp at h0 | cons a l => rfl
  rw [hge, Nat.zero_add, Nat.zero_mul] at hc0
  clear hst ht2 hu2 hbz HT HU hge
  have hgw := HGL.out
  have hc0' : ∀ O, (w2.alloc O).cell? ⟨g, 0, none⟩ = some (.string (bs (ws.headD (0, [])).2)) := fun O => (World.cell?_alloc_lt _ _ _ hgw).trans hc0
  generalize (ws.headD (0, [])).2 = x0 at *
  go_upto_region 8 with (go_at_call 42; refine (KDC.out _).mono ?_; rintro e w3 ⟨rfl, hb3⟩; have R0 := HST.out.2 w3 (.int .i64 kd) (.int .i64 number) hb3; clear hb3)
  clear hc0 hc0' hgw
  generalize w2.heap.size = b at *
  generalize w3.heap.size = r at *
  generalize w3.alloc (.cells #[.int .i64 kd, .string ⟨#[]⟩, .slice none 0 0, .int .i64 0, .int .i64 0, .string ⟨#[]⟩, .string ⟨#[]⟩, .string ⟨#[]⟩, .string ⟨#[]⟩, .string ⟨#[]⟩, .int .i64 number] 41) = w4 at *
  clear HST HCL HW2 HGL
  have q0 := R0.q0; have a1 := R0.rd.q1; have af := R0.rd.f1
  go_upto_region 11 with (fail)
  have R1 := R0.step (Nat.zero_le _)
  rw [show ((0 : Nat) : Int) + 1 = 1 from rfl, Nat.zero_add] at R1
  generalize w4.setCell ⟨b, 1, none⟩ (.int .i64 1) = W1 at *
  clear q0 a1 af R0
  have q0 := R1.q0
  have htl : (tx ws).length = ws.length := tx_len _
  have hle1 : 1 ≤ (tx ws).length := by rw [htl]; exact h0
  have NM := Lib.hid (fun W k m (h : RRd W b g cap ws k m) => dname_any b g cap ws k m W h h0)
  have NB := Lib.hid (fun W k m (h : RRd W b g cap ws k m) => dnumber_any b g cap ws k m W h h0)
  have NX := Lib.hid (fun W k m (h : RRd W b g cap ws k m) => dnext_any b g cap ws k m W h)
  have HKD2 := Lib.hid hk1
  have HKD3 := Lib.hid hk2
  clear hk1 hk2 hk0
  go_upto_block 0 with (fail)
  go_cut [11] (fun f wx => PEnd w wx b g cap ws r number f)
  case first =>
    have e : kd = 1 ∨ kd = 2 ∨ kd = 3 ∨ kd = 4 ∨ kd = 5 ∨ kd = 6 ∨ kd = 7 ∨ kd = 8 ∨ kd = 9 ∨ kd = 10 ∨ kd = 11 := by have := HKD2.out; have := HKD3.out; omega
    clear HKD2 HKD3
    rcases e with e | e | e | e | e | e | e | e | e | e | e
    · as_aux_lemma =>
      subst e
      have a1 := R1.rd.q1
      go_upto_region 15 with (go_at_call 44; refine (NM.out _ _ _ R1.rd).mono ?_; rintro e w5 ⟨rfl, h9, g9⟩; have R5 := R1.call h9 g9; (try simp only [List.setIfInBounds_toArray, List.set] at R5); have c9 := R5.q1; have f9 := R5.fz 1; clear h9 g9 a1)
      have R2 := R5.store 1 (.string (bs (nameR (tx ws) (1, false)).1))
      (try simp only [List.setIfInBounds_toArray, List.set] at R2)
      clear c9 f9 R5 R1
      generalize w5.setCell ⟨r, 1, none⟩ (.string (bs (nameR (tx ws) (1, false)).1)) = W2 at *
      generalize hv9 : (nameR (tx ws) (1, false)).1 = v2 at *
      generalize hk9 : (nameR (tx ws) (1, false)).2.1 = k2 at *
      generalize hm9 : (nameR (tx ws) (1, false)).2.2 = m2 at *
      have HN2 : Hid (nameR (tx ws) (1, false) = (v2, k2, m2)) := Prod.ext hv9 (Prod.ext hk9 hm9)
      clear hv9 hk9 hm9
      have a1 := R2.rd.q1
      have hkb := R2.rd.2.2.2.2.2
      have hwk : IntKind.i64.wrap ((k2 : Int) + 1) = (k2 : Int) + 1 := by rw [IntKind.wrap_i64]; omega
      go_upto_region 16 with (fail)
      clear a1
      have NXk := Lib.hid (NX.out _ _ _ R2.rd)
      by_cases hy : nx (tx ws) k2 m2 = [62]
      · have hky : k2 < ws.length := by rw [← htl]; exact nx_len (T := tx ws) (k := k2) (m := m2) (by rw [hy]; simp)
        have hq : ((bs (nx (tx ws) k2 m2)).toList == [62]) = true := by rw [lit_bs, hy]; rfl
        have HY := Lib.hid hy
        clear hy
        generalize nx (tx ws) k2 m2 = y9 at NXk hq
        go_upto_region 18 with (go_at_call 45; refine NXk.out.mono ?_; rintro e w6 ⟨rfl, g9⟩; have R6 := R2.call (R2.rd.kept g9) (grown_more g9); (try simp only [List.setIfInBounds_toArray, List.set] at R6); have a1 := R6.rd.q1; have af := R6.rd.f1; clear g9)
        have R4 := R6.step (by omega)
        clear a1 af hwk R6 hq NXk
        generalize w6.setCell ⟨b, 1, none⟩ (.int .i64 ((k2 : Int) + 1)) = W4 at *
        have a1 := R4.rd.q1
        have NMS := Lib.hid (fun W k m (h : RRd W b g cap ws k m) => dnames_any b g cap ws k m 1 W h h0 (by omega))
        go_wp2_with (go_at_call 46; refine (NMS.out _ _ _ R4.rd).mono ?_; rintro e w5 ⟨vL, rfl, h9, ho, g9⟩; obtain ⟨AL, cL, rfl⟩ := own_slice ho; have R5 := R4.call h9 g9; (try simp only [List.setIfInBounds_toArray, List.set] at R5); obtain ⟨B9, ox9, ht9, hu9, hz9, hbb⟩ := PS.own R4 g9 ho; have OX := Lib.hid ox9; have HT9 := Lib.hid ht9; have HU9 := Lib.hid hu9; have HZ9 := Lib.hid hz9; have HB9 := Lib.hid hbb; clear ox9 ht9 hu9 hz9 hbb; have q2 := R5.q2; have f2 := R5.fz 2; clear h9 g9 ho)
        have R9 := R5.store 2 (.slice AL (namesR (tx ws) 1 (ws.length + 3) [] (k2 + 1, m2)).1.length cL)
        (try simp only [List.setIfInBounds_toArray, List.set] at R9)
        clear q2 f2 R4 R5 NMS
        generalize w5.setCell ⟨r, 2, none⟩ (.slice AL (namesR (tx ws) 1 (ws.length + 3) [] (k2 + 1, m2)).1.length cL) = W9 at *
        generalize hv9 : (namesR (tx ws) 1 (ws.length + 3) [] (k2 + 1, m2)).1 = LL at *
        generalize hk9 : (namesR (tx ws) 1 (ws.length + 3) [] (k2 + 1, m2)).2.1 = k at *
        generalize hm9 : (namesR (tx ws) 1 (ws.length + 3) [] (k2 + 1, m2)).2.2 = m at *
        have HN9 : Hid (namesR (tx ws) 1 (ws.length + 3) [] (k2 + 1, m2) = (LL, k, m)) := Prod.ext hv9 (Prod.ext hk9 hm9)
        clear hv9 hk9 hm9
        have HRD : Hid (readR (tx ws) = ({ kind := 1, name := v2, list := LL }, k, m)) := by
          show _ = _
          unfold readR
          rw [HKD.out, if_neg (by decide)]
          unfold bodyR roleR
          (try rw [htl])
          simp only [HN2.out]
          rw [if_pos HY.out]
          simp only [HN9.out]
          (try rfl)
        (try clear q0)
        have HF : Hid (firstR (tx ws) 1 = k2 + 1) := by show (nameR (tx ws) (1, false)).2.1 + 1 = _; rw [HN2.out]
        go_meet
        exact ⟨{ kind := 1, name := v2, list := LL }, k, m, AL, cL, B9, _, rfl, HRD.out, fun _ => by rw [HKD.out, HF.out]; first | done | rfl, R9, OX.out, HT9.out, HU9.out, HZ9.out, HB9.out⟩
      · have hq : ((bs (nx (tx ws) k2 m2)).toList == [62]) = false := by rw [lit_bs]; exact beq_eq_false_iff_ne.2 hy
        have HY := Lib.hid hy
        clear hy
        generalize nx (tx ws) k2 m2 = y9 at NXk hq
        clear hwk hkb
        go_wp2_with (go_at_call 45; refine NXk.out.mono ?_; rintro e w6 ⟨rfl, g9⟩; have R6 := R2.call (R2.rd.kept g9) (grown_more g9); (try simp only [List.setIfInBounds_toArray, List.set] at R6); have a1 := R6.rd.q1; have af := R6.rd.f1; clear g9)
        have R9 := R6
        clear R6 a1 af hq NXk
        obtain ⟨W9, rfl⟩ : ∃ w1 : World, w1 = w6 := ⟨_, rfl⟩
        obtain ⟨k, rfl⟩ : ∃ k1 : Nat, k1 = k2 := ⟨_, rfl⟩
        obtain ⟨m, rfl⟩ : ∃ m1 : Bool, m1 = m2 := ⟨_, rfl⟩
        have HRD : Hid (readR (tx ws) = ({ kind := 1, name := v2 }, k, m)) := by
          show _ = _
          unfold readR
          rw [HKD.out, if_neg (by decide)]
          unfold bodyR roleR
          (try rw [htl])
          simp only [HN2.out]
          rw [if_neg HY.out]
          (try rfl)
        (try clear q0)
        go_meet
        exact ⟨{ kind := 1, name := v2 }, k, m, none, 0, _, _, rfl, HRD.out, fun h => absurd rfl h, R9, ownL_nil _ _, (Array.getElem?_eq_some_iff.1 R9.told).1, (Array.getElem?_eq_some_iff.1 R9.flt).1, R9.be.size, Nat.le_refl _⟩
    · as_aux_lemma =>
      subst e
      have a1 := R1.rd.q1
      go_upto_region 22 with (go_at_call 44; refine (NM.out _ _ _ R1.rd).mono ?_; rintro e w5 ⟨rfl, h9, g9⟩; have R5 := R1.call h9 g9; (try simp only [List.setIfInBounds_toArray, List.set] at R5); have c9 := R5.q1; have f9 := R5.fz 1; clear h9 g9 a1)
      have R2 := R5.store 1 (.string (bs (nameR (tx ws) (1, false)).1))
      (try simp only [List.setIfInBounds_toArray, List.set] at R2)
      clear c9 f9 R5 R1
      generalize w5.setCell ⟨r, 1, none⟩ (.string (bs (nameR (tx ws) (1, false)).1)) = W2 at *
      generalize hv9 : (nameR (tx ws) (1, false)).1 = v2 at *
      generalize hk9 : (nameR (tx ws) (1, false)).2.1 = k2 at *
      generalize hm9 : (nameR (tx ws) (1, false)).2.2 = m2 at *
      have HN2 : Hid (nameR (tx ws) (1, false) = (v2, k2, m2)) := Prod.ext hv9 (Prod.ext hk9 hm9)
      clear hv9 hk9 hm9
      have a1 := R2.rd.q1
      have NMS := Lib.hid (fun W k m (h : RRd W b g cap ws k m) => dnames_any b g cap ws k m 0 W h h0 (by omega))
      go_wp2_with (go_at_call 46; refine (NMS.out _ _ _ R2.rd).mono ?_; rintro e w5 ⟨vL, rfl, h9, ho, g9⟩; obtain ⟨AL, cL, rfl⟩ := own_slice ho; have R5 := R2.call h9 g9; (try simp only [List.setIfInBounds_toArray, List.set] at R5); obtain ⟨B9, ox9, ht9, hu9, hz9, hbb⟩ := PS.own R2 g9 ho; have OX := Lib.hid ox9; have HT9 := Lib.hid ht9; have HU9 := Lib.hid hu9; have HZ9 := Lib.hid hz9; have HB9 := Lib.hid hbb; clear ox9 ht9 hu9 hz9 hbb; have q2 := R5.q2; have f2 := R5.fz 2; clear h9 g9 ho)
      have R9 := R5.store 2 (.slice AL (namesR (tx ws) 0 (ws.length + 3) [] (k2, m2)).1.length cL)
      (try simp only [List.setIfInBounds_toArray, List.set] at R9)
      clear q2 f2 R2 R5 NMS
      generalize w5.setCell ⟨r, 2, none⟩ (.slice AL (namesR (tx ws) 0 (ws.length + 3) [] (k2, m2)).1.length cL) = W9 at *
      generalize hv9 : (namesR (tx ws) 0 (ws.length + 3) [] (k2, m2)).1 = LL at *
      generalize hk9 : (namesR (tx ws) 0 (ws.length + 3) [] (k2, m2)).2.1 = k at *
      generalize hm9 : (namesR (tx ws) 0 (ws.length + 3) [] (k2, m2)).2.2 = m at *
      have HN9 : Hid (namesR (tx ws) 0 (ws.length + 3) [] (k2, m2) = (LL, k, m)) := Prod.ext hv9 (Prod.ext hk9 hm9)
      clear hv9 hk9 hm9
      have HRD : Hid (readR (tx ws) = ({ kind := 2, name := v2, list := LL }, k, m)) := by
        show _ = _
        unfold readR
        rw [HKD.out, if_neg (by decide)]
        unfold bodyR userR
        rw [htl]
        simp only [HN2.out, HN9.out]
        rfl
      clear q0
      have HF : Hid (firstR (tx ws) 2 = k2) := by show (nameR (tx ws) (1, false)).2.1 = _; rw [HN2.out]
      go_meet
      exact ⟨{ kind := 2, name := v2, list := LL }, k, m, AL, cL, B9, _, rfl, HRD.out, fun _ => by rw [HKD.out, HF.out]; first | done | rfl, R9, OX.out, HT9.out, HU9.out, HZ9.out, HB9.out⟩
    · as_aux_lemma =>
      subst e
      have a1 := R1.rd.q1
      go_upto_region 22 with (go_at_call 44; refine (NM.out _ _ _ R1.rd).mono ?_; rintro e w5 ⟨rfl, h9, g9⟩; have R5 := R1.call h9 g9; (try simp only [List.setIfInBounds_toArray, List.set] at R5); have c9 := R5.q1; have f9 := R5.fz 1; clear h9 g9 a1)
      have R2 := R5.store 1 (.string (bs (nameR (tx ws) (1, false)).1))
      (try simp only [List.setIfInBounds_toArray, List.set] at R2)
      clear c9 f9 R5 R1
      generalize w5.setCell ⟨r, 1, none⟩ (.string (bs (nameR (tx ws) (1, false)).1)) = W2 at *
      generalize hv9 : (nameR (tx ws) (1, false)).1 = v2 at *
      generalize hk9 : (nameR (tx ws) (1, false)).2.1 = k2 at *
      generalize hm9 : (nameR (tx ws) (1, false)).2.2 = m2 at *
      have HN2 : Hid (nameR (tx ws) (1, false) = (v2, k2, m2)) := Prod.ext hv9 (Prod.ext hk9 hm9)
      clear hv9 hk9 hm9
      have a1 := R2.rd.q1
      have NMS := Lib.hid (fun W k m (h : RRd W b g cap ws k m) => dnames_any b g cap ws k m 0 W h h0 (by omega))
      go_wp2_with (go_at_call 46; refine (NMS.out _ _ _ R2.rd).mono ?_; rintro e w5 ⟨vL, rfl, h9, ho, g9⟩; obtain ⟨AL, cL, rfl⟩ := own_slice ho; have R5 := R2.call h9 g9; (try simp only [List.setIfInBounds_toArray, List.set] at R5); obtain ⟨B9, ox9, ht9, hu9, hz9, hbb⟩ := PS.own R2 g9 ho; have OX := Lib.hid ox9; have HT9 := Lib.hid ht9; have HU9 := Lib.hid hu9; have HZ9 := Lib.hid hz9; have HB9 := Lib.hid hbb; clear ox9 ht9 hu9 hz9 hbb; have q2 := R5.q2; have f2 := R5.fz 2; clear h9 g9 ho)
      have R9 := R5.store 2 (.slice AL (namesR (tx ws) 0 (ws.length + 3) [] (k2, m2)).1.length cL)
      (try simp only [List.setIfInBounds_toArray, List.set] at R9)
      clear q2 f2 R2 R5 NMS
      generalize w5.setCell ⟨r, 2, none⟩ (.slice AL (namesR (tx ws) 0 (ws.length + 3) [] (k2, m2)).1.length cL) = W9 at *
      generalize hv9 : (namesR (tx ws) 0 (ws.length + 3) [] (k2, m2)).1 = LL at *
      generalize hk9 : (namesR (tx ws) 0 (ws.length + 3) [] (k2, m2)).2.1 = k at *
      generalize hm9 : (namesR (tx ws) 0 (ws.length + 3) [] (k2, m2)).2.2 = m at *
      have HN9 : Hid (namesR (tx ws) 0 (ws.length + 3) [] (k2, m2) = (LL, k, m)) := Prod.ext hv9 (Prod.ext hk9 hm9)
      clear hv9 hk9 hm9
      have HRD : Hid (readR (tx ws) = ({ kind := 3, name := v2, list := LL }, k, m)) := by
        show _ = _
        unfold readR
        rw [HKD.out, if_neg (by decide)]
        unfold bodyR userR
        rw [htl]
        simp only [HN2.out, HN9.out]
        rfl
      clear q0
      have HF : Hid (firstR (tx ws) 3 = k2) := by show (nameR (tx ws) (1, false)).2.1 = _; rw [HN2.out]
      go_meet
      exact ⟨{ kind := 3, name := v2, list := LL }, k, m, AL, cL, B9, _, rfl, HRD.out, fun _ => by rw [HKD.out, HF.out]; first | done | rfl, R9, OX.out, HT9.out, HU9.out, HZ9.out, HB9.out⟩
    · as_aux_lemma =>
      subst e
      have a1 := R1.rd.q1
      go_upto_region 27 with (go_at_call 47; refine (NB.out _ _ _ R1.rd).mono ?_; rintro e w5 ⟨rfl, h9, g9⟩; have R5 := R1.call h9 g9; (try simp only [List.setIfInBounds_toArray, List.set] at R5); have c9 := R5.q3; have f9 := R5.fz 3; clear h9 g9 a1)
      have R2 := R5.store 3 (.int .i64 (numberR (tx ws) (1, false)).1)
      (try simp only [List.setIfInBounds_toArray, List.set] at R2)
      clear c9 f9 R5 R1
      generalize w5.setCell ⟨r, 3, none⟩ (.int .i64 (numberR (tx ws) (1, false)).1) = W2 at *
      generalize hv9 : (numberR (tx ws) (1, false)).1 = v2 at *
      generalize hk9 : (numberR (tx ws) (1, false)).2.1 = k2 at *
      generalize hm9 : (numberR (tx ws) (1, false)).2.2 = m2 at *
      have HN2 : Hid (numberR (tx ws) (1, false) = (v2, k2, m2)) := Prod.ext hv9 (Prod.ext hk9 hm9)
      clear hv9 hk9 hm9
      have a1 := R2.rd.q1
      have NMS := Lib.hid (fun W k m (h : RRd W b g cap ws k m) => dnames_any b g cap ws k m 2 W h h0 (by omega))
      go_wp2_with (go_at_call 46; refine (NMS.out _ _ _ R2.rd).mono ?_; rintro e w5 ⟨vL, rfl, h9, ho, g9⟩; obtain ⟨AL, cL, rfl⟩ := own_slice ho; have R5 := R2.call h9 g9; (try simp only [List.setIfInBounds_toArray, List.set] at R5); obtain ⟨B9, ox9, ht9, hu9, hz9, hbb⟩ := PS.own R2 g9 ho; have OX := Lib.hid ox9; have HT9 := Lib.hid ht9; have HU9 := Lib.hid hu9; have HZ9 := Lib.hid hz9; have HB9 := Lib.hid hbb; clear ox9 ht9 hu9 hz9 hbb; have q2 := R5.q2; have f2 := R5.fz 2; clear h9 g9 ho)
      have R9 := R5.store 2 (.slice AL (namesR (tx ws) 2 (ws.length + 3) [] (k2, m2)).1.length cL)
      (try simp only [List.setIfInBounds_toArray, List.set] at R9)
      clear q2 f2 R2 R5 NMS
      generalize w5.setCell ⟨r, 2, none⟩ (.slice AL (namesR (tx ws) 2 (ws.length + 3) [] (k2, m2)).1.length cL) = W9 at *
      generalize hv9 : (namesR (tx ws) 2 (ws.length + 3) [] (k2, m2)).1 = LL at *
      generalize hk9 : (namesR (tx ws) 2 (ws.length + 3) [] (k2, m2)).2.1 = k at *
      generalize hm9 : (namesR (tx ws) 2 (ws.length + 3) [] (k2, m2)).2.2 = m at *
      have HN9 : Hid (namesR (tx ws) 2 (ws.length + 3) [] (k2, m2) = (LL, k, m)) := Prod.ext hv9 (Prod.ext hk9 hm9)
      clear hv9 hk9 hm9
      have HRD : Hid (readR (tx ws) = ({ kind := 4, list := LL, n := v2 }, k, m)) := by
        show _ = _
        unfold readR
        rw [HKD.out, if_neg (by decide)]
        unfold bodyR ssdR
        rw [htl]
        simp only [HN2.out, HN9.out]
        rfl
      clear q0
      have HF : Hid (firstR (tx ws) 4 = k2) := by show (numberR (tx ws) (1, false)).2.1 = _; rw [HN2.out]
      go_meet
      exact ⟨{ kind := 4, list := LL, n := v2 }, k, m, AL, cL, B9, _, rfl, HRD.out, fun _ => by rw [HKD.out, HF.out]; first | done | rfl, R9, OX.out, HT9.out, HU9.out, HZ9.out, HB9.out⟩
    · as_aux_lemma =>
      subst e
      have a1 := R1.rd.q1
      go_upto_region 27 with (go_at_call 47; refine (NB.out _ _ _ R1.rd).mono ?_; rintro e w5 ⟨rfl, h9, g9⟩; have R5 := R1.call h9 g9; (try simp only [List.setIfInBounds_toArray, List.set] at R5); have c9 := R5.q3; have f9 := R5.fz 3; clear h9 g9 a1)
      have R2 := R5.store 3 (.int .i64 (numberR (tx ws) (1, false)).1)
      (try simp only [List.setIfInBounds_toArray, List.set] at R2)
      clear c9 f9 R5 R1
      generalize w5.setCell ⟨r, 3, none⟩ (.int .i64 (numberR (tx ws) (1, false)).1) = W2 at *
      generalize hv9 : (numberR (tx ws) (1, false)).1 = v2 at *
      generalize hk9 : (numberR (tx ws) (1, false)).2.1 = k2 at *
      generalize hm9 : (numberR (tx ws) (1, false)).2.2 = m2 at *
      have HN2 : Hid (numberR (tx ws) (1, false) = (v2, k2, m2)) := Prod.ext hv9 (Prod.ext hk9 hm9)
      clear hv9 hk9 hm9
      have a1 := R2.rd.q1
      have NMS := Lib.hid (fun W k m (h : RRd W b g cap ws k m) => dnames_any b g cap ws k m 2 W h h0 (by omega))
      go_wp2_with (go_at_call 46; refine (NMS.out _ _ _ R2.rd).mono ?_; rintro e w5 ⟨vL, rfl, h9, ho, g9⟩; obtain ⟨AL, cL, rfl⟩ := own_slice ho; have R5 := R2.call h9 g9; (try simp only [List.setIfInBounds_toArray, List.set] at R5); obtain ⟨B9, ox9, ht9, hu9, hz9, hbb⟩ := PS.own R2 g9 ho; have OX := Lib.hid ox9; have HT9 := Lib.hid ht9; have HU9 := Lib.hid hu9; have HZ9 := Lib.hid hz9; have HB9 := Lib.hid hbb; clear ox9 ht9 hu9 hz9 hbb; have q2 := R5.q2; have f2 := R5.fz 2; clear h9 g9 ho)
      have R9 := R5.store 2 (.slice AL (namesR (tx ws) 2 (ws.length + 3) [] (k2, m2)).1.length cL)
      (try simp only [List.setIfInBounds_toArray, List.set] at R9)
      clear q2 f2 R2 R5 NMS
      generalize w5.setCell ⟨r, 2, none⟩ (.slice AL (namesR (tx ws) 2 (ws.length + 3) [] (k2, m2)).1.length cL) = W9 at *
      generalize hv9 : (namesR (tx ws) 2 (ws.length + 3) [] (k2, m2)).1 = LL at *
      generalize hk9 : (namesR (tx ws) 2 (ws.length + 3) [] (k2, m2)).2.1 = k at *
      generalize hm9 : (namesR (tx ws) 2 (ws.length + 3) [] (k2, m2)).2.2 = m at *
      have HN9 : Hid (namesR (tx ws) 2 (ws.length + 3) [] (k2, m2) = (LL, k, m)) := Prod.ext hv9 (Prod.ext hk9 hm9)
      clear hv9 hk9 hm9
      have HRD : Hid (readR (tx ws) = ({ kind := 5, list := LL, n := v2 }, k, m)) := by
        show _ = _
        unfold readR
        rw [HKD.out, if_neg (by decide)]
        unfold bodyR ssdR
        rw [htl]
        simp only [HN2.out, HN9.out]
        rfl
      clear q0
      have HF : Hid (firstR (tx ws) 5 = k2) := by show (numberR (tx ws) (1, false)).2.1 = _; rw [HN2.out]
      go_meet
      exact ⟨{ kind := 5, list := LL, n := v2 }, k, m, AL, cL, B9, _, rfl, HRD.out, fun _ => by rw [HKD.out, HF.out]; first | done | rfl, R9, OX.out, HT9.out, HU9.out, HZ9.out, HB9.out⟩
    · as_aux_lemma =>
      subst e
      have a1 := R1.rd.q1
      have NMS := Lib.hid (fun W k m (h : RRd W b g cap ws k m) => dnames_any b g cap ws k m 2 W h h0 (by omega))
      go_wp2_with (go_at_call 46; refine (NMS.out _ _ _ R1.rd).mono ?_; rintro e w5 ⟨vL, rfl, h9, ho, g9⟩; obtain ⟨AL, cL, rfl⟩ := own_slice ho; have R5 := R1.call h9 g9; (try simp only [List.setIfInBounds_toArray, List.set] at R5); obtain ⟨B9, ox9, ht9, hu9, hz9, hbb⟩ := PS.own R1 g9 ho; have OX := Lib.hid ox9; have HT9 := Lib.hid ht9; have HU9 := Lib.hid hu9; have HZ9 := Lib.hid hz9; have HB9 := Lib.hid hbb; clear ox9 ht9 hu9 hz9 hbb; have q2 := R5.q2; have f2 := R5.fz 2; clear h9 g9 ho)
      have R9 := R5.store 2 (.slice AL (namesR (tx ws) 2 (ws.length + 3) [] (1, false)).1.length cL)
      (try simp only [List.setIfInBounds_toArray, List.set] at R9)
      clear q2 f2 R1 R5 NMS
      generalize w5.setCell ⟨r, 2, none⟩ (.slice AL (namesR (tx ws) 2 (ws.length + 3) [] (1, false)).1.length cL) = W9 at *
      generalize hv9 : (namesR (tx ws) 2 (ws.length + 3) [] (1, false)).1 = LL at *
      generalize hk9 : (namesR (tx ws) 2 (ws.length + 3) [] (1, false)).2.1 = k at *
      generalize hm9 : (namesR (tx ws) 2 (ws.length + 3) [] (1, false)).2.2 = m at *
      have HN9 : Hid (namesR (tx ws) 2 (ws.length + 3) [] (1, false) = (LL, k, m)) := Prod.ext hv9 (Prod.ext hk9 hm9)
      clear hv9 hk9 hm9
      have HRD : Hid (readR (tx ws) = ({ kind := 6, list := LL }, k, m)) := by
        show _ = _
        unfold readR
        rw [HKD.out, if_neg (by decide)]
        unfold bodyR exclR
        rw [htl]
        simp only [HN9.out]
        rfl
      clear q0
      have HF : Hid (firstR (tx ws) 6 = 1) := rfl
      go_meet
      exact ⟨{ kind := 6, list := LL }, k, m, AL, cL, B9, _, rfl, HRD.out, fun _ => by rw [HKD.out, HF.out]; first | done | rfl, R9, OX.out, HT9.out, HU9.out, HZ9.out, HB9.out⟩
    · as_aux_lemma =>
      subst e
      go_wp2_with (first
        | (go_at_call 44; refine (NM.out _ _ _ R1.rd).mono ?_; rintro e w5 ⟨rfl, h9, g9⟩; have R5 := R1.call h9 g9; (try simp only [List.setIfInBounds_toArray, List.set] at R5); have tk1 : True := trivial; clear h9 g9)
        | (have _t := tk1; go_at_call 47; refine (NB.out _ _ _ R5.rd).mono ?_; rintro e w6 ⟨rfl, h9, g9⟩; have R6 := R5.call h9 g9; (try simp only [List.setIfInBounds_toArray, List.set] at R6); have tk2 : True := trivial; clear h9 g9 tk1 _t)
        | (have _t := tk2; go_at_call 47; refine (NB.out _ _ _ R6.rd).mono ?_; rintro e w7 ⟨rfl, h9, g9⟩; have R7 := R6.call h9 g9; (try simp only [List.setIfInBounds_toArray, List.set] at R7); have c1 := R7.q1; have c3 := R7.q3; have c4 := R7.q4; have f1 := R7.fz 1; have f3 := R7.fz 3; have f4 := R7.fz 4; clear h9 g9 tk2 _t))
      have R9 := ((R7.store 1 (.string (bs (nameR (tx ws) (1, false)).1))).store 3 (.int .i64 (numberR (tx ws) ((nameR (tx ws) (1, false)).2.1, (nameR (tx ws) (1, false)).2.2)).1)).store 4 (.int .i64 (numberR (tx ws) ((numberR (tx ws) ((nameR (tx ws) (1, false)).2.1, (nameR (tx ws) (1, false)).2.2)).2.1, (numberR (tx ws) ((nameR (tx ws) (1, false)).2.1, (nameR (tx ws) (1, false)).2.2)).2.2)).1)
      (try simp only [List.setIfInBounds_toArray, List.set] at R9)
      clear c1 c3 c4 f1 f3 f4 R1 R5 R6 R7
      generalize ((w7.setCell ⟨r, 1, none⟩ (.string (bs (nameR (tx ws) (1, false)).1))).setCell ⟨r, 3, none⟩ (.int .i64 (numberR (tx ws) ((nameR (tx ws) (1, false)).2.1, (nameR (tx ws) (1, false)).2.2)).1)).setCell ⟨r, 4, none⟩ (.int .i64 (numberR (tx ws) ((numberR (tx ws) ((nameR (tx ws) (1, false)).2.1, (nameR (tx ws) (1, false)).2.2)).2.1, (numberR (tx ws) ((nameR (tx ws) (1, false)).2.1, (nameR (tx ws) (1, false)).2.2)).2.2)).1) = W9 at *
      generalize hv9 : (nameR (tx ws) (1, false)).1 = v2 at *
      generalize hk9 : (nameR (tx ws) (1, false)).2.1 = k2 at *
      generalize hm9 : (nameR (tx ws) (1, false)).2.2 = m2 at *
      have HN2 : Hid (nameR (tx ws) (1, false) = (v2, k2, m2)) := Prod.ext hv9 (Prod.ext hk9 hm9)
      clear hv9 hk9 hm9
      generalize hv9 : (numberR (tx ws) (k2, m2)).1 = v3 at *
      generalize hk9 : (numberR (tx ws) (k2, m2)).2.1 = k3 at *
      generalize hm9 : (numberR (tx ws) (k2, m2)).2.2 = m3 at *
      have HN3 : Hid (numberR (tx ws) (k2, m2) = (v3, k3, m3)) := Prod.ext hv9 (Prod.ext hk9 hm9)
      clear hv9 hk9 hm9
      generalize hv9 : (numberR (tx ws) (k3, m3)).1 = v4 at *
      generalize hk9 : (numberR (tx ws) (k3, m3)).2.1 = k at *
      generalize hm9 : (numberR (tx ws) (k3, m3)).2.2 = m at *
      have HN4 : Hid (numberR (tx ws) (k3, m3) = (v4, k, m)) := Prod.ext hv9 (Prod.ext hk9 hm9)
      clear hv9 hk9 hm9
      have HRD : Hid (readR (tx ws) = ({ kind := 7, name := v2, n := v3, m := v4 }, k, m)) := by
        show _ = _
        unfold readR
        rw [HKD.out, if_neg (by decide)]
        unfold bodyR lendR
        (try rw [htl])
        simp only [HN2.out, HN3.out, HN4.out]
        rfl
      clear q0
      go_meet
      exact ⟨{ kind := 7, name := v2, n := v3, m := v4 }, k, m, none, 0, _, _, rfl, HRD.out, fun h => absurd rfl h, R9, ownL_nil _ _, (Array.getElem?_eq_some_iff.1 R9.told).1, (Array.getElem?_eq_some_iff.1 R9.flt).1, R9.be.size, Nat.le_refl _⟩
    · as_aux_lemma =>
      subst e
      have a1 := R1.rd.q1
      go_upto_region 36 with (go_at_call 44; refine (NM.out _ _ _ R1.rd).mono ?_; rintro e w5 ⟨rfl, h9, g9⟩; have R5 := R1.call h9 g9; (try simp only [List.setIfInBounds_toArray, List.set] at R5); have c9 := R5.q1; have f9 := R5.fz 1; clear h9 g9 a1)
      have R2 := R5.store 1 (.string (bs (nameR (tx ws) (1, false)).1))
      (try simp only [List.setIfInBounds_toArray, List.set] at R2)
      clear c9 f9 R5 R1
      generalize w5.setCell ⟨r, 1, none⟩ (.string (bs (nameR (tx ws) (1, false)).1)) = W2 at *
      generalize hv9 : (nameR (tx ws) (1, false)).1 = v2 at *
      generalize hk9 : (nameR (tx ws) (1, false)).2.1 = k2 at *
      generalize hm9 : (nameR (tx ws) (1, false)).2.2 = m2 at *
      have HN2 : Hid (nameR (tx ws) (1, false) = (v2, k2, m2)) := Prod.ext hv9 (Prod.ext hk9 hm9)
      clear hv9 hk9 hm9
      have NXk := Lib.hid (NX.out _ _ _ R2.rd)
      go_upto_region 37 with (first
        | (go_at_call 45; refine NXk.out.mono ?_; rintro e w6 ⟨rfl, g9⟩; have R6 := R2.call (R2.rd.kept g9) (grown_more g9); (try simp only [List.setIfInBounds_toArray, List.set] at R6); have a1 := R6.rd.q1; have af := R6.rd.f1; clear g9)
        | (go_at_call 48; refine (RState_any _ _).mono ?_; rintro e w7 ⟨rfl, hb7⟩; have R7 := R6.below hb7; (try simp only [List.setIfInBounds_toArray, List.set] at R7); have c3 := R7.q3; have f3 := R7.fz 3; clear hb7))
      have R3 := R7.store 3 (.int .i64 (posR stateR (nx (tx ws) k2 m2) 0))
      (try simp only [List.setIfInBounds_toArray, List.set] at R3)
      clear c3 f3 R6 R7 R2 a1 af NXk
      generalize w7.setCell ⟨r, 3, none⟩ (.int .i64 (posR stateR (nx (tx ws) k2 m2) 0)) = W3 at *
      have hky : posR stateR (nx (tx ws) k2 m2) 0 ≠ 0 → k2 < (tx ws).length := fun h => nx_len fun e => h (by rw [e]; decide)
      generalize hp9 : posR stateR (nx (tx ws) k2 m2) 0 = nn at *
      have HP := Lib.hid hp9
      clear hp9
      have q3 := R3.q3
      by_cases hn : nn = 0
      · have hnn : (nn == 0) = true := by simp [hn]
        have HK : Hid (skR (tx ws) (k2, m2) = (k2, true)) := by show _ = _; unfold skR; rw [HP.out, if_pos hn]
        clear hky
        go_upto_region 40 with (go_at_call 43; refine (dfail_any b g cap ws k2 m2 _ R3.rd h0).mono ?_; rintro e w8 ⟨rfl, h9, g9⟩; have R4 := R3.call h9 g9; clear h9 g9)
        clear q3 R3
        obtain ⟨W4, rfl⟩ : ∃ w1 : World, w1 = w8 := ⟨_, rfl⟩
        obtain ⟨m3, hm3⟩ : ∃ m3 : Bool, m3 = true := ⟨_, rfl⟩
        rw [← hm3] at R4 HK
        clear hm3 hnn hn
        obtain ⟨k3, rfl⟩ : ∃ k3 : Nat, k3 = k2 := ⟨_, rfl⟩
        have NXk := Lib.hid (NX.out _ _ _ R4.rd)
        by_cases hy : nx (tx ws) k3 m3 = [105, 110]
        · have hky : k3 < ws.length := by rw [← htl]; exact nx_len (T := tx ws) (k := k3) (m := m3) (by rw [hy]; simp)
          have hq : ((bs (nx (tx ws) k3 m3)).toList == [105, 110]) = true := by rw [lit_bs, hy]; rfl
          have HY := Lib.hid hy
          clear hy
          generalize nx (tx ws) k3 m3 = y9 at NXk hq
          have hwk : IntKind.i64.wrap ((k3 : Int) + 1) = (k3 : Int) + 1 := by rw [IntKind.wrap_i64]; omega
          go_upto_region 42 with (go_at_call 45; refine NXk.out.mono ?_; rintro e w6 ⟨rfl, g9⟩; have R6 := R4.call (R4.rd.kept g9) (grown_more g9); (try simp only [List.setIfInBounds_toArray, List.set] at R6); have a1 := R6.rd.q1; have af := R6.rd.f1; clear g9)
          have R5x := R6.step (by omega)
          clear a1 af hwk R6 hq NXk
          generalize w6.setCell ⟨b, 1, none⟩ (.int .i64 ((k3 : Int) + 1)) = W5 at *
          have a1 := R5x.rd.q1
          go_wp2_with (go_at_call 44; refine (NM.out _ _ _ R5x.rd).mono ?_; rintro e w5 ⟨rfl, h9, g9⟩; have R5 := R5x.call h9 g9; (try simp only [List.setIfInBounds_toArray, List.set] at R5); have c9 := R5.q9; have f9 := R5.fz 9; clear h9 g9 a1)
          have R9 := R5.store 9 (.string (bs (nameR (tx ws) (k3 + 1, m3)).1))
          (try simp only [List.setIfInBounds_toArray, List.set] at R9)
          clear c9 f9 R5 R5x
          generalize w5.setCell ⟨r, 9, none⟩ (.string (bs (nameR (tx ws) (k3 + 1, m3)).1)) = W9 at *
          generalize hv9 : (nameR (tx ws) (k3 + 1, m3)).1 = v9 at *
          generalize hk9 : (nameR (tx ws) (k3 + 1, m3)).2.1 = k9 at *
          generalize hm9 : (nameR (tx ws) (k3 + 1, m3)).2.2 = m9 at *
          have HN9 : Hid (nameR (tx ws) (k3 + 1, m3) = (v9, k9, m9)) := Prod.ext hv9 (Prod.ext hk9 hm9)
          clear hv9 hk9 hm9
          obtain ⟨k, rfl⟩ : ∃ k1 : Nat, k1 = k9 := ⟨_, rfl⟩
          obtain ⟨m, rfl⟩ : ∃ m1 : Bool, m1 = m9 := ⟨_, rfl⟩
          have HRD : Hid (readR (tx ws) = ({ kind := 8, name := v2, n := nn, in_ := v9 }, k, m)) := by
            show _ = _
            unfold readR
            rw [HKD.out, if_neg (by decide)]
            unfold bodyR stateRd
            (try rw [htl])
            simp only [HN2.out, HP.out, HK.out]
            unfold optR
            rw [if_pos HY.out]
            simp only [HN9.out]
            (try rfl)
          (try clear q0)
          go_meet
          exact ⟨{ kind := 8, name := v2, n := nn, in_ := v9 }, k, m, none, 0, _, _, rfl, HRD.out, fun h => absurd rfl h, R9, ownL_nil _ _, (Array.getElem?_eq_some_iff.1 R9.told).1, (Array.getElem?_eq_some_iff.1 R9.flt).1, R9.be.size, Nat.le_refl _⟩
        · have hq : ((bs (nx (tx ws) k3 m3)).toList == [105, 110]) = false := by rw [lit_bs]; exact beq_eq_false_iff_ne.2 hy
          have HY := Lib.hid hy
          clear hy
          generalize nx (tx ws) k3 m3 = y9 at NXk hq
          go_wp2_with (go_at_call 45; refine NXk.out.mono ?_; rintro e w6 ⟨rfl, g9⟩; have R6 := R4.call (R4.rd.kept g9) (grown_more g9); (try simp only [List.setIfInBounds_toArray, List.set] at R6); have a1 := R6.rd.q1; have af := R6.rd.f1; clear g9)
          have R9 := R6
          clear R6 a1 af hq NXk
          obtain ⟨W9, rfl⟩ : ∃ w1 : World, w1 = w6 := ⟨_, rfl⟩
          obtain ⟨k, rfl⟩ : ∃ k1 : Nat, k1 = k3 := ⟨_, rfl⟩
          obtain ⟨m, rfl⟩ : ∃ m1 : Bool, m1 = m3 := ⟨_, rfl⟩
          have HRD : Hid (readR (tx ws) = ({ kind := 8, name := v2, n := nn }, k, m)) := by
            show _ = _
            unfold readR
            rw [HKD.out, if_neg (by decide)]
            unfold bodyR stateRd
            (try rw [htl])
            simp only [HN2.out, HP.out, HK.out]
            unfold optR
            rw [if_neg HY.out]
            (try rfl)
          (try clear q0)
          go_meet
          exact ⟨{ kind := 8, name := v2, n := nn }, k, m, none, 0, _, _, rfl, HRD.out, fun h => absurd rfl h, R9, ownL_nil _ _, (Array.getElem?_eq_some_iff.1 R9.told).1, (Array.getElem?_eq_some_iff.1 R9.flt).1, R9.be.size, Nat.le_refl _⟩
      · have hnn : (nn == 0) = false := beq_eq_false_iff_ne.2 hn
        have hk2 := hky hn
        rw [htl] at hk2
        have HK : Hid (skR (tx ws) (k2, m2) = (k2 + 1, m2)) := by show _ = _; unfold skR; rw [HP.out, if_neg hn]
        clear hky
        have a1 := R3.rd.q1; have af := R3.rd.f1
        have hwk : IntKind.i64.wrap ((k2 : Int) + 1) = (k2 : Int) + 1 := by rw [IntKind.wrap_i64]; omega
        go_upto_region 40 with (fail)
        have R4 := R3.step (by omega)
        clear q3 a1 af hwk R3 hnn hn
        generalize W3.setCell ⟨b, 1, none⟩ (.int .i64 ((k2 : Int) + 1)) = W4 at *
        generalize hk3 : k2 + 1 = k3 at *
        obtain ⟨m3, rfl⟩ : ∃ m3 : Bool, m3 = m2 := ⟨_, rfl⟩
        have NXk := Lib.hid (NX.out _ _ _ R4.rd)
        by_cases hy : nx (tx ws) k3 m3 = [105, 110]
        · have hky : k3 < ws.length := by rw [← htl]; exact nx_len (T := tx ws) (k := k3) (m := m3) (by rw [hy]; simp)
          have hq : ((bs (nx (tx ws) k3 m3)).toList == [105, 110]) = true := by rw [lit_bs, hy]; rfl
          have HY := Lib.hid hy
          clear hy
          generalize nx (tx ws) k3 m3 = y9 at NXk hq
          have hwk : IntKind.i64.wrap ((k3 : Int) + 1) = (k3 : Int) + 1 := by rw [IntKind.wrap_i64]; omega
          go_upto_region 42 with (go_at_call 45; refine NXk.out.mono ?_; rintro e w6 ⟨rfl, g9⟩; have R6 := R4.call (R4.rd.kept g9) (grown_more g9); (try simp only [List.setIfInBounds_toArray, List.set] at R6); have a1 := R6.rd.q1; have af := R6.rd.f1; clear g9)
          have R5x := R6.step (by omega)
          clear a1 af hwk R6 hq NXk
          generalize w6.setCell ⟨b, 1, none⟩ (.int .i64 ((k3 : Int) + 1)) = W5 at *
          have a1 := R5x.rd.q1
          go_wp2_with (go_at_call 44; refine (NM.out _ _ _ R5x.rd).mono ?_; rintro e w5 ⟨rfl, h9, g9⟩; have R5 := R5x.call h9 g9; (try simp only [List.setIfInBounds_toArray, List.set] at R5); have c9 := R5.q9; have f9 := R5.fz 9; clear h9 g9 a1)
          have R9 := R5.store 9 (.string (bs (nameR (tx ws) (k3 + 1, m3)).1))
          (try simp only [List.setIfInBounds_toArray, List.set] at R9)
          clear c9 f9 R5 R5x
          generalize w5.setCell ⟨r, 9, none⟩ (.string (bs (nameR (tx ws) (k3 + 1, m3)).1)) = W9 at *
          generalize hv9 : (nameR (tx ws) (k3 + 1, m3)).1 = v9 at *
          generalize hk9 : (nameR (tx ws) (k3 + 1, m3)).2.1 = k9 at *
          generalize hm9 : (nameR (tx ws) (k3 + 1, m3)).2.2 = m9 at *
          have HN9 : Hid (nameR (tx ws) (k3 + 1, m3) = (v9, k9, m9)) := Prod.ext hv9 (Prod.ext hk9 hm9)
          clear hv9 hk9 hm9
          obtain ⟨k, rfl⟩ : ∃ k1 : Nat, k1 = k9 := ⟨_, rfl⟩
          obtain ⟨m, rfl⟩ : ∃ m1 : Bool, m1 = m9 := ⟨_, rfl⟩
          have HRD : Hid (readR (tx ws) = ({ kind := 8, name := v2, n := nn, in_ := v9 }, k, m)) := by
            show _ = _
            unfold readR
            rw [HKD.out, if_neg (by decide)]
            unfold bodyR stateRd
            (try rw [htl])
            simp only [HN2.out, HP.out, HK.out]
            unfold optR
            rw [if_pos HY.out]
            simp only [HN9.out]
            (try rfl)
          (try clear q0)
          go_meet
          exact ⟨{ kind := 8, name := v2, n := nn, in_ := v9 }, k, m, none, 0, _, _, rfl, HRD.out, fun h => absurd rfl h, R9, ownL_nil _ _, (Array.getElem?_eq_some_iff.1 R9.told).1, (Array.getElem?_eq_some_iff.1 R9.flt).1, R9.be.size, Nat.le_refl _⟩
        · have hq : ((bs (nx (tx ws) k3 m3)).toList == [105, 110]) = false := by rw [lit_bs]; exact beq_eq_false_iff_ne.2 hy
          have HY := Lib.hid hy
          clear hy
          generalize nx (tx ws) k3 m3 = y9 at NXk hq
          go_wp2_with (go_at_call 45; refine NXk.out.mono ?_; rintro e w6 ⟨rfl, g9⟩; have R6 := R4.call (R4.rd.kept g9) (grown_more g9); (try simp only [List.setIfInBounds_toArray, List.set] at R6); have a1 := R6.rd.q1; have af := R6.rd.f1; clear g9)
          have R9 := R6
          clear R6 a1 af hq NXk
          obtain ⟨W9, rfl⟩ : ∃ w1 : World, w1 = w6 := ⟨_, rfl⟩
          obtain ⟨k, rfl⟩ : ∃ k1 : Nat, k1 = k3 := ⟨_, rfl⟩
          obtain ⟨m, rfl⟩ : ∃ m1 : Bool, m1 = m3 := ⟨_, rfl⟩
          have HRD : Hid (readR (tx ws) = ({ kind := 8, name := v2, n := nn }, k, m)) := by
            show _ = _
            unfold readR
            rw [HKD.out, if_neg (by decide)]
            unfold bodyR stateRd
            (try rw [htl])
            simp only [HN2.out, HP.out, HK.out]
            unfold optR
            rw [if_neg HY.out]
            (try rfl)
          (try clear q0)
          go_meet
          exact ⟨{ kind := 8, name := v2, n := nn }, k, m, none, 0, _, _, rfl, HRD.out, fun h => absurd rfl h, R9, ownL_nil _ _, (Array.getElem?_eq_some_iff.1 R9.told).1, (Array.getElem?_eq_some_iff.1 R9.flt).1, R9.be.size, Nat.le_refl _⟩
    · as_aux_lemma =>
      subst e
      have a1 := R1.rd.q1
      go_upto_region 48 with (go_at_call 44; refine (NM.out _ _ _ R1.rd).mono ?_; rintro e w5 ⟨rfl, h9, g9⟩; have R5 := R1.call h9 g9; (try simp only [List.setIfInBounds_toArray, List.set] at R5); have c9 := R5.q1; have f9 := R5.fz 1; clear h9 g9 a1)
      have R2 := R5.store 1 (.string (bs (nameR (tx ws) (1, false)).1))
      (try simp only [List.setIfInBounds_toArray, List.set] at R2)
      clear c9 f9 R5 R1
      generalize w5.setCell ⟨r, 1, none⟩ (.string (bs (nameR (tx ws) (1, false)).1)) = W2 at *
      generalize hv9 : (nameR (tx ws) (1, false)).1 = v2 at *
      generalize hk9 : (nameR (tx ws) (1, false)).2.1 = k2 at *
      generalize hm9 : (nameR (tx ws) (1, false)).2.2 = m2 at *
      have HN2 : Hid (nameR (tx ws) (1, false) = (v2, k2, m2)) := Prod.ext hv9 (Prod.ext hk9 hm9)
      clear hv9 hk9 hm9
      clear q0
      have q0 := R2.q0
      go_upto_region 50 with (fail)
      have WD := Lib.hid (fun W k m (h : RRd W b g cap ws k m) => dword_any b g cap ws k m [102, 114, 111, 109] (by simp) W h h0)
      go_upto_region 51 with (go_at_call 49; refine (WD.out _ _ _ R2.rd).mono ?_; rintro e w5 ⟨rfl, h9, g9⟩; have R3 := R2.call h9 g9; (try simp only [List.setIfInBounds_toArray, List.set] at R3); clear h9 g9)
      clear R2 WD
      generalize hk9 : (wordR (tx ws) [102, 114, 111, 109] (k2, m2)).1 = k3 at *
      generalize hm9 : (wordR (tx ws) [102, 114, 111, 109] (k2, m2)).2 = m3 at *
      have HN3 : Hid (wordR (tx ws) [102, 114, 111, 109] (k2, m2) = (k3, m3)) := Prod.ext hk9 hm9
      clear hk9 hm9
      obtain ⟨W3, rfl⟩ : ∃ w1 : World, w1 = w5 := ⟨_, rfl⟩
      have a1 := R3.rd.q1
      go_upto_region 52 with (go_at_call 44; refine (NM.out _ _ _ R3.rd).mono ?_; rintro e w5 ⟨rfl, h9, g9⟩; have R5 := R3.call h9 g9; (try simp only [List.setIfInBounds_toArray, List.set] at R5); have c9 := R5.q5; have f9 := R5.fz 5; clear h9 g9 a1)
      have R4 := R5.store 5 (.string (bs (nameR (tx ws) (k3, m3)).1))
      (try simp only [List.setIfInBounds_toArray, List.set] at R4)
      clear c9 f9 R5 R3
      generalize w5.setCell ⟨r, 5, none⟩ (.string (bs (nameR (tx ws) (k3, m3)).1)) = W4 at *
      generalize hv9 : (nameR (tx ws) (k3, m3)).1 = v4 at *
      generalize hk9 : (nameR (tx ws) (k3, m3)).2.1 = k4 at *
      generalize hm9 : (nameR (tx ws) (k3, m3)).2.2 = m4 at *
      have HN4 : Hid (nameR (tx ws) (k3, m3) = (v4, k4, m4)) := Prod.ext hv9 (Prod.ext hk9 hm9)
      clear hv9 hk9 hm9
      have WD := Lib.hid (fun W k m (h : RRd W b g cap ws k m) => dword_any b g cap ws k m [116, 111] (by simp) W h h0)
      go_upto_region 53 with (go_at_call 49; refine (WD.out _ _ _ R4.rd).mono ?_; rintro e w5 ⟨rfl, h9, g9⟩; have R5 := R4.call h9 g9; (try simp only [List.setIfInBounds_toArray, List.set] at R5); clear h9 g9)
      clear R4 WD
      generalize hk9 : (wordR (tx ws) [116, 111] (k4, m4)).1 = k5 at *
      generalize hm9 : (wordR (tx ws) [116, 111] (k4, m4)).2 = m5 at *
      have HN5 : Hid (wordR (tx ws) [116, 111] (k4, m4) = (k5, m5)) := Prod.ext hk9 hm9
      clear hk9 hm9
      obtain ⟨W5, rfl⟩ : ∃ w1 : World, w1 = w5 := ⟨_, rfl⟩
      have a1 := R5.rd.q1
      go_upto_region 54 with (go_at_call 44; refine (NM.out _ _ _ R5.rd).mono ?_; rintro e w5 ⟨rfl, h9, g9⟩; have R5z := R5.call h9 g9; (try simp only [List.setIfInBounds_toArray, List.set] at R5z); have c9 := R5z.q6; have f9 := R5z.fz 6; clear h9 g9 a1)
      have R6 := R5z.store 6 (.string (bs (nameR (tx ws) (k5, m5)).1))
      (try simp only [List.setIfInBounds_toArray, List.set] at R6)
      clear c9 f9 R5 R5z
      generalize w5.setCell ⟨r, 6, none⟩ (.string (bs (nameR (tx ws) (k5, m5)).1)) = W6 at *
      generalize hv9 : (nameR (tx ws) (k5, m5)).1 = v6 at *
      generalize hk9 : (nameR (tx ws) (k5, m5)).2.1 = k6 at *
      generalize hm9 : (nameR (tx ws) (k5, m5)).2.2 = m6 at *
      have HN6 : Hid (nameR (tx ws) (k5, m5) = (v6, k6, m6)) := Prod.ext hv9 (Prod.ext hk9 hm9)
      clear hv9 hk9 hm9
      clear q0
      have q0 := R6.q0
      have NXk := Lib.hid (NX.out _ _ _ R6.rd)
      by_cases hy : nx (tx ws) k6 m6 = [98, 121]
      · have hky : k6 < ws.length := by rw [← htl]; exact nx_len (T := tx ws) (k := k6) (m := m6) (by rw [hy]; simp)
        have hq : ((bs (nx (tx ws) k6 m6)).toList == [98, 121]) = true := by rw [lit_bs, hy]; rfl
        have HY7 := Lib.hid hy
        clear hy
        generalize nx (tx ws) k6 m6 = y9 at NXk hq
        have hwk : IntKind.i64.wrap ((k6 : Int) + 1) = (k6 : Int) + 1 := by rw [IntKind.wrap_i64]; omega
        go_upto_region 56 with (go_at_call 45; refine NXk.out.mono ?_; rintro e wx ⟨rfl, g9⟩; have RX := R6.call (R6.rd.kept g9) (grown_more g9); (try simp only [List.setIfInBounds_toArray, List.set] at RX); have a1 := RX.rd.q1; have af := RX.rd.f1; clear g9)
        have RY := RX.step (by omega)
        clear a1 af hwk RX R6 hq NXk q0
        generalize wx.setCell ⟨b, 1, none⟩ (.int .i64 ((k6 : Int) + 1)) = WY at *
        have a1 := RY.rd.q1
        go_upto_region 57 with (go_at_call 44; refine (NM.out _ _ _ RY.rd).mono ?_; rintro e w5 ⟨rfl, h9, g9⟩; have R5 := RY.call h9 g9; (try simp only [List.setIfInBounds_toArray, List.set] at R5); have c9 := R5.q7; have f9 := R5.fz 7; clear h9 g9 a1)
        have R7 := R5.store 7 (.string (bs (nameR (tx ws) (k6 + 1, m6)).1))
        (try simp only [List.setIfInBounds_toArray, List.set] at R7)
        clear c9 f9 R5 RY
        generalize w5.setCell ⟨r, 7, none⟩ (.string (bs (nameR (tx ws) (k6 + 1, m6)).1)) = W7 at *
        generalize hv9 : (nameR (tx ws) (k6 + 1, m6)).1 = v7 at *
        generalize hk9 : (nameR (tx ws) (k6 + 1, m6)).2.1 = k7 at *
        generalize hm9 : (nameR (tx ws) (k6 + 1, m6)).2.2 = m7 at *
        have HN7 : Hid (nameR (tx ws) (k6 + 1, m6) = (v7, k7, m7)) := Prod.ext hv9 (Prod.ext hk9 hm9)
        clear hv9 hk9 hm9
        have HO7 : Hid (optR (tx ws) [98, 121] (k6, m6) = (v7, k7, m7)) := by show _ = _; unfold optR; rw [if_pos HY7.out]; exact HN7.out
        have q0 := R7.q0
        have NXk := Lib.hid (NX.out _ _ _ R7.rd)
        by_cases hy : nx (tx ws) k7 m7 = [116, 97, 115, 107]
        · have hky : k7 < ws.length := by rw [← htl]; exact nx_len (T := tx ws) (k := k7) (m := m7) (by rw [hy]; simp)
          have hq : ((bs (nx (tx ws) k7 m7)).toList == [116, 97, 115, 107]) = true := by rw [lit_bs, hy]; rfl
          have HY9 := Lib.hid hy
          clear hy
          generalize nx (tx ws) k7 m7 = y9 at NXk hq
          have hwk : IntKind.i64.wrap ((k7 : Int) + 1) = (k7 : Int) + 1 := by rw [IntKind.wrap_i64]; omega
          go_upto_region 59 with (go_at_call 45; refine NXk.out.mono ?_; rintro e wx ⟨rfl, g9⟩; have RX := R7.call (R7.rd.kept g9) (grown_more g9); (try simp only [List.setIfInBounds_toArray, List.set] at RX); have a1 := RX.rd.q1; have af := RX.rd.f1; clear g9)
          have RY := RX.step (by omega)
          clear a1 af hwk RX R7 hq NXk q0
          generalize wx.setCell ⟨b, 1, none⟩ (.int .i64 ((k7 : Int) + 1)) = WY at *
          have a1 := RY.rd.q1
          go_wp2_with (go_at_call 44; refine (NM.out _ _ _ RY.rd).mono ?_; rintro e w5 ⟨rfl, h9, g9⟩; have R5 := RY.call h9 g9; (try simp only [List.setIfInBounds_toArray, List.set] at R5); have c9 := R5.q8; have f9 := R5.fz 8; clear h9 g9 a1)
          have R9 := R5.store 8 (.string (bs (nameR (tx ws) (k7 + 1, m7)).1))
          (try simp only [List.setIfInBounds_toArray, List.set] at R9)
          clear c9 f9 R5 RY
          generalize w5.setCell ⟨r, 8, none⟩ (.string (bs (nameR (tx ws) (k7 + 1, m7)).1)) = W9 at *
          generalize hv9 : (nameR (tx ws) (k7 + 1, m7)).1 = v9 at *
          generalize hk9 : (nameR (tx ws) (k7 + 1, m7)).2.1 = k9 at *
          generalize hm9 : (nameR (tx ws) (k7 + 1, m7)).2.2 = m9 at *
          have HN9 : Hid (nameR (tx ws) (k7 + 1, m7) = (v9, k9, m9)) := Prod.ext hv9 (Prod.ext hk9 hm9)
          clear hv9 hk9 hm9
          have HO9 : Hid (optR (tx ws) [116, 97, 115, 107] (k7, m7) = (v9, k9, m9)) := by show _ = _; unfold optR; rw [if_pos HY9.out]; exact HN9.out
          have q0 := R9.q0
          obtain ⟨k, rfl⟩ : ∃ k1 : Nat, k1 = k9 := ⟨_, rfl⟩
          obtain ⟨m, rfl⟩ : ∃ m1 : Bool, m1 = m9 := ⟨_, rfl⟩
          have HRD : Hid (readR (tx ws) = ({ kind := 9, name := v2, from_ := v4, to_ := v6, by_ := v7, task := v9 }, k, m)) := by
            show _ = _
            unfold readR
            rw [HKD.out, if_neg (by decide)]
            unfold bodyR onR fromToR
            (try rw [htl])
            simp only [HN2.out, HN3.out, HN4.out, HN5.out, HN6.out, HO7.out, HO9.out]
            (try rfl)
          (try clear q0)
          go_meet
          exact ⟨{ kind := 9, name := v2, from_ := v4, to_ := v6, by_ := v7, task := v9 }, k, m, none, 0, _, _, rfl, HRD.out, fun h => absurd rfl h, R9, ownL_nil _ _, (Array.getElem?_eq_some_iff.1 R9.told).1, (Array.getElem?_eq_some_iff.1 R9.flt).1, R9.be.size, Nat.le_refl _⟩
        · have hq : ((bs (nx (tx ws) k7 m7)).toList == [116, 97, 115, 107]) = false := by rw [lit_bs]; exact beq_eq_false_iff_ne.2 hy
          have HY9 := Lib.hid hy
          clear hy
          generalize nx (tx ws) k7 m7 = y9 at NXk hq
          go_wp2_with (go_at_call 45; refine NXk.out.mono ?_; rintro e wx ⟨rfl, g9⟩; have RX := R7.call (R7.rd.kept g9) (grown_more g9); (try simp only [List.setIfInBounds_toArray, List.set] at RX); have a1 := RX.rd.q1; have af := RX.rd.f1; clear g9)
          clear a1 af R7 hq NXk q0
          have R9 := RX
          clear RX
          obtain ⟨W9, rfl⟩ : ∃ w1 : World, w1 = wx := ⟨_, rfl⟩
          obtain ⟨v9, hv9⟩ : ∃ v : Tx, v = [] := ⟨_, rfl⟩
          have HO9 : Hid (optR (tx ws) [116, 97, 115, 107] (k7, m7) = (v9, k7, m7)) := by show _ = _; unfold optR; rw [if_neg HY9.out, hv9]
          have hbs : (Value.string ⟨#[]⟩) = .string (bs v9) := by rw [hv9]; rfl
          have R9 : PS w W9 b g cap ws w.heap.size (w.heap.size + 1) r k7 m7 #[.int .i64 9, .string (bs v2), .slice none 0 0, .int .i64 0, .int .i64 0, .string (bs v4), .string (bs v6), .string (bs v7), .string (bs v9), .string ⟨#[]⟩, .int .i64 number] := by rw [← hbs]; exact R9
          clear hbs hv9
          obtain ⟨k9, rfl⟩ : ∃ k1 : Nat, k1 = k7 := ⟨_, rfl⟩
          obtain ⟨m9, rfl⟩ : ∃ m1 : Bool, m1 = m7 := ⟨_, rfl⟩
          have q0 := R9.q0
          obtain ⟨k, rfl⟩ : ∃ k1 : Nat, k1 = k9 := ⟨_, rfl⟩
          obtain ⟨m, rfl⟩ : ∃ m1 : Bool, m1 = m9 := ⟨_, rfl⟩
          have HRD : Hid (readR (tx ws) = ({ kind := 9, name := v2, from_ := v4, to_ := v6, by_ := v7, task := v9 }, k, m)) := by
            show _ = _
            unfold readR
            rw [HKD.out, if_neg (by decide)]
            unfold bodyR onR fromToR
            (try rw [htl])
            simp only [HN2.out, HN3.out, HN4.out, HN5.out, HN6.out, HO7.out, HO9.out]
            (try rfl)
          (try clear q0)
          go_meet
          exact ⟨{ kind := 9, name := v2, from_ := v4, to_ := v6, by_ := v7, task := v9 }, k, m, none, 0, _, _, rfl, HRD.out, fun h => absurd rfl h, R9, ownL_nil _ _, (Array.getElem?_eq_some_iff.1 R9.told).1, (Array.getElem?_eq_some_iff.1 R9.flt).1, R9.be.size, Nat.le_refl _⟩
      · have hq : ((bs (nx (tx ws) k6 m6)).toList == [98, 121]) = false := by rw [lit_bs]; exact beq_eq_false_iff_ne.2 hy
        have HY7 := Lib.hid hy
        clear hy
        generalize nx (tx ws) k6 m6 = y9 at NXk hq
        go_upto_region 57 with (go_at_call 45; refine NXk.out.mono ?_; rintro e wx ⟨rfl, g9⟩; have RX := R6.call (R6.rd.kept g9) (grown_more g9); (try simp only [List.setIfInBounds_toArray, List.set] at RX); have a1 := RX.rd.q1; have af := RX.rd.f1; clear g9)
        clear a1 af R6 hq NXk q0
        have R7 := RX
        clear RX
        obtain ⟨W7, rfl⟩ : ∃ w1 : World, w1 = wx := ⟨_, rfl⟩
        obtain ⟨v7, hv9⟩ : ∃ v : Tx, v = [] := ⟨_, rfl⟩
        have HO7 : Hid (optR (tx ws) [98, 121] (k6, m6) = (v7, k6, m6)) := by show _ = _; unfold optR; rw [if_neg HY7.out, hv9]
        have hbs : (Value.string ⟨#[]⟩) = .string (bs v7) := by rw [hv9]; rfl
        have R7 : PS w W7 b g cap ws w.heap.size (w.heap.size + 1) r k6 m6 #[.int .i64 9, .string (bs v2), .slice none 0 0, .int .i64 0, .int .i64 0, .string (bs v4), .string (bs v6), .string (bs v7), .string ⟨#[]⟩, .string ⟨#[]⟩, .int .i64 number] := by rw [← hbs]; exact R7
        clear hbs hv9
        obtain ⟨k7, rfl⟩ : ∃ k1 : Nat, k1 = k6 := ⟨_, rfl⟩
        obtain ⟨m7, rfl⟩ : ∃ m1 : Bool, m1 = m6 := ⟨_, rfl⟩
        have q0 := R7.q0
        have NXk := Lib.hid (NX.out _ _ _ R7.rd)
        by_cases hy : nx (tx ws) k7 m7 = [116, 97, 115, 107]
        · have hky : k7 < ws.length := by rw [← htl]; exact nx_len (T := tx ws) (k := k7) (m := m7) (by rw [hy]; simp)
          have hq : ((bs (nx (tx ws) k7 m7)).toList == [116, 97, 115, 107]) = true := by rw [lit_bs, hy]; rfl
          have HY9 := Lib.hid hy
          clear hy
          generalize nx (tx ws) k7 m7 = y9 at NXk hq
          have hwk : IntKind.i64.wrap ((k7 : Int) + 1) = (k7 : Int) + 1 := by rw [IntKind.wrap_i64]; omega
          go_upto_region 59 with (go_at_call 45; refine NXk.out.mono ?_; rintro e wx ⟨rfl, g9⟩; have RX := R7.call (R7.rd.kept g9) (grown_more g9); (try simp only [List.setIfInBounds_toArray, List.set] at RX); have a1 := RX.rd.q1; have af := RX.rd.f1; clear g9)
          have RY := RX.step (by omega)
          clear a1 af hwk RX R7 hq NXk q0
          generalize wx.setCell ⟨b, 1, none⟩ (.int .i64 ((k7 : Int) + 1)) = WY at *
          have a1 := RY.rd.q1
          go_wp2_with (go_at_call 44; refine (NM.out _ _ _ RY.rd).mono ?_; rintro e w5 ⟨rfl, h9, g9⟩; have R5 := RY.call h9 g9; (try simp only [List.setIfInBounds_toArray, List.set] at R5); have c9 := R5.q8; have f9 := R5.fz 8; clear h9 g9 a1)
          have R9 := R5.store 8 (.string (bs (nameR (tx ws) (k7 + 1, m7)).1))
          (try simp only [List.setIfInBounds_toArray, List.set] at R9)
          clear c9 f9 R5 RY
          generalize w5.setCell ⟨r, 8, none⟩ (.string (bs (nameR (tx ws) (k7 + 1, m7)).1)) = W9 at *
          generalize hv9 : (nameR (tx ws) (k7 + 1, m7)).1 = v9 at *
          generalize hk9 : (nameR (tx ws) (k7 + 1, m7)).2.1 = k9 at *
          generalize hm9 : (nameR (tx ws) (k7 + 1, m7)).2.2 = m9 at *
          have HN9 : Hid (nameR (tx ws) (k7 + 1, m7) = (v9, k9, m9)) := Prod.ext hv9 (Prod.ext hk9 hm9)
          clear hv9 hk9 hm9
          have HO9 : Hid (optR (tx ws) [116, 97, 115, 107] (k7, m7) = (v9, k9, m9)) := by show _ = _; unfold optR; rw [if_pos HY9.out]; exact HN9.out
          have q0 := R9.q0
          obtain ⟨k, rfl⟩ : ∃ k1 : Nat, k1 = k9 := ⟨_, rfl⟩
          obtain ⟨m, rfl⟩ : ∃ m1 : Bool, m1 = m9 := ⟨_, rfl⟩
          have HRD : Hid (readR (tx ws) = ({ kind := 9, name := v2, from_ := v4, to_ := v6, by_ := v7, task := v9 }, k, m)) := by
            show _ = _
            unfold readR
            rw [HKD.out, if_neg (by decide)]
            unfold bodyR onR fromToR
            (try rw [htl])
            simp only [HN2.out, HN3.out, HN4.out, HN5.out, HN6.out, HO7.out, HO9.out]
            (try rfl)
          (try clear q0)
          go_meet
          exact ⟨{ kind := 9, name := v2, from_ := v4, to_ := v6, by_ := v7, task := v9 }, k, m, none, 0, _, _, rfl, HRD.out, fun h => absurd rfl h, R9, ownL_nil _ _, (Array.getElem?_eq_some_iff.1 R9.told).1, (Array.getElem?_eq_some_iff.1 R9.flt).1, R9.be.size, Nat.le_refl _⟩
        · have hq : ((bs (nx (tx ws) k7 m7)).toList == [116, 97, 115, 107]) = false := by rw [lit_bs]; exact beq_eq_false_iff_ne.2 hy
          have HY9 := Lib.hid hy
          clear hy
          generalize nx (tx ws) k7 m7 = y9 at NXk hq
          go_wp2_with (go_at_call 45; refine NXk.out.mono ?_; rintro e wx ⟨rfl, g9⟩; have RX := R7.call (R7.rd.kept g9) (grown_more g9); (try simp only [List.setIfInBounds_toArray, List.set] at RX); have a1 := RX.rd.q1; have af := RX.rd.f1; clear g9)
          clear a1 af R7 hq NXk q0
          have R9 := RX
          clear RX
          obtain ⟨W9, rfl⟩ : ∃ w1 : World, w1 = wx := ⟨_, rfl⟩
          obtain ⟨v9, hv9⟩ : ∃ v : Tx, v = [] := ⟨_, rfl⟩
          have HO9 : Hid (optR (tx ws) [116, 97, 115, 107] (k7, m7) = (v9, k7, m7)) := by show _ = _; unfold optR; rw [if_neg HY9.out, hv9]
          have hbs : (Value.string ⟨#[]⟩) = .string (bs v9) := by rw [hv9]; rfl
          have R9 : PS w W9 b g cap ws w.heap.size (w.heap.size + 1) r k7 m7 #[.int .i64 9, .string (bs v2), .slice none 0 0, .int .i64 0, .int .i64 0, .string (bs v4), .string (bs v6), .string (bs v7), .string (bs v9), .string ⟨#[]⟩, .int .i64 number] := by rw [← hbs]; exact R9
          clear hbs hv9
          obtain ⟨k9, rfl⟩ : ∃ k1 : Nat, k1 = k7 := ⟨_, rfl⟩
          obtain ⟨m9, rfl⟩ : ∃ m1 : Bool, m1 = m7 := ⟨_, rfl⟩
          have q0 := R9.q0
          obtain ⟨k, rfl⟩ : ∃ k1 : Nat, k1 = k9 := ⟨_, rfl⟩
          obtain ⟨m, rfl⟩ : ∃ m1 : Bool, m1 = m9 := ⟨_, rfl⟩
          have HRD : Hid (readR (tx ws) = ({ kind := 9, name := v2, from_ := v4, to_ := v6, by_ := v7, task := v9 }, k, m)) := by
            show _ = _
            unfold readR
            rw [HKD.out, if_neg (by decide)]
            unfold bodyR onR fromToR
            (try rw [htl])
            simp only [HN2.out, HN3.out, HN4.out, HN5.out, HN6.out, HO7.out, HO9.out]
            (try rfl)
          (try clear q0)
          go_meet
          exact ⟨{ kind := 9, name := v2, from_ := v4, to_ := v6, by_ := v7, task := v9 }, k, m, none, 0, _, _, rfl, HRD.out, fun h => absurd rfl h, R9, ownL_nil _ _, (Array.getElem?_eq_some_iff.1 R9.told).1, (Array.getElem?_eq_some_iff.1 R9.flt).1, R9.be.size, Nat.le_refl _⟩
    · as_aux_lemma =>
      subst e
      go_upto_region 50 with (fail)
      have WD := Lib.hid (fun W k m (h : RRd W b g cap ws k m) => dword_any b g cap ws k m [102, 114, 111, 109] (by simp) W h h0)
      go_upto_region 51 with (go_at_call 49; refine (WD.out _ _ _ R1.rd).mono ?_; rintro e w5 ⟨rfl, h9, g9⟩; have R3 := R1.call h9 g9; (try simp only [List.setIfInBounds_toArray, List.set] at R3); clear h9 g9)
      clear R1 WD
      generalize hk9 : (wordR (tx ws) [102, 114, 111, 109] (1, false)).1 = k3 at *
      generalize hm9 : (wordR (tx ws) [102, 114, 111, 109] (1, false)).2 = m3 at *
      have HN3 : Hid (wordR (tx ws) [102, 114, 111, 109] (1, false) = (k3, m3)) := Prod.ext hk9 hm9
      clear hk9 hm9
      obtain ⟨W3, rfl⟩ : ∃ w1 : World, w1 = w5 := ⟨_, rfl⟩
      have a1 := R3.rd.q1
      go_upto_region 52 with (go_at_call 44; refine (NM.out _ _ _ R3.rd).mono ?_; rintro e w5 ⟨rfl, h9, g9⟩; have R5 := R3.call h9 g9; (try simp only [List.setIfInBounds_toArray, List.set] at R5); have c9 := R5.q5; have f9 := R5.fz 5; clear h9 g9 a1)
      have R4 := R5.store 5 (.string (bs (nameR (tx ws) (k3, m3)).1))
      (try simp only [List.setIfInBounds_toArray, List.set] at R4)
      clear c9 f9 R5 R3
      generalize w5.setCell ⟨r, 5, none⟩ (.string (bs (nameR (tx ws) (k3, m3)).1)) = W4 at *
      generalize hv9 : (nameR (tx ws) (k3, m3)).1 = v4 at *
      generalize hk9 : (nameR (tx ws) (k3, m3)).2.1 = k4 at *
      generalize hm9 : (nameR (tx ws) (k3, m3)).2.2 = m4 at *
      have HN4 : Hid (nameR (tx ws) (k3, m3) = (v4, k4, m4)) := Prod.ext hv9 (Prod.ext hk9 hm9)
      clear hv9 hk9 hm9
      have WD := Lib.hid (fun W k m (h : RRd W b g cap ws k m) => dword_any b g cap ws k m [116, 111] (by simp) W h h0)
      go_upto_region 53 with (go_at_call 49; refine (WD.out _ _ _ R4.rd).mono ?_; rintro e w5 ⟨rfl, h9, g9⟩; have R5 := R4.call h9 g9; (try simp only [List.setIfInBounds_toArray, List.set] at R5); clear h9 g9)
      clear R4 WD
      generalize hk9 : (wordR (tx ws) [116, 111] (k4, m4)).1 = k5 at *
      generalize hm9 : (wordR (tx ws) [116, 111] (k4, m4)).2 = m5 at *
      have HN5 : Hid (wordR (tx ws) [116, 111] (k4, m4) = (k5, m5)) := Prod.ext hk9 hm9
      clear hk9 hm9
      obtain ⟨W5, rfl⟩ : ∃ w1 : World, w1 = w5 := ⟨_, rfl⟩
      have a1 := R5.rd.q1
      go_upto_region 54 with (go_at_call 44; refine (NM.out _ _ _ R5.rd).mono ?_; rintro e w5 ⟨rfl, h9, g9⟩; have R5x := R5.call h9 g9; (try simp only [List.setIfInBounds_toArray, List.set] at R5x); have c9 := R5x.q6; have f9 := R5x.fz 6; clear h9 g9 a1)
      have R9 := R5x.store 6 (.string (bs (nameR (tx ws) (k5, m5)).1))
      (try simp only [List.setIfInBounds_toArray, List.set] at R9)
      clear c9 f9 R5x R5
      generalize w5.setCell ⟨r, 6, none⟩ (.string (bs (nameR (tx ws) (k5, m5)).1)) = W9 at *
      generalize hv9 : (nameR (tx ws) (k5, m5)).1 = v9 at *
      generalize hk9 : (nameR (tx ws) (k5, m5)).2.1 = k9 at *
      generalize hm9 : (nameR (tx ws) (k5, m5)).2.2 = m9 at *
      have HN9 : Hid (nameR (tx ws) (k5, m5) = (v9, k9, m9)) := Prod.ext hv9 (Prod.ext hk9 hm9)
      clear hv9 hk9 hm9
      clear q0
      have q0 := R9.q0
      go_wp2
      obtain ⟨k, rfl⟩ : ∃ k1 : Nat, k1 = k9 := ⟨_, rfl⟩
      obtain ⟨m, rfl⟩ : ∃ m1 : Bool, m1 = m9 := ⟨_, rfl⟩
      have HRD : Hid (readR (tx ws) = ({ kind := 10, from_ := v4, to_ := v9 }, k, m)) := by
        show _ = _
        unfold readR
        rw [HKD.out, if_neg (by decide)]
        unfold bodyR autoR fromToR
        (try rw [htl])
        simp only [HN3.out, HN4.out, HN5.out, HN9.out]
        rfl
      clear q0
      go_meet
      exact ⟨{ kind := 10, from_ := v4, to_ := v9 }, k, m, none, 0, _, _, rfl, HRD.out, fun h => absurd rfl h, R9, ownL_nil _ _, (Array.getElem?_eq_some_iff.1 R9.told).1, (Array.getElem?_eq_some_iff.1 R9.flt).1, R9.be.size, Nat.le_refl _⟩
    · as_aux_lemma =>
      subst e
      have a1 := R1.rd.q1
      go_upto_region 50 with (go_at_call 47; refine (NB.out _ _ _ R1.rd).mono ?_; rintro e w5 ⟨rfl, h9, g9⟩; have R5 := R1.call h9 g9; (try simp only [List.setIfInBounds_toArray, List.set] at R5); have c9 := R5.q3; have f9 := R5.fz 3; clear h9 g9 a1)
      have R2 := R5.store 3 (.int .i64 (numberR (tx ws) (1, false)).1)
      (try simp only [List.setIfInBounds_toArray, List.set] at R2)
      clear c9 f9 R5 R1
      generalize w5.setCell ⟨r, 3, none⟩ (.int .i64 (numberR (tx ws) (1, false)).1) = W2 at *
      generalize hv9 : (numberR (tx ws) (1, false)).1 = v2 at *
      generalize hk9 : (numberR (tx ws) (1, false)).2.1 = k2 at *
      generalize hm9 : (numberR (tx ws) (1, false)).2.2 = m2 at *
      have HN2 : Hid (numberR (tx ws) (1, false) = (v2, k2, m2)) := Prod.ext hv9 (Prod.ext hk9 hm9)
      clear hv9 hk9 hm9
      have WD := Lib.hid (fun W k m (h : RRd W b g cap ws k m) => dword_any b g cap ws k m [102, 114, 111, 109] (by simp) W h h0)
      go_upto_region 51 with (go_at_call 49; refine (WD.out _ _ _ R2.rd).mono ?_; rintro e w5 ⟨rfl, h9, g9⟩; have R3 := R2.call h9 g9; (try simp only [List.setIfInBounds_toArray, List.set] at R3); clear h9 g9)
      clear R2 WD
      generalize hk9 : (wordR (tx ws) [102, 114, 111, 109] (k2, m2)).1 = k3 at *
      generalize hm9 : (wordR (tx ws) [102, 114, 111, 109] (k2, m2)).2 = m3 at *
      have HN3 : Hid (wordR (tx ws) [102, 114, 111, 109] (k2, m2) = (k3, m3)) := Prod.ext hk9 hm9
      clear hk9 hm9
      obtain ⟨W3, rfl⟩ : ∃ w1 : World, w1 = w5 := ⟨_, rfl⟩
      have a1 := R3.rd.q1
      go_upto_region 52 with (go_at_call 44; refine (NM.out _ _ _ R3.rd).mono ?_; rintro e w5 ⟨rfl, h9, g9⟩; have R5 := R3.call h9 g9; (try simp only [List.setIfInBounds_toArray, List.set] at R5); have c9 := R5.q5; have f9 := R5.fz 5; clear h9 g9 a1)
      have R4 := R5.store 5 (.string (bs (nameR (tx ws) (k3, m3)).1))
      (try simp only [List.setIfInBounds_toArray, List.set] at R4)
      clear c9 f9 R5 R3
      generalize w5.setCell ⟨r, 5, none⟩ (.string (bs (nameR (tx ws) (k3, m3)).1)) = W4 at *
      generalize hv9 : (nameR (tx ws) (k3, m3)).1 = v4 at *
      generalize hk9 : (nameR (tx ws) (k3, m3)).2.1 = k4 at *
      generalize hm9 : (nameR (tx ws) (k3, m3)).2.2 = m4 at *
      have HN4 : Hid (nameR (tx ws) (k3, m3) = (v4, k4, m4)) := Prod.ext hv9 (Prod.ext hk9 hm9)
      clear hv9 hk9 hm9
      have WD := Lib.hid (fun W k m (h : RRd W b g cap ws k m) => dword_any b g cap ws k m [116, 111] (by simp) W h h0)
      go_upto_region 53 with (go_at_call 49; refine (WD.out _ _ _ R4.rd).mono ?_; rintro e w5 ⟨rfl, h9, g9⟩; have R5 := R4.call h9 g9; (try simp only [List.setIfInBounds_toArray, List.set] at R5); clear h9 g9)
      clear R4 WD
      generalize hk9 : (wordR (tx ws) [116, 111] (k4, m4)).1 = k5 at *
      generalize hm9 : (wordR (tx ws) [116, 111] (k4, m4)).2 = m5 at *
      have HN5 : Hid (wordR (tx ws) [116, 111] (k4, m4) = (k5, m5)) := Prod.ext hk9 hm9
      clear hk9 hm9
      obtain ⟨W5, rfl⟩ : ∃ w1 : World, w1 = w5 := ⟨_, rfl⟩
      have a1 := R5.rd.q1
      go_upto_region 54 with (go_at_call 44; refine (NM.out _ _ _ R5.rd).mono ?_; rintro e w5 ⟨rfl, h9, g9⟩; have R5x := R5.call h9 g9; (try simp only [List.setIfInBounds_toArray, List.set] at R5x); have c9 := R5x.q6; have f9 := R5x.fz 6; clear h9 g9 a1)
      have R9 := R5x.store 6 (.string (bs (nameR (tx ws) (k5, m5)).1))
      (try simp only [List.setIfInBounds_toArray, List.set] at R9)
      clear c9 f9 R5x R5
      generalize w5.setCell ⟨r, 6, none⟩ (.string (bs (nameR (tx ws) (k5, m5)).1)) = W9 at *
      generalize hv9 : (nameR (tx ws) (k5, m5)).1 = v9 at *
      generalize hk9 : (nameR (tx ws) (k5, m5)).2.1 = k9 at *
      generalize hm9 : (nameR (tx ws) (k5, m5)).2.2 = m9 at *
      have HN9 : Hid (nameR (tx ws) (k5, m5) = (v9, k9, m9)) := Prod.ext hv9 (Prod.ext hk9 hm9)
      clear hv9 hk9 hm9
      clear q0
      have q0 := R9.q0
      go_wp2
      obtain ⟨k, rfl⟩ : ∃ k1 : Nat, k1 = k9 := ⟨_, rfl⟩
      obtain ⟨m, rfl⟩ : ∃ m1 : Bool, m1 = m9 := ⟨_, rfl⟩
      have HRD : Hid (readR (tx ws) = ({ kind := 11, n := v2, from_ := v4, to_ := v9 }, k, m)) := by
        show _ = _
        unfold readR
        rw [HKD.out, if_neg (by decide)]
        unfold bodyR afterR fromToR
        (try rw [htl])
        simp only [HN2.out, HN3.out, HN4.out, HN5.out, HN9.out]
        rfl
      clear q0
      go_meet
      exact ⟨{ kind := 11, n := v2, from_ := v4, to_ := v9 }, k, m, none, 0, _, _, rfl, HRD.out, fun h => absurd rfl h, R9, ownL_nil _ _, (Array.getElem?_eq_some_iff.1 R9.told).1, (Array.getElem?_eq_some_iff.1 R9.flt).1, R9.be.size, Nat.le_refl _⟩
  case rest =>
  obtain ⟨⟨kd9, nm, l, rn, rm, rf, rt, rb, ra, ri⟩, k, m, AL, cL, B9, f0, rfl, hrd, hf9, R9, ox9, ht9, hu9, hz9, hb9⟩ := hcut
  simp only at hf9 R9 ox9
  have HRD := Lib.hid hrd
  have HF := Lib.hid hf9
  have OX := Lib.hid ox9
  have HT9 := Lib.hid ht9
  have HU9 := Lib.hid hu9
  have HZ9 := Lib.hid hz9
  have HB9 := Lib.hid hb9
  clear hrd hf9 ox9 ht9 hu9 hz9 hb9
  clear HKD2 HKD3 q0 R1
  by_cases hkl : k < ws.length
  · have hki : ((k : Nat) : Int) < ws.length := by omega
    have a1 := R9.rd.q1
    go_upto_region 62 with (go_at_call 43; refine (dfail_any b g cap ws k m _ R9.rd h0).mono ?_; rintro e w8 ⟨rfl, h9, g9⟩; have R8 := R9.call h9 g9; clear h9 g9)
    clear a1 R9
    have hno := Lib.hid (rej_k HRD.out (by rw [htl]; exact hkl))
    obtain ⟨y9, c3⟩ := R8.rd.c3
    have c4 := R8.rd.q4
    rw [if_pos rfl] at c4
    have s0 := row_q0 R8.told; have s1 := row_q1 R8.told; have s2 := row_q2 R8.told; have s3 := row_q3 R8.told; have s4 := row_q4 R8.told; have s5 := row_q5 R8.told; have s6 := row_q6 R8.told; have s7 := row_q7 R8.told; have s8 := row_q8 R8.told; have s9 := row_q9 R8.told; have s10 := row_q10 R8.told
    have f0 := row_fz R8.told 0; have f1 := row_fz R8.told 1; have f2 := row_fz R8.told 2; have f3 := row_fz R8.told 3; have f4 := row_fz R8.told 4; have f5 := row_fz R8.told 5; have f6 := row_fz R8.told 6; have f7 := row_fz R8.told 7; have f8 := row_fz R8.told 8; have f9 := row_fz R8.told 9; have f10 := row_fz R8.told 10; have k0 := flt_q0 R8.flt; have k1 := flt_q1 R8.flt; have k2 := flt_q2 R8.flt; have e0 := flt_fz R8.flt 0; have e1 := flt_fz R8.flt 1; have e2 := flt_fz R8.flt 2
    have hn1 : ¬ b = w.heap.size := by have := R8.ne; omega
    have hn2 : ¬ b = w.heap.size + 1 := by have := R8.ne; omega
    have HR := Lib.hid R8
    clear R8
    go_upto_region 63 with (fail)
    go_region
    go_wp2
    obtain ⟨h8, h10, hbl⟩ := two_rowsD (.int .i64 0) (.string ⟨#[]⟩) (.slice none 0 0) (.int .i64 0) (.int .i64 0) (.string ⟨#[]⟩) (.string ⟨#[]⟩) (.string ⟨#[]⟩) (.string ⟨#[]⟩) (.string ⟨#[]⟩) (.int .i64 0) (.int .i64 number) (.int .i64 y9) (.int .i64 2) HR.out.told HR.out.flt (by omega) _ _ rfl rfl
    (try simp only [Exit.inBlock, Exit.then])
    refine bodyPost_ret (run_cell212 rfl _ _ w.heap.size (w.heap.size + 1) _ _ _ _ _ _ _ _ rfl rfl h8 h10 Tryz.underlying41 rfl (by kernel_rfl) Tryz.underlying47 rfl (by kernel_rfl)) rfl ?_
    exact rpt_no (hbl _ _ HR.out.be HR.out.be.size (Nat.le_refl _) (by omega)) hno.out (by decide)
  · have hki : ¬ ((k : Nat) : Int) < ws.length := by omega
    have a1 := R9.rd.q1
    cases m
    · have HTF := Lib.hid (tail_facts HRD.out (by rw [htl]; omega))
      have c4 := R9.rd.q4
      rw [if_neg (by simp)] at c4
      have q0 := R9.q0; have q1 := R9.q1; have q2 := R9.q2; have q3 := R9.q3; have q4 := R9.q4; have q5 := R9.q5; have q6 := R9.q6; have q7 := R9.q7; have q8 := R9.q8; have q9 := R9.q9; have q10 := R9.q10
      have HR := Lib.hid R9
      have CHK := Lib.hid (check_any ⟨kd9, nm, l, rn, rm, rf, rt, rb, ra, ri⟩ AL cL number g cap ws f0 number _ (lAt_own OX.out (len_small HTF.out.1 (by rw [htl]; omega))) (fun h => by have h9 := HTF.out.1 h; have h8 := HF.out h; rw [htl] at h9; simp only at h9 ⊢; omega) (by have h9 := HTF.out.2; rw [htl] at h9; omega) (by omega) R9.rd.2.1 R9.rd.2.2.1)
      have hsz9 := R9.be.size
      clear R9
      dsimp only [ruV] at CHK
      cases hok : okB ⟨kd9, nm, l, rn, rm, rf, rt, rb, ra, ri⟩
      · have hno := Lib.hid (rej_ok HRD.out hok)
        have HOK := Lib.hid hok
        clear hok
        go_wp2_with (go_at_call 50; refine CHK.out.mono ?_; rintro e w8 ⟨hb8, h8⟩; rw [if_neg (by rw [HOK.out]; simp)] at h8; simp only [zeroV, zero11, fltV] at h8; obtain ⟨c8, rfl⟩ := h8; have R8 := HR.out.below hb8; have s0 := row_q0 R8.told; have s1 := row_q1 R8.told; have s2 := row_q2 R8.told; have s3 := row_q3 R8.told; have s4 := row_q4 R8.told; have s5 := row_q5 R8.told; have s6 := row_q6 R8.told; have s7 := row_q7 R8.told; have s8 := row_q8 R8.told; have s9 := row_q9 R8.told; have s10 := row_q10 R8.told; have f0 := row_fz R8.told 0; have f1 := row_fz R8.told 1; have f2 := row_fz R8.told 2; have f3 := row_fz R8.told 3; have f4 := row_fz R8.told 4; have f5 := row_fz R8.told 5; have f6 := row_fz R8.told 6; have f7 := row_fz R8.told 7; have f8 := row_fz R8.told 8; have f9 := row_fz R8.told 9; have f10 := row_fz R8.told 10; have k0 := flt_q0 R8.flt; have k1 := flt_q1 R8.flt; have k2 := flt_q2 R8.flt; have e0 := flt_fz R8.flt 0; have e1 := flt_fz R8.flt 1; have e2 := flt_fz R8.flt 2; have HR8 := Lib.hid R8; clear R8 hb8)
        obtain ⟨h8, h10, hbl⟩ := two_rows (.int .i64 0) (.string ⟨#[]⟩) (.slice none 0 0) (.int .i64 0) (.int .i64 0) (.string ⟨#[]⟩) (.string ⟨#[]⟩) (.string ⟨#[]⟩) (.string ⟨#[]⟩) (.string ⟨#[]⟩) (.int .i64 0) (.int .i64 number) (.int .i64 c8) (.int .i64 1) HR8.out.told HR8.out.flt (by omega) _ rfl
        (try simp only [Exit.inBlock, Exit.then])
        refine bodyPost_ret (run_cell212 rfl _ _ w.heap.size (w.heap.size + 1) _ _ _ _ _ _ _ _ rfl rfl h8 h10 Tryz.underlying41 rfl (by kernel_rfl) Tryz.underlying47 rfl (by kernel_rfl)) rfl ?_
        exact rpt_no (hbl _ _ HR8.out.be HR8.out.be.size (Nat.le_refl _) (by omega)) hno.out (by decide)
      · have HOK := Lib.hid hok
        clear hok
        go_wp2_with (go_at_call 50; refine CHK.out.mono ?_; rintro e w8 ⟨hb8, h8⟩; rw [if_pos HOK.out] at h8; simp only [ruV, fltV] at h8; subst h8; have R8 := HR.out.below hb8; have OX8 := own_below OX.out hb8 HB9.out; have s0 := row_q0 R8.told; have s1 := row_q1 R8.told; have s2 := row_q2 R8.told; have s3 := row_q3 R8.told; have s4 := row_q4 R8.told; have s5 := row_q5 R8.told; have s6 := row_q6 R8.told; have s7 := row_q7 R8.told; have s8 := row_q8 R8.told; have s9 := row_q9 R8.told; have s10 := row_q10 R8.told; have f0 := row_fz R8.told 0; have f1 := row_fz R8.told 1; have f2 := row_fz R8.told 2; have f3 := row_fz R8.told 3; have f4 := row_fz R8.told 4; have f5 := row_fz R8.told 5; have f6 := row_fz R8.told 6; have f7 := row_fz R8.told 7; have f8 := row_fz R8.told 8; have f9 := row_fz R8.told 9; have f10 := row_fz R8.told 10; have k0 := flt_q0 R8.flt; have k1 := flt_q1 R8.flt; have k2 := flt_q2 R8.flt; have e0 := flt_fz R8.flt 0; have e1 := flt_fz R8.flt 1; have e2 := flt_fz R8.flt 2; have HR8 := Lib.hid R8; have HO8 := Lib.hid OX8; clear R8 hb8 OX8)
        obtain ⟨h8, h10, hbl⟩ := two_rows (.int .i64 kd9) (.string (bs nm)) (.slice AL l.length cL) (.int .i64 rn) (.int .i64 rm) (.string (bs rf)) (.string (bs rt)) (.string (bs rb)) (.string (bs ra)) (.string (bs ri)) (.int .i64 number) (.int .i64 0) (.int .i64 0) (.int .i64 0) HR8.out.told HR8.out.flt (by omega) _ rfl
        (try simp only [Exit.inBlock, Exit.then])
        refine bodyPost_ret (run_cell212 rfl _ _ w.heap.size (w.heap.size + 1) _ _ _ _ _ _ _ _ rfl rfl h8 h10 Tryz.underlying41 rfl (by kernel_rfl) Tryz.underlying47 rfl (by kernel_rfl)) rfl ?_
        exact rpt_ok (ru := ⟨kd9, nm, l, rn, rm, rf, rt, rb, ra, ri⟩) (hbl _ _ HR8.out.be HR8.out.be.size (Nat.le_refl _) (by omega)) HRD.out (by rw [htl]; omega) HOK.out (World.ownsRow.mono (two_own _ _ _ _ _ _ _ _ _ _ _ _ _ _ HO8.out HT9.out HU9.out) HZ9.out)
    · have hno := Lib.hid (rej_m HRD.out)
      obtain ⟨y9, c3⟩ := R9.rd.c3
      have c4 := R9.rd.q4
      rw [if_pos rfl] at c4
      have s0 := row_q0 R9.told; have s1 := row_q1 R9.told; have s2 := row_q2 R9.told; have s3 := row_q3 R9.told; have s4 := row_q4 R9.told; have s5 := row_q5 R9.told; have s6 := row_q6 R9.told; have s7 := row_q7 R9.told; have s8 := row_q8 R9.told; have s9 := row_q9 R9.told; have s10 := row_q10 R9.told
      have f0 := row_fz R9.told 0; have f1 := row_fz R9.told 1; have f2 := row_fz R9.told 2; have f3 := row_fz R9.told 3; have f4 := row_fz R9.told 4; have f5 := row_fz R9.told 5; have f6 := row_fz R9.told 6; have f7 := row_fz R9.told 7; have f8 := row_fz R9.told 8; have f9 := row_fz R9.told 9; have f10 := row_fz R9.told 10; have k0 := flt_q0 R9.flt; have k1 := flt_q1 R9.flt; have k2 := flt_q2 R9.flt; have e0 := flt_fz R9.flt 0; have e1 := flt_fz R9.flt 1; have e2 := flt_fz R9.flt 2
      have hn1 : ¬ b = w.heap.size := by have := R9.ne; omega
      have hn2 : ¬ b = w.heap.size + 1 := by have := R9.ne; omega
      have HR := Lib.hid R9
      clear R9
      go_upto_region 63 with (fail)
      go_region
      go_wp2
      obtain ⟨h8, h10, hbl⟩ := two_rowsD (.int .i64 0) (.string ⟨#[]⟩) (.slice none 0 0) (.int .i64 0) (.int .i64 0) (.string ⟨#[]⟩) (.string ⟨#[]⟩) (.string ⟨#[]⟩) (.string ⟨#[]⟩) (.string ⟨#[]⟩) (.int .i64 0) (.int .i64 number) (.int .i64 y9) (.int .i64 2) HR.out.told HR.out.flt (by omega) _ _ rfl rfl
      (try simp only [Exit.inBlock, Exit.then])
      refine bodyPost_ret (run_cell212 rfl _ _ w.heap.size (w.heap.size + 1) _ _ _ _ _ _ _ _ rfl rfl h8 h10 Tryz.underlying41 rfl (by kernel_rfl) Tryz.underlying47 rfl (by kernel_rfl)) rfl ?_
      exact rpt_no (hbl _ _ HR.out.be HR.out.be.size (Nat.le_refl _) (by omega)) hno.out (by decide)
end Go.Proofs.YtahgfmobdfhaaaaGreatDoor
