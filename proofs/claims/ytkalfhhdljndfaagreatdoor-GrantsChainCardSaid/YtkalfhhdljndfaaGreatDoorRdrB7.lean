import Derived.Test.YtkalfhhdljndfaaGreatDoorRdrB0
namespace Go.Proofs.YtkalfhhdljndfaaGreatDoor
set_option maxRecDepth 100000
open Go.ChangeShapes Go.WideShapes Go.ChangeAt Go.RowKit
set_option maxHeartbeats 8000000 in
theorem rpar5_any (s : ByteArray) (number : Int) (ws : List (Nat × Tx)) (w : World) (hs : s.size ≤ 1000000000) (hws : wordsL s.data.toList = ws) (hbad : badL s.data.toList = 0) (h0 : 0 < ws.length) (hpl : ws.length ≤ 1000000000) (hsz : ∀ j (hj : j < ws.length), ws[j].2.length ≤ 1000000000) (hkd : kdR (tx ws) = 5) :
  Calls Tryz.prog 101 #[.string s, .int .i64 number] w (RPTo ws number w) := by
 have SP := Lib.hid (fun W => RSplit_any s W hs)
 rw [hws, hbad] at SP
 have HSZ := Lib.hid hsz
 clear hsz
 have KDC := Lib.hid (fun W => RKind_any (ws.headD (0, [])).2 W)
 have hk9 : posR kindR (ws.headD (0, [])).2 0 = 5 := by
  rw [← hkd]
  unfold kdR pk
  cases hws2 : ws with
  | nil => rw [hws2] at h0; simp at h0
  | cons a l => rfl
 rw [hk9] at KDC
 have HKD := Lib.hid hkd
 clear hk9 hws hbad hkd
 go_enter Tryz.func101, Tryz.ntmps101
 go_upto_region 1 with (fail)
 have ht : ((w.alloc zRu).alloc zFl).heap[w.heap.size]? = some (.cells #[.int .i64 0, .string ⟨#[]⟩, .slice none 0 0, .int .i64 0, .int .i64 0, .string ⟨#[]⟩, .string ⟨#[]⟩, .string ⟨#[]⟩, .string ⟨#[]⟩, .string ⟨#[]⟩, .int .i64 0] 39 (0, 0)) := by rw [heap_alloc_old _ _ (by simp)]; exact heap_alloc_new _ _
 have hu : ((w.alloc zRu).alloc zFl).heap[w.heap.size + 1]? = some (.cells #[.int .i64 0, .int .i64 0, .int .i64 0] 51 (0, 0)) := by
  have := heap_alloc_new (w.alloc zRu) zFl
  simpa using this
 have hb0 : Below w.heap.size w ((w.alloc zRu).alloc zFl) := ((Below.refl _ _).alloc (Nat.le_refl _) _).alloc (by simp) _
 have HT := Lib.hid ht
 have HU := Lib.hid hu
 have HB0 := Lib.hid hb0
 clear ht hu hb0
 generalize (w.alloc zRu).alloc zFl = w1 at *
 have h0i : ((ws.length : Int) == 0) = false := beq_eq_false_iff_ne.2 (by omega)
 have h0p : (0 : Int) < ws.length := by omega
 go_upto_region 6 with (go_at_call 139; refine (SP.out _).mono ?_; rintro e w2 ⟨v2, rfl, hown, hb2⟩; obtain ⟨g, cap, rfl, _, hg2, _, hcell⟩ := own_form hown h0; have HCL := Lib.hid hcell; have HGL := Lib.hid hg2; have HB2 := Lib.hid hb2; clear hown hcell hg2 hb2)
 have HW2 : Hid (WAt w2 g 0 ws) := fun j hj => by
  refine ⟨?_, ?_, ?_⟩
  ·rw [Nat.zero_add]; exact HCL.out _ _ (wcellR_at ws j hj).1
  ·rw [Nat.zero_add]; exact HCL.out _ _ (wcellR_at ws j hj).2
  ·have := HSZ.out j hj; unfold maxLen; omega
 have ht2 := (HB2.out.block _ (Array.getElem?_eq_some_iff.1 HT.out).1).trans HT.out
 have hu2 := (HB2.out.block _ (Array.getElem?_eq_some_iff.1 HU.out).1).trans HU.out
 have hbz : Below w.heap.size w w2 := below_then HB0.out HB2.out HB0.out.size
 have hst := PS.start (cap := cap) hbz HW2.out HGL.out hpl ht2 hu2 ⟨Nat.le_refl _, by omega, by omega⟩
 have HST := Lib.hid hst
 have hc0 := (HW2.out 0 h0).1
 have hge : (ws[0]'h0).2 = (ws.headD (0, [])).2 := by cases ws with | nil => simp at h0 | cons a l => rfl
 rw [hge, Nat.zero_add, Nat.zero_mul] at hc0
 clear hst ht2 hu2 hbz HT HU hge
 have hgw := HGL.out
 have hc0' : ∀ O, (w2.alloc O).cell? ⟨g, 0, none⟩ = some (.string (bs (ws.headD (0, [])).2)) := fun O => (World.cell?_alloc_lt _ _ _ hgw).trans hc0
 generalize (ws.headD (0, [])).2 = x0 at *
 go_upto_region 8 with (go_at_call 140; refine (KDC.out _).mono ?_; rintro e w3 ⟨rfl, hb3⟩; have R0 := HST.out.2 w3 (.int .i64 5) (.int .i64 number) hb3; clear hb3)
 clear hc0 hc0' hgw
 generalize w2.heap.size = b at *
 generalize w3.heap.size = r at *
 generalize w3.alloc (.cells #[.int .i64 5, .string ⟨#[]⟩, .slice none 0 0, .int .i64 0, .int .i64 0, .string ⟨#[]⟩, .string ⟨#[]⟩, .string ⟨#[]⟩, .string ⟨#[]⟩, .string ⟨#[]⟩, .int .i64 number] 39) = w4 at *
 clear HST HCL HW2 HGL
 have q0 := R0.q0; have a1 := R0.rd.q1; have af := R0.rd.f1
 go_upto_region 11 with (fail)
 have R1 := R0.step (Nat.zero_le _)
 rw [show ((0 : Nat) : Int) + 1 = 1 from rfl, Nat.zero_add] at R1
 generalize w4.setCell ⟨b, 1, none⟩ (.int .i64 1) = W1 at *
 clear q0 a1 af R0
 have q0 := R1.q0
 have htl : (tx ws).length = ws.length := tx_len _
 have hle1 : 1 ≤ (tx ws).length := by rw [htl]; exact h0
 have NM := Lib.hid (fun W k m (h : RRd W b g cap ws k m) => dname_any b g cap ws k m W h h0)
 have NB := Lib.hid (fun W k m (h : RRd W b g cap ws k m) => dnumber_any b g cap ws k m W h h0)
 have NX := Lib.hid (fun W k m (h : RRd W b g cap ws k m) => dnext_any b g cap ws k m W h)
 have a1 := R1.rd.q1
 go_upto_region 27 with (go_at_call 145; refine (NB.out _ _ _ R1.rd).mono ?_; rintro e w5 ⟨rfl, h9, g9⟩; have R5 := R1.call h9 g9; (try simp only [List.setIfInBounds_toArray, List.set] at R5); have c9 := R5.q3; have f9 := R5.fz 3; clear h9 g9 a1)
 have R2 := R5.store 3 (.int .i64 (numberR (tx ws) (1, false)).1)
 (try simp only [List.setIfInBounds_toArray, List.set] at R2)
 clear c9 f9 R5 R1
 generalize w5.setCell ⟨r, 3, none⟩ (.int .i64 (numberR (tx ws) (1, false)).1) = W2 at *
 generalize hv9 : (numberR (tx ws) (1, false)).1 = v2 at *
 generalize hk9 : (numberR (tx ws) (1, false)).2.1 = k2 at *
 generalize hm9 : (numberR (tx ws) (1, false)).2.2 = m2 at *
 have HN2 : Hid (numberR (tx ws) (1, false) = (v2, k2, m2)) := Prod.ext hv9 (Prod.ext hk9 hm9)
 clear hv9 hk9 hm9
 have a1 := R2.rd.q1
 have NMS := Lib.hid (fun W k m (h : RRd W b g cap ws k m) => dnames_any b g cap ws k m 2 W h h0 (by omega))
 go_upto_region 60 with (go_at_call 144; refine (NMS.out _ _ _ R2.rd).mono ?_; rintro e w5 ⟨vL, rfl, h9, ho, g9⟩; obtain ⟨AL, cL, rfl⟩ := own_slice ho; have R5 := R2.call h9 g9; (try simp only [List.setIfInBounds_toArray, List.set] at R5); obtain ⟨B9, ox9, ht9, hu9, hz9, hbb⟩ := PS.own R2 g9 ho; have OX := Lib.hid ox9; have HT9 := Lib.hid ht9; have HU9 := Lib.hid hu9; have HZ9 := Lib.hid hz9; have HB9 := Lib.hid hbb; clear ox9 ht9 hu9 hz9 hbb; have q2 := R5.q2; have f2 := R5.fz 2; clear h9 g9 ho)
 have R9 := R5.store 2 (.slice AL (namesR (tx ws) 2 (ws.length + 3) [] (k2, m2)).1.length cL)
 (try simp only [List.setIfInBounds_toArray, List.set] at R9)
 clear q2 f2 R2 R5 NMS
 generalize w5.setCell ⟨r, 2, none⟩ (.slice AL (namesR (tx ws) 2 (ws.length + 3) [] (k2, m2)).1.length cL) = W9 at *
 generalize hv9 : (namesR (tx ws) 2 (ws.length + 3) [] (k2, m2)).1 = LL at *
 generalize hk9 : (namesR (tx ws) 2 (ws.length + 3) [] (k2, m2)).2.1 = k at *
 generalize hm9 : (namesR (tx ws) 2 (ws.length + 3) [] (k2, m2)).2.2 = m at *
 have HN9 : Hid (namesR (tx ws) 2 (ws.length + 3) [] (k2, m2) = (LL, k, m)) := Prod.ext hv9 (Prod.ext hk9 hm9)
 clear hv9 hk9 hm9
 have HRD : Hid (readR (tx ws) = ({ kind := 5, list := LL, n := v2 }, k, m)) := by
  show _ = _
  unfold readR
  rw [HKD.out, if_neg (by decide)]
  unfold bodyR ssdR
  rw [htl]
  simp only [HN2.out, HN9.out]
  rfl
 clear q0
 have HF : Hid (firstR (tx ws) 5 = k2) := by show (numberR (tx ws) (1, false)).2.1 = _; rw [HN2.out]
 by_cases hkl : k < ws.length
 ·have hki : ((k : Nat) : Int) < ws.length := by omega
  have a1 := R9.rd.q1
  go_upto_region 62 with (go_at_call 141; refine (dfail_any b g cap ws k m _ R9.rd h0).mono ?_; rintro e w8 ⟨rfl, h9, g9⟩; have R8 := R9.call h9 g9; clear h9 g9)
  clear a1 R9
  have hno := Lib.hid (rej_k HRD.out (by rw [htl]; exact hkl))
  obtain ⟨y9, c3⟩ := R8.rd.c3
  have c4 := R8.rd.q4
  rw [if_pos rfl] at c4
  obtain ⟨s0, s1, s2, s3, s4, s5, s6, s7, s8, s9, s10⟩ := row_qs0 R8.told
  obtain ⟨f0, f1, f2, f3, f4, f5, f6, f7, f8, f9, f10⟩ := row_fzs0_11 R8.told; have k0 := flt_q0 R8.flt; have k1 := flt_q1 R8.flt; have k2 := flt_q2 R8.flt; have e0 := flt_fz R8.flt 0; have e1 := flt_fz R8.flt 1; have e2 := flt_fz R8.flt 2
  have hn1 : ¬ b = w.heap.size := by have := R8.ne; omega
  have hn2 : ¬ b = w.heap.size + 1 := by have := R8.ne; omega
  have HR := Lib.hid R8
  clear R8
  go_upto_region 63 with (fail)
  go_region
  go_wp2
  obtain ⟨h8, h10, hbl⟩ := two_rowsD (.int .i64 0) (.string ⟨#[]⟩) (.slice none 0 0) (.int .i64 0) (.int .i64 0) (.string ⟨#[]⟩) (.string ⟨#[]⟩) (.string ⟨#[]⟩) (.string ⟨#[]⟩) (.string ⟨#[]⟩) (.int .i64 0) (.int .i64 number) (.int .i64 y9) (.int .i64 2) HR.out.told HR.out.flt (by omega) _ _ rfl rfl
  (try simp only [Exit.inBlock, Exit.then])
  refine bodyPost_ret (run_cell212 rfl _ _ w.heap.size (w.heap.size + 1) _ _ _ _ _ _ _ _ rfl rfl h8 h10 Tryz.underlying39 rfl (by kernel_rfl) Tryz.underlying51 rfl (by kernel_rfl)) rfl ?_
  exact rpt_no (hbl _ _ HR.out.be HR.out.be.size (Nat.le_refl _) (by omega)) hno.out (by decide)
 ·have hki : ¬ ((k : Nat) : Int) < ws.length := by omega
  have a1 := R9.rd.q1
  cases m
  ·have HTF := Lib.hid (tail_facts HRD.out (by rw [htl]; omega))
   have c4 := R9.rd.q4
   rw [if_neg (by simp)] at c4
   have q0 := R9.q0; have q1 := R9.q1; have q2 := R9.q2; have q3 := R9.q3; have q4 := R9.q4; have q5 := R9.q5; have q6 := R9.q6; have q7 := R9.q7; have q8 := R9.q8; have q9 := R9.q9; have q10 := R9.q10
   have HR := Lib.hid R9
   have CHK := Lib.hid (check_any { kind := 5, list := LL, n := v2 } AL cL number g cap ws (k2 : Int) number _ (lAt_own OX.out (len_small HTF.out.1 (by rw [htl]; omega))) (fun h => by have h9 := HTF.out.1 h; rw [HKD.out, HF.out, htl] at h9; simp only at h9 ⊢; omega) (by have h9 := HTF.out.2; rw [htl] at h9; omega) (by omega) R9.rd.2.1 R9.rd.2.2.1)
   have hsz9 := R9.be.size
   clear R9
   dsimp only [ruV] at CHK
   cases hok : okB { kind := 5, list := LL, n := v2 }
   ·have hno := Lib.hid (rej_ok HRD.out hok)
    have HOK := Lib.hid hok
    clear hok
    go_wp2_with (go_at_call 148; refine CHK.out.mono ?_; rintro e w8 ⟨hb8, h8⟩; rw [if_neg (by rw [HOK.out]; simp)] at h8; simp only [zeroV, zero11, fltV] at h8; obtain ⟨c8, rfl⟩ := h8; have R8 := HR.out.below hb8; obtain ⟨s0, s1, s2, s3, s4, s5, s6, s7, s8, s9, s10⟩ := row_qs0 R8.told; obtain ⟨f0, f1, f2, f3, f4, f5, f6, f7, f8, f9, f10⟩ := row_fzs0_11 R8.told; have k0 := flt_q0 R8.flt; have k1 := flt_q1 R8.flt; have k2 := flt_q2 R8.flt; have e0 := flt_fz R8.flt 0; have e1 := flt_fz R8.flt 1; have e2 := flt_fz R8.flt 2; have HR8 := Lib.hid R8; clear R8 hb8)
    obtain ⟨h8, h10, hbl⟩ := two_rows (.int .i64 0) (.string ⟨#[]⟩) (.slice none 0 0) (.int .i64 0) (.int .i64 0) (.string ⟨#[]⟩) (.string ⟨#[]⟩) (.string ⟨#[]⟩) (.string ⟨#[]⟩) (.string ⟨#[]⟩) (.int .i64 0) (.int .i64 number) (.int .i64 c8) (.int .i64 1) HR8.out.told HR8.out.flt (by omega) _ rfl
    (try simp only [Exit.inBlock, Exit.then])
    refine bodyPost_ret (run_cell212 rfl _ _ w.heap.size (w.heap.size + 1) _ _ _ _ _ _ _ _ rfl rfl h8 h10 Tryz.underlying39 rfl (by kernel_rfl) Tryz.underlying51 rfl (by kernel_rfl)) rfl ?_
    exact rpt_no (hbl _ _ HR8.out.be HR8.out.be.size (Nat.le_refl _) (by omega)) hno.out (by decide)
   ·have HOK := Lib.hid hok
    clear hok
    go_wp2_with (go_at_call 148; refine CHK.out.mono ?_; rintro e w8 ⟨hb8, h8⟩; rw [if_pos HOK.out] at h8; simp only [ruV, fltV] at h8; subst h8; have R8 := HR.out.below hb8; have OX8 := own_below OX.out hb8 HB9.out; obtain ⟨s0, s1, s2, s3, s4, s5, s6, s7, s8, s9, s10⟩ := row_qs0 R8.told; obtain ⟨f0, f1, f2, f3, f4, f5, f6, f7, f8, f9, f10⟩ := row_fzs0_11 R8.told; have k0 := flt_q0 R8.flt; have k1 := flt_q1 R8.flt; have k2 := flt_q2 R8.flt; have e0 := flt_fz R8.flt 0; have e1 := flt_fz R8.flt 1; have e2 := flt_fz R8.flt 2; have HR8 := Lib.hid R8; have HO8 := Lib.hid OX8; clear R8 hb8 OX8)
    obtain ⟨h8, h10, hbl⟩ := two_rows (.int .i64 5) (.string (bs [])) (.slice AL LL.length cL) (.int .i64 v2) (.int .i64 0) (.string (bs [])) (.string (bs [])) (.string (bs [])) (.string (bs [])) (.string (bs [])) (.int .i64 number) (.int .i64 0) (.int .i64 0) (.int .i64 0) HR8.out.told HR8.out.flt (by omega) _ rfl
    (try simp only [Exit.inBlock, Exit.then])
    refine bodyPost_ret (run_cell212 rfl _ _ w.heap.size (w.heap.size + 1) _ _ _ _ _ _ _ _ rfl rfl h8 h10 Tryz.underlying39 rfl (by kernel_rfl) Tryz.underlying51 rfl (by kernel_rfl)) rfl ?_
    exact rpt_ok (ru := { kind := 5, list := LL, n := v2 }) (hbl _ _ HR8.out.be HR8.out.be.size (Nat.le_refl _) (by omega)) HRD.out (by rw [htl]; omega) HOK.out (World.ownsRow.mono (two_own _ _ _ _ _ _ _ _ _ _ _ _ _ _ HO8.out HT9.out HU9.out) HZ9.out)
  ·have hno := Lib.hid (rej_m HRD.out)
   obtain ⟨y9, c3⟩ := R9.rd.c3
   have c4 := R9.rd.q4
   rw [if_pos rfl] at c4
   obtain ⟨s0, s1, s2, s3, s4, s5, s6, s7, s8, s9, s10⟩ := row_qs0 R9.told
   obtain ⟨f0, f1, f2, f3, f4, f5, f6, f7, f8, f9, f10⟩ := row_fzs0_11 R9.told; have k0 := flt_q0 R9.flt; have k1 := flt_q1 R9.flt; have k2 := flt_q2 R9.flt; have e0 := flt_fz R9.flt 0; have e1 := flt_fz R9.flt 1; have e2 := flt_fz R9.flt 2
   have hn1 : ¬ b = w.heap.size := by have := R9.ne; omega
   have hn2 : ¬ b = w.heap.size + 1 := by have := R9.ne; omega
   have HR := Lib.hid R9
   clear R9
   go_upto_region 63 with (fail)
   go_region
   go_wp2
   obtain ⟨h8, h10, hbl⟩ := two_rowsD (.int .i64 0) (.string ⟨#[]⟩) (.slice none 0 0) (.int .i64 0) (.int .i64 0) (.string ⟨#[]⟩) (.string ⟨#[]⟩) (.string ⟨#[]⟩) (.string ⟨#[]⟩) (.string ⟨#[]⟩) (.int .i64 0) (.int .i64 number) (.int .i64 y9) (.int .i64 2) HR.out.told HR.out.flt (by omega) _ _ rfl rfl
   (try simp only [Exit.inBlock, Exit.then])
   refine bodyPost_ret (run_cell212 rfl _ _ w.heap.size (w.heap.size + 1) _ _ _ _ _ _ _ _ rfl rfl h8 h10 Tryz.underlying39 rfl (by kernel_rfl) Tryz.underlying51 rfl (by kernel_rfl)) rfl ?_
   exact rpt_no (hbl _ _ HR.out.be HR.out.be.size (Nat.le_refl _) (by omega)) hno.out (by decide)
set_option maxHeartbeats 8000000 in
theorem rpar6_any (s : ByteArray) (number : Int) (ws : List (Nat × Tx)) (w : World) (hs : s.size ≤ 1000000000) (hws : wordsL s.data.toList = ws) (hbad : badL s.data.toList = 0) (h0 : 0 < ws.length) (hpl : ws.length ≤ 1000000000) (hsz : ∀ j (hj : j < ws.length), ws[j].2.length ≤ 1000000000) (hkd : kdR (tx ws) = 6) :
  Calls Tryz.prog 101 #[.string s, .int .i64 number] w (RPTo ws number w) := by
 have SP := Lib.hid (fun W => RSplit_any s W hs)
 rw [hws, hbad] at SP
 have HSZ := Lib.hid hsz
 clear hsz
 have KDC := Lib.hid (fun W => RKind_any (ws.headD (0, [])).2 W)
 have hk9 : posR kindR (ws.headD (0, [])).2 0 = 6 := by
  rw [← hkd]
  unfold kdR pk
  cases hws2 : ws with
  | nil => rw [hws2] at h0; simp at h0
  | cons a l => rfl
 rw [hk9] at KDC
 have HKD := Lib.hid hkd
 clear hk9 hws hbad hkd
 go_enter Tryz.func101, Tryz.ntmps101
 go_upto_region 1 with (fail)
 have ht : ((w.alloc zRu).alloc zFl).heap[w.heap.size]? = some (.cells #[.int .i64 0, .string ⟨#[]⟩, .slice none 0 0, .int .i64 0, .int .i64 0, .string ⟨#[]⟩, .string ⟨#[]⟩, .string ⟨#[]⟩, .string ⟨#[]⟩, .string ⟨#[]⟩, .int .i64 0] 39 (0, 0)) := by rw [heap_alloc_old _ _ (by simp)]; exact heap_alloc_new _ _
 have hu : ((w.alloc zRu).alloc zFl).heap[w.heap.size + 1]? = some (.cells #[.int .i64 0, .int .i64 0, .int .i64 0] 51 (0, 0)) := by
  have := heap_alloc_new (w.alloc zRu) zFl
  simpa using this
 have hb0 : Below w.heap.size w ((w.alloc zRu).alloc zFl) := ((Below.refl _ _).alloc (Nat.le_refl _) _).alloc (by simp) _
 have HT := Lib.hid ht
 have HU := Lib.hid hu
 have HB0 := Lib.hid hb0
 clear ht hu hb0
 generalize (w.alloc zRu).alloc zFl = w1 at *
 have h0i : ((ws.length : Int) == 0) = false := beq_eq_false_iff_ne.2 (by omega)
 have h0p : (0 : Int) < ws.length := by omega
 go_upto_region 6 with (go_at_call 139; refine (SP.out _).mono ?_; rintro e w2 ⟨v2, rfl, hown, hb2⟩; obtain ⟨g, cap, rfl, _, hg2, _, hcell⟩ := own_form hown h0; have HCL := Lib.hid hcell; have HGL := Lib.hid hg2; have HB2 := Lib.hid hb2; clear hown hcell hg2 hb2)
 have HW2 : Hid (WAt w2 g 0 ws) := fun j hj => by
  refine ⟨?_, ?_, ?_⟩
  ·rw [Nat.zero_add]; exact HCL.out _ _ (wcellR_at ws j hj).1
  ·rw [Nat.zero_add]; exact HCL.out _ _ (wcellR_at ws j hj).2
  ·have := HSZ.out j hj; unfold maxLen; omega
 have ht2 := (HB2.out.block _ (Array.getElem?_eq_some_iff.1 HT.out).1).trans HT.out
 have hu2 := (HB2.out.block _ (Array.getElem?_eq_some_iff.1 HU.out).1).trans HU.out
 have hbz : Below w.heap.size w w2 := below_then HB0.out HB2.out HB0.out.size
 have hst := PS.start (cap := cap) hbz HW2.out HGL.out hpl ht2 hu2 ⟨Nat.le_refl _, by omega, by omega⟩
 have HST := Lib.hid hst
 have hc0 := (HW2.out 0 h0).1
 have hge : (ws[0]'h0).2 = (ws.headD (0, [])).2 := by cases ws with | nil => simp at h0 | cons a l => rfl
 rw [hge, Nat.zero_add, Nat.zero_mul] at hc0
 clear hst ht2 hu2 hbz HT HU hge
 have hgw := HGL.out
 have hc0' : ∀ O, (w2.alloc O).cell? ⟨g, 0, none⟩ = some (.string (bs (ws.headD (0, [])).2)) := fun O => (World.cell?_alloc_lt _ _ _ hgw).trans hc0
 generalize (ws.headD (0, [])).2 = x0 at *
 go_upto_region 8 with (go_at_call 140; refine (KDC.out _).mono ?_; rintro e w3 ⟨rfl, hb3⟩; have R0 := HST.out.2 w3 (.int .i64 6) (.int .i64 number) hb3; clear hb3)
 clear hc0 hc0' hgw
 generalize w2.heap.size = b at *
 generalize w3.heap.size = r at *
 generalize w3.alloc (.cells #[.int .i64 6, .string ⟨#[]⟩, .slice none 0 0, .int .i64 0, .int .i64 0, .string ⟨#[]⟩, .string ⟨#[]⟩, .string ⟨#[]⟩, .string ⟨#[]⟩, .string ⟨#[]⟩, .int .i64 number] 39) = w4 at *
 clear HST HCL HW2 HGL
 have q0 := R0.q0; have a1 := R0.rd.q1; have af := R0.rd.f1
 go_upto_region 11 with (fail)
 have R1 := R0.step (Nat.zero_le _)
 rw [show ((0 : Nat) : Int) + 1 = 1 from rfl, Nat.zero_add] at R1
 generalize w4.setCell ⟨b, 1, none⟩ (.int .i64 1) = W1 at *
 clear q0 a1 af R0
 have q0 := R1.q0
 have htl : (tx ws).length = ws.length := tx_len _
 have hle1 : 1 ≤ (tx ws).length := by rw [htl]; exact h0
 have NM := Lib.hid (fun W k m (h : RRd W b g cap ws k m) => dname_any b g cap ws k m W h h0)
 have NB := Lib.hid (fun W k m (h : RRd W b g cap ws k m) => dnumber_any b g cap ws k m W h h0)
 have NX := Lib.hid (fun W k m (h : RRd W b g cap ws k m) => dnext_any b g cap ws k m W h)
 have a1 := R1.rd.q1
 have NMS := Lib.hid (fun W k m (h : RRd W b g cap ws k m) => dnames_any b g cap ws k m 2 W h h0 (by omega))
 go_upto_region 60 with (go_at_call 144; refine (NMS.out _ _ _ R1.rd).mono ?_; rintro e w5 ⟨vL, rfl, h9, ho, g9⟩; obtain ⟨AL, cL, rfl⟩ := own_slice ho; have R5 := R1.call h9 g9; (try simp only [List.setIfInBounds_toArray, List.set] at R5); obtain ⟨B9, ox9, ht9, hu9, hz9, hbb⟩ := PS.own R1 g9 ho; have OX := Lib.hid ox9; have HT9 := Lib.hid ht9; have HU9 := Lib.hid hu9; have HZ9 := Lib.hid hz9; have HB9 := Lib.hid hbb; clear ox9 ht9 hu9 hz9 hbb; have q2 := R5.q2; have f2 := R5.fz 2; clear h9 g9 ho)
 have R9 := R5.store 2 (.slice AL (namesR (tx ws) 2 (ws.length + 3) [] (1, false)).1.length cL)
 (try simp only [List.setIfInBounds_toArray, List.set] at R9)
 clear q2 f2 R1 R5 NMS
 generalize w5.setCell ⟨r, 2, none⟩ (.slice AL (namesR (tx ws) 2 (ws.length + 3) [] (1, false)).1.length cL) = W9 at *
 generalize hv9 : (namesR (tx ws) 2 (ws.length + 3) [] (1, false)).1 = LL at *
 generalize hk9 : (namesR (tx ws) 2 (ws.length + 3) [] (1, false)).2.1 = k at *
 generalize hm9 : (namesR (tx ws) 2 (ws.length + 3) [] (1, false)).2.2 = m at *
 have HN9 : Hid (namesR (tx ws) 2 (ws.length + 3) [] (1, false) = (LL, k, m)) := Prod.ext hv9 (Prod.ext hk9 hm9)
 clear hv9 hk9 hm9
 have HRD : Hid (readR (tx ws) = ({ kind := 6, list := LL }, k, m)) := by
  show _ = _
  unfold readR
  rw [HKD.out, if_neg (by decide)]
  unfold bodyR exclR
  rw [htl]
  simp only [HN9.out]
  rfl
 clear q0
 have HF : Hid (firstR (tx ws) 6 = 1) := rfl
 by_cases hkl : k < ws.length
 ·have hki : ((k : Nat) : Int) < ws.length := by omega
  have a1 := R9.rd.q1
  go_upto_region 62 with (go_at_call 141; refine (dfail_any b g cap ws k m _ R9.rd h0).mono ?_; rintro e w8 ⟨rfl, h9, g9⟩; have R8 := R9.call h9 g9; clear h9 g9)
  clear a1 R9
  have hno := Lib.hid (rej_k HRD.out (by rw [htl]; exact hkl))
  obtain ⟨y9, c3⟩ := R8.rd.c3
  have c4 := R8.rd.q4
  rw [if_pos rfl] at c4
  obtain ⟨s0, s1, s2, s3, s4, s5, s6, s7, s8, s9, s10⟩ := row_qs0 R8.told
  obtain ⟨f0, f1, f2, f3, f4, f5, f6, f7, f8, f9, f10⟩ := row_fzs0_11 R8.told; have k0 := flt_q0 R8.flt; have k1 := flt_q1 R8.flt; have k2 := flt_q2 R8.flt; have e0 := flt_fz R8.flt 0; have e1 := flt_fz R8.flt 1; have e2 := flt_fz R8.flt 2
  have hn1 : ¬ b = w.heap.size := by have := R8.ne; omega
  have hn2 : ¬ b = w.heap.size + 1 := by have := R8.ne; omega
  have HR := Lib.hid R8
  clear R8
  go_upto_region 63 with (fail)
  go_region
  go_wp2
  obtain ⟨h8, h10, hbl⟩ := two_rowsD (.int .i64 0) (.string ⟨#[]⟩) (.slice none 0 0) (.int .i64 0) (.int .i64 0) (.string ⟨#[]⟩) (.string ⟨#[]⟩) (.string ⟨#[]⟩) (.string ⟨#[]⟩) (.string ⟨#[]⟩) (.int .i64 0) (.int .i64 number) (.int .i64 y9) (.int .i64 2) HR.out.told HR.out.flt (by omega) _ _ rfl rfl
  (try simp only [Exit.inBlock, Exit.then])
  refine bodyPost_ret (run_cell212 rfl _ _ w.heap.size (w.heap.size + 1) _ _ _ _ _ _ _ _ rfl rfl h8 h10 Tryz.underlying39 rfl (by kernel_rfl) Tryz.underlying51 rfl (by kernel_rfl)) rfl ?_
  exact rpt_no (hbl _ _ HR.out.be HR.out.be.size (Nat.le_refl _) (by omega)) hno.out (by decide)
 ·have hki : ¬ ((k : Nat) : Int) < ws.length := by omega
  have a1 := R9.rd.q1
  cases m
  ·have HTF := Lib.hid (tail_facts HRD.out (by rw [htl]; omega))
   have c4 := R9.rd.q4
   rw [if_neg (by simp)] at c4
   have q0 := R9.q0; have q1 := R9.q1; have q2 := R9.q2; have q3 := R9.q3; have q4 := R9.q4; have q5 := R9.q5; have q6 := R9.q6; have q7 := R9.q7; have q8 := R9.q8; have q9 := R9.q9; have q10 := R9.q10
   have HR := Lib.hid R9
   have CHK := Lib.hid (check_any { kind := 6, list := LL } AL cL number g cap ws 1 number _ (lAt_own OX.out (len_small HTF.out.1 (by rw [htl]; omega))) (fun h => by have h9 := HTF.out.1 h; rw [HKD.out, HF.out, htl] at h9; simp only at h9 ⊢; omega) (by have h9 := HTF.out.2; rw [htl] at h9; omega) (by omega) R9.rd.2.1 R9.rd.2.2.1)
   have hsz9 := R9.be.size
   clear R9
   dsimp only [ruV] at CHK
   cases hok : okB { kind := 6, list := LL }
   ·have hno := Lib.hid (rej_ok HRD.out hok)
    have HOK := Lib.hid hok
    clear hok
    go_wp2_with (go_at_call 148; refine CHK.out.mono ?_; rintro e w8 ⟨hb8, h8⟩; rw [if_neg (by rw [HOK.out]; simp)] at h8; simp only [zeroV, zero11, fltV] at h8; obtain ⟨c8, rfl⟩ := h8; have R8 := HR.out.below hb8; obtain ⟨s0, s1, s2, s3, s4, s5, s6, s7, s8, s9, s10⟩ := row_qs0 R8.told; obtain ⟨f0, f1, f2, f3, f4, f5, f6, f7, f8, f9, f10⟩ := row_fzs0_11 R8.told; have k0 := flt_q0 R8.flt; have k1 := flt_q1 R8.flt; have k2 := flt_q2 R8.flt; have e0 := flt_fz R8.flt 0; have e1 := flt_fz R8.flt 1; have e2 := flt_fz R8.flt 2; have HR8 := Lib.hid R8; clear R8 hb8)
    obtain ⟨h8, h10, hbl⟩ := two_rows (.int .i64 0) (.string ⟨#[]⟩) (.slice none 0 0) (.int .i64 0) (.int .i64 0) (.string ⟨#[]⟩) (.string ⟨#[]⟩) (.string ⟨#[]⟩) (.string ⟨#[]⟩) (.string ⟨#[]⟩) (.int .i64 0) (.int .i64 number) (.int .i64 c8) (.int .i64 1) HR8.out.told HR8.out.flt (by omega) _ rfl
    (try simp only [Exit.inBlock, Exit.then])
    refine bodyPost_ret (run_cell212 rfl _ _ w.heap.size (w.heap.size + 1) _ _ _ _ _ _ _ _ rfl rfl h8 h10 Tryz.underlying39 rfl (by kernel_rfl) Tryz.underlying51 rfl (by kernel_rfl)) rfl ?_
    exact rpt_no (hbl _ _ HR8.out.be HR8.out.be.size (Nat.le_refl _) (by omega)) hno.out (by decide)
   ·have HOK := Lib.hid hok
    clear hok
    go_wp2_with (go_at_call 148; refine CHK.out.mono ?_; rintro e w8 ⟨hb8, h8⟩; rw [if_pos HOK.out] at h8; simp only [ruV, fltV] at h8; subst h8; have R8 := HR.out.below hb8; have OX8 := own_below OX.out hb8 HB9.out; obtain ⟨s0, s1, s2, s3, s4, s5, s6, s7, s8, s9, s10⟩ := row_qs0 R8.told; obtain ⟨f0, f1, f2, f3, f4, f5, f6, f7, f8, f9, f10⟩ := row_fzs0_11 R8.told; have k0 := flt_q0 R8.flt; have k1 := flt_q1 R8.flt; have k2 := flt_q2 R8.flt; have e0 := flt_fz R8.flt 0; have e1 := flt_fz R8.flt 1; have e2 := flt_fz R8.flt 2; have HR8 := Lib.hid R8; have HO8 := Lib.hid OX8; clear R8 hb8 OX8)
    obtain ⟨h8, h10, hbl⟩ := two_rows (.int .i64 6) (.string (bs [])) (.slice AL LL.length cL) (.int .i64 0) (.int .i64 0) (.string (bs [])) (.string (bs [])) (.string (bs [])) (.string (bs [])) (.string (bs [])) (.int .i64 number) (.int .i64 0) (.int .i64 0) (.int .i64 0) HR8.out.told HR8.out.flt (by omega) _ rfl
    (try simp only [Exit.inBlock, Exit.then])
    refine bodyPost_ret (run_cell212 rfl _ _ w.heap.size (w.heap.size + 1) _ _ _ _ _ _ _ _ rfl rfl h8 h10 Tryz.underlying39 rfl (by kernel_rfl) Tryz.underlying51 rfl (by kernel_rfl)) rfl ?_
    exact rpt_ok (ru := { kind := 6, list := LL }) (hbl _ _ HR8.out.be HR8.out.be.size (Nat.le_refl _) (by omega)) HRD.out (by rw [htl]; omega) HOK.out (World.ownsRow.mono (two_own _ _ _ _ _ _ _ _ _ _ _ _ _ _ HO8.out HT9.out HU9.out) HZ9.out)
  ·have hno := Lib.hid (rej_m HRD.out)
   obtain ⟨y9, c3⟩ := R9.rd.c3
   have c4 := R9.rd.q4
   rw [if_pos rfl] at c4
   obtain ⟨s0, s1, s2, s3, s4, s5, s6, s7, s8, s9, s10⟩ := row_qs0 R9.told
   obtain ⟨f0, f1, f2, f3, f4, f5, f6, f7, f8, f9, f10⟩ := row_fzs0_11 R9.told; have k0 := flt_q0 R9.flt; have k1 := flt_q1 R9.flt; have k2 := flt_q2 R9.flt; have e0 := flt_fz R9.flt 0; have e1 := flt_fz R9.flt 1; have e2 := flt_fz R9.flt 2
   have hn1 : ¬ b = w.heap.size := by have := R9.ne; omega
   have hn2 : ¬ b = w.heap.size + 1 := by have := R9.ne; omega
   have HR := Lib.hid R9
   clear R9
   go_upto_region 63 with (fail)
   go_region
   go_wp2
   obtain ⟨h8, h10, hbl⟩ := two_rowsD (.int .i64 0) (.string ⟨#[]⟩) (.slice none 0 0) (.int .i64 0) (.int .i64 0) (.string ⟨#[]⟩) (.string ⟨#[]⟩) (.string ⟨#[]⟩) (.string ⟨#[]⟩) (.string ⟨#[]⟩) (.int .i64 0) (.int .i64 number) (.int .i64 y9) (.int .i64 2) HR.out.told HR.out.flt (by omega) _ _ rfl rfl
   (try simp only [Exit.inBlock, Exit.then])
   refine bodyPost_ret (run_cell212 rfl _ _ w.heap.size (w.heap.size + 1) _ _ _ _ _ _ _ _ rfl rfl h8 h10 Tryz.underlying39 rfl (by kernel_rfl) Tryz.underlying51 rfl (by kernel_rfl)) rfl ?_
   exact rpt_no (hbl _ _ HR.out.be HR.out.be.size (Nat.le_refl _) (by omega)) hno.out (by decide)
set_option maxHeartbeats 8000000 in
theorem rpar7_any (s : ByteArray) (number : Int) (ws : List (Nat × Tx)) (w : World) (hs : s.size ≤ 1000000000) (hws : wordsL s.data.toList = ws) (hbad : badL s.data.toList = 0) (h0 : 0 < ws.length) (hpl : ws.length ≤ 1000000000) (hsz : ∀ j (hj : j < ws.length), ws[j].2.length ≤ 1000000000) (hkd : kdR (tx ws) = 7) :
  Calls Tryz.prog 101 #[.string s, .int .i64 number] w (RPTo ws number w) := by
 have SP := Lib.hid (fun W => RSplit_any s W hs)
 rw [hws, hbad] at SP
 have HSZ := Lib.hid hsz
 clear hsz
 have KDC := Lib.hid (fun W => RKind_any (ws.headD (0, [])).2 W)
 have hk9 : posR kindR (ws.headD (0, [])).2 0 = 7 := by
  rw [← hkd]
  unfold kdR pk
  cases hws2 : ws with
  | nil => rw [hws2] at h0; simp at h0
  | cons a l => rfl
 rw [hk9] at KDC
 have HKD := Lib.hid hkd
 clear hk9 hws hbad hkd
 go_enter Tryz.func101, Tryz.ntmps101
 go_upto_region 1 with (fail)
 have ht : ((w.alloc zRu).alloc zFl).heap[w.heap.size]? = some (.cells #[.int .i64 0, .string ⟨#[]⟩, .slice none 0 0, .int .i64 0, .int .i64 0, .string ⟨#[]⟩, .string ⟨#[]⟩, .string ⟨#[]⟩, .string ⟨#[]⟩, .string ⟨#[]⟩, .int .i64 0] 39 (0, 0)) := by rw [heap_alloc_old _ _ (by simp)]; exact heap_alloc_new _ _
 have hu : ((w.alloc zRu).alloc zFl).heap[w.heap.size + 1]? = some (.cells #[.int .i64 0, .int .i64 0, .int .i64 0] 51 (0, 0)) := by
  have := heap_alloc_new (w.alloc zRu) zFl
  simpa using this
 have hb0 : Below w.heap.size w ((w.alloc zRu).alloc zFl) := ((Below.refl _ _).alloc (Nat.le_refl _) _).alloc (by simp) _
 have HT := Lib.hid ht
 have HU := Lib.hid hu
 have HB0 := Lib.hid hb0
 clear ht hu hb0
 generalize (w.alloc zRu).alloc zFl = w1 at *
 have h0i : ((ws.length : Int) == 0) = false := beq_eq_false_iff_ne.2 (by omega)
 have h0p : (0 : Int) < ws.length := by omega
 go_upto_region 6 with (go_at_call 139; refine (SP.out _).mono ?_; rintro e w2 ⟨v2, rfl, hown, hb2⟩; obtain ⟨g, cap, rfl, _, hg2, _, hcell⟩ := own_form hown h0; have HCL := Lib.hid hcell; have HGL := Lib.hid hg2; have HB2 := Lib.hid hb2; clear hown hcell hg2 hb2)
 have HW2 : Hid (WAt w2 g 0 ws) := fun j hj => by
  refine ⟨?_, ?_, ?_⟩
  ·rw [Nat.zero_add]; exact HCL.out _ _ (wcellR_at ws j hj).1
  ·rw [Nat.zero_add]; exact HCL.out _ _ (wcellR_at ws j hj).2
  ·have := HSZ.out j hj; unfold maxLen; omega
 have ht2 := (HB2.out.block _ (Array.getElem?_eq_some_iff.1 HT.out).1).trans HT.out
 have hu2 := (HB2.out.block _ (Array.getElem?_eq_some_iff.1 HU.out).1).trans HU.out
 have hbz : Below w.heap.size w w2 := below_then HB0.out HB2.out HB0.out.size
 have hst := PS.start (cap := cap) hbz HW2.out HGL.out hpl ht2 hu2 ⟨Nat.le_refl _, by omega, by omega⟩
 have HST := Lib.hid hst
 have hc0 := (HW2.out 0 h0).1
 have hge : (ws[0]'h0).2 = (ws.headD (0, [])).2 := by cases ws with | nil => simp at h0 | cons a l => rfl
 rw [hge, Nat.zero_add, Nat.zero_mul] at hc0
 clear hst ht2 hu2 hbz HT HU hge
 have hgw := HGL.out
 have hc0' : ∀ O, (w2.alloc O).cell? ⟨g, 0, none⟩ = some (.string (bs (ws.headD (0, [])).2)) := fun O => (World.cell?_alloc_lt _ _ _ hgw).trans hc0
 generalize (ws.headD (0, [])).2 = x0 at *
 go_upto_region 8 with (go_at_call 140; refine (KDC.out _).mono ?_; rintro e w3 ⟨rfl, hb3⟩; have R0 := HST.out.2 w3 (.int .i64 7) (.int .i64 number) hb3; clear hb3)
 clear hc0 hc0' hgw
 generalize w2.heap.size = b at *
 generalize w3.heap.size = r at *
 generalize w3.alloc (.cells #[.int .i64 7, .string ⟨#[]⟩, .slice none 0 0, .int .i64 0, .int .i64 0, .string ⟨#[]⟩, .string ⟨#[]⟩, .string ⟨#[]⟩, .string ⟨#[]⟩, .string ⟨#[]⟩, .int .i64 number] 39) = w4 at *
 clear HST HCL HW2 HGL
 have q0 := R0.q0; have a1 := R0.rd.q1; have af := R0.rd.f1
 go_upto_region 11 with (fail)
 have R1 := R0.step (Nat.zero_le _)
 rw [show ((0 : Nat) : Int) + 1 = 1 from rfl, Nat.zero_add] at R1
 generalize w4.setCell ⟨b, 1, none⟩ (.int .i64 1) = W1 at *
 clear q0 a1 af R0
 have q0 := R1.q0
 have htl : (tx ws).length = ws.length := tx_len _
 have hle1 : 1 ≤ (tx ws).length := by rw [htl]; exact h0
 have NM := Lib.hid (fun W k m (h : RRd W b g cap ws k m) => dname_any b g cap ws k m W h h0)
 have NB := Lib.hid (fun W k m (h : RRd W b g cap ws k m) => dnumber_any b g cap ws k m W h h0)
 have NX := Lib.hid (fun W k m (h : RRd W b g cap ws k m) => dnext_any b g cap ws k m W h)
 go_upto_region 60 with (first
  | (go_at_call 142; refine (NM.out _ _ _ R1.rd).mono ?_; rintro e w5 ⟨rfl, h9, g9⟩; have R5 := R1.call h9 g9; (try simp only [List.setIfInBounds_toArray, List.set] at R5); have tk1 : True := trivial; clear h9 g9)
  | (have _t := tk1; go_at_call 145; refine (NB.out _ _ _ R5.rd).mono ?_; rintro e w6 ⟨rfl, h9, g9⟩; have R6 := R5.call h9 g9; (try simp only [List.setIfInBounds_toArray, List.set] at R6); have tk2 : True := trivial; clear h9 g9 tk1 _t)
  | (have _t := tk2; go_at_call 145; refine (NB.out _ _ _ R6.rd).mono ?_; rintro e w7 ⟨rfl, h9, g9⟩; have R7 := R6.call h9 g9; (try simp only [List.setIfInBounds_toArray, List.set] at R7); have c1 := R7.q1; have c3 := R7.q3; have c4 := R7.q4; have f1 := R7.fz 1; have f3 := R7.fz 3; have f4 := R7.fz 4; clear h9 g9 tk2 _t))
 have R9 := ((R7.store 1 (.string (bs (nameR (tx ws) (1, false)).1))).store 3 (.int .i64 (numberR (tx ws) ((nameR (tx ws) (1, false)).2.1, (nameR (tx ws) (1, false)).2.2)).1)).store 4 (.int .i64 (numberR (tx ws) ((numberR (tx ws) ((nameR (tx ws) (1, false)).2.1, (nameR (tx ws) (1, false)).2.2)).2.1, (numberR (tx ws) ((nameR (tx ws) (1, false)).2.1, (nameR (tx ws) (1, false)).2.2)).2.2)).1)
 (try simp only [List.setIfInBounds_toArray, List.set] at R9)
 clear c1 c3 c4 f1 f3 f4 R1 R5 R6 R7
 generalize ((w7.setCell ⟨r, 1, none⟩ (.string (bs (nameR (tx ws) (1, false)).1))).setCell ⟨r, 3, none⟩ (.int .i64 (numberR (tx ws) ((nameR (tx ws) (1, false)).2.1, (nameR (tx ws) (1, false)).2.2)).1)).setCell ⟨r, 4, none⟩ (.int .i64 (numberR (tx ws) ((numberR (tx ws) ((nameR (tx ws) (1, false)).2.1, (nameR (tx ws) (1, false)).2.2)).2.1, (numberR (tx ws) ((nameR (tx ws) (1, false)).2.1, (nameR (tx ws) (1, false)).2.2)).2.2)).1) = W9 at *
 generalize hv9 : (nameR (tx ws) (1, false)).1 = v2 at *
 generalize hk9 : (nameR (tx ws) (1, false)).2.1 = k2 at *
 generalize hm9 : (nameR (tx ws) (1, false)).2.2 = m2 at *
 have HN2 : Hid (nameR (tx ws) (1, false) = (v2, k2, m2)) := Prod.ext hv9 (Prod.ext hk9 hm9)
 clear hv9 hk9 hm9
 generalize hv9 : (numberR (tx ws) (k2, m2)).1 = v3 at *
 generalize hk9 : (numberR (tx ws) (k2, m2)).2.1 = k3 at *
 generalize hm9 : (numberR (tx ws) (k2, m2)).2.2 = m3 at *
 have HN3 : Hid (numberR (tx ws) (k2, m2) = (v3, k3, m3)) := Prod.ext hv9 (Prod.ext hk9 hm9)
 clear hv9 hk9 hm9
 generalize hv9 : (numberR (tx ws) (k3, m3)).1 = v4 at *
 generalize hk9 : (numberR (tx ws) (k3, m3)).2.1 = k at *
 generalize hm9 : (numberR (tx ws) (k3, m3)).2.2 = m at *
 have HN4 : Hid (numberR (tx ws) (k3, m3) = (v4, k, m)) := Prod.ext hv9 (Prod.ext hk9 hm9)
 clear hv9 hk9 hm9
 have HRD : Hid (readR (tx ws) = ({ kind := 7, name := v2, n := v3, m := v4 }, k, m)) := by
  show _ = _
  unfold readR
  rw [HKD.out, if_neg (by decide)]
  unfold bodyR lendR
  (try rw [htl])
  simp only [HN2.out, HN3.out, HN4.out]
  rfl
 clear q0
 by_cases hkl : k < ws.length
 ·have hki : ((k : Nat) : Int) < ws.length := by omega
  have a1 := R9.rd.q1
  go_upto_region 62 with (go_at_call 141; refine (dfail_any b g cap ws k m _ R9.rd h0).mono ?_; rintro e w8 ⟨rfl, h9, g9⟩; have R8 := R9.call h9 g9; clear h9 g9)
  clear a1 R9
  have hno := Lib.hid (rej_k HRD.out (by rw [htl]; exact hkl))
  obtain ⟨y9, c3⟩ := R8.rd.c3
  have c4 := R8.rd.q4
  rw [if_pos rfl] at c4
  obtain ⟨s0, s1, s2, s3, s4, s5, s6, s7, s8, s9, s10⟩ := row_qs0 R8.told
  obtain ⟨f0, f1, f2, f3, f4, f5, f6, f7, f8, f9, f10⟩ := row_fzs0_11 R8.told; have k0 := flt_q0 R8.flt; have k1 := flt_q1 R8.flt; have k2 := flt_q2 R8.flt; have e0 := flt_fz R8.flt 0; have e1 := flt_fz R8.flt 1; have e2 := flt_fz R8.flt 2
  have hn1 : ¬ b = w.heap.size := by have := R8.ne; omega
  have hn2 : ¬ b = w.heap.size + 1 := by have := R8.ne; omega
  have HR := Lib.hid R8
  clear R8
  go_upto_region 63 with (fail)
  go_region
  go_wp2
  obtain ⟨h8, h10, hbl⟩ := two_rowsD (.int .i64 0) (.string ⟨#[]⟩) (.slice none 0 0) (.int .i64 0) (.int .i64 0) (.string ⟨#[]⟩) (.string ⟨#[]⟩) (.string ⟨#[]⟩) (.string ⟨#[]⟩) (.string ⟨#[]⟩) (.int .i64 0) (.int .i64 number) (.int .i64 y9) (.int .i64 2) HR.out.told HR.out.flt (by omega) _ _ rfl rfl
  (try simp only [Exit.inBlock, Exit.then])
  refine bodyPost_ret (run_cell212 rfl _ _ w.heap.size (w.heap.size + 1) _ _ _ _ _ _ _ _ rfl rfl h8 h10 Tryz.underlying39 rfl (by kernel_rfl) Tryz.underlying51 rfl (by kernel_rfl)) rfl ?_
  exact rpt_no (hbl _ _ HR.out.be HR.out.be.size (Nat.le_refl _) (by omega)) hno.out (by decide)
 ·have hki : ¬ ((k : Nat) : Int) < ws.length := by omega
  have a1 := R9.rd.q1
  cases m
  ·have HTF := Lib.hid (tail_facts HRD.out (by rw [htl]; omega))
   have c4 := R9.rd.q4
   rw [if_neg (by simp)] at c4
   have q0 := R9.q0; have q1 := R9.q1; have q2 := R9.q2; have q3 := R9.q3; have q4 := R9.q4; have q5 := R9.q5; have q6 := R9.q6; have q7 := R9.q7; have q8 := R9.q8; have q9 := R9.q9; have q10 := R9.q10
   have HR := Lib.hid R9
   have CHK := Lib.hid (check_any { kind := 7, name := v2, n := v3, m := v4 } none 0 number g cap ws 0 number _ (lAt_own (base := 0) (ownL_nil _ 0) (by simp)) (fun h => absurd rfl h) (by have h9 := HTF.out.2; rw [htl] at h9; omega) (by omega) R9.rd.2.1 R9.rd.2.2.1)
   have hsz9 := R9.be.size
   clear R9
   dsimp only [ruV] at CHK
   cases hok : okB { kind := 7, name := v2, n := v3, m := v4 }
   ·have hno := Lib.hid (rej_ok HRD.out hok)
    have HOK := Lib.hid hok
    clear hok
    go_wp2_with (go_at_call 148; refine CHK.out.mono ?_; rintro e w8 ⟨hb8, h8⟩; rw [if_neg (by rw [HOK.out]; simp)] at h8; simp only [zeroV, zero11, fltV] at h8; obtain ⟨c8, rfl⟩ := h8; have R8 := HR.out.below hb8; obtain ⟨s0, s1, s2, s3, s4, s5, s6, s7, s8, s9, s10⟩ := row_qs0 R8.told; obtain ⟨f0, f1, f2, f3, f4, f5, f6, f7, f8, f9, f10⟩ := row_fzs0_11 R8.told; have k0 := flt_q0 R8.flt; have k1 := flt_q1 R8.flt; have k2 := flt_q2 R8.flt; have e0 := flt_fz R8.flt 0; have e1 := flt_fz R8.flt 1; have e2 := flt_fz R8.flt 2; have HR8 := Lib.hid R8; clear R8 hb8)
    obtain ⟨h8, h10, hbl⟩ := two_rows (.int .i64 0) (.string ⟨#[]⟩) (.slice none 0 0) (.int .i64 0) (.int .i64 0) (.string ⟨#[]⟩) (.string ⟨#[]⟩) (.string ⟨#[]⟩) (.string ⟨#[]⟩) (.string ⟨#[]⟩) (.int .i64 0) (.int .i64 number) (.int .i64 c8) (.int .i64 1) HR8.out.told HR8.out.flt (by omega) _ rfl
    (try simp only [Exit.inBlock, Exit.then])
    refine bodyPost_ret (run_cell212 rfl _ _ w.heap.size (w.heap.size + 1) _ _ _ _ _ _ _ _ rfl rfl h8 h10 Tryz.underlying39 rfl (by kernel_rfl) Tryz.underlying51 rfl (by kernel_rfl)) rfl ?_
    exact rpt_no (hbl _ _ HR8.out.be HR8.out.be.size (Nat.le_refl _) (by omega)) hno.out (by decide)
   ·have HOK := Lib.hid hok
    clear hok
    go_wp2_with (go_at_call 148; refine CHK.out.mono ?_; rintro e w8 ⟨hb8, h8⟩; rw [if_pos HOK.out] at h8; simp only [ruV, fltV] at h8; subst h8; have R8 := HR.out.below hb8; obtain ⟨s0, s1, s2, s3, s4, s5, s6, s7, s8, s9, s10⟩ := row_qs0 R8.told; obtain ⟨f0, f1, f2, f3, f4, f5, f6, f7, f8, f9, f10⟩ := row_fzs0_11 R8.told; have k0 := flt_q0 R8.flt; have k1 := flt_q1 R8.flt; have k2 := flt_q2 R8.flt; have e0 := flt_fz R8.flt 0; have e1 := flt_fz R8.flt 1; have e2 := flt_fz R8.flt 2; have HR8 := Lib.hid R8; clear R8 hb8)
    obtain ⟨h8, h10, hbl⟩ := two_rows (.int .i64 7) (.string (bs v2)) (.slice none 0 0) (.int .i64 v3) (.int .i64 v4) (.string (bs [])) (.string (bs [])) (.string (bs [])) (.string (bs [])) (.string (bs [])) (.int .i64 number) (.int .i64 0) (.int .i64 0) (.int .i64 0) HR8.out.told HR8.out.flt (by omega) _ rfl
    (try simp only [Exit.inBlock, Exit.then])
    refine bodyPost_ret (run_cell212 rfl _ _ w.heap.size (w.heap.size + 1) _ _ _ _ _ _ _ _ rfl rfl h8 h10 Tryz.underlying39 rfl (by kernel_rfl) Tryz.underlying51 rfl (by kernel_rfl)) rfl ?_
    exact rpt_ok (ru := { kind := 7, name := v2, n := v3, m := v4 }) (hbl _ _ HR8.out.be HR8.out.be.size (Nat.le_refl _) (by omega)) HRD.out (by rw [htl]; omega) HOK.out (ownL_nil _ _)
  ·have hno := Lib.hid (rej_m HRD.out)
   obtain ⟨y9, c3⟩ := R9.rd.c3
   have c4 := R9.rd.q4
   rw [if_pos rfl] at c4
   obtain ⟨s0, s1, s2, s3, s4, s5, s6, s7, s8, s9, s10⟩ := row_qs0 R9.told
   obtain ⟨f0, f1, f2, f3, f4, f5, f6, f7, f8, f9, f10⟩ := row_fzs0_11 R9.told; have k0 := flt_q0 R9.flt; have k1 := flt_q1 R9.flt; have k2 := flt_q2 R9.flt; have e0 := flt_fz R9.flt 0; have e1 := flt_fz R9.flt 1; have e2 := flt_fz R9.flt 2
   have hn1 : ¬ b = w.heap.size := by have := R9.ne; omega
   have hn2 : ¬ b = w.heap.size + 1 := by have := R9.ne; omega
   have HR := Lib.hid R9
   clear R9
   go_upto_region 63 with (fail)
   go_region
   go_wp2
   obtain ⟨h8, h10, hbl⟩ := two_rowsD (.int .i64 0) (.string ⟨#[]⟩) (.slice none 0 0) (.int .i64 0) (.int .i64 0) (.string ⟨#[]⟩) (.string ⟨#[]⟩) (.string ⟨#[]⟩) (.string ⟨#[]⟩) (.string ⟨#[]⟩) (.int .i64 0) (.int .i64 number) (.int .i64 y9) (.int .i64 2) HR.out.told HR.out.flt (by omega) _ _ rfl rfl
   (try simp only [Exit.inBlock, Exit.then])
   refine bodyPost_ret (run_cell212 rfl _ _ w.heap.size (w.heap.size + 1) _ _ _ _ _ _ _ _ rfl rfl h8 h10 Tryz.underlying39 rfl (by kernel_rfl) Tryz.underlying51 rfl (by kernel_rfl)) rfl ?_
   exact rpt_no (hbl _ _ HR.out.be HR.out.be.size (Nat.le_refl _) (by omega)) hno.out (by decide)
end Go.Proofs.YtkalfhhdljndfaaGreatDoor
