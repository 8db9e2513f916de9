import Derived.Test.YtaoinedndnleoaaGreatRdrJ
namespace Go.Proofs.YtaoinedndnleoaaGreat
set_option maxRecDepth 100000
open Go.ChangeShapes Go.WideShapes Go.ChangeAt Go.RowKit
set_option maxHeartbeats 8000000 in
theorem RPrt81_any (r : Ru) (A : Option Addr) (ca : Nat) (ln : Int) (w : World) (hla : LAt w A ca r.list) (hs : Short r) (hn : r.n ≤ 9223372036854775807 ∧ r.m ≤ 9223372036854775807) (hkd : r.kind = 8) (h8 : r.n = 1) :
  Calls Tryz.prog 58 #[ruV r (.slice A r.list.length ca) ln] w (PrTo r w) := by
 have hds := doc_short hs
 obtain ⟨h1, h2, h3, h4, h5, h6, h7, h9, h10⟩ := hs
 have HR0 : Hid (∃ r0 : Ru, r0 = r) := ⟨r, rfl⟩
 obtain ⟨r0, hr0⟩ := HR0.out
 have HRR := Lib.hid hr0
 rw [← hr0]
 have e1 : ruV r0 (.slice A r0.list.length ca) ln = ruV r (.slice A r.list.length ca) ln := by rw [hr0]
 rw [e1]
 have HLA := Lib.hid hla
 have HDS : Hid ((docS r0).length ≤ 1000000000) := by show _ ≤ _; rw [hr0]; exact hds
 clear hla e1 HR0 hds hr0
 obtain ⟨kd, nm, l, rn, rm, rf, rt, rb, ra, ri⟩ := r
 simp only at h1 h2 h3 h4 h5 h6 h7 h9 h10 hn hkd HLA h8
 dsimp only [ruV]
 have HK9 := Lib.hid hkd
 clear hkd
 have H89 := Lib.hid h8
 clear h8
 have z1 : (bs nm).size ≤ 10000000 := by rw [size_bs]; exact h1
 have z2 : (bs (allP l)).size ≤ 10000000 := by rw [size_bs]; exact h2
 have z3 : (bs rf).size ≤ 10000000 := by rw [size_bs]; exact h3
 have z4 : (bs rt).size ≤ 10000000 := by rw [size_bs]; exact h4
 have z5 : (bs rb).size ≤ 10000000 := by rw [size_bs]; exact h5
 have z6 : (bs ra).size ≤ 10000000 := by rw [size_bs]; exact h6
 have z7 : (bs ri).size ≤ 10000000 := by rw [size_bs]; exact h7
 have z8 : (bs (nS rn)).size ≤ 10000000 := by rw [size_bs]; exact h9
 have z9 : (bs (nS rm)).size ≤ 10000000 := by rw [size_bs]; exact h10
 have AL := Lib.hid (fun W (hW : Below w.heap.size w W) => all_any l A ca W (HLA.out.below hW) (by omega))
 clear h1 h2 h3 h4 h5 h6 h7 h9 h10
 go_enter Tryz.func58, Tryz.ntmps58
 go_upto_region 3 with (fail)
 have R0 := heap_alloc_new w (.cells #[.int .i64 kd, .string (bs nm), .slice A l.length ca, .int .i64 rn, .int .i64 rm, .string (bs rf), .string (bs rt), .string (bs rb), .string (bs ra), .string (bs ri), .int .i64 ln] 92)
 have b0 : Below w.heap.size w (w.alloc (.cells #[.int .i64 kd, .string (bs nm), .slice A l.length ca, .int .i64 rn, .int .i64 rm, .string (bs rf), .string (bs rt), .string (bs rb), .string (bs ra), .string (bs ri), .int .i64 ln] 92)) := (Below.refl _ _).alloc (Nat.le_refl _) _
 have R := Lib.hid R0
 have HB := Lib.hid b0
 clear R0 b0
 generalize w.alloc (.cells #[.int .i64 kd, .string (bs nm), .slice A l.length ca, .int .i64 rn, .int .i64 rm, .string (bs rf), .string (bs rt), .string (bs rb), .string (bs ra), .string (bs ri), .int .i64 ln] 92) = w1 at *
 have q3 := row_q3 R.out
 go_cut [12] (fun x wx => wx = w1 ∧ x = .bool (decide (0 ≤ rn)))
 case first =>
  by_cases h : 0 ≤ rn
  ·go_wp2
   go_meet
   exact ⟨rfl, by rw [decide_eq_true h]⟩
  ·go_wp2
   go_meet
   exact ⟨rfl, by rw [decide_eq_false (by omega)]⟩
 case rest =>
 obtain ⟨hw9, rfl⟩ := hcut
 subst hw9
 obtain ⟨w1, rfl⟩ : ∃ w9 : World, w9 = wc := ⟨_, rfl⟩
 go_upto_if 12 with fail
 go_cut [5] (fun x wx => x = .string (bs (nS rn)) ∧ Hid (Below w1.heap.size w1 wx))
 case first =>
  by_cases h : 0 ≤ rn
  ·rw [decide_eq_true h]
   obtain ⟨q, rfl⟩ : ∃ q : Nat, rn = q := ⟨rn.toNat, by omega⟩
   have DG := Lib.hid (Digits_any q w1 (by omega))
   have HN : Hid (nS (q : Int) = digs q) := by show _ = _; unfold nS; rw [if_pos h, Int.toNat_natCast]
   clear h
   go_wp2_with (go_at_call 88; refine DG.out.mono ?_; rintro e w3 ⟨rfl, hb3⟩)
   go_meet
   exact ⟨by rw [HN.out], hb3⟩
  ·rw [decide_eq_false h]
   have HN : Hid (nS rn = [120]) := by show _ = _; unfold nS; rw [if_neg h]
   clear h
   go_wp2
   go_meet
   exact ⟨by rw [HN.out]; rfl, Below.refl _ _⟩
 case rest =>
 obtain ⟨rfl, HB2⟩ := hcut
 obtain ⟨w2, rfl⟩ : ∃ w9 : World, w9 = wc := ⟨_, rfl⟩
 clear q3
 have R2 := Lib.hid (row_below R.out HB2.out)
 have q4 := row_q4 R2.out
 go_upto_region 5 with (fail)
 go_cut [18] (fun x wx => wx = w2 ∧ x = .bool (decide (0 ≤ rm)))
 case first =>
  by_cases h : 0 ≤ rm
  ·go_wp2
   go_meet
   exact ⟨rfl, by rw [decide_eq_true h]⟩
  ·go_wp2
   go_meet
   exact ⟨rfl, by rw [decide_eq_false (by omega)]⟩
 case rest =>
 obtain ⟨hw9, rfl⟩ := hcut
 subst hw9
 obtain ⟨w2, rfl⟩ : ∃ w9 : World, w9 = wc := ⟨_, rfl⟩
 go_upto_if 18 with fail
 go_cut [6] (fun x wx => x = .string (bs (nS rm)) ∧ Hid (Below w2.heap.size w2 wx))
 case first =>
  by_cases h : 0 ≤ rm
  ·rw [decide_eq_true h]
   obtain ⟨q, rfl⟩ : ∃ q : Nat, rm = q := ⟨rm.toNat, by omega⟩
   have DG := Lib.hid (Digits_any q w2 (by omega))
   have HN : Hid (nS (q : Int) = digs q) := by show _ = _; unfold nS; rw [if_pos h, Int.toNat_natCast]
   clear h
   go_wp2_with (go_at_call 88; refine DG.out.mono ?_; rintro e w3 ⟨rfl, hb3⟩)
   go_meet
   exact ⟨by rw [HN.out], hb3⟩
  ·rw [decide_eq_false h]
   have HN : Hid (nS rm = [120]) := by show _ = _; unfold nS; rw [if_neg h]
   clear h
   go_wp2
   go_meet
   exact ⟨by rw [HN.out]; rfl, Below.refl _ _⟩
 case rest =>
 obtain ⟨rfl, HB3⟩ := hcut
 obtain ⟨w3, rfl⟩ : ∃ w9 : World, w9 = wc := ⟨_, rfl⟩
 clear q4
 have R3 := Lib.hid (row_below R2.out HB3.out)
 have HB4 := Lib.hid (below_then HB.out (below_then HB2.out HB3.out HB2.out.size) HB.out.size)
 have AL0 := Lib.hid AL.out
 generalize hsn : nS rn = sn at *
 generalize hsm : nS rm = sm at *
 have HSN := Lib.hid hsn
 have HSM := Lib.hid hsm
 clear hsn hsm R R2 HB2 HB3 HB AL
 have ALL : Hid (∀ W, Below w3.heap.size w3 W → Calls Tryz.prog 89 #[.slice A l.length ca] W fun e w' => e = .returned (.string (bs (allP l))) ∧ W = w') := fun W hW => AL0.out W (below_then HB4.out hW HB4.out.size)
 clear AL0
 have q0 := row_q0 R3.out; have q1 := row_q1 R3.out; have q2 := row_q2 R3.out; have q3 := row_q3 R3.out; have q5 := row_q5 R3.out; have q6 := row_q6 R3.out; have q7 := row_q7 R3.out; have q8 := row_q8 R3.out; have q9 := row_q9 R3.out
 go_upto_block 0 with (fail)
 go_cut [4] (fun x wx => x = .string (bs (docS r0)) ∧ Hid (Below w3.heap.size w3 wx))
 case first =>
  have e := HK9.out
  clear HK9
  subst e
  have HD : Hid (docS r0 = [115, 116, 97, 116, 101, 32] ++ nm ++ [32] ++ stW rn ++ (if ri = [] then [] else [32, 105, 110, 32] ++ ri)) := by show _ = _; rw [HRR.out]; unfold docS; simp only [reduceIte, Int.reduceEq, HSN.out, HSM.out]
  have e8 := H89.out
  clear H89
  have p1 : ∀ O, (w3.alloc O).cell? ⟨w.heap.size, 1, none⟩ = some (.string (bs nm)) := fun O => (World.cell?_alloc_lt _ _ _ (World.block_lt_of_cell? w3 _ q1)).trans q1
  have p3 : ∀ O, (w3.alloc O).cell? ⟨w.heap.size, 3, none⟩ = some (.int .i64 rn) := fun O => (World.cell?_alloc_lt _ _ _ (World.block_lt_of_cell? w3 _ q3)).trans q3
  have p9 : ∀ O, (w3.alloc O).cell? ⟨w.heap.size, 9, none⟩ = some (.string (bs ri)) := fun O => (World.cell?_alloc_lt _ _ _ (World.block_lt_of_cell? w3 _ q9)).trans q9
  have HW : Hid (stW rn = [112, 108, 97, 105, 110]) := by show _ = _; rw [e8]; rfl
  rw [HW.out] at HD
  subst e8
  go_upto_region 27 with (fail)
  have y0 : ¬ 9223372036854775807 < 6 + (bs nm).size := by omega
  have y1 : ¬ 9223372036854775807 < 6 + (bs nm).size + 1 := by omega
  have y2 : ¬ 9223372036854775807 < 6 + (bs nm).size + 1 + 5 := by omega
  go_region
  by_cases hi : ri = []
  ·have HD2 : Hid (docS r0 = [115, 116, 97, 116, 101, 32] ++ nm ++ [32] ++ [112, 108, 97, 105, 110]) := by show _ = _; rw [HD.out, if_pos hi, List.append_nil]
   subst hi
   have hza : ((bs []).toList != []) = false := by simp only [bne, lit_bs]; rfl
   have hzb : ((bs []).toList == []) = true := by rw [lit_bs]; rfl
   have hzc : (bs []).toList.isEmpty = true := by rw [Lib.toList_data, list_bs]; rfl
   clear HD
   go_wp2
   go_meet
   exact ⟨by rw [HD2.out, ← bs_append, ← bs_append, ← bs_append]; rfl, Lib.hid (by first | exact Below.refl _ _ | exact below_drew (Below.refl _ _) | exact below_drewN (Below.refl _ _) _ | exact (Below.refl _ _).alloc (Nat.le_refl _) _ | exact below_drew ((Below.refl _ _).alloc (Nat.le_refl _) _) | exact (below_drew (Below.refl _ _)).alloc (Nat.le_refl _) _)⟩
  ·have HD2 : Hid (docS r0 = [115, 116, 97, 116, 101, 32] ++ nm ++ [32] ++ [112, 108, 97, 105, 110] ++ ([32, 105, 110, 32] ++ ri)) := by show _ = _; rw [HD.out, if_neg hi]
   have hia : ((bs ri).toList != []) = true := by simp only [bne, lit_bs]; simpa using hi
   have hib : ((bs ri).toList == []) = false := by rw [lit_bs]; simpa using hi
   have hic : (bs ri).toList.isEmpty = false := by rw [Lib.toList_data, list_bs]; simpa using hi
   clear hi
   clear HD
   go_wp2
   go_meet
   exact ⟨by rw [HD2.out, ← bs_append, ← bs_append, ← bs_append, ← bs_append, ← bs_append]; rfl, Lib.hid (by first | exact Below.refl _ _ | exact below_drew (Below.refl _ _) | exact below_drewN (Below.refl _ _) _ | exact (Below.refl _ _).alloc (Nat.le_refl _) _ | exact below_drew ((Below.refl _ _).alloc (Nat.le_refl _) _) | exact (below_drew (Below.refl _ _)).alloc (Nat.le_refl _) _)⟩
 case rest =>
 obtain ⟨rfl, HB5⟩ := hcut
 obtain ⟨w5, rfl⟩ : ∃ w9 : World, w9 = wc := ⟨_, rfl⟩
 clear q0 q1 q2 q3 q5 q6 q7 q8 q9 z1 z2 z3 z4 z5 z6 z7 z8 z9 ALL
 have R5 := Lib.hid (row_below R3.out HB5.out)
 have HB6 := Lib.hid (below_then HB4.out HB5.out HB4.out.size)
 have RP0 := fun W => RParse_any (bs (docS r0)) ln W (by rw [size_bs]; exact HDS.out)
 clear HSN HSM R3 HB4 HB5 hn
 have hSS : Hid (docS r0 = docS r0) := rfl
 generalize hS : docS r0 = S at *
 have HSS := Lib.hid hS
 have RP : Hid (∀ W, Calls Tryz.prog 90 #[.string (bs S), .int .i64 ln] W (DPTo S ln W)) := RP0
 clear hS RP0 hSS HDS
 have q10 := row_q10 R5.out
 cases hp : parseL S with
 | bad c9 k9 =>
  have HP := Lib.hid hp
  clear hp
  go_upto_region 41 with (go_at_call 90; refine (RP.out _).mono ?_; rintro e w6 ⟨hb6, h6⟩; simp only [HP.out, zeroV, zero11, fltV] at h6; obtain ⟨c6, k6, hk6, rfl⟩ := h6; have HK6 := Lib.hid hk6; clear hk6; have HB7 := Lib.hid (below_then HB6.out hb6 HB6.out.size); have R7 := Lib.hid (row_below R5.out hb6); clear hb6)
  have hk6 : (k6 != 0) = true := by simpa using HK6.out
  have hA := heap_alloc_new w6 (.cells #[.int .i64 0, .string ⟨#[]⟩, .slice none 0 0, .int .i64 0, .int .i64 0, .string ⟨#[]⟩, .string ⟨#[]⟩, .string ⟨#[]⟩, .string ⟨#[]⟩, .string ⟨#[]⟩, .int .i64 0] 92)
  have hB := heap_alloc_new (w6.alloc (.cells #[.int .i64 0, .string ⟨#[]⟩, .slice none 0 0, .int .i64 0, .int .i64 0, .string ⟨#[]⟩, .string ⟨#[]⟩, .string ⟨#[]⟩, .string ⟨#[]⟩, .string ⟨#[]⟩, .int .i64 0] 92)) (.cells #[.int .i64 ln, .int .i64 c6, .int .i64 k6] 85)
  have hs6 : (w6.alloc (.cells #[.int .i64 0, .string ⟨#[]⟩, .slice none 0 0, .int .i64 0, .int .i64 0, .string ⟨#[]⟩, .string ⟨#[]⟩, .string ⟨#[]⟩, .string ⟨#[]⟩, .string ⟨#[]⟩, .int .i64 0] 92)).heap.size = w6.heap.size + 1 := by simp
  rw [hs6] at hB
  have hA2 := (heap_alloc_old (w6.alloc (.cells #[.int .i64 0, .string ⟨#[]⟩, .slice none 0 0, .int .i64 0, .int .i64 0, .string ⟨#[]⟩, .string ⟨#[]⟩, .string ⟨#[]⟩, .string ⟨#[]⟩, .string ⟨#[]⟩, .int .i64 0] 92)) (.cells #[.int .i64 ln, .int .i64 c6, .int .i64 k6] 85) (by omega : w6.heap.size < _)).trans hA
  have b7 : Below w6.heap.size w6 ((w6.alloc (.cells #[.int .i64 0, .string ⟨#[]⟩, .slice none 0 0, .int .i64 0, .int .i64 0, .string ⟨#[]⟩, .string ⟨#[]⟩, .string ⟨#[]⟩, .string ⟨#[]⟩, .string ⟨#[]⟩, .int .i64 0] 92)).alloc (.cells #[.int .i64 ln, .int .i64 c6, .int .i64 k6] 85)) := ((Below.refl _ _).alloc (Nat.le_refl _) _).alloc (by simp) _
  generalize (w6.alloc (.cells #[.int .i64 0, .string ⟨#[]⟩, .slice none 0 0, .int .i64 0, .int .i64 0, .string ⟨#[]⟩, .string ⟨#[]⟩, .string ⟨#[]⟩, .string ⟨#[]⟩, .string ⟨#[]⟩, .int .i64 0] 92)).alloc (.cells #[.int .i64 ln, .int .i64 c6, .int .i64 k6] 85) = w7 at *
  clear hA hs6
  have c2 := flt_q2 hB
  go_wp2
  go_ret2
  exact ⟨below_then HB7.out b7 HB7.out.size, .inr ⟨by rw [HSS.out, HP.out]; simp, rfl⟩⟩
 | empty =>
  have HP := Lib.hid hp
  clear hp
  go_upto_region 41 with (go_at_call 90; refine (RP.out _).mono ?_; rintro e w6 ⟨hb6, h6⟩; simp only [HP.out, zeroV, zero11, fltV] at h6; subst h6; have HB7 := Lib.hid (below_then HB6.out hb6 HB6.out.size); have R7 := Lib.hid (row_below R5.out hb6); clear hb6)
  have hA := heap_alloc_new w6 (.cells #[.int .i64 0, .string ⟨#[]⟩, .slice none 0 0, .int .i64 0, .int .i64 0, .string ⟨#[]⟩, .string ⟨#[]⟩, .string ⟨#[]⟩, .string ⟨#[]⟩, .string ⟨#[]⟩, .int .i64 0] 92)
  have hB := heap_alloc_new (w6.alloc (.cells #[.int .i64 0, .string ⟨#[]⟩, .slice none 0 0, .int .i64 0, .int .i64 0, .string ⟨#[]⟩, .string ⟨#[]⟩, .string ⟨#[]⟩, .string ⟨#[]⟩, .string ⟨#[]⟩, .int .i64 0] 92)) (.cells #[.int .i64 0, .int .i64 0, .int .i64 0] 85)
  have hs6 : (w6.alloc (.cells #[.int .i64 0, .string ⟨#[]⟩, .slice none 0 0, .int .i64 0, .int .i64 0, .string ⟨#[]⟩, .string ⟨#[]⟩, .string ⟨#[]⟩, .string ⟨#[]⟩, .string ⟨#[]⟩, .int .i64 0] 92)).heap.size = w6.heap.size + 1 := by simp
  rw [hs6] at hB
  have hA2 := (heap_alloc_old (w6.alloc (.cells #[.int .i64 0, .string ⟨#[]⟩, .slice none 0 0, .int .i64 0, .int .i64 0, .string ⟨#[]⟩, .string ⟨#[]⟩, .string ⟨#[]⟩, .string ⟨#[]⟩, .string ⟨#[]⟩, .int .i64 0] 92)) (.cells #[.int .i64 0, .int .i64 0, .int .i64 0] 85) (by omega : w6.heap.size < _)).trans hA
  have b7 : Below w6.heap.size w6 ((w6.alloc (.cells #[.int .i64 0, .string ⟨#[]⟩, .slice none 0 0, .int .i64 0, .int .i64 0, .string ⟨#[]⟩, .string ⟨#[]⟩, .string ⟨#[]⟩, .string ⟨#[]⟩, .string ⟨#[]⟩, .int .i64 0] 92)).alloc (.cells #[.int .i64 0, .int .i64 0, .int .i64 0] 85)) := ((Below.refl _ _).alloc (Nat.le_refl _) _).alloc (by simp) _
  generalize (w6.alloc (.cells #[.int .i64 0, .string ⟨#[]⟩, .slice none 0 0, .int .i64 0, .int .i64 0, .string ⟨#[]⟩, .string ⟨#[]⟩, .string ⟨#[]⟩, .string ⟨#[]⟩, .string ⟨#[]⟩, .int .i64 0] 92)).alloc (.cells #[.int .i64 0, .int .i64 0, .int .i64 0] 85) = w7 at *
  clear hA hs6
  go_wp2
  go_ret2
  exact ⟨below_then HB7.out b7 HB7.out.size, .inr ⟨by rw [HSS.out, HP.out]; simp, rfl⟩⟩
 | ok y =>
  have HP := Lib.hid hp
  clear hp
  go_upto_region 41 with (go_at_call 90; refine (RP.out _).mono ?_; rintro e w6 ⟨hb6, h6⟩; simp only [HP.out, fltV, ruV] at h6; obtain ⟨v6, rfl, ho6⟩ := h6; obtain ⟨A6, c6, rfl⟩ := own_slice ho6; have HL6 := Lib.hid (lAt_of (listAt_of ho6) (own_len ho6)); clear ho6; have HB7 := Lib.hid (below_then HB6.out hb6 HB6.out.size); have R7 := Lib.hid (row_below R5.out hb6); clear hb6)
  obtain ⟨yk, yn, yl, ym, yq, yf, yt, yb, ya, yi⟩ := y
  have hA := heap_alloc_new w6 (.cells #[.int .i64 yk, .string (bs yn), .slice A6 yl.length c6, .int .i64 ym, .int .i64 yq, .string (bs yf), .string (bs yt), .string (bs yb), .string (bs ya), .string (bs yi), .int .i64 ln] 92)
  have hB := heap_alloc_new (w6.alloc (.cells #[.int .i64 yk, .string (bs yn), .slice A6 yl.length c6, .int .i64 ym, .int .i64 yq, .string (bs yf), .string (bs yt), .string (bs yb), .string (bs ya), .string (bs yi), .int .i64 ln] 92)) (.cells #[.int .i64 0, .int .i64 0, .int .i64 0] 85)
  have hs6 : (w6.alloc (.cells #[.int .i64 yk, .string (bs yn), .slice A6 yl.length c6, .int .i64 ym, .int .i64 yq, .string (bs yf), .string (bs yt), .string (bs yb), .string (bs ya), .string (bs yi), .int .i64 ln] 92)).heap.size = w6.heap.size + 1 := by simp
  rw [hs6] at hB
  have hA2 := (heap_alloc_old (w6.alloc (.cells #[.int .i64 yk, .string (bs yn), .slice A6 yl.length c6, .int .i64 ym, .int .i64 yq, .string (bs yf), .string (bs yt), .string (bs yb), .string (bs ya), .string (bs yi), .int .i64 ln] 92)) (.cells #[.int .i64 0, .int .i64 0, .int .i64 0] 85) (by omega : w6.heap.size < _)).trans hA
  have b7 : Below w6.heap.size w6 ((w6.alloc (.cells #[.int .i64 yk, .string (bs yn), .slice A6 yl.length c6, .int .i64 ym, .int .i64 yq, .string (bs yf), .string (bs yt), .string (bs yb), .string (bs ya), .string (bs yi), .int .i64 ln] 92)).alloc (.cells #[.int .i64 0, .int .i64 0, .int .i64 0] 85)) := ((Below.refl _ _).alloc (Nat.le_refl _) _).alloc (by simp) _
  generalize (w6.alloc (.cells #[.int .i64 yk, .string (bs yn), .slice A6 yl.length c6, .int .i64 ym, .int .i64 yq, .string (bs yf), .string (bs yt), .string (bs yb), .string (bs ya), .string (bs yi), .int .i64 ln] 92)).alloc (.cells #[.int .i64 0, .int .i64 0, .int .i64 0] 85) = w7 at *
  clear hA hs6
  have c2 := flt_q2 hB
  have SM := Lib.hid (RSame_any ⟨yk, yn, yl, ym, yq, yf, yt, yb, ya, yi⟩ ⟨kd, nm, l, rn, rm, rf, rt, rb, ra, ri⟩ A6 A c6 ca ln ln w7 (HL6.out.below b7) (HLA.out.below (below_then HB7.out b7 HB7.out.size)))
  dsimp only [ruV] at SM
  have r7 := row_below R7.out b7
  have p0 := row_q0 hA2; have p1 := row_q1 hA2; have p2 := row_q2 hA2; have p3 := row_q3 hA2; have p4 := row_q4 hA2; have p5 := row_q5 hA2; have p6 := row_q6 hA2; have p7 := row_q7 hA2; have p8 := row_q8 hA2; have p9 := row_q9 hA2; have p10 := row_q10 hA2
  have s0 := row_q0 r7; have s1 := row_q1 r7; have s2 := row_q2 r7; have s3 := row_q3 r7; have s4 := row_q4 r7; have s5 := row_q5 r7; have s6 := row_q6 r7; have s7 := row_q7 r7; have s8 := row_q8 r7; have s9 := row_q9 r7; have s10 := row_q10 r7
  by_cases hyr : (⟨yk, yn, yl, ym, yq, yf, yt, yb, ya, yi⟩ : Ru) = ⟨kd, nm, l, rn, rm, rf, rt, rb, ra, ri⟩
  ·have HY := Lib.hid hyr
   rw [decide_eq_true hyr] at SM
   clear hyr
   go_wp2_with (go_at_call 91; refine SM.out.mono ?_; rintro e w8 ⟨rfl, hb8⟩)
   go_ret2
   exact ⟨below_then HB7.out (below_then b7 hb8 b7.size) HB7.out.size, .inl ⟨by rw [HSS.out, HP.out, HRR.out]; exact congrArg PR.ok HY.out, by rw [HSS.out]; rfl⟩⟩
  ·have HY := Lib.hid hyr
   rw [decide_eq_false hyr] at SM
   clear hyr
   go_wp2_with (go_at_call 91; refine SM.out.mono ?_; rintro e w8 ⟨rfl, hb8⟩)
   go_ret2
   exact ⟨below_then HB7.out (below_then b7 hb8 b7.size) HB7.out.size, .inr ⟨by rw [HSS.out, HP.out, HRR.out]; intro h9; injection h9 with h9; exact HY.out h9, rfl⟩⟩
set_option maxHeartbeats 8000000 in
theorem RPrt82_any (r : Ru) (A : Option Addr) (ca : Nat) (ln : Int) (w : World) (hla : LAt w A ca r.list) (hs : Short r) (hn : r.n ≤ 9223372036854775807 ∧ r.m ≤ 9223372036854775807) (hkd : r.kind = 8) (h8 : r.n = 2) :
  Calls Tryz.prog 58 #[ruV r (.slice A r.list.length ca) ln] w (PrTo r w) := by
 have hds := doc_short hs
 obtain ⟨h1, h2, h3, h4, h5, h6, h7, h9, h10⟩ := hs
 have HR0 : Hid (∃ r0 : Ru, r0 = r) := ⟨r, rfl⟩
 obtain ⟨r0, hr0⟩ := HR0.out
 have HRR := Lib.hid hr0
 rw [← hr0]
 have e1 : ruV r0 (.slice A r0.list.length ca) ln = ruV r (.slice A r.list.length ca) ln := by rw [hr0]
 rw [e1]
 have HLA := Lib.hid hla
 have HDS : Hid ((docS r0).length ≤ 1000000000) := by show _ ≤ _; rw [hr0]; exact hds
 clear hla e1 HR0 hds hr0
 obtain ⟨kd, nm, l, rn, rm, rf, rt, rb, ra, ri⟩ := r
 simp only at h1 h2 h3 h4 h5 h6 h7 h9 h10 hn hkd HLA h8
 dsimp only [ruV]
 have HK9 := Lib.hid hkd
 clear hkd
 have H89 := Lib.hid h8
 clear h8
 have z1 : (bs nm).size ≤ 10000000 := by rw [size_bs]; exact h1
 have z2 : (bs (allP l)).size ≤ 10000000 := by rw [size_bs]; exact h2
 have z3 : (bs rf).size ≤ 10000000 := by rw [size_bs]; exact h3
 have z4 : (bs rt).size ≤ 10000000 := by rw [size_bs]; exact h4
 have z5 : (bs rb).size ≤ 10000000 := by rw [size_bs]; exact h5
 have z6 : (bs ra).size ≤ 10000000 := by rw [size_bs]; exact h6
 have z7 : (bs ri).size ≤ 10000000 := by rw [size_bs]; exact h7
 have z8 : (bs (nS rn)).size ≤ 10000000 := by rw [size_bs]; exact h9
 have z9 : (bs (nS rm)).size ≤ 10000000 := by rw [size_bs]; exact h10
 have AL := Lib.hid (fun W (hW : Below w.heap.size w W) => all_any l A ca W (HLA.out.below hW) (by omega))
 clear h1 h2 h3 h4 h5 h6 h7 h9 h10
 go_enter Tryz.func58, Tryz.ntmps58
 go_upto_region 3 with (fail)
 have R0 := heap_alloc_new w (.cells #[.int .i64 kd, .string (bs nm), .slice A l.length ca, .int .i64 rn, .int .i64 rm, .string (bs rf), .string (bs rt), .string (bs rb), .string (bs ra), .string (bs ri), .int .i64 ln] 92)
 have b0 : Below w.heap.size w (w.alloc (.cells #[.int .i64 kd, .string (bs nm), .slice A l.length ca, .int .i64 rn, .int .i64 rm, .string (bs rf), .string (bs rt), .string (bs rb), .string (bs ra), .string (bs ri), .int .i64 ln] 92)) := (Below.refl _ _).alloc (Nat.le_refl _) _
 have R := Lib.hid R0
 have HB := Lib.hid b0
 clear R0 b0
 generalize w.alloc (.cells #[.int .i64 kd, .string (bs nm), .slice A l.length ca, .int .i64 rn, .int .i64 rm, .string (bs rf), .string (bs rt), .string (bs rb), .string (bs ra), .string (bs ri), .int .i64 ln] 92) = w1 at *
 have q3 := row_q3 R.out
 go_cut [12] (fun x wx => wx = w1 ∧ x = .bool (decide (0 ≤ rn)))
 case first =>
  by_cases h : 0 ≤ rn
  ·go_wp2
   go_meet
   exact ⟨rfl, by rw [decide_eq_true h]⟩
  ·go_wp2
   go_meet
   exact ⟨rfl, by rw [decide_eq_false (by omega)]⟩
 case rest =>
 obtain ⟨hw9, rfl⟩ := hcut
 subst hw9
 obtain ⟨w1, rfl⟩ : ∃ w9 : World, w9 = wc := ⟨_, rfl⟩
 go_upto_if 12 with fail
 go_cut [5] (fun x wx => x = .string (bs (nS rn)) ∧ Hid (Below w1.heap.size w1 wx))
 case first =>
  by_cases h : 0 ≤ rn
  ·rw [decide_eq_true h]
   obtain ⟨q, rfl⟩ : ∃ q : Nat, rn = q := ⟨rn.toNat, by omega⟩
   have DG := Lib.hid (Digits_any q w1 (by omega))
   have HN : Hid (nS (q : Int) = digs q) := by show _ = _; unfold nS; rw [if_pos h, Int.toNat_natCast]
   clear h
   go_wp2_with (go_at_call 88; refine DG.out.mono ?_; rintro e w3 ⟨rfl, hb3⟩)
   go_meet
   exact ⟨by rw [HN.out], hb3⟩
  ·rw [decide_eq_false h]
   have HN : Hid (nS rn = [120]) := by show _ = _; unfold nS; rw [if_neg h]
   clear h
   go_wp2
   go_meet
   exact ⟨by rw [HN.out]; rfl, Below.refl _ _⟩
 case rest =>
 obtain ⟨rfl, HB2⟩ := hcut
 obtain ⟨w2, rfl⟩ : ∃ w9 : World, w9 = wc := ⟨_, rfl⟩
 clear q3
 have R2 := Lib.hid (row_below R.out HB2.out)
 have q4 := row_q4 R2.out
 go_upto_region 5 with (fail)
 go_cut [18] (fun x wx => wx = w2 ∧ x = .bool (decide (0 ≤ rm)))
 case first =>
  by_cases h : 0 ≤ rm
  ·go_wp2
   go_meet
   exact ⟨rfl, by rw [decide_eq_true h]⟩
  ·go_wp2
   go_meet
   exact ⟨rfl, by rw [decide_eq_false (by omega)]⟩
 case rest =>
 obtain ⟨hw9, rfl⟩ := hcut
 subst hw9
 obtain ⟨w2, rfl⟩ : ∃ w9 : World, w9 = wc := ⟨_, rfl⟩
 go_upto_if 18 with fail
 go_cut [6] (fun x wx => x = .string (bs (nS rm)) ∧ Hid (Below w2.heap.size w2 wx))
 case first =>
  by_cases h : 0 ≤ rm
  ·rw [decide_eq_true h]
   obtain ⟨q, rfl⟩ : ∃ q : Nat, rm = q := ⟨rm.toNat, by omega⟩
   have DG := Lib.hid (Digits_any q w2 (by omega))
   have HN : Hid (nS (q : Int) = digs q) := by show _ = _; unfold nS; rw [if_pos h, Int.toNat_natCast]
   clear h
   go_wp2_with (go_at_call 88; refine DG.out.mono ?_; rintro e w3 ⟨rfl, hb3⟩)
   go_meet
   exact ⟨by rw [HN.out], hb3⟩
  ·rw [decide_eq_false h]
   have HN : Hid (nS rm = [120]) := by show _ = _; unfold nS; rw [if_neg h]
   clear h
   go_wp2
   go_meet
   exact ⟨by rw [HN.out]; rfl, Below.refl _ _⟩
 case rest =>
 obtain ⟨rfl, HB3⟩ := hcut
 obtain ⟨w3, rfl⟩ : ∃ w9 : World, w9 = wc := ⟨_, rfl⟩
 clear q4
 have R3 := Lib.hid (row_below R2.out HB3.out)
 have HB4 := Lib.hid (below_then HB.out (below_then HB2.out HB3.out HB2.out.size) HB.out.size)
 have AL0 := Lib.hid AL.out
 generalize hsn : nS rn = sn at *
 generalize hsm : nS rm = sm at *
 have HSN := Lib.hid hsn
 have HSM := Lib.hid hsm
 clear hsn hsm R R2 HB2 HB3 HB AL
 have ALL : Hid (∀ W, Below w3.heap.size w3 W → Calls Tryz.prog 89 #[.slice A l.length ca] W fun e w' => e = .returned (.string (bs (allP l))) ∧ W = w') := fun W hW => AL0.out W (below_then HB4.out hW HB4.out.size)
 clear AL0
 have q0 := row_q0 R3.out; have q1 := row_q1 R3.out; have q2 := row_q2 R3.out; have q3 := row_q3 R3.out; have q5 := row_q5 R3.out; have q6 := row_q6 R3.out; have q7 := row_q7 R3.out; have q8 := row_q8 R3.out; have q9 := row_q9 R3.out
 go_upto_block 0 with (fail)
 go_cut [4] (fun x wx => x = .string (bs (docS r0)) ∧ Hid (Below w3.heap.size w3 wx))
 case first =>
  have e := HK9.out
  clear HK9
  subst e
  have HD : Hid (docS r0 = [115, 116, 97, 116, 101, 32] ++ nm ++ [32] ++ stW rn ++ (if ri = [] then [] else [32, 105, 110, 32] ++ ri)) := by show _ = _; rw [HRR.out]; unfold docS; simp only [reduceIte, Int.reduceEq, HSN.out, HSM.out]
  have e8 := H89.out
  clear H89
  have p1 : ∀ O, (w3.alloc O).cell? ⟨w.heap.size, 1, none⟩ = some (.string (bs nm)) := fun O => (World.cell?_alloc_lt _ _ _ (World.block_lt_of_cell? w3 _ q1)).trans q1
  have p3 : ∀ O, (w3.alloc O).cell? ⟨w.heap.size, 3, none⟩ = some (.int .i64 rn) := fun O => (World.cell?_alloc_lt _ _ _ (World.block_lt_of_cell? w3 _ q3)).trans q3
  have p9 : ∀ O, (w3.alloc O).cell? ⟨w.heap.size, 9, none⟩ = some (.string (bs ri)) := fun O => (World.cell?_alloc_lt _ _ _ (World.block_lt_of_cell? w3 _ q9)).trans q9
  have HW : Hid (stW rn = [97, 108, 108]) := by show _ = _; rw [e8]; rfl
  rw [HW.out] at HD
  subst e8
  go_upto_region 27 with (fail)
  have y0 : ¬ 9223372036854775807 < 6 + (bs nm).size := by omega
  have y1 : ¬ 9223372036854775807 < 6 + (bs nm).size + 1 := by omega
  have y2 : ¬ 9223372036854775807 < 6 + (bs nm).size + 1 + 3 := by omega
  go_region
  by_cases hi : ri = []
  ·have HD2 : Hid (docS r0 = [115, 116, 97, 116, 101, 32] ++ nm ++ [32] ++ [97, 108, 108]) := by show _ = _; rw [HD.out, if_pos hi, List.append_nil]
   subst hi
   have hza : ((bs []).toList != []) = false := by simp only [bne, lit_bs]; rfl
   have hzb : ((bs []).toList == []) = true := by rw [lit_bs]; rfl
   have hzc : (bs []).toList.isEmpty = true := by rw [Lib.toList_data, list_bs]; rfl
   clear HD
   go_wp2
   go_meet
   exact ⟨by rw [HD2.out, ← bs_append, ← bs_append, ← bs_append]; rfl, Lib.hid (by first | exact Below.refl _ _ | exact below_drew (Below.refl _ _) | exact below_drewN (Below.refl _ _) _ | exact (Below.refl _ _).alloc (Nat.le_refl _) _ | exact below_drew ((Below.refl _ _).alloc (Nat.le_refl _) _) | exact (below_drew (Below.refl _ _)).alloc (Nat.le_refl _) _)⟩
  ·have HD2 : Hid (docS r0 = [115, 116, 97, 116, 101, 32] ++ nm ++ [32] ++ [97, 108, 108] ++ ([32, 105, 110, 32] ++ ri)) := by show _ = _; rw [HD.out, if_neg hi]
   have hia : ((bs ri).toList != []) = true := by simp only [bne, lit_bs]; simpa using hi
   have hib : ((bs ri).toList == []) = false := by rw [lit_bs]; simpa using hi
   have hic : (bs ri).toList.isEmpty = false := by rw [Lib.toList_data, list_bs]; simpa using hi
   clear hi
   clear HD
   go_wp2
   go_meet
   exact ⟨by rw [HD2.out, ← bs_append, ← bs_append, ← bs_append, ← bs_append, ← bs_append]; rfl, Lib.hid (by first | exact Below.refl _ _ | exact below_drew (Below.refl _ _) | exact below_drewN (Below.refl _ _) _ | exact (Below.refl _ _).alloc (Nat.le_refl _) _ | exact below_drew ((Below.refl _ _).alloc (Nat.le_refl _) _) | exact (below_drew (Below.refl _ _)).alloc (Nat.le_refl _) _)⟩
 case rest =>
 obtain ⟨rfl, HB5⟩ := hcut
 obtain ⟨w5, rfl⟩ : ∃ w9 : World, w9 = wc := ⟨_, rfl⟩
 clear q0 q1 q2 q3 q5 q6 q7 q8 q9 z1 z2 z3 z4 z5 z6 z7 z8 z9 ALL
 have R5 := Lib.hid (row_below R3.out HB5.out)
 have HB6 := Lib.hid (below_then HB4.out HB5.out HB4.out.size)
 have RP0 := fun W => RParse_any (bs (docS r0)) ln W (by rw [size_bs]; exact HDS.out)
 clear HSN HSM R3 HB4 HB5 hn
 have hSS : Hid (docS r0 = docS r0) := rfl
 generalize hS : docS r0 = S at *
 have HSS := Lib.hid hS
 have RP : Hid (∀ W, Calls Tryz.prog 90 #[.string (bs S), .int .i64 ln] W (DPTo S ln W)) := RP0
 clear hS RP0 hSS HDS
 have q10 := row_q10 R5.out
 cases hp : parseL S with
 | bad c9 k9 =>
  have HP := Lib.hid hp
  clear hp
  go_upto_region 41 with (go_at_call 90; refine (RP.out _).mono ?_; rintro e w6 ⟨hb6, h6⟩; simp only [HP.out, zeroV, zero11, fltV] at h6; obtain ⟨c6, k6, hk6, rfl⟩ := h6; have HK6 := Lib.hid hk6; clear hk6; have HB7 := Lib.hid (below_then HB6.out hb6 HB6.out.size); have R7 := Lib.hid (row_below R5.out hb6); clear hb6)
  have hk6 : (k6 != 0) = true := by simpa using HK6.out
  have hA := heap_alloc_new w6 (.cells #[.int .i64 0, .string ⟨#[]⟩, .slice none 0 0, .int .i64 0, .int .i64 0, .string ⟨#[]⟩, .string ⟨#[]⟩, .string ⟨#[]⟩, .string ⟨#[]⟩, .string ⟨#[]⟩, .int .i64 0] 92)
  have hB := heap_alloc_new (w6.alloc (.cells #[.int .i64 0, .string ⟨#[]⟩, .slice none 0 0, .int .i64 0, .int .i64 0, .string ⟨#[]⟩, .string ⟨#[]⟩, .string ⟨#[]⟩, .string ⟨#[]⟩, .string ⟨#[]⟩, .int .i64 0] 92)) (.cells #[.int .i64 ln, .int .i64 c6, .int .i64 k6] 85)
  have hs6 : (w6.alloc (.cells #[.int .i64 0, .string ⟨#[]⟩, .slice none 0 0, .int .i64 0, .int .i64 0, .string ⟨#[]⟩, .string ⟨#[]⟩, .string ⟨#[]⟩, .string ⟨#[]⟩, .string ⟨#[]⟩, .int .i64 0] 92)).heap.size = w6.heap.size + 1 := by simp
  rw [hs6] at hB
  have hA2 := (heap_alloc_old (w6.alloc (.cells #[.int .i64 0, .string ⟨#[]⟩, .slice none 0 0, .int .i64 0, .int .i64 0, .string ⟨#[]⟩, .string ⟨#[]⟩, .string ⟨#[]⟩, .string ⟨#[]⟩, .string ⟨#[]⟩, .int .i64 0] 92)) (.cells #[.int .i64 ln, .int .i64 c6, .int .i64 k6] 85) (by omega : w6.heap.size < _)).trans hA
  have b7 : Below w6.heap.size w6 ((w6.alloc (.cells #[.int .i64 0, .string ⟨#[]⟩, .slice none 0 0, .int .i64 0, .int .i64 0, .string ⟨#[]⟩, .string ⟨#[]⟩, .string ⟨#[]⟩, .string ⟨#[]⟩, .string ⟨#[]⟩, .int .i64 0] 92)).alloc (.cells #[.int .i64 ln, .int .i64 c6, .int .i64 k6] 85)) := ((Below.refl _ _).alloc (Nat.le_refl _) _).alloc (by simp) _
  generalize (w6.alloc (.cells #[.int .i64 0, .string ⟨#[]⟩, .slice none 0 0, .int .i64 0, .int .i64 0, .string ⟨#[]⟩, .string ⟨#[]⟩, .string ⟨#[]⟩, .string ⟨#[]⟩, .string ⟨#[]⟩, .int .i64 0] 92)).alloc (.cells #[.int .i64 ln, .int .i64 c6, .int .i64 k6] 85) = w7 at *
  clear hA hs6
  have c2 := flt_q2 hB
  go_wp2
  go_ret2
  exact ⟨below_then HB7.out b7 HB7.out.size, .inr ⟨by rw [HSS.out, HP.out]; simp, rfl⟩⟩
 | empty =>
  have HP := Lib.hid hp
  clear hp
  go_upto_region 41 with (go_at_call 90; refine (RP.out _).mono ?_; rintro e w6 ⟨hb6, h6⟩; simp only [HP.out, zeroV, zero11, fltV] at h6; subst h6; have HB7 := Lib.hid (below_then HB6.out hb6 HB6.out.size); have R7 := Lib.hid (row_below R5.out hb6); clear hb6)
  have hA := heap_alloc_new w6 (.cells #[.int .i64 0, .string ⟨#[]⟩, .slice none 0 0, .int .i64 0, .int .i64 0, .string ⟨#[]⟩, .string ⟨#[]⟩, .string ⟨#[]⟩, .string ⟨#[]⟩, .string ⟨#[]⟩, .int .i64 0] 92)
  have hB := heap_alloc_new (w6.alloc (.cells #[.int .i64 0, .string ⟨#[]⟩, .slice none 0 0, .int .i64 0, .int .i64 0, .string ⟨#[]⟩, .string ⟨#[]⟩, .string ⟨#[]⟩, .string ⟨#[]⟩, .string ⟨#[]⟩, .int .i64 0] 92)) (.cells #[.int .i64 0, .int .i64 0, .int .i64 0] 85)
  have hs6 : (w6.alloc (.cells #[.int .i64 0, .string ⟨#[]⟩, .slice none 0 0, .int .i64 0, .int .i64 0, .string ⟨#[]⟩, .string ⟨#[]⟩, .string ⟨#[]⟩, .string ⟨#[]⟩, .string ⟨#[]⟩, .int .i64 0] 92)).heap.size = w6.heap.size + 1 := by simp
  rw [hs6] at hB
  have hA2 := (heap_alloc_old (w6.alloc (.cells #[.int .i64 0, .string ⟨#[]⟩, .slice none 0 0, .int .i64 0, .int .i64 0, .string ⟨#[]⟩, .string ⟨#[]⟩, .string ⟨#[]⟩, .string ⟨#[]⟩, .string ⟨#[]⟩, .int .i64 0] 92)) (.cells #[.int .i64 0, .int .i64 0, .int .i64 0] 85) (by omega : w6.heap.size < _)).trans hA
  have b7 : Below w6.heap.size w6 ((w6.alloc (.cells #[.int .i64 0, .string ⟨#[]⟩, .slice none 0 0, .int .i64 0, .int .i64 0, .string ⟨#[]⟩, .string ⟨#[]⟩, .string ⟨#[]⟩, .string ⟨#[]⟩, .string ⟨#[]⟩, .int .i64 0] 92)).alloc (.cells #[.int .i64 0, .int .i64 0, .int .i64 0] 85)) := ((Below.refl _ _).alloc (Nat.le_refl _) _).alloc (by simp) _
  generalize (w6.alloc (.cells #[.int .i64 0, .string ⟨#[]⟩, .slice none 0 0, .int .i64 0, .int .i64 0, .string ⟨#[]⟩, .string ⟨#[]⟩, .string ⟨#[]⟩, .string ⟨#[]⟩, .string ⟨#[]⟩, .int .i64 0] 92)).alloc (.cells #[.int .i64 0, .int .i64 0, .int .i64 0] 85) = w7 at *
  clear hA hs6
  go_wp2
  go_ret2
  exact ⟨below_then HB7.out b7 HB7.out.size, .inr ⟨by rw [HSS.out, HP.out]; simp, rfl⟩⟩
 | ok y =>
  have HP := Lib.hid hp
  clear hp
  go_upto_region 41 with (go_at_call 90; refine (RP.out _).mono ?_; rintro e w6 ⟨hb6, h6⟩; simp only [HP.out, fltV, ruV] at h6; obtain ⟨v6, rfl, ho6⟩ := h6; obtain ⟨A6, c6, rfl⟩ := own_slice ho6; have HL6 := Lib.hid (lAt_of (listAt_of ho6) (own_len ho6)); clear ho6; have HB7 := Lib.hid (below_then HB6.out hb6 HB6.out.size); have R7 := Lib.hid (row_below R5.out hb6); clear hb6)
  obtain ⟨yk, yn, yl, ym, yq, yf, yt, yb, ya, yi⟩ := y
  have hA := heap_alloc_new w6 (.cells #[.int .i64 yk, .string (bs yn), .slice A6 yl.length c6, .int .i64 ym, .int .i64 yq, .string (bs yf), .string (bs yt), .string (bs yb), .string (bs ya), .string (bs yi), .int .i64 ln] 92)
  have hB := heap_alloc_new (w6.alloc (.cells #[.int .i64 yk, .string (bs yn), .slice A6 yl.length c6, .int .i64 ym, .int .i64 yq, .string (bs yf), .string (bs yt), .string (bs yb), .string (bs ya), .string (bs yi), .int .i64 ln] 92)) (.cells #[.int .i64 0, .int .i64 0, .int .i64 0] 85)
  have hs6 : (w6.alloc (.cells #[.int .i64 yk, .string (bs yn), .slice A6 yl.length c6, .int .i64 ym, .int .i64 yq, .string (bs yf), .string (bs yt), .string (bs yb), .string (bs ya), .string (bs yi), .int .i64 ln] 92)).heap.size = w6.heap.size + 1 := by simp
  rw [hs6] at hB
  have hA2 := (heap_alloc_old (w6.alloc (.cells #[.int .i64 yk, .string (bs yn), .slice A6 yl.length c6, .int .i64 ym, .int .i64 yq, .string (bs yf), .string (bs yt), .string (bs yb), .string (bs ya), .string (bs yi), .int .i64 ln] 92)) (.cells #[.int .i64 0, .int .i64 0, .int .i64 0] 85) (by omega : w6.heap.size < _)).trans hA
  have b7 : Below w6.heap.size w6 ((w6.alloc (.cells #[.int .i64 yk, .string (bs yn), .slice A6 yl.length c6, .int .i64 ym, .int .i64 yq, .string (bs yf), .string (bs yt), .string (bs yb), .string (bs ya), .string (bs yi), .int .i64 ln] 92)).alloc (.cells #[.int .i64 0, .int .i64 0, .int .i64 0] 85)) := ((Below.refl _ _).alloc (Nat.le_refl _) _).alloc (by simp) _
  generalize (w6.alloc (.cells #[.int .i64 yk, .string (bs yn), .slice A6 yl.length c6, .int .i64 ym, .int .i64 yq, .string (bs yf), .string (bs yt), .string (bs yb), .string (bs ya), .string (bs yi), .int .i64 ln] 92)).alloc (.cells #[.int .i64 0, .int .i64 0, .int .i64 0] 85) = w7 at *
  clear hA hs6
  have c2 := flt_q2 hB
  have SM := Lib.hid (RSame_any ⟨yk, yn, yl, ym, yq, yf, yt, yb, ya, yi⟩ ⟨kd, nm, l, rn, rm, rf, rt, rb, ra, ri⟩ A6 A c6 ca ln ln w7 (HL6.out.below b7) (HLA.out.below (below_then HB7.out b7 HB7.out.size)))
  dsimp only [ruV] at SM
  have r7 := row_below R7.out b7
  have p0 := row_q0 hA2; have p1 := row_q1 hA2; have p2 := row_q2 hA2; have p3 := row_q3 hA2; have p4 := row_q4 hA2; have p5 := row_q5 hA2; have p6 := row_q6 hA2; have p7 := row_q7 hA2; have p8 := row_q8 hA2; have p9 := row_q9 hA2; have p10 := row_q10 hA2
  have s0 := row_q0 r7; have s1 := row_q1 r7; have s2 := row_q2 r7; have s3 := row_q3 r7; have s4 := row_q4 r7; have s5 := row_q5 r7; have s6 := row_q6 r7; have s7 := row_q7 r7; have s8 := row_q8 r7; have s9 := row_q9 r7; have s10 := row_q10 r7
  by_cases hyr : (⟨yk, yn, yl, ym, yq, yf, yt, yb, ya, yi⟩ : Ru) = ⟨kd, nm, l, rn, rm, rf, rt, rb, ra, ri⟩
  ·have HY := Lib.hid hyr
   rw [decide_eq_true hyr] at SM
   clear hyr
   go_wp2_with (go_at_call 91; refine SM.out.mono ?_; rintro e w8 ⟨rfl, hb8⟩)
   go_ret2
   exact ⟨below_then HB7.out (below_then b7 hb8 b7.size) HB7.out.size, .inl ⟨by rw [HSS.out, HP.out, HRR.out]; exact congrArg PR.ok HY.out, by rw [HSS.out]; rfl⟩⟩
  ·have HY := Lib.hid hyr
   rw [decide_eq_false hyr] at SM
   clear hyr
   go_wp2_with (go_at_call 91; refine SM.out.mono ?_; rintro e w8 ⟨rfl, hb8⟩)
   go_ret2
   exact ⟨below_then HB7.out (below_then b7 hb8 b7.size) HB7.out.size, .inr ⟨by rw [HSS.out, HP.out, HRR.out]; intro h9; injection h9 with h9; exact HY.out h9, rfl⟩⟩
set_option maxHeartbeats 8000000 in
theorem RPrt83_any (r : Ru) (A : Option Addr) (ca : Nat) (ln : Int) (w : World) (hla : LAt w A ca r.list) (hs : Short r) (hn : r.n ≤ 9223372036854775807 ∧ r.m ≤ 9223372036854775807) (hkd : r.kind = 8) (h8 : r.n = 3) :
  Calls Tryz.prog 58 #[ruV r (.slice A r.list.length ca) ln] w (PrTo r w) := by
 have hds := doc_short hs
 obtain ⟨h1, h2, h3, h4, h5, h6, h7, h9, h10⟩ := hs
 have HR0 : Hid (∃ r0 : Ru, r0 = r) := ⟨r, rfl⟩
 obtain ⟨r0, hr0⟩ := HR0.out
 have HRR := Lib.hid hr0
 rw [← hr0]
 have e1 : ruV r0 (.slice A r0.list.length ca) ln = ruV r (.slice A r.list.length ca) ln := by rw [hr0]
 rw [e1]
 have HLA := Lib.hid hla
 have HDS : Hid ((docS r0).length ≤ 1000000000) := by show _ ≤ _; rw [hr0]; exact hds
 clear hla e1 HR0 hds hr0
 obtain ⟨kd, nm, l, rn, rm, rf, rt, rb, ra, ri⟩ := r
 simp only at h1 h2 h3 h4 h5 h6 h7 h9 h10 hn hkd HLA h8
 dsimp only [ruV]
 have HK9 := Lib.hid hkd
 clear hkd
 have H89 := Lib.hid h8
 clear h8
 have z1 : (bs nm).size ≤ 10000000 := by rw [size_bs]; exact h1
 have z2 : (bs (allP l)).size ≤ 10000000 := by rw [size_bs]; exact h2
 have z3 : (bs rf).size ≤ 10000000 := by rw [size_bs]; exact h3
 have z4 : (bs rt).size ≤ 10000000 := by rw [size_bs]; exact h4
 have z5 : (bs rb).size ≤ 10000000 := by rw [size_bs]; exact h5
 have z6 : (bs ra).size ≤ 10000000 := by rw [size_bs]; exact h6
 have z7 : (bs ri).size ≤ 10000000 := by rw [size_bs]; exact h7
 have z8 : (bs (nS rn)).size ≤ 10000000 := by rw [size_bs]; exact h9
 have z9 : (bs (nS rm)).size ≤ 10000000 := by rw [size_bs]; exact h10
 have AL := Lib.hid (fun W (hW : Below w.heap.size w W) => all_any l A ca W (HLA.out.below hW) (by omega))
 clear h1 h2 h3 h4 h5 h6 h7 h9 h10
 go_enter Tryz.func58, Tryz.ntmps58
 go_upto_region 3 with (fail)
 have R0 := heap_alloc_new w (.cells #[.int .i64 kd, .string (bs nm), .slice A l.length ca, .int .i64 rn, .int .i64 rm, .string (bs rf), .string (bs rt), .string (bs rb), .string (bs ra), .string (bs ri), .int .i64 ln] 92)
 have b0 : Below w.heap.size w (w.alloc (.cells #[.int .i64 kd, .string (bs nm), .slice A l.length ca, .int .i64 rn, .int .i64 rm, .string (bs rf), .string (bs rt), .string (bs rb), .string (bs ra), .string (bs ri), .int .i64 ln] 92)) := (Below.refl _ _).alloc (Nat.le_refl _) _
 have R := Lib.hid R0
 have HB := Lib.hid b0
 clear R0 b0
 generalize w.alloc (.cells #[.int .i64 kd, .string (bs nm), .slice A l.length ca, .int .i64 rn, .int .i64 rm, .string (bs rf), .string (bs rt), .string (bs rb), .string (bs ra), .string (bs ri), .int .i64 ln] 92) = w1 at *
 have q3 := row_q3 R.out
 go_cut [12] (fun x wx => wx = w1 ∧ x = .bool (decide (0 ≤ rn)))
 case first =>
  by_cases h : 0 ≤ rn
  ·go_wp2
   go_meet
   exact ⟨rfl, by rw [decide_eq_true h]⟩
  ·go_wp2
   go_meet
   exact ⟨rfl, by rw [decide_eq_false (by omega)]⟩
 case rest =>
 obtain ⟨hw9, rfl⟩ := hcut
 subst hw9
 obtain ⟨w1, rfl⟩ : ∃ w9 : World, w9 = wc := ⟨_, rfl⟩
 go_upto_if 12 with fail
 go_cut [5] (fun x wx => x = .string (bs (nS rn)) ∧ Hid (Below w1.heap.size w1 wx))
 case first =>
  by_cases h : 0 ≤ rn
  ·rw [decide_eq_true h]
   obtain ⟨q, rfl⟩ : ∃ q : Nat, rn = q := ⟨rn.toNat, by omega⟩
   have DG := Lib.hid (Digits_any q w1 (by omega))
   have HN : Hid (nS (q : Int) = digs q) := by show _ = _; unfold nS; rw [if_pos h, Int.toNat_natCast]
   clear h
   go_wp2_with (go_at_call 88; refine DG.out.mono ?_; rintro e w3 ⟨rfl, hb3⟩)
   go_meet
   exact ⟨by rw [HN.out], hb3⟩
  ·rw [decide_eq_false h]
   have HN : Hid (nS rn = [120]) := by show _ = _; unfold nS; rw [if_neg h]
   clear h
   go_wp2
   go_meet
   exact ⟨by rw [HN.out]; rfl, Below.refl _ _⟩
 case rest =>
 obtain ⟨rfl, HB2⟩ := hcut
 obtain ⟨w2, rfl⟩ : ∃ w9 : World, w9 = wc := ⟨_, rfl⟩
 clear q3
 have R2 := Lib.hid (row_below R.out HB2.out)
 have q4 := row_q4 R2.out
 go_upto_region 5 with (fail)
 go_cut [18] (fun x wx => wx = w2 ∧ x = .bool (decide (0 ≤ rm)))
 case first =>
  by_cases h : 0 ≤ rm
  ·go_wp2
   go_meet
   exact ⟨rfl, by rw [decide_eq_true h]⟩
  ·go_wp2
   go_meet
   exact ⟨rfl, by rw [decide_eq_false (by omega)]⟩
 case rest =>
 obtain ⟨hw9, rfl⟩ := hcut
 subst hw9
 obtain ⟨w2, rfl⟩ : ∃ w9 : World, w9 = wc := ⟨_, rfl⟩
 go_upto_if 18 with fail
 go_cut [6] (fun x wx => x = .string (bs (nS rm)) ∧ Hid (Below w2.heap.size w2 wx))
 case first =>
  by_cases h : 0 ≤ rm
  ·rw [decide_eq_true h]
   obtain ⟨q, rfl⟩ : ∃ q : Nat, rm = q := ⟨rm.toNat, by omega⟩
   have DG := Lib.hid (Digits_any q w2 (by omega))
   have HN : Hid (nS (q : Int) = digs q) := by show _ = _; unfold nS; rw [if_pos h, Int.toNat_natCast]
   clear h
   go_wp2_with (go_at_call 88; refine DG.out.mono ?_; rintro e w3 ⟨rfl, hb3⟩)
   go_meet
   exact ⟨by rw [HN.out], hb3⟩
  ·rw [decide_eq_false h]
   have HN : Hid (nS rm = [120]) := by show _ = _; unfold nS; rw [if_neg h]
   clear h
   go_wp2
   go_meet
   exact ⟨by rw [HN.out]; rfl, Below.refl _ _⟩
 case rest =>
 obtain ⟨rfl, HB3⟩ := hcut
 obtain ⟨w3, rfl⟩ : ∃ w9 : World, w9 = wc := ⟨_, rfl⟩
 clear q4
 have R3 := Lib.hid (row_below R2.out HB3.out)
 have HB4 := Lib.hid (below_then HB.out (below_then HB2.out HB3.out HB2.out.size) HB.out.size)
 have AL0 := Lib.hid AL.out
 generalize hsn : nS rn = sn at *
 generalize hsm : nS rm = sm at *
 have HSN := Lib.hid hsn
 have HSM := Lib.hid hsm
 clear hsn hsm R R2 HB2 HB3 HB AL
 have ALL : Hid (∀ W, Below w3.heap.size w3 W → Calls Tryz.prog 89 #[.slice A l.length ca] W fun e w' => e = .returned (.string (bs (allP l))) ∧ W = w') := fun W hW => AL0.out W (below_then HB4.out hW HB4.out.size)
 clear AL0
 have q0 := row_q0 R3.out; have q1 := row_q1 R3.out; have q2 := row_q2 R3.out; have q3 := row_q3 R3.out; have q5 := row_q5 R3.out; have q6 := row_q6 R3.out; have q7 := row_q7 R3.out; have q8 := row_q8 R3.out; have q9 := row_q9 R3.out
 go_upto_block 0 with (fail)
 go_cut [4] (fun x wx => x = .string (bs (docS r0)) ∧ Hid (Below w3.heap.size w3 wx))
 case first =>
  have e := HK9.out
  clear HK9
  subst e
  have HD : Hid (docS r0 = [115, 116, 97, 116, 101, 32] ++ nm ++ [32] ++ stW rn ++ (if ri = [] then [] else [32, 105, 110, 32] ++ ri)) := by show _ = _; rw [HRR.out]; unfold docS; simp only [reduceIte, Int.reduceEq, HSN.out, HSM.out]
  have e8 := H89.out
  clear H89
  have p1 : ∀ O, (w3.alloc O).cell? ⟨w.heap.size, 1, none⟩ = some (.string (bs nm)) := fun O => (World.cell?_alloc_lt _ _ _ (World.block_lt_of_cell? w3 _ q1)).trans q1
  have p3 : ∀ O, (w3.alloc O).cell? ⟨w.heap.size, 3, none⟩ = some (.int .i64 rn) := fun O => (World.cell?_alloc_lt _ _ _ (World.block_lt_of_cell? w3 _ q3)).trans q3
  have p9 : ∀ O, (w3.alloc O).cell? ⟨w.heap.size, 9, none⟩ = some (.string (bs ri)) := fun O => (World.cell?_alloc_lt _ _ _ (World.block_lt_of_cell? w3 _ q9)).trans q9
  have HW : Hid (stW rn = [112, 97, 115, 116]) := by show _ = _; rw [e8]; rfl
  rw [HW.out] at HD
  subst e8
  go_upto_region 27 with (fail)
  have y0 : ¬ 9223372036854775807 < 6 + (bs nm).size := by omega
  have y1 : ¬ 9223372036854775807 < 6 + (bs nm).size + 1 := by omega
  have y2 : ¬ 9223372036854775807 < 6 + (bs nm).size + 1 + 4 := by omega
  go_region
  by_cases hi : ri = []
  ·have HD2 : Hid (docS r0 = [115, 116, 97, 116, 101, 32] ++ nm ++ [32] ++ [112, 97, 115, 116]) := by show _ = _; rw [HD.out, if_pos hi, List.append_nil]
   subst hi
   have hza : ((bs []).toList != []) = false := by simp only [bne, lit_bs]; rfl
   have hzb : ((bs []).toList == []) = true := by rw [lit_bs]; rfl
   have hzc : (bs []).toList.isEmpty = true := by rw [Lib.toList_data, list_bs]; rfl
   clear HD
   go_wp2
   go_meet
   exact ⟨by rw [HD2.out, ← bs_append, ← bs_append, ← bs_append]; rfl, Lib.hid (by first | exact Below.refl _ _ | exact below_drew (Below.refl _ _) | exact below_drewN (Below.refl _ _) _ | exact (Below.refl _ _).alloc (Nat.le_refl _) _ | exact below_drew ((Below.refl _ _).alloc (Nat.le_refl _) _) | exact (below_drew (Below.refl _ _)).alloc (Nat.le_refl _) _)⟩
  ·have HD2 : Hid (docS r0 = [115, 116, 97, 116, 101, 32] ++ nm ++ [32] ++ [112, 97, 115, 116] ++ ([32, 105, 110, 32] ++ ri)) := by show _ = _; rw [HD.out, if_neg hi]
   have hia : ((bs ri).toList != []) = true := by simp only [bne, lit_bs]; simpa using hi
   have hib : ((bs ri).toList == []) = false := by rw [lit_bs]; simpa using hi
   have hic : (bs ri).toList.isEmpty = false := by rw [Lib.toList_data, list_bs]; simpa using hi
   clear hi
   clear HD
   go_wp2
   go_meet
   exact ⟨by rw [HD2.out, ← bs_append, ← bs_append, ← bs_append, ← bs_append, ← bs_append]; rfl, Lib.hid (by first | exact Below.refl _ _ | exact below_drew (Below.refl _ _) | exact below_drewN (Below.refl _ _) _ | exact (Below.refl _ _).alloc (Nat.le_refl _) _ | exact below_drew ((Below.refl _ _).alloc (Nat.le_refl _) _) | exact (below_drew (Below.refl _ _)).alloc (Nat.le_refl _) _)⟩
 case rest =>
 obtain ⟨rfl, HB5⟩ := hcut
 obtain ⟨w5, rfl⟩ : ∃ w9 : World, w9 = wc := ⟨_, rfl⟩
 clear q0 q1 q2 q3 q5 q6 q7 q8 q9 z1 z2 z3 z4 z5 z6 z7 z8 z9 ALL
 have R5 := Lib.hid (row_below R3.out HB5.out)
 have HB6 := Lib.hid (below_then HB4.out HB5.out HB4.out.size)
 have RP0 := fun W => RParse_any (bs (docS r0)) ln W (by rw [size_bs]; exact HDS.out)
 clear HSN HSM R3 HB4 HB5 hn
 have hSS : Hid (docS r0 = docS r0) := rfl
 generalize hS : docS r0 = S at *
 have HSS := Lib.hid hS
 have RP : Hid (∀ W, Calls Tryz.prog 90 #[.string (bs S), .int .i64 ln] W (DPTo S ln W)) := RP0
 clear hS RP0 hSS HDS
 have q10 := row_q10 R5.out
 cases hp : parseL S with
 | bad c9 k9 =>
  have HP := Lib.hid hp
  clear hp
  go_upto_region 41 with (go_at_call 90; refine (RP.out _).mono ?_; rintro e w6 ⟨hb6, h6⟩; simp only [HP.out, zeroV, zero11, fltV] at h6; obtain ⟨c6, k6, hk6, rfl⟩ := h6; have HK6 := Lib.hid hk6; clear hk6; have HB7 := Lib.hid (below_then HB6.out hb6 HB6.out.size); have R7 := Lib.hid (row_below R5.out hb6); clear hb6)
  have hk6 : (k6 != 0) = true := by simpa using HK6.out
  have hA := heap_alloc_new w6 (.cells #[.int .i64 0, .string ⟨#[]⟩, .slice none 0 0, .int .i64 0, .int .i64 0, .string ⟨#[]⟩, .string ⟨#[]⟩, .string ⟨#[]⟩, .string ⟨#[]⟩, .string ⟨#[]⟩, .int .i64 0] 92)
  have hB := heap_alloc_new (w6.alloc (.cells #[.int .i64 0, .string ⟨#[]⟩, .slice none 0 0, .int .i64 0, .int .i64 0, .string ⟨#[]⟩, .string ⟨#[]⟩, .string ⟨#[]⟩, .string ⟨#[]⟩, .string ⟨#[]⟩, .int .i64 0] 92)) (.cells #[.int .i64 ln, .int .i64 c6, .int .i64 k6] 85)
  have hs6 : (w6.alloc (.cells #[.int .i64 0, .string ⟨#[]⟩, .slice none 0 0, .int .i64 0, .int .i64 0, .string ⟨#[]⟩, .string ⟨#[]⟩, .string ⟨#[]⟩, .string ⟨#[]⟩, .string ⟨#[]⟩, .int .i64 0] 92)).heap.size = w6.heap.size + 1 := by simp
  rw [hs6] at hB
  have hA2 := (heap_alloc_old (w6.alloc (.cells #[.int .i64 0, .string ⟨#[]⟩, .slice none 0 0, .int .i64 0, .int .i64 0, .string ⟨#[]⟩, .string ⟨#[]⟩, .string ⟨#[]⟩, .string ⟨#[]⟩, .string ⟨#[]⟩, .int .i64 0] 92)) (.cells #[.int .i64 ln, .int .i64 c6, .int .i64 k6] 85) (by omega : w6.heap.size < _)).trans hA
  have b7 : Below w6.heap.size w6 ((w6.alloc (.cells #[.int .i64 0, .string ⟨#[]⟩, .slice none 0 0, .int .i64 0, .int .i64 0, .string ⟨#[]⟩, .string ⟨#[]⟩, .string ⟨#[]⟩, .string ⟨#[]⟩, .string ⟨#[]⟩, .int .i64 0] 92)).alloc (.cells #[.int .i64 ln, .int .i64 c6, .int .i64 k6] 85)) := ((Below.refl _ _).alloc (Nat.le_refl _) _).alloc (by simp) _
  generalize (w6.alloc (.cells #[.int .i64 0, .string ⟨#[]⟩, .slice none 0 0, .int .i64 0, .int .i64 0, .string ⟨#[]⟩, .string ⟨#[]⟩, .string ⟨#[]⟩, .string ⟨#[]⟩, .string ⟨#[]⟩, .int .i64 0] 92)).alloc (.cells #[.int .i64 ln, .int .i64 c6, .int .i64 k6] 85) = w7 at *
  clear hA hs6
  have c2 := flt_q2 hB
  go_wp2
  go_ret2
  exact ⟨below_then HB7.out b7 HB7.out.size, .inr ⟨by rw [HSS.out, HP.out]; simp, rfl⟩⟩
 | empty =>
  have HP := Lib.hid hp
  clear hp
  go_upto_region 41 with (go_at_call 90; refine (RP.out _).mono ?_; rintro e w6 ⟨hb6, h6⟩; simp only [HP.out, zeroV, zero11, fltV] at h6; subst h6; have HB7 := Lib.hid (below_then HB6.out hb6 HB6.out.size); have R7 := Lib.hid (row_below R5.out hb6); clear hb6)
  have hA := heap_alloc_new w6 (.cells #[.int .i64 0, .string ⟨#[]⟩, .slice none 0 0, .int .i64 0, .int .i64 0, .string ⟨#[]⟩, .string ⟨#[]⟩, .string ⟨#[]⟩, .string ⟨#[]⟩, .string ⟨#[]⟩, .int .i64 0] 92)
  have hB := heap_alloc_new (w6.alloc (.cells #[.int .i64 0, .string ⟨#[]⟩, .slice none 0 0, .int .i64 0, .int .i64 0, .string ⟨#[]⟩, .string ⟨#[]⟩, .string ⟨#[]⟩, .string ⟨#[]⟩, .string ⟨#[]⟩, .int .i64 0] 92)) (.cells #[.int .i64 0, .int .i64 0, .int .i64 0] 85)
  have hs6 : (w6.alloc (.cells #[.int .i64 0, .string ⟨#[]⟩, .slice none 0 0, .int .i64 0, .int .i64 0, .string ⟨#[]⟩, .string ⟨#[]⟩, .string ⟨#[]⟩, .string ⟨#[]⟩, .string ⟨#[]⟩, .int .i64 0] 92)).heap.size = w6.heap.size + 1 := by simp
  rw [hs6] at hB
  have hA2 := (heap_alloc_old (w6.alloc (.cells #[.int .i64 0, .string ⟨#[]⟩, .slice none 0 0, .int .i64 0, .int .i64 0, .string ⟨#[]⟩, .string ⟨#[]⟩, .string ⟨#[]⟩, .string ⟨#[]⟩, .string ⟨#[]⟩, .int .i64 0] 92)) (.cells #[.int .i64 0, .int .i64 0, .int .i64 0] 85) (by omega : w6.heap.size < _)).trans hA
  have b7 : Below w6.heap.size w6 ((w6.alloc (.cells #[.int .i64 0, .string ⟨#[]⟩, .slice none 0 0, .int .i64 0, .int .i64 0, .string ⟨#[]⟩, .string ⟨#[]⟩, .string ⟨#[]⟩, .string ⟨#[]⟩, .string ⟨#[]⟩, .int .i64 0] 92)).alloc (.cells #[.int .i64 0, .int .i64 0, .int .i64 0] 85)) := ((Below.refl _ _).alloc (Nat.le_refl _) _).alloc (by simp) _
  generalize (w6.alloc (.cells #[.int .i64 0, .string ⟨#[]⟩, .slice none 0 0, .int .i64 0, .int .i64 0, .string ⟨#[]⟩, .string ⟨#[]⟩, .string ⟨#[]⟩, .string ⟨#[]⟩, .string ⟨#[]⟩, .int .i64 0] 92)).alloc (.cells #[.int .i64 0, .int .i64 0, .int .i64 0] 85) = w7 at *
  clear hA hs6
  go_wp2
  go_ret2
  exact ⟨below_then HB7.out b7 HB7.out.size, .inr ⟨by rw [HSS.out, HP.out]; simp, rfl⟩⟩
 | ok y =>
  have HP := Lib.hid hp
  clear hp
  go_upto_region 41 with (go_at_call 90; refine (RP.out _).mono ?_; rintro e w6 ⟨hb6, h6⟩; simp only [HP.out, fltV, ruV] at h6; obtain ⟨v6, rfl, ho6⟩ := h6; obtain ⟨A6, c6, rfl⟩ := own_slice ho6; have HL6 := Lib.hid (lAt_of (listAt_of ho6) (own_len ho6)); clear ho6; have HB7 := Lib.hid (below_then HB6.out hb6 HB6.out.size); have R7 := Lib.hid (row_below R5.out hb6); clear hb6)
  obtain ⟨yk, yn, yl, ym, yq, yf, yt, yb, ya, yi⟩ := y
  have hA := heap_alloc_new w6 (.cells #[.int .i64 yk, .string (bs yn), .slice A6 yl.length c6, .int .i64 ym, .int .i64 yq, .string (bs yf), .string (bs yt), .string (bs yb), .string (bs ya), .string (bs yi), .int .i64 ln] 92)
  have hB := heap_alloc_new (w6.alloc (.cells #[.int .i64 yk, .string (bs yn), .slice A6 yl.length c6, .int .i64 ym, .int .i64 yq, .string (bs yf), .string (bs yt), .string (bs yb), .string (bs ya), .string (bs yi), .int .i64 ln] 92)) (.cells #[.int .i64 0, .int .i64 0, .int .i64 0] 85)
  have hs6 : (w6.alloc (.cells #[.int .i64 yk, .string (bs yn), .slice A6 yl.length c6, .int .i64 ym, .int .i64 yq, .string (bs yf), .string (bs yt), .string (bs yb), .string (bs ya), .string (bs yi), .int .i64 ln] 92)).heap.size = w6.heap.size + 1 := by simp
  rw [hs6] at hB
  have hA2 := (heap_alloc_old (w6.alloc (.cells #[.int .i64 yk, .string (bs yn), .slice A6 yl.length c6, .int .i64 ym, .int .i64 yq, .string (bs yf), .string (bs yt), .string (bs yb), .string (bs ya), .string (bs yi), .int .i64 ln] 92)) (.cells #[.int .i64 0, .int .i64 0, .int .i64 0] 85) (by omega : w6.heap.size < _)).trans hA
  have b7 : Below w6.heap.size w6 ((w6.alloc (.cells #[.int .i64 yk, .string (bs yn), .slice A6 yl.length c6, .int .i64 ym, .int .i64 yq, .string (bs yf), .string (bs yt), .string (bs yb), .string (bs ya), .string (bs yi), .int .i64 ln] 92)).alloc (.cells #[.int .i64 0, .int .i64 0, .int .i64 0] 85)) := ((Below.refl _ _).alloc (Nat.le_refl _) _).alloc (by simp) _
  generalize (w6.alloc (.cells #[.int .i64 yk, .string (bs yn), .slice A6 yl.length c6, .int .i64 ym, .int .i64 yq, .string (bs yf), .string (bs yt), .string (bs yb), .string (bs ya), .string (bs yi), .int .i64 ln] 92)).alloc (.cells #[.int .i64 0, .int .i64 0, .int .i64 0] 85) = w7 at *
  clear hA hs6
  have c2 := flt_q2 hB
  have SM := Lib.hid (RSame_any ⟨yk, yn, yl, ym, yq, yf, yt, yb, ya, yi⟩ ⟨kd, nm, l, rn, rm, rf, rt, rb, ra, ri⟩ A6 A c6 ca ln ln w7 (HL6.out.below b7) (HLA.out.below (below_then HB7.out b7 HB7.out.size)))
  dsimp only [ruV] at SM
  have r7 := row_below R7.out b7
  have p0 := row_q0 hA2; have p1 := row_q1 hA2; have p2 := row_q2 hA2; have p3 := row_q3 hA2; have p4 := row_q4 hA2; have p5 := row_q5 hA2; have p6 := row_q6 hA2; have p7 := row_q7 hA2; have p8 := row_q8 hA2; have p9 := row_q9 hA2; have p10 := row_q10 hA2
  have s0 := row_q0 r7; have s1 := row_q1 r7; have s2 := row_q2 r7; have s3 := row_q3 r7; have s4 := row_q4 r7; have s5 := row_q5 r7; have s6 := row_q6 r7; have s7 := row_q7 r7; have s8 := row_q8 r7; have s9 := row_q9 r7; have s10 := row_q10 r7
  by_cases hyr : (⟨yk, yn, yl, ym, yq, yf, yt, yb, ya, yi⟩ : Ru) = ⟨kd, nm, l, rn, rm, rf, rt, rb, ra, ri⟩
  ·have HY := Lib.hid hyr
   rw [decide_eq_true hyr] at SM
   clear hyr
   go_wp2_with (go_at_call 91; refine SM.out.mono ?_; rintro e w8 ⟨rfl, hb8⟩)
   go_ret2
   exact ⟨below_then HB7.out (below_then b7 hb8 b7.size) HB7.out.size, .inl ⟨by rw [HSS.out, HP.out, HRR.out]; exact congrArg PR.ok HY.out, by rw [HSS.out]; rfl⟩⟩
  ·have HY := Lib.hid hyr
   rw [decide_eq_false hyr] at SM
   clear hyr
   go_wp2_with (go_at_call 91; refine SM.out.mono ?_; rintro e w8 ⟨rfl, hb8⟩)
   go_ret2
   exact ⟨below_then HB7.out (below_then b7 hb8 b7.size) HB7.out.size, .inr ⟨by rw [HSS.out, HP.out, HRR.out]; intro h9; injection h9 with h9; exact HY.out h9, rfl⟩⟩
set_option maxHeartbeats 8000000 in
theorem RPrt84_any (r : Ru) (A : Option Addr) (ca : Nat) (ln : Int) (w : World) (hla : LAt w A ca r.list) (hs : Short r) (hn : r.n ≤ 9223372036854775807 ∧ r.m ≤ 9223372036854775807) (hkd : r.kind = 8) (h8 : r.n = 4) :
  Calls Tryz.prog 58 #[ruV r (.slice A r.list.length ca) ln] w (PrTo r w) := by
 have hds := doc_short hs
 obtain ⟨h1, h2, h3, h4, h5, h6, h7, h9, h10⟩ := hs
 have HR0 : Hid (∃ r0 : Ru, r0 = r) := ⟨r, rfl⟩
 obtain ⟨r0, hr0⟩ := HR0.out
 have HRR := Lib.hid hr0
 rw [← hr0]
 have e1 : ruV r0 (.slice A r0.list.length ca) ln = ruV r (.slice A r.list.length ca) ln := by rw [hr0]
 rw [e1]
 have HLA := Lib.hid hla
 have HDS : Hid ((docS r0).length ≤ 1000000000) := by show _ ≤ _; rw [hr0]; exact hds
 clear hla e1 HR0 hds hr0
 obtain ⟨kd, nm, l, rn, rm, rf, rt, rb, ra, ri⟩ := r
 simp only at h1 h2 h3 h4 h5 h6 h7 h9 h10 hn hkd HLA h8
 dsimp only [ruV]
 have HK9 := Lib.hid hkd
 clear hkd
 have H89 := Lib.hid h8
 clear h8
 have z1 : (bs nm).size ≤ 10000000 := by rw [size_bs]; exact h1
 have z2 : (bs (allP l)).size ≤ 10000000 := by rw [size_bs]; exact h2
 have z3 : (bs rf).size ≤ 10000000 := by rw [size_bs]; exact h3
 have z4 : (bs rt).size ≤ 10000000 := by rw [size_bs]; exact h4
 have z5 : (bs rb).size ≤ 10000000 := by rw [size_bs]; exact h5
 have z6 : (bs ra).size ≤ 10000000 := by rw [size_bs]; exact h6
 have z7 : (bs ri).size ≤ 10000000 := by rw [size_bs]; exact h7
 have z8 : (bs (nS rn)).size ≤ 10000000 := by rw [size_bs]; exact h9
 have z9 : (bs (nS rm)).size ≤ 10000000 := by rw [size_bs]; exact h10
 have AL := Lib.hid (fun W (hW : Below w.heap.size w W) => all_any l A ca W (HLA.out.below hW) (by omega))
 clear h1 h2 h3 h4 h5 h6 h7 h9 h10
 go_enter Tryz.func58, Tryz.ntmps58
 go_upto_region 3 with (fail)
 have R0 := heap_alloc_new w (.cells #[.int .i64 kd, .string (bs nm), .slice A l.length ca, .int .i64 rn, .int .i64 rm, .string (bs rf), .string (bs rt), .string (bs rb), .string (bs ra), .string (bs ri), .int .i64 ln] 92)
 have b0 : Below w.heap.size w (w.alloc (.cells #[.int .i64 kd, .string (bs nm), .slice A l.length ca, .int .i64 rn, .int .i64 rm, .string (bs rf), .string (bs rt), .string (bs rb), .string (bs ra), .string (bs ri), .int .i64 ln] 92)) := (Below.refl _ _).alloc (Nat.le_refl _) _
 have R := Lib.hid R0
 have HB := Lib.hid b0
 clear R0 b0
 generalize w.alloc (.cells #[.int .i64 kd, .string (bs nm), .slice A l.length ca, .int .i64 rn, .int .i64 rm, .string (bs rf), .string (bs rt), .string (bs rb), .string (bs ra), .string (bs ri), .int .i64 ln] 92) = w1 at *
 have q3 := row_q3 R.out
 go_cut [12] (fun x wx => wx = w1 ∧ x = .bool (decide (0 ≤ rn)))
 case first =>
  by_cases h : 0 ≤ rn
  ·go_wp2
   go_meet
   exact ⟨rfl, by rw [decide_eq_true h]⟩
  ·go_wp2
   go_meet
   exact ⟨rfl, by rw [decide_eq_false (by omega)]⟩
 case rest =>
 obtain ⟨hw9, rfl⟩ := hcut
 subst hw9
 obtain ⟨w1, rfl⟩ : ∃ w9 : World, w9 = wc := ⟨_, rfl⟩
 go_upto_if 12 with fail
 go_cut [5] (fun x wx => x = .string (bs (nS rn)) ∧ Hid (Below w1.heap.size w1 wx))
 case first =>
  by_cases h : 0 ≤ rn
  ·rw [decide_eq_true h]
   obtain ⟨q, rfl⟩ : ∃ q : Nat, rn = q := ⟨rn.toNat, by omega⟩
   have DG := Lib.hid (Digits_any q w1 (by omega))
   have HN : Hid (nS (q : Int) = digs q) := by show _ = _; unfold nS; rw [if_pos h, Int.toNat_natCast]
   clear h
   go_wp2_with (go_at_call 88; refine DG.out.mono ?_; rintro e w3 ⟨rfl, hb3⟩)
   go_meet
   exact ⟨by rw [HN.out], hb3⟩
  ·rw [decide_eq_false h]
   have HN : Hid (nS rn = [120]) := by show _ = _; unfold nS; rw [if_neg h]
   clear h
   go_wp2
   go_meet
   exact ⟨by rw [HN.out]; rfl, Below.refl _ _⟩
 case rest =>
 obtain ⟨rfl, HB2⟩ := hcut
 obtain ⟨w2, rfl⟩ : ∃ w9 : World, w9 = wc := ⟨_, rfl⟩
 clear q3
 have R2 := Lib.hid (row_below R.out HB2.out)
 have q4 := row_q4 R2.out
 go_upto_region 5 with (fail)
 go_cut [18] (fun x wx => wx = w2 ∧ x = .bool (decide (0 ≤ rm)))
 case first =>
  by_cases h : 0 ≤ rm
  ·go_wp2
   go_meet
   exact ⟨rfl, by rw [decide_eq_true h]⟩
  ·go_wp2
   go_meet
   exact ⟨rfl, by rw [decide_eq_false (by omega)]⟩
 case rest =>
 obtain ⟨hw9, rfl⟩ := hcut
 subst hw9
 obtain ⟨w2, rfl⟩ : ∃ w9 : World, w9 = wc := ⟨_, rfl⟩
 go_upto_if 18 with fail
 go_cut [6] (fun x wx => x = .string (bs (nS rm)) ∧ Hid (Below w2.heap.size w2 wx))
 case first =>
  by_cases h : 0 ≤ rm
  ·rw [decide_eq_true h]
   obtain ⟨q, rfl⟩ : ∃ q : Nat, rm = q := ⟨rm.toNat, by omega⟩
   have DG := Lib.hid (Digits_any q w2 (by omega))
   have HN : Hid (nS (q : Int) = digs q) := by show _ = _; unfold nS; rw [if_pos h, Int.toNat_natCast]
   clear h
   go_wp2_with (go_at_call 88; refine DG.out.mono ?_; rintro e w3 ⟨rfl, hb3⟩)
   go_meet
   exact ⟨by rw [HN.out], hb3⟩
  ·rw [decide_eq_false h]
   have HN : Hid (nS rm = [120]) := by show _ = _; unfold nS; rw [if_neg h]
   clear h
   go_wp2
   go_meet
   exact ⟨by rw [HN.out]; rfl, Below.refl _ _⟩
 case rest =>
 obtain ⟨rfl, HB3⟩ := hcut
 obtain ⟨w3, rfl⟩ : ∃ w9 : World, w9 = wc := ⟨_, rfl⟩
 clear q4
 have R3 := Lib.hid (row_below R2.out HB3.out)
 have HB4 := Lib.hid (below_then HB.out (below_then HB2.out HB3.out HB2.out.size) HB.out.size)
 have AL0 := Lib.hid AL.out
 generalize hsn : nS rn = sn at *
 generalize hsm : nS rm = sm at *
 have HSN := Lib.hid hsn
 have HSM := Lib.hid hsm
 clear hsn hsm R R2 HB2 HB3 HB AL
 have ALL : Hid (∀ W, Below w3.heap.size w3 W → Calls Tryz.prog 89 #[.slice A l.length ca] W fun e w' => e = .returned (.string (bs (allP l))) ∧ W = w') := fun W hW => AL0.out W (below_then HB4.out hW HB4.out.size)
 clear AL0
 have q0 := row_q0 R3.out; have q1 := row_q1 R3.out; have q2 := row_q2 R3.out; have q3 := row_q3 R3.out; have q5 := row_q5 R3.out; have q6 := row_q6 R3.out; have q7 := row_q7 R3.out; have q8 := row_q8 R3.out; have q9 := row_q9 R3.out
 go_upto_block 0 with (fail)
 go_cut [4] (fun x wx => x = .string (bs (docS r0)) ∧ Hid (Below w3.heap.size w3 wx))
 case first =>
  have e := HK9.out
  clear HK9
  subst e
  have HD : Hid (docS r0 = [115, 116, 97, 116, 101, 32] ++ nm ++ [32] ++ stW rn ++ (if ri = [] then [] else [32, 105, 110, 32] ++ ri)) := by show _ = _; rw [HRR.out]; unfold docS; simp only [reduceIte, Int.reduceEq, HSN.out, HSM.out]
  have e8 := H89.out
  clear H89
  have p1 : ∀ O, (w3.alloc O).cell? ⟨w.heap.size, 1, none⟩ = some (.string (bs nm)) := fun O => (World.cell?_alloc_lt _ _ _ (World.block_lt_of_cell? w3 _ q1)).trans q1
  have p3 : ∀ O, (w3.alloc O).cell? ⟨w.heap.size, 3, none⟩ = some (.int .i64 rn) := fun O => (World.cell?_alloc_lt _ _ _ (World.block_lt_of_cell? w3 _ q3)).trans q3
  have p9 : ∀ O, (w3.alloc O).cell? ⟨w.heap.size, 9, none⟩ = some (.string (bs ri)) := fun O => (World.cell?_alloc_lt _ _ _ (World.block_lt_of_cell? w3 _ q9)).trans q9
  have HW : Hid (stW rn = [100, 101, 101, 112]) := by show _ = _; rw [e8]; rfl
  rw [HW.out] at HD
  subst e8
  go_upto_region 27 with (fail)
  have y0 : ¬ 9223372036854775807 < 6 + (bs nm).size := by omega
  have y1 : ¬ 9223372036854775807 < 6 + (bs nm).size + 1 := by omega
  have y2 : ¬ 9223372036854775807 < 6 + (bs nm).size + 1 + 4 := by omega
  go_region
  by_cases hi : ri = []
  ·have HD2 : Hid (docS r0 = [115, 116, 97, 116, 101, 32] ++ nm ++ [32] ++ [100, 101, 101, 112]) := by show _ = _; rw [HD.out, if_pos hi, List.append_nil]
   subst hi
   have hza : ((bs []).toList != []) = false := by simp only [bne, lit_bs]; rfl
   have hzb : ((bs []).toList == []) = true := by rw [lit_bs]; rfl
   have hzc : (bs []).toList.isEmpty = true := by rw [Lib.toList_data, list_bs]; rfl
   clear HD
   go_wp2
   go_meet
   exact ⟨by rw [HD2.out, ← bs_append, ← bs_append, ← bs_append]; rfl, Lib.hid (by first | exact Below.refl _ _ | exact below_drew (Below.refl _ _) | exact below_drewN (Below.refl _ _) _ | exact (Below.refl _ _).alloc (Nat.le_refl _) _ | exact below_drew ((Below.refl _ _).alloc (Nat.le_refl _) _) | exact (below_drew (Below.refl _ _)).alloc (Nat.le_refl _) _)⟩
  ·have HD2 : Hid (docS r0 = [115, 116, 97, 116, 101, 32] ++ nm ++ [32] ++ [100, 101, 101, 112] ++ ([32, 105, 110, 32] ++ ri)) := by show _ = _; rw [HD.out, if_neg hi]
   have hia : ((bs ri).toList != []) = true := by simp only [bne, lit_bs]; simpa using hi
   have hib : ((bs ri).toList == []) = false := by rw [lit_bs]; simpa using hi
   have hic : (bs ri).toList.isEmpty = false := by rw [Lib.toList_data, list_bs]; simpa using hi
   clear hi
   clear HD
   go_wp2
   go_meet
   exact ⟨by rw [HD2.out, ← bs_append, ← bs_append, ← bs_append, ← bs_append, ← bs_append]; rfl, Lib.hid (by first | exact Below.refl _ _ | exact below_drew (Below.refl _ _) | exact below_drewN (Below.refl _ _) _ | exact (Below.refl _ _).alloc (Nat.le_refl _) _ | exact below_drew ((Below.refl _ _).alloc (Nat.le_refl _) _) | exact (below_drew (Below.refl _ _)).alloc (Nat.le_refl _) _)⟩
 case rest =>
 obtain ⟨rfl, HB5⟩ := hcut
 obtain ⟨w5, rfl⟩ : ∃ w9 : World, w9 = wc := ⟨_, rfl⟩
 clear q0 q1 q2 q3 q5 q6 q7 q8 q9 z1 z2 z3 z4 z5 z6 z7 z8 z9 ALL
 have R5 := Lib.hid (row_below R3.out HB5.out)
 have HB6 := Lib.hid (below_then HB4.out HB5.out HB4.out.size)
 have RP0 := fun W => RParse_any (bs (docS r0)) ln W (by rw [size_bs]; exact HDS.out)
 clear HSN HSM R3 HB4 HB5 hn
 have hSS : Hid (docS r0 = docS r0) := rfl
 generalize hS : docS r0 = S at *
 have HSS := Lib.hid hS
 have RP : Hid (∀ W, Calls Tryz.prog 90 #[.string (bs S), .int .i64 ln] W (DPTo S ln W)) := RP0
 clear hS RP0 hSS HDS
 have q10 := row_q10 R5.out
 cases hp : parseL S with
 | bad c9 k9 =>
  have HP := Lib.hid hp
  clear hp
  go_upto_region 41 with (go_at_call 90; refine (RP.out _).mono ?_; rintro e w6 ⟨hb6, h6⟩; simp only [HP.out, zeroV, zero11, fltV] at h6; obtain ⟨c6, k6, hk6, rfl⟩ := h6; have HK6 := Lib.hid hk6; clear hk6; have HB7 := Lib.hid (below_then HB6.out hb6 HB6.out.size); have R7 := Lib.hid (row_below R5.out hb6); clear hb6)
  have hk6 : (k6 != 0) = true := by simpa using HK6.out
  have hA := heap_alloc_new w6 (.cells #[.int .i64 0, .string ⟨#[]⟩, .slice none 0 0, .int .i64 0, .int .i64 0, .string ⟨#[]⟩, .string ⟨#[]⟩, .string ⟨#[]⟩, .string ⟨#[]⟩, .string ⟨#[]⟩, .int .i64 0] 92)
  have hB := heap_alloc_new (w6.alloc (.cells #[.int .i64 0, .string ⟨#[]⟩, .slice none 0 0, .int .i64 0, .int .i64 0, .string ⟨#[]⟩, .string ⟨#[]⟩, .string ⟨#[]⟩, .string ⟨#[]⟩, .string ⟨#[]⟩, .int .i64 0] 92)) (.cells #[.int .i64 ln, .int .i64 c6, .int .i64 k6] 85)
  have hs6 : (w6.alloc (.cells #[.int .i64 0, .string ⟨#[]⟩, .slice none 0 0, .int .i64 0, .int .i64 0, .string ⟨#[]⟩, .string ⟨#[]⟩, .string ⟨#[]⟩, .string ⟨#[]⟩, .string ⟨#[]⟩, .int .i64 0] 92)).heap.size = w6.heap.size + 1 := by simp
  rw [hs6] at hB
  have hA2 := (heap_alloc_old (w6.alloc (.cells #[.int .i64 0, .string ⟨#[]⟩, .slice none 0 0, .int .i64 0, .int .i64 0, .string ⟨#[]⟩, .string ⟨#[]⟩, .string ⟨#[]⟩, .string ⟨#[]⟩, .string ⟨#[]⟩, .int .i64 0] 92)) (.cells #[.int .i64 ln, .int .i64 c6, .int .i64 k6] 85) (by omega : w6.heap.size < _)).trans hA
  have b7 : Below w6.heap.size w6 ((w6.alloc (.cells #[.int .i64 0, .string ⟨#[]⟩, .slice none 0 0, .int .i64 0, .int .i64 0, .string ⟨#[]⟩, .string ⟨#[]⟩, .string ⟨#[]⟩, .string ⟨#[]⟩, .string ⟨#[]⟩, .int .i64 0] 92)).alloc (.cells #[.int .i64 ln, .int .i64 c6, .int .i64 k6] 85)) := ((Below.refl _ _).alloc (Nat.le_refl _) _).alloc (by simp) _
  generalize (w6.alloc (.cells #[.int .i64 0, .string ⟨#[]⟩, .slice none 0 0, .int .i64 0, .int .i64 0, .string ⟨#[]⟩, .string ⟨#[]⟩, .string ⟨#[]⟩, .string ⟨#[]⟩, .string ⟨#[]⟩, .int .i64 0] 92)).alloc (.cells #[.int .i64 ln, .int .i64 c6, .int .i64 k6] 85) = w7 at *
  clear hA hs6
  have c2 := flt_q2 hB
  go_wp2
  go_ret2
  exact ⟨below_then HB7.out b7 HB7.out.size, .inr ⟨by rw [HSS.out, HP.out]; simp, rfl⟩⟩
 | empty =>
  have HP := Lib.hid hp
  clear hp
  go_upto_region 41 with (go_at_call 90; refine (RP.out _).mono ?_; rintro e w6 ⟨hb6, h6⟩; simp only [HP.out, zeroV, zero11, fltV] at h6; subst h6; have HB7 := Lib.hid (below_then HB6.out hb6 HB6.out.size); have R7 := Lib.hid (row_below R5.out hb6); clear hb6)
  have hA := heap_alloc_new w6 (.cells #[.int .i64 0, .string ⟨#[]⟩, .slice none 0 0, .int .i64 0, .int .i64 0, .string ⟨#[]⟩, .string ⟨#[]⟩, .string ⟨#[]⟩, .string ⟨#[]⟩, .string ⟨#[]⟩, .int .i64 0] 92)
  have hB := heap_alloc_new (w6.alloc (.cells #[.int .i64 0, .string ⟨#[]⟩, .slice none 0 0, .int .i64 0, .int .i64 0, .string ⟨#[]⟩, .string ⟨#[]⟩, .string ⟨#[]⟩, .string ⟨#[]⟩, .string ⟨#[]⟩, .int .i64 0] 92)) (.cells #[.int .i64 0, .int .i64 0, .int .i64 0] 85)
  have hs6 : (w6.alloc (.cells #[.int .i64 0, .string ⟨#[]⟩, .slice none 0 0, .int .i64 0, .int .i64 0, .string ⟨#[]⟩, .string ⟨#[]⟩, .string ⟨#[]⟩, .string ⟨#[]⟩, .string ⟨#[]⟩, .int .i64 0] 92)).heap.size = w6.heap.size + 1 := by simp
  rw [hs6] at hB
  have hA2 := (heap_alloc_old (w6.alloc (.cells #[.int .i64 0, .string ⟨#[]⟩, .slice none 0 0, .int .i64 0, .int .i64 0, .string ⟨#[]⟩, .string ⟨#[]⟩, .string ⟨#[]⟩, .string ⟨#[]⟩, .string ⟨#[]⟩, .int .i64 0] 92)) (.cells #[.int .i64 0, .int .i64 0, .int .i64 0] 85) (by omega : w6.heap.size < _)).trans hA
  have b7 : Below w6.heap.size w6 ((w6.alloc (.cells #[.int .i64 0, .string ⟨#[]⟩, .slice none 0 0, .int .i64 0, .int .i64 0, .string ⟨#[]⟩, .string ⟨#[]⟩, .string ⟨#[]⟩, .string ⟨#[]⟩, .string ⟨#[]⟩, .int .i64 0] 92)).alloc (.cells #[.int .i64 0, .int .i64 0, .int .i64 0] 85)) := ((Below.refl _ _).alloc (Nat.le_refl _) _).alloc (by simp) _
  generalize (w6.alloc (.cells #[.int .i64 0, .string ⟨#[]⟩, .slice none 0 0, .int .i64 0, .int .i64 0, .string ⟨#[]⟩, .string ⟨#[]⟩, .string ⟨#[]⟩, .string ⟨#[]⟩, .string ⟨#[]⟩, .int .i64 0] 92)).alloc (.cells #[.int .i64 0, .int .i64 0, .int .i64 0] 85) = w7 at *
  clear hA hs6
  go_wp2
  go_ret2
  exact ⟨below_then HB7.out b7 HB7.out.size, .inr ⟨by rw [HSS.out, HP.out]; simp, rfl⟩⟩
 | ok y =>
  have HP := Lib.hid hp
  clear hp
  go_upto_region 41 with (go_at_call 90; refine (RP.out _).mono ?_; rintro e w6 ⟨hb6, h6⟩; simp only [HP.out, fltV, ruV] at h6; obtain ⟨v6, rfl, ho6⟩ := h6; obtain ⟨A6, c6, rfl⟩ := own_slice ho6; have HL6 := Lib.hid (lAt_of (listAt_of ho6) (own_len ho6)); clear ho6; have HB7 := Lib.hid (below_then HB6.out hb6 HB6.out.size); have R7 := Lib.hid (row_below R5.out hb6); clear hb6)
  obtain ⟨yk, yn, yl, ym, yq, yf, yt, yb, ya, yi⟩ := y
  have hA := heap_alloc_new w6 (.cells #[.int .i64 yk, .string (bs yn), .slice A6 yl.length c6, .int .i64 ym, .int .i64 yq, .string (bs yf), .string (bs yt), .string (bs yb), .string (bs ya), .string (bs yi), .int .i64 ln] 92)
  have hB := heap_alloc_new (w6.alloc (.cells #[.int .i64 yk, .string (bs yn), .slice A6 yl.length c6, .int .i64 ym, .int .i64 yq, .string (bs yf), .string (bs yt), .string (bs yb), .string (bs ya), .string (bs yi), .int .i64 ln] 92)) (.cells #[.int .i64 0, .int .i64 0, .int .i64 0] 85)
  have hs6 : (w6.alloc (.cells #[.int .i64 yk, .string (bs yn), .slice A6 yl.length c6, .int .i64 ym, .int .i64 yq, .string (bs yf), .string (bs yt), .string (bs yb), .string (bs ya), .string (bs yi), .int .i64 ln] 92)).heap.size = w6.heap.size + 1 := by simp
  rw [hs6] at hB
  have hA2 := (heap_alloc_old (w6.alloc (.cells #[.int .i64 yk, .string (bs yn), .slice A6 yl.length c6, .int .i64 ym, .int .i64 yq, .string (bs yf), .string (bs yt), .string (bs yb), .string (bs ya), .string (bs yi), .int .i64 ln] 92)) (.cells #[.int .i64 0, .int .i64 0, .int .i64 0] 85) (by omega : w6.heap.size < _)).trans hA
  have b7 : Below w6.heap.size w6 ((w6.alloc (.cells #[.int .i64 yk, .string (bs yn), .slice A6 yl.length c6, .int .i64 ym, .int .i64 yq, .string (bs yf), .string (bs yt), .string (bs yb), .string (bs ya), .string (bs yi), .int .i64 ln] 92)).alloc (.cells #[.int .i64 0, .int .i64 0, .int .i64 0] 85)) := ((Below.refl _ _).alloc (Nat.le_refl _) _).alloc (by simp) _
  generalize (w6.alloc (.cells #[.int .i64 yk, .string (bs yn), .slice A6 yl.length c6, .int .i64 ym, .int .i64 yq, .string (bs yf), .string (bs yt), .string (bs yb), .string (bs ya), .string (bs yi), .int .i64 ln] 92)).alloc (.cells #[.int .i64 0, .int .i64 0, .int .i64 0] 85) = w7 at *
  clear hA hs6
  have c2 := flt_q2 hB
  have SM := Lib.hid (RSame_any ⟨yk, yn, yl, ym, yq, yf, yt, yb, ya, yi⟩ ⟨kd, nm, l, rn, rm, rf, rt, rb, ra, ri⟩ A6 A c6 ca ln ln w7 (HL6.out.below b7) (HLA.out.below (below_then HB7.out b7 HB7.out.size)))
  dsimp only [ruV] at SM
  have r7 := row_below R7.out b7
  have p0 := row_q0 hA2; have p1 := row_q1 hA2; have p2 := row_q2 hA2; have p3 := row_q3 hA2; have p4 := row_q4 hA2; have p5 := row_q5 hA2; have p6 := row_q6 hA2; have p7 := row_q7 hA2; have p8 := row_q8 hA2; have p9 := row_q9 hA2; have p10 := row_q10 hA2
  have s0 := row_q0 r7; have s1 := row_q1 r7; have s2 := row_q2 r7; have s3 := row_q3 r7; have s4 := row_q4 r7; have s5 := row_q5 r7; have s6 := row_q6 r7; have s7 := row_q7 r7; have s8 := row_q8 r7; have s9 := row_q9 r7; have s10 := row_q10 r7
  by_cases hyr : (⟨yk, yn, yl, ym, yq, yf, yt, yb, ya, yi⟩ : Ru) = ⟨kd, nm, l, rn, rm, rf, rt, rb, ra, ri⟩
  ·have HY := Lib.hid hyr
   rw [decide_eq_true hyr] at SM
   clear hyr
   go_wp2_with (go_at_call 91; refine SM.out.mono ?_; rintro e w8 ⟨rfl, hb8⟩)
   go_ret2
   exact ⟨below_then HB7.out (below_then b7 hb8 b7.size) HB7.out.size, .inl ⟨by rw [HSS.out, HP.out, HRR.out]; exact congrArg PR.ok HY.out, by rw [HSS.out]; rfl⟩⟩
  ·have HY := Lib.hid hyr
   rw [decide_eq_false hyr] at SM
   clear hyr
   go_wp2_with (go_at_call 91; refine SM.out.mono ?_; rintro e w8 ⟨rfl, hb8⟩)
   go_ret2
   exact ⟨below_then HB7.out (below_then b7 hb8 b7.size) HB7.out.size, .inr ⟨by rw [HSS.out, HP.out, HRR.out]; intro h9; injection h9 with h9; exact HY.out h9, rfl⟩⟩
end Go.Proofs.YtaoinedndnleoaaGreat
