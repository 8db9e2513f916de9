/-
  PrintRule of the document tells the plain line.
-/
import Derived.Test.YtkgjcahcpeehjaaGreatDoorRdrE
import Derived.Test.YtkgjcahcpeehjaaGreatDoorPrint4
import Derived.Test.YtkgjcahcpeehjaaGreatDoorRdrE4
import Derived.Test.YtkgjcahcpeehjaaGreatDoorRdrE9
import Derived.Test.YtkgjcahcpeehjaaGreatDoorRdrE12
import Derived.Test.YtkgjcahcpeehjaaGreatDoorRdrE84
namespace Go.Proofs.YtkgjcahcpeehjaaGreatDoor
set_option maxRecDepth 100000
open Go.ChangeShapes Go.WideShapes Go.ChangeAt Go.RowKit

theorem digs_dec (n : Nat) : digs n = Lib.decDigits n := by
  induction n using Nat.strongRecOn with
  | ind n ih =>
    rw [digs, Lib.decDigits]
    by_cases h : n < 10
    · rw [if_pos h, dif_pos h]; rfl
    · rw [if_neg h, dif_neg h, ih (n / 10) (by omega)]; rfl
theorem nS_itoa {n : Int} (h : 0 ≤ n) : nS n = Lib.itoa n := by
  obtain ⟨q, rfl⟩ : ∃ q : Nat, n = q := ⟨n.toNat, by omega⟩
  unfold nS
  rw [if_pos h, Lib.itoa_nonneg, Int.toNat_natCast, digs_dec]
theorem join_all : ∀ (l : List Tx) (a : Tx), joinP (a :: l) = a ++ allP l
  | [], a => by rw [join_one]; simp [allP]
  | b :: r, a => by rw [join_cons2, join_all r b]; rfl
theorem posR_rng (x : Tx) : ∀ (l : List Tx) (i : Nat), posR l x i = 0 ∨ ((i : Int) < posR l x i ∧ posR l x i ≤ (i : Int) + l.length)
  | [], i => .inl rfl
  | a :: r, i => by
    rw [posR]
    by_cases h : a = x
    · rw [if_pos h]; right; simp; omega
    · rw [if_neg h]
      rcases posR_rng x r (i + 1) with h1 | h1
      · exact .inl h1
      · right; simp only [List.length_cons]; omega
theorem number_nn (T : List Tx) (s : Nat × Bool) : 0 ≤ (numberR T s).1 := by unfold numberR; split <;> simp
/-- what a rule that was read has for numbers -/
theorem parse_nums {L : Tx} {r : Ru} (h : parseL L = .ok r) : (1 ≤ r.kind ∧ r.kind ≤ 11) ∧ ((r.kind = 4 ∨ r.kind = 5 ∨ r.kind = 7 ∨ r.kind = 11) → 0 ≤ r.n) ∧ (r.kind = 7 → 0 ≤ r.m) ∧ (r.kind = 8 → 1 ≤ r.n ∧ r.n ≤ 4) := by
  unfold parseL at h
  split at h
  · cases h
  split at h
  · cases h
  rename_i _ hw
  have h0 : 0 < (wordsL L).length := List.length_pos_iff.2 hw
  obtain ⟨a1, a2⟩ := parseW_at (fun x hx => (words_bounds L x hx).1) h0
  have hA : AccR (tx (wordsL L)) := by
    by_cases hA : AccR (tx (wordsL L))
    · exact hA
    · obtain ⟨c, k, e⟩ := a2 hA
      rw [e] at h; cases h
  rw [a1 hA] at h
  injection h with h
  generalize tx (wordsL L) = T at *
  have hm := hA.2.1
  have hk := hA.1
  rcases kd_at T with ⟨_, h2⟩ | ⟨h2, h3, _, h4⟩
  · have := (read_at T).1; rw [hm, h2] at this; cases this
  have hrd : readR T = bodyR T (kdR T) (1, false) := by unfold readR; rw [if_neg (by omega)]
  rw [hrd] at h hm hk
  obtain ⟨hkd, _⟩ := list_at h4 (kdR T) hm hk
  generalize kdR T = kd at *
  subst h
  rw [hkd]
  refine ⟨by omega, ?_, ?_, ?_⟩
  · rintro (e | e | e | e) <;> subst e <;> exact number_nn _ _
  · intro e; subst e; exact number_nn _ _
  · intro e; subst e
    have hm8 : (optR T [105, 110] (skR T (nameR T (1, false)).2)).2.2 = false := hm
    have hs := optR_m hm8
    unfold skR at hs
    split at hs
    · cases hs
    · rename_i hp
      have hn : (bodyR T 8 (1, false)).1.n = posR stateR (nx T (nameR T (1, false)).2.1 (nameR T (1, false)).2.2) 0 := rfl
      rw [hn]
      rcases posR_rng (nx T (nameR T (1, false)).2.1 (nameR T (1, false)).2.2) stateR 0 with h9 | h9
      · exact absurd h9 hp
      · rw [show stateR.length = 4 from rfl] at h9; omega
theorem st_word {n : Int} (h : 1 ≤ n ∧ n ≤ 4) : stW n = wordP stateT n := by
  have : n = 1 ∨ n = 2 ∨ n = 3 ∨ n = 4 := by omega
  rcases this with rfl | rfl | rfl | rfl <;> rfl
theorem doc_line {r : Ru} (hk : 1 ≤ r.kind ∧ r.kind ≤ 11) (hn : (r.kind = 4 ∨ r.kind = 5 ∨ r.kind = 7 ∨ r.kind = 11) → 0 ≤ r.n) (hm : r.kind = 7 → 0 ≤ r.m) (h8 : r.kind = 8 → 1 ≤ r.n ∧ r.n ≤ 4) : docS r = joinP (lineP r) := by
  obtain ⟨kd, nm, l, rn, rm, rf, rt, rb, ra, ri⟩ := r
  simp only at hk hn hm h8
  unfold docS lineP
  rw [join_all]
  have : kd = 1 ∨ kd = 2 ∨ kd = 3 ∨ kd = 4 ∨ kd = 5 ∨ kd = 6 ∨ kd = 7 ∨ kd = 8 ∨ kd = 9 ∨ kd = 10 ∨ kd = 11 := by omega
  rcases this with e | e | e | e | e | e | e | e | e | e | e <;> subst e <;> simp only [reduceIte, Int.reduceEq, true_or, or_true, or_self, or_false, false_or]
  · rw [show wordP kindT 1 = [114, 111, 108, 101] from rfl]
    by_cases hl : l = []
    · rw [if_pos hl, if_pos hl]; simp [allP]
    · rw [if_neg hl, if_neg hl]; simp [allP]
  · rw [show wordP kindT 2 = [117, 115, 101, 114] from rfl]; simp [allP]
  · rw [show wordP kindT 3 = [112, 101, 114, 109] from rfl]; simp [allP]
  · rw [show wordP kindT 4 = [115, 115, 100] from rfl, nS_itoa (hn (by simp))]; simp [allP]
  · rw [show wordP kindT 5 = [100, 115, 100] from rfl, nS_itoa (hn (by simp))]; simp [allP]
  · rw [show wordP kindT 6 = [101, 120, 99, 108, 117, 115, 105, 118, 101] from rfl]
  · rw [show wordP kindT 7 = [108, 101, 110, 100] from rfl, nS_itoa (hn (by simp)), nS_itoa (hm rfl)]; simp [allP]
  · rw [show wordP kindT 8 = [115, 116, 97, 116, 101] from rfl, st_word (h8 rfl)]
    unfold optP
    by_cases hi : ri = []
    · rw [if_pos hi, if_pos hi]; simp [allP]
    · rw [if_neg hi, if_neg hi]; simp [allP]
  · rw [show wordP kindT 9 = [111, 110] from rfl]
    unfold optP
    by_cases hb : rb = [] <;> by_cases ha : ra = [] <;> simp [hb, ha, allP]
  · rw [show wordP kindT 10 = [97, 117, 116, 111] from rfl]; simp [allP]
  · rw [show wordP kindT 11 = [97, 102, 116, 101, 114] from rfl, nS_itoa (hn (by simp))]; simp [allP]
/-- the line that the document writes is the plain one's, or neither is a line -/
theorem doc_print (r : Ru) : (parseL (docS r) = .ok r → printP r = some (docS r)) ∧ (parseL (docS r) ≠ .ok r → printP r = none) := by
  by_cases hc : (1 ≤ r.kind ∧ r.kind ≤ 11) ∧ ((r.kind = 4 ∨ r.kind = 5 ∨ r.kind = 7 ∨ r.kind = 11) → 0 ≤ r.n) ∧ (r.kind = 7 → 0 ≤ r.m) ∧ (r.kind = 8 → 1 ≤ r.n ∧ r.n ≤ 4)
  · rw [doc_line hc.1 hc.2.1 hc.2.2.1 hc.2.2.2]
    refine ⟨fun h => printP_some.2 ⟨rfl, h⟩, fun h => ?_⟩
    cases hp : printP r with
    | none => rfl
    | some t => exact absurd (printP_some.1 hp).2 h
  · refine ⟨fun h => absurd (parse_nums h) hc, fun _ => ?_⟩
    cases hp : printP r with
    | none => rfl
    | some t => exact absurd (parse_nums (printP_some.1 hp).2) hc
end Go.Proofs.YtkgjcahcpeehjaaGreatDoor
namespace Go.Proofs.YtkgjcahcpeehjaaGreatDoor
set_option maxRecDepth 100000
open Go.ChangeShapes Go.WideShapes Go.ChangeAt Go.RowKit

set_option maxHeartbeats 8000000 in
theorem RPrt8no_any (r : Ru) (A : Option Addr) (ca : Nat) (ln : Int) (w : World) (hla : LAt w A ca r.list) (hs : Short r) (hn : r.n ≤ 9223372036854775807 ∧ r.m ≤ 9223372036854775807) (hkd : r.kind = 8) (h8 : r.n < 1 ∨ 4 < r.n) :
    Calls Tryz.prog 13 #[ruV r (.slice A r.list.length ca) ln] w (PrTo r w) := by
  have hds := doc_short hs
  obtain ⟨h1, h2, h3, h4, h5, h6, h7, h9, h10⟩ := hs
  have HR0 : Hid (∃ r0 : Ru, r0 = r) := ⟨r, rfl⟩
  obtain ⟨r0, hr0⟩ := HR0.out
  have HRR := Lib.hid hr0
  rw [← hr0]
  have e1 : ruV r0 (.slice A r0.list.length ca) ln = ruV r (.slice A r.list.length ca) ln := by rw [hr0]
  rw [e1]
  have HLA := Lib.hid hla
  have HDS : Hid ((docS r0).length ≤ 1000000000) := by show _ ≤ _; rw [hr0]; exact hds
  clear hla e1 HR0 hds hr0
  obtain ⟨kd, nm, l, rn, rm, rf, rt, rb, ra, ri⟩ := r
  simp only at h1 h2 h3 h4 h5 h6 h7 h9 h10 hn hkd HLA h8
  have HNO : Hid (parseL (docS r0) ≠ .ok r0) := fun h => by
    have h9 := (parse_nums h).2.2.2
    rw [HRR.out] at h9
    simp only at h9
    have := h9 hkd
    omega
  dsimp only [ruV]
  have HK9 := Lib.hid hkd
  clear hkd
  have H89 := Lib.hid h8
  clear h8
  have z1 : (bs nm).size ≤ 10000000 := by rw [size_bs]; exact h1
  have z2 : (bs (allP l)).size ≤ 10000000 := by rw [size_bs]; exact h2
  have z3 : (bs rf).size ≤ 10000000 := by rw [size_bs]; exact h3
  have z4 : (bs rt).size ≤ 10000000 := by rw [size_bs]; exact h4
  have z5 : (bs rb).size ≤ 10000000 := by rw [size_bs]; exact h5
  have z6 : (bs ra).size ≤ 10000000 := by rw [size_bs]; exact h6
  have z7 : (bs ri).size ≤ 10000000 := by rw [size_bs]; exact h7
  have z8 : (bs (nS rn)).size ≤ 10000000 := by rw [size_bs]; exact h9
  have z9 : (bs (nS rm)).size ≤ 10000000 := by rw [size_bs]; exact h10
  have AL := Lib.hid (fun W (hW : Below w.heap.size w W) => all_any l A ca W (HLA.out.below hW) (by omega))
  clear h1 h2 h3 h4 h5 h6 h7 h9 h10
  go_enter Tryz.func13, Tryz.ntmps13
  go_upto_region 3 with (fail)
  have R0 := heap_alloc_new w (.cells #[.int .i64 kd, .string (bs nm), .slice A l.length ca, .int .i64 rn, .int .i64 rm, .string (bs rf), .string (bs rt), .string (bs rb), .string (bs ra), .string (bs ri), .int .i64 ln] 24)
  have b0 : Below w.heap.size w (w.alloc (.cells #[.int .i64 kd, .string (bs nm), .slice A l.length ca, .int .i64 rn, .int .i64 rm, .string (bs rf), .string (bs rt), .string (bs rb), .string (bs ra), .string (bs ri), .int .i64 ln] 24)) := (Below.refl _ _).alloc (Nat.le_refl _) _
  have R := Lib.hid R0
  have HB := Lib.hid b0
  clear R0 b0
  generalize w.alloc (.cells #[.int .i64 kd, .string (bs nm), .slice A l.length ca, .int .i64 rn, .int .i64 rm, .string (bs rf), .string (bs rt), .string (bs rb), .string (bs ra), .string (bs ri), .int .i64 ln] 24) = w1 at *
  have q3 := row_q3 R.out
  go_cut [12] (fun x wx => wx = w1 ∧ x = .bool (decide (0 ≤ rn)))
  case first =>
    by_cases h : 0 ≤ rn
    · go_wp2
      go_meet
      exact ⟨rfl, by rw [decide_eq_true h]⟩
    · go_wp2
      go_meet
      exact ⟨rfl, by rw [decide_eq_false (by omega)]⟩
  case rest =>
  obtain ⟨hw9, rfl⟩ := hcut
  subst hw9
  obtain ⟨w1, rfl⟩ : ∃ w9 : World, w9 = wc := ⟨_, rfl⟩
  go_upto_if 12 with fail
  go_cut [5] (fun x wx => x = .string (bs (nS rn)) ∧ Hid (Below w1.heap.size w1 wx))
  case first =>
    by_cases h : 0 ≤ rn
    · rw [decide_eq_true h]
      obtain ⟨q, rfl⟩ : ∃ q : Nat, rn = q := ⟨rn.toNat, by omega⟩
      have DG := Lib.hid (Digits_any q w1 (by omega))
      have HN : Hid (nS (q : Int) = digs q) := by show _ = _; unfold nS; rw [if_pos h, Int.toNat_natCast]
      clear h
      go_wp2_with (go_at_call 49; refine DG.out.mono ?_; rintro e w3 ⟨rfl, hb3⟩)
      go_meet
      exact ⟨by rw [HN.out], hb3⟩
    · rw [decide_eq_false h]
      have HN : Hid (nS rn = [120]) := by show _ = _; unfold nS; rw [if_neg h]
      clear h
      go_wp2
      go_meet
      exact ⟨by rw [HN.out]; rfl, Below.refl _ _⟩
  case rest =>
  obtain ⟨rfl, HB2⟩ := hcut
  obtain ⟨w2, rfl⟩ : ∃ w9 : World, w9 = wc := ⟨_, rfl⟩
  clear q3
  have R2 := Lib.hid (row_below R.out HB2.out)
  have q4 := row_q4 R2.out
  go_upto_region 5 with (fail)
  go_cut [18] (fun x wx => wx = w2 ∧ x = .bool (decide (0 ≤ rm)))
  case first =>
    by_cases h : 0 ≤ rm
    · go_wp2
      go_meet
      exact ⟨rfl, by rw [decide_eq_true h]⟩
    · go_wp2
      go_meet
      exact ⟨rfl, by rw [decide_eq_false (by omega)]⟩
  case rest =>
  obtain ⟨hw9, rfl⟩ := hcut
  subst hw9
  obtain ⟨w2, rfl⟩ : ∃ w9 : World, w9 = wc := ⟨_, rfl⟩
  go_upto_if 18 with fail
  go_cut [6] (fun x wx => x = .string (bs (nS rm)) ∧ Hid (Below w2.heap.size w2 wx))
  case first =>
    by_cases h : 0 ≤ rm
    · rw [decide_eq_true h]
      obtain ⟨q, rfl⟩ : ∃ q : Nat, rm = q := ⟨rm.toNat, by omega⟩
      have DG := Lib.hid (Digits_any q w2 (by omega))
      have HN : Hid (nS (q : Int) = digs q) := by show _ = _; unfold nS; rw [if_pos h, Int.toNat_natCast]
      clear h
      go_wp2_with (go_at_call 49; refine DG.out.mono ?_; rintro e w3 ⟨rfl, hb3⟩)
      go_meet
      exact ⟨by rw [HN.out], hb3⟩
    · rw [decide_eq_false h]
      have HN : Hid (nS rm = [120]) := by show _ = _; unfold nS; rw [if_neg h]
      clear h
      go_wp2
      go_meet
      exact ⟨by rw [HN.out]; rfl, Below.refl _ _⟩
  case rest =>
  obtain ⟨rfl, HB3⟩ := hcut
  obtain ⟨w3, rfl⟩ : ∃ w9 : World, w9 = wc := ⟨_, rfl⟩
  clear q4
  have R3 := Lib.hid (row_below R2.out HB3.out)
  have HB4 := Lib.hid (below_then HB.out (below_then HB2.out HB3.out HB2.out.size) HB.out.size)
  have AL0 := Lib.hid AL.out
  generalize hsn : nS rn = sn at *
  generalize hsm : nS rm = sm at *
  have HSN := Lib.hid hsn
  have HSM := Lib.hid hsm
  clear hsn hsm R R2 HB2 HB3 HB AL
  have ALL : Hid (∀ W, Below w3.heap.size w3 W → Calls Tryz.prog 50 #[.slice A l.length ca] W fun e w' => e = .returned (.string (bs (allP l))) ∧ W = w') := fun W hW => AL0.out W (below_then HB4.out hW HB4.out.size)
  clear AL0
  have q0 := row_q0 R3.out; have q1 := row_q1 R3.out; have q2 := row_q2 R3.out; have q3 := row_q3 R3.out; have q5 := row_q5 R3.out; have q6 := row_q6 R3.out; have q7 := row_q7 R3.out; have q8 := row_q8 R3.out; have q9 := row_q9 R3.out
  go_upto_block 0 with (fail)
  go_cut [4] (fun _ _ => False)
  case first =>
    have e := HK9.out
    clear HK9
    subst e
    have h8 := H89.out
    clear H89
    by_cases h1 : rn < 1
    · clear h8
      go_wp2
      go_ret2
      exact ⟨HB4.out, .inr ⟨HNO.out, rfl⟩⟩
    · have h4 : 4 < rn := by omega
      clear h8
      go_wp2
      go_ret2
      exact ⟨HB4.out, .inr ⟨HNO.out, rfl⟩⟩
  case rest => exact hcut.elim
/-- the document's PrintRule: the plain one's line, or that there is none -/
def DocTo (r : Ru) (w : World) (e : Ending) (w' : World) : Prop := Below w.heap.size w w' ∧ match printP r with
  | some t => e = .returned (.tuple #[.string (bs t), .bool true])
  | none => e = .returned (.tuple #[.string ⟨#[]⟩, .bool false])
theorem docTo_of {r : Ru} {w w' : World} {e : Ending} (h : PrTo r w e w') : DocTo r w e w' := by
  refine ⟨h.1, ?_⟩
  rcases h.2 with ⟨h1, h2⟩ | ⟨h1, h2⟩
  · rw [(doc_print r).1 h1]; exact h2
  · rw [(doc_print r).2 h1]; exact h2
theorem RPrint_any (r : Ru) (A : Option Addr) (ca : Nat) (ln : Int) (w : World) (hla : LAt w A ca r.list) (hs : Short r) (hn : r.n ≤ 9223372036854775807 ∧ r.m ≤ 9223372036854775807) :
    Calls Tryz.prog 13 #[ruV r (.slice A r.list.length ca) ln] w (DocTo r w) := by
  have D : ∀ e w', PrTo r w e w' → DocTo r w e w' := fun e w' h => docTo_of h
  have hk : r.kind = 1 ∨ r.kind = 2 ∨ r.kind = 3 ∨ r.kind = 4 ∨ r.kind = 5 ∨ r.kind = 6 ∨ r.kind = 7 ∨ r.kind = 8 ∨ r.kind = 9 ∨ r.kind = 10 ∨ r.kind = 11 ∨ (r.kind < 1 ∨ 11 < r.kind) := by omega
  rcases hk with e | e | e | e | e | e | e | e | e | e | e | e
  · exact (RPrt1_any r A ca ln w hla hs hn e).mono D
  · exact (RPrt2_any r A ca ln w hla hs hn e).mono D
  · exact (RPrt3_any r A ca ln w hla hs hn e).mono D
  · exact (RPrt4_any r A ca ln w hla hs hn e).mono D
  · exact (RPrt5_any r A ca ln w hla hs hn e).mono D
  · exact (RPrt6_any r A ca ln w hla hs hn e).mono D
  · exact (RPrt7_any r A ca ln w hla hs hn e).mono D
  · have h8 : r.n = 1 ∨ r.n = 2 ∨ r.n = 3 ∨ r.n = 4 ∨ (r.n < 1 ∨ 4 < r.n) := by omega
    rcases h8 with h | h | h | h | h
    · exact (RPrt81_any r A ca ln w hla hs hn e h).mono D
    · exact (RPrt82_any r A ca ln w hla hs hn e h).mono D
    · exact (RPrt83_any r A ca ln w hla hs hn e h).mono D
    · exact (RPrt84_any r A ca ln w hla hs hn e h).mono D
    · exact (RPrt8no_any r A ca ln w hla hs hn e h).mono D
  · exact (RPrt9_any r A ca ln w hla hs hn e).mono D
  · exact (RPrt10_any r A ca ln w hla hs hn e).mono D
  · exact (RPrt11_any r A ca ln w hla hs hn e).mono D
  · exact (RPrt12_any r A ca ln w hla hs hn e).mono D
end Go.Proofs.YtkgjcahcpeehjaaGreatDoor
