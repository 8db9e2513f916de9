/-
  RuleBack: what is read of a short line; the walk.
-/
import Derived.Test.YtlbhgjilgdmedaaGreatDoorRuleSt
import Derived.Test.YtlbhgjilgdmedaaGreatDoorPrint4
import Derived.Test.YtlbhgjilgdmedaaGreatDoorKeepRule2
namespace Go.Proofs.YtlbhgjilgdmedaaGreatDoor
set_option maxRecDepth 100000
open Go.ChangeShapes Go.WideShapes Go.ChangeAt Go.RowKit

theorem IntsAt.below' {w w' : World} {v : Value} {zs : List Int} (h : IntsAt w v zs) (hb : Below w.heap.size w w') : IntsAt w' v zs := by
  obtain ⟨A, cap, e, hl, hc⟩ := h
  exact ⟨A, cap, e, hl, fun k hk => let ⟨b, off, e1, h1, h2, h3⟩ := hc k hk; ⟨b, off, e1, Nat.lt_of_lt_of_le h1 hb.size, (hb.cell h1).trans h2, h3⟩⟩
theorem print_in (x : Ru) (A : Option Addr) (c : Nat) (ln : Int) (W : World) (hL : LIn W A c x.list) (hn : -9223372036854775808 ≤ x.n ∧ x.n ≤ 9223372036854775807) (hm : -9223372036854775808 ≤ x.m ∧ x.m ≤ 9223372036854775807) (hs : totR x ≤ 1048576) (hg : HandleAt W) (ht : TabAt W) :
    Calls Tryz.prog 6 #[ruV x (.slice A x.list.length c) ln] W (PrintTo (printP x) W) := by
  have h1 := line_sum x hn.1 hn.2 hm.1 hm.2
  have h2 := sum_len (lineP x)
  have h3 := join_sum (lineP x)
  have h4 := sum_len x.list
  have h5 : x.list.length ≤ 1048576 := by simp only [totR] at hs; omega
  exact print_any x A c ln W (hL.at (by omega)) (fun X hX => lineWords_any x A c ln X (hL.below hX) h5 hn.1 hn.2 hm.1 hm.2 (ht.below hX)) (by omega) (by omega) hg
/-! ### what is read of a short line is small -/
theorem numV_bd (t : Tx) : 0 ≤ numV t ∧ numV t < 1000000000 := by
  unfold numV
  split
  · rename_i h
    have h9 : t.length ≤ 9 := by simp only [isNum, Bool.and_eq_true, decide_eq_true_eq] at h; exact h.1.1.2
    simp only [isNum, Bool.and_eq_true] at h
    have := valL_lt h.2
    have hp : (10 : Nat) ^ t.length ≤ 10 ^ 9 := Nat.pow_le_pow_right (by omega) h9
    have : (10 : Nat) ^ 9 = 1000000000 := by decide
    omega
  · omega
theorem rule_nums (T : List Tx) : (-1 ≤ (ruleP T).1.n ∧ (ruleP T).1.n < 1000000000) ∧ (-1 ≤ (ruleP T).1.m ∧ (ruleP T).1.m < 1000000000) := by
  unfold ruleP
  generalize choiceP T kindT ⟨0, false⟩ = C
  have hN := numV_bd
  unfold bodyP
  split
  · unfold roleP; split <;> simp
  split
  · simp [userP]
  split
  · have := hN (pk T C.2); simp [ssdP, numberP]; omega
  split
  · simp [exclP]
  split
  · have h1 := hN (pk T (nameP T C.2).2)
    have h2 := hN (pk T (numberP T (nameP T C.2).2).2)
    simp only [lendP]
    have e1 : (numberP T (nameP T C.2).2).1 = numV (pk T (nameP T C.2).2) := rfl
    have e2 : (numberP T (numberP T (nameP T C.2).2).2).1 = numV (pk T (numberP T (nameP T C.2).2).2) := rfl
    rw [e1, e2]; omega
  split
  · have h1 := idx_rng stateT (pk T (nameP T C.2).2) 0 (by omega)
    rw [show stateT.length = 5 from rfl] at h1
    have e1 : (stateP T C.2).1.n = idx stateT (pk T (nameP T C.2).2) 0 := rfl
    have e2 : (stateP T C.2).1.m = 0 := rfl
    rw [e1, e2]; omega
  split
  · simp [onP]
  split
  · simp [autoP]
  split
  · have := hN (pk T C.2)
    have e1 : (afterP T C.2).1.n = numV (pk T C.2) := rfl
    have e2 : (afterP T C.2).1.m = 0 := rfl
    rw [e1, e2]; omega
  · simp
theorem sum_bd (l : List Tx) (n : Nat) (h : ∀ t ∈ l, t.length ≤ n) : sumL l ≤ l.length * (n + 1) := by
  induction l with
  | nil => simp [sumL]
  | cons a r ih =>
    have h1 := h a (List.mem_cons_self ..)
    have h2 := ih fun t ht => h t (List.mem_cons_of_mem _ ht)
    simp only [sumL, List.length_cons]
    rw [Nat.succ_mul]; omega
/-- what a short line tells: its rule's words are few and short -/
theorem read_small {L : Tx} {y : Ru} (h : parseL L = .ok y) (hl : L.length ≤ 300) : y.list.length ≤ 300 ∧ sumL (lineP y) ≤ 200000 ∧ (-1 ≤ y.n ∧ y.n < 1000000000) ∧ (-1 ≤ y.m ∧ y.m < 1000000000) := by
  have h1 := ok_list h
  have h2 := (parse_told h).2
  have hb := words_bounds L
  have hc := words_count L
  have hp := partL_le L
  refine ⟨by omega, ?_, ?_⟩
  · rw [h2]
    have := sum_bd (tx (wordsL L)) 301 (fun t ht => by
      simp only [tx, List.mem_map] at ht
      obtain ⟨x, hx, rfl⟩ := ht
      have := hb x hx; omega)
    rw [tx_len] at this
    have h3 : (wordsL L).length * 302 ≤ 301 * 302 := Nat.mul_le_mul_right _ (by omega)
    omega
  · unfold parseL at h
    split at h
    · cases h
    split at h
    · cases h
    unfold parseW at h
    split at h
    · cases h
    split at h
    · cases h
    have hr : (ruleP (tx (wordsL L))).1 = y := by injection h
    rw [← hr]; exact rule_nums _
theorem print_told {L : Tx} {y : Ru} (h : parseL L = .ok y) (hl : L.length ≤ 300) (A : Option Addr) (c : Nat) (ln : Int) (W : World) (hL : LIn W A c y.list) (hg : HandleAt W) (ht : TabAt W) :
    Calls Tryz.prog 6 #[ruV y (.slice A y.list.length c) ln] W (PrintTo (some (joinP (lineP y))) W) := by
  obtain ⟨h1, h2, hn, hm⟩ := read_small h hl
  have h3 := sum_len (lineP y)
  have h4 := join_sum (lineP y)
  have hp : printP y = some (joinP (lineP y)) := printP_some.2 ⟨rfl, (parse_told h).1⟩
  rw [← hp]
  exact print_any y A c ln W (hL.at (by omega)) (fun X hX => lineWords_any y A c ln X (hL.below hX) (by omega) (by omega) (by omega) (by omega) (by omega) (ht.below hX)) (by omega) (by omega) hg
end Go.Proofs.YtlbhgjilgdmedaaGreatDoor
namespace Go.Proofs.YtlbhgjilgdmedaaGreatDoor
set_option maxRecDepth 100000
open Go.ChangeShapes Go.WideShapes Go.ChangeAt Go.RowKit

set_option maxHeartbeats 4000000 in
theorem back_walk (r : Ru) (A : Option Addr) (ca : Nat) (ln how : Int) (s : ByteArray) (v : Value) (zs : List Int) (w : World) (hz : IntsAt w v zs) (hL : LIn w A ca r.list) (hg : HandleAt w) (ht : TabAt w)
    (LR : ∀ W, LIn W A ca r.list → Calls Tryz.prog 5 #[ruV r (.slice A r.list.length ca) ln, .int .i64 how] W (RuleOut W)) :
    Calls Tryz.prog 4 #[ruV r (.slice A r.list.length ca) ln, .int .i64 how, .string s, v] w (TrueOn w) := by
  obtain ⟨kd, nm, l, rn, rm, rf, rt, rb, ra, ri⟩ := r
  simp only [ruV] at *
  have B0 : Below w.heap.size w (w.alloc (.cells #[.int .i64 kd, .string (bs nm), .slice A l.length ca, .int .i64 rn, .int .i64 rm, .string (bs rf), .string (bs rt), .string (bs rb), .string (bs ra), .string (bs ri), .int .i64 ln] 24)) := (Below.refl _ _).alloc (Nat.le_refl _) _
  have R0 : (w.alloc (.cells #[.int .i64 kd, .string (bs nm), .slice A l.length ca, .int .i64 rn, .int .i64 rm, .string (bs rf), .string (bs rt), .string (bs rb), .string (bs ra), .string (bs ri), .int .i64 ln] 24)).heap[w.heap.size]? = some (.cells #[.int .i64 kd, .string (bs nm), .slice A l.length ca, .int .i64 rn, .int .i64 rm, .string (bs rf), .string (bs rt), .string (bs rb), .string (bs ra), .string (bs ri), .int .i64 ln] 24 (0, 0)) := heap_alloc_new _ _
  have LR0 := Lib.hid (LR _ (hL.below B0))
  clear LR
  have r0 := row_q0 R0; have r1 := row_q1 R0; have r2 := row_q2 R0; have r3 := row_q3 R0; have r4 := row_q4 R0; have r5 := row_q5 R0; have r6 := row_q6 R0; have r7 := row_q7 R0; have r8 := row_q8 R0; have r9 := row_q9 R0; have r10 := row_q10 R0
  go_enter Tryz.func4, Tryz.ntmps4
  go_upto_region 2 with (go_at_call 5; refine LR0.out.mono ?_; rintro e w1 ⟨⟨kx, nx, lx, xn, xm, xf, xt, xb, xa, xi⟩, A1, c1, ln1, rfl, hLx, hn, hm, hs, hb1⟩; dsimp only [ruV])
  clear r0 r1 r2 r3 r4 r5 r6 r7 r8 r9 r10
  have B1 : Below w.heap.size w w1 := below_then B0 hb1 B0.size
  have RX : (w1.alloc (.cells #[.int .i64 kx, .string (bs nx), .slice A1 lx.length c1, .int .i64 xn, .int .i64 xm, .string (bs xf), .string (bs xt), .string (bs xb), .string (bs xa), .string (bs xi), .int .i64 ln1] 24)).heap[w1.heap.size]? = some (.cells #[.int .i64 kx, .string (bs nx), .slice A1 lx.length c1, .int .i64 xn, .int .i64 xm, .string (bs xf), .string (bs xt), .string (bs xb), .string (bs xa), .string (bs xi), .int .i64 ln1] 24 (0, 0)) := heap_alloc_new _ _
  have B2 : Below w.heap.size w (w1.alloc (.cells #[.int .i64 kx, .string (bs nx), .slice A1 lx.length c1, .int .i64 xn, .int .i64 xm, .string (bs xf), .string (bs xt), .string (bs xb), .string (bs xa), .string (bs xi), .int .i64 ln1] 24)) := B1.alloc B1.size _
  have hL2 := hLx.below ((Below.refl _ _).alloc (Nat.le_refl w1.heap.size) (.cells #[.int .i64 kx, .string (bs nx), .slice A1 lx.length c1, .int .i64 xn, .int .i64 xm, .string (bs xf), .string (bs xt), .string (bs xb), .string (bs xa), .string (bs xi), .int .i64 ln1] 24))
  clear LR0 R0 hLx
  generalize w1.alloc (.cells #[.int .i64 kx, .string (bs nx), .slice A1 lx.length c1, .int .i64 xn, .int .i64 xm, .string (bs xf), .string (bs xt), .string (bs xb), .string (bs xa), .string (bs xi), .int .i64 ln1] 24) = w2 at *
  generalize w1.heap.size = bx at *
  have P2 := Lib.hid (print_in ⟨kx, nx, lx, xn, xm, xf, xt, xb, xa, xi⟩ A1 c1 ln1 w2 hL2 hn hm hs (hg.below' B2) (ht.below B2))
  have ls := line_sum ⟨kx, nx, lx, xn, xm, xf, xt, xb, xa, xi⟩ hn.1 hn.2 hm.1 hm.2
  have js := join_sum (lineP ⟨kx, nx, lx, xn, xm, xf, xt, xb, xa, xi⟩)
  have hlx : lx.length ≤ 1048576 := by have := sum_len lx; simp only [totR] at hs; omega
  dsimp only [ruV] at P2
  simp only at hL2
  have x0 := row_q0 RX; have x1 := row_q1 RX; have x2 := row_q2 RX; have x3 := row_q3 RX; have x4 := row_q4 RX; have x5 := row_q5 RX; have x6 := row_q6 RX; have x7 := row_q7 RX; have x8 := row_q8 RX; have x9 := row_q9 RX; have x10 := row_q10 RX
  rcases hp : printP ⟨kx, nx, lx, xn, xm, xf, xt, xb, xa, xi⟩ with _ | t
  · rw [hp] at P2
    clear hp ls js
    go_upto_region 3 with (go_at_call 6; refine P2.out.mono ?_; rintro e w3 ⟨hb3, rfl⟩)
    clear x0 x1 x2 x3 x4 x5 x6 x7 x8 x9 x10
    have B3 := below_then B2 hb3 B2.size
    clear P2 hL2 RX
    have hzT := hz.below' B3
    have hgT := hg.below' B3
    have htT := ht.below B3
    have LT := Lib.hid (Line_any s v zs w3 hzT)
    clear hzT
    go_wp2_with (go_at_call 12; refine LT.out.mono ?_; rintro e w7 ⟨t7, rfl, h7, hb7⟩)
    clear LT
    have B7 := below_then B3 hb7 B3.size
    have HP7 := Parse_any t7 1 w7 (by omega) (fun _ => by have := partL_le t7.data.toList; rw [size_list] at this; omega)
    have hl7 : t7.data.toList.length ≤ 300 := by rw [size_list]; omega
    rcases hq : parseL t7.data.toList with ⟨cq, kq⟩ | _ | y
    · rw [hq] at HP7
      refine HP7.mono ?_
      rintro e w8 ⟨hb8, b8, rfl, _, _, _⟩
      dsimp only [zeroV, zero11]
      have B8 := below_then B7 hb8 B7.size
      clear HP7 hq
      go_wp2_with (go_at_call 8; refine (wakes02 _).mono ?_; rintro e w9 ⟨rfl, hb9⟩)
      go_ret
      exact ⟨rfl, below_then (B8.alloc B8.size _) hb9 (by have := B8.size; simp; omega)⟩
    · rw [hq] at HP7
      refine HP7.mono ?_
      rintro e w8 ⟨hb8, rfl⟩
      dsimp only [zeroV, zero11]
      have B8 := below_then B7 hb8 B7.size
      clear HP7 hq
      go_wp2_with (go_at_call 8; refine (wakes02 _).mono ?_; rintro e w9 ⟨rfl, hb9⟩)
      go_ret
      exact ⟨rfl, below_then (B8.alloc B8.size _) hb9 (by have := B8.size; simp; omega)⟩
    · have HB := fun A c W => print_told hq hl7 A c 1 W
      have told := (parse_told hq).1
      have small := (read_small hq hl7).2.1
      have hly := (read_small hq hl7).1
      rw [hq] at HP7
      obtain ⟨ky, ny, ly, yn, ym, yf, yt, yb, ya, yi⟩ := y
      simp only at hly
      generalize hT : joinP (lineP ⟨ky, ny, ly, yn, ym, yf, yt, yb, ya, yi⟩) = T at *
      have hTl : T.length ≤ 200000 := by rw [← hT]; exact Nat.le_trans (join_sum _) small
      have HPT := fun W => Parse_any (bs T) 1 W (by rw [size_bs]; omega) (fun _ => by have := partL_le (bs T).data.toList; rw [list_bs] at this ⊢; omega)
      rw [list_bs, told] at HPT
      have HPT := Lib.hid HPT
      clear told small hT hq
      refine HP7.mono ?_
      rintro e w8 ⟨hb8, L8, rfl, ho8⟩
      obtain ⟨A8, c8, rfl⟩ := own_slice ho8
      dsimp only [ruV]
      have B8 := below_then B7 hb8 B7.size
      have hL8 := own_LIn ho8
      clear HP7 ho8
      go_upto_region 10 with fail
      have RY : (w8.alloc (.cells #[.int .i64 ky, .string (bs ny), .slice A8 ly.length c8, .int .i64 yn, .int .i64 ym, .string (bs yf), .string (bs yt), .string (bs yb), .string (bs ya), .string (bs yi), .int .i64 1] 24)).heap[w8.heap.size]? = some (.cells #[.int .i64 ky, .string (bs ny), .slice A8 ly.length c8, .int .i64 yn, .int .i64 ym, .string (bs yf), .string (bs yt), .string (bs yb), .string (bs ya), .string (bs yi), .int .i64 1] 24 (0, 0)) := heap_alloc_new _ _
      have B9 : Below w.heap.size w (w8.alloc (.cells #[.int .i64 ky, .string (bs ny), .slice A8 ly.length c8, .int .i64 yn, .int .i64 ym, .string (bs yf), .string (bs yt), .string (bs yb), .string (bs ya), .string (bs yi), .int .i64 1] 24)) := B8.alloc B8.size _
      have hL9 := hL8.below ((Below.refl _ _).alloc (Nat.le_refl w8.heap.size) (.cells #[.int .i64 ky, .string (bs ny), .slice A8 ly.length c8, .int .i64 yn, .int .i64 ym, .string (bs yf), .string (bs yt), .string (bs yb), .string (bs ya), .string (bs yi), .int .i64 1] 24))
      clear hL8
      generalize w8.alloc (.cells #[.int .i64 ky, .string (bs ny), .slice A8 ly.length c8, .int .i64 yn, .int .i64 ym, .string (bs yf), .string (bs yt), .string (bs yb), .string (bs ya), .string (bs yi), .int .i64 1] 24) = w9 at *
      generalize w8.heap.size = b9 at *
      have P9 := Lib.hid (HB A8 c8 w9 hL9 (hg.below' B9) (ht.below B9))
      dsimp only [ruV] at P9
      clear HB
      have y0 := row_q0 RY; have y1 := row_q1 RY; have y2 := row_q2 RY; have y3 := row_q3 RY; have y4 := row_q4 RY; have y5 := row_q5 RY; have y6 := row_q6 RY; have y7 := row_q7 RY; have y8 := row_q8 RY; have y9 := row_q9 RY; have y10 := row_q10 RY
      go_upto_region 11 with (go_at_call 6; refine P9.out.mono ?_; rintro e w10 ⟨hb10, rfl⟩)
      clear y0 y1 y2 y3 y4 y5 y6 y7 y8 y9 y10
      have RY := row_below RY hb10
      have hL10 := hL9.below hb10
      have B10 := below_then B9 hb10 B9.size
      clear hL9 P9
      go_upto_region 12 with (go_at_call 10; refine (HPT.out _).mono ?_; rintro e w11 ⟨hb11, L11, rfl, ho11⟩; obtain ⟨A11, c11, rfl⟩ := own_slice ho11; dsimp only [ruV])
      have RY := row_alloc (row_below RY hb11) (.cells #[.int .i64 ky, .string (bs ny), .slice A11 ly.length c11, .int .i64 yn, .int .i64 ym, .string (bs yf), .string (bs yt), .string (bs yb), .string (bs ya), .string (bs yi), .int .i64 1] 24)
      have RZ : (w11.alloc (.cells #[.int .i64 ky, .string (bs ny), .slice A11 ly.length c11, .int .i64 yn, .int .i64 ym, .string (bs yf), .string (bs yt), .string (bs yb), .string (bs ya), .string (bs yi), .int .i64 1] 24)).heap[w11.heap.size]? = some (.cells #[.int .i64 ky, .string (bs ny), .slice A11 ly.length c11, .int .i64 yn, .int .i64 ym, .string (bs yf), .string (bs yt), .string (bs yb), .string (bs ya), .string (bs yi), .int .i64 1] 24 (0, 0)) := heap_alloc_new _ _
      have B11 := below_then B10 hb11 B10.size
      have B12 : Below w.heap.size w (w11.alloc (.cells #[.int .i64 ky, .string (bs ny), .slice A11 ly.length c11, .int .i64 yn, .int .i64 ym, .string (bs yf), .string (bs yt), .string (bs yb), .string (bs ya), .string (bs yi), .int .i64 1] 24)) := B11.alloc B11.size _
      have hb12 : Below w11.heap.size w11 (w11.alloc (.cells #[.int .i64 ky, .string (bs ny), .slice A11 ly.length c11, .int .i64 yn, .int .i64 ym, .string (bs yf), .string (bs yt), .string (bs yb), .string (bs ya), .string (bs yi), .int .i64 1] 24)) := (Below.refl _ _).alloc (Nat.le_refl _) _
      have LA := ((hL10.below hb11).below hb12).at (by omega)
      have LB := LIn.at (l := ly) ((own_LIn ho11).below hb12) (by omega)
      clear ho11 hL10 hb12 HPT
      generalize w11.alloc (.cells #[.int .i64 ky, .string (bs ny), .slice A11 ly.length c11, .int .i64 yn, .int .i64 ym, .string (bs yf), .string (bs yt), .string (bs yb), .string (bs ya), .string (bs yi), .int .i64 1] 24) = w12 at *
      generalize w11.heap.size = b12 at *
      have KR := Lib.hid (keepRule2 ⟨ky, ny, ly, yn, ym, yf, yt, yb, ya, yi⟩ A8 A11 c8 c11 1 1 w12 LA LB)
      dsimp only [ruV] at KR
      have y0 := row_q0 RY; have y1 := row_q1 RY; have y2 := row_q2 RY; have y3 := row_q3 RY; have y4 := row_q4 RY; have y5 := row_q5 RY; have y6 := row_q6 RY; have y7 := row_q7 RY; have y8 := row_q8 RY; have y9 := row_q9 RY; have y10 := row_q10 RY
      have z0 := row_q0 RZ; have z1 := row_q1 RZ; have z2 := row_q2 RZ; have z3 := row_q3 RZ; have z4 := row_q4 RZ; have z5 := row_q5 RZ; have z6 := row_q6 RZ; have z7 := row_q7 RZ; have z8 := row_q8 RZ; have z9 := row_q9 RZ; have z10 := row_q10 RZ
      clear RY RZ LA LB
      go_wp2_with (first
        | (go_at_call 11; refine KR.out.mono ?_; rintro e w13 ⟨rfl, hb13⟩)
        | (go_at_call 8; refine (wakes02 _).mono ?_; rintro e w14 ⟨rfl, hb14⟩))
      go_ret
      exact ⟨rfl, below_then (below_then B12 hb13 B12.size) hb14 (by have := B12.size; have := hb13.size; omega)⟩

  · rw [hp] at P2
    obtain ⟨ht1, hpar⟩ := printP_some.1 hp
    rw [← ht1] at hpar js
    have htl : t.length ≤ 1048636 := by omega
    have hst : (⟨#[32, 32]⟩ : ByteArray) ++ bs t ++ ⟨#[32, 32, 32, 35, 32, 110, 111, 116, 101]⟩ = bs ([32, 32] ++ t ++ [32, 32, 32, 35, 32, 110, 111, 116, 101]) := by
      rw [show (⟨#[32, 32]⟩ : ByteArray) = bs [32, 32] from rfl, show (⟨#[32, 32, 32, 35, 32, 110, 111, 116, 101]⟩ : ByteArray) = bs [32, 32, 32, 35, 32, 110, 111, 116, 101] from rfl, bs_append, bs_append]
    have HP := fun W => Parse_any (bs ([32, 32] ++ t ++ [32, 32, 32, 35, 32, 110, 111, 116, 101])) 7 W (by rw [size_bs]; simp; omega) (fun _ => by have := partL_le (bs ([32, 32] ++ t ++ [32, 32, 32, 35, 32, 110, 111, 116, 101])).data.toList; rw [list_bs] at this ⊢; simp at this ⊢; omega)
    rw [list_bs, parse_note hpar, ← hst] at HP
    have HP := Lib.hid HP
    have hsz : (bs t).size ≤ 1048636 := by rw [size_bs]; exact htl
    clear hp ls js hst hpar ht1
    go_upto_region 4 with (go_at_call 6; refine P2.out.mono ?_; rintro e w3 ⟨hb3, rfl⟩)
    clear x0 x1 x2 x3 x4 x5 x6 x7 x8 x9 x10
    have RX := row_below RX hb3
    have B3 := below_then B2 hb3 B2.size
    have hL3 := hL2.below hb3
    clear P2 hL2
    go_upto_region 5 with (go_at_call 10; refine (HP.out _).mono ?_; rintro e w4 ⟨hb4, L4, rfl, ho4⟩; obtain ⟨A4, c4, rfl⟩ := own_slice ho4; dsimp only [ruV])
    have RX := row_alloc (row_below RX hb4) (.cells #[.int .i64 kx, .string (bs nx), .slice A4 lx.length c4, .int .i64 xn, .int .i64 xm, .string (bs xf), .string (bs xt), .string (bs xb), .string (bs xa), .string (bs xi), .int .i64 7] 24)
    have RZ : (w4.alloc (.cells #[.int .i64 kx, .string (bs nx), .slice A4 lx.length c4, .int .i64 xn, .int .i64 xm, .string (bs xf), .string (bs xt), .string (bs xb), .string (bs xa), .string (bs xi), .int .i64 7] 24)).heap[w4.heap.size]? = some (.cells #[.int .i64 kx, .string (bs nx), .slice A4 lx.length c4, .int .i64 xn, .int .i64 xm, .string (bs xf), .string (bs xt), .string (bs xb), .string (bs xa), .string (bs xi), .int .i64 7] 24 (0, 0)) := heap_alloc_new _ _
    have B4 := below_then B3 hb4 B3.size
    have B5 : Below w.heap.size w (w4.alloc (.cells #[.int .i64 kx, .string (bs nx), .slice A4 lx.length c4, .int .i64 xn, .int .i64 xm, .string (bs xf), .string (bs xt), .string (bs xb), .string (bs xa), .string (bs xi), .int .i64 7] 24)) := B4.alloc B4.size _
    have hb5 : Below w4.heap.size w4 (w4.alloc (.cells #[.int .i64 kx, .string (bs nx), .slice A4 lx.length c4, .int .i64 xn, .int .i64 xm, .string (bs xf), .string (bs xt), .string (bs xb), .string (bs xa), .string (bs xi), .int .i64 7] 24)) := (Below.refl _ _).alloc (Nat.le_refl _) _
    have LA := ((hL3.below hb4).below hb5).at (by omega)
    have LB := LIn.at (l := lx) ((own_LIn ho4).below hb5) (by omega)
    clear ho4 hL3 hb5 HP hsz
    generalize w4.alloc (.cells #[.int .i64 kx, .string (bs nx), .slice A4 lx.length c4, .int .i64 xn, .int .i64 xm, .string (bs xf), .string (bs xt), .string (bs xb), .string (bs xa), .string (bs xi), .int .i64 7] 24) = w5 at *
    generalize w4.heap.size = b5 at *
    have KR := Lib.hid (keepRule2 ⟨kx, nx, lx, xn, xm, xf, xt, xb, xa, xi⟩ A1 A4 c1 c4 ln1 7 w5 LA LB)
    dsimp only [ruV] at KR
    have x0 := row_q0 RX; have x1 := row_q1 RX; have x2 := row_q2 RX; have x3 := row_q3 RX; have x4 := row_q4 RX; have x5 := row_q5 RX; have x6 := row_q6 RX; have x7 := row_q7 RX; have x8 := row_q8 RX; have x9 := row_q9 RX; have x10 := row_q10 RX
    have z0 := row_q0 RZ; have z1 := row_q1 RZ; have z2 := row_q2 RZ; have z3 := row_q3 RZ; have z4 := row_q4 RZ; have z5 := row_q5 RZ; have z6 := row_q6 RZ; have z7 := row_q7 RZ; have z8 := row_q8 RZ; have z9 := row_q9 RZ; have z10 := row_q10 RZ
    clear LA LB
    go_upto_region 7 with (go_at_call 11; refine KR.out.mono ?_; rintro e w6 ⟨rfl, hb6⟩; have g10 := row_q10 (row_below RZ hb6))
    clear x0 x1 x2 x3 x4 x5 x6 x7 x8 x9 x10
    clear z0 z1 z2 z3 z4 z5 z6 z7 z8 z9 z10
    have B6 := below_then B5 hb6 B5.size
    clear KR RX RZ g10
    have hzT := hz.below' B6
    have hgT := hg.below' B6
    have htT := ht.below B6
    have LT := Lib.hid (Line_any s v zs w6 hzT)
    clear hzT
    go_wp2_with (go_at_call 12; refine LT.out.mono ?_; rintro e w7 ⟨t7, rfl, h7, hb7⟩)
    clear LT
    have B7 := below_then B6 hb7 B6.size
    have HP7 := Parse_any t7 1 w7 (by omega) (fun _ => by have := partL_le t7.data.toList; rw [size_list] at this; omega)
    have hl7 : t7.data.toList.length ≤ 300 := by rw [size_list]; omega
    rcases hq : parseL t7.data.toList with ⟨cq, kq⟩ | _ | y
    · rw [hq] at HP7
      refine HP7.mono ?_
      rintro e w8 ⟨hb8, b8, rfl, _, _, _⟩
      dsimp only [zeroV, zero11]
      have B8 := below_then B7 hb8 B7.size
      clear HP7 hq
      go_wp2_with (go_at_call 8; refine (wakes02 _).mono ?_; rintro e w9 ⟨rfl, hb9⟩)
      go_ret
      exact ⟨rfl, below_then (B8.alloc B8.size _) hb9 (by have := B8.size; simp; omega)⟩
    · rw [hq] at HP7
      refine HP7.mono ?_
      rintro e w8 ⟨hb8, rfl⟩
      dsimp only [zeroV, zero11]
      have B8 := below_then B7 hb8 B7.size
      clear HP7 hq
      go_wp2_with (go_at_call 8; refine (wakes02 _).mono ?_; rintro e w9 ⟨rfl, hb9⟩)
      go_ret
      exact ⟨rfl, below_then (B8.alloc B8.size _) hb9 (by have := B8.size; simp; omega)⟩
    · have HB := fun A c W => print_told hq hl7 A c 1 W
      have told := (parse_told hq).1
      have small := (read_small hq hl7).2.1
      have hly := (read_small hq hl7).1
      rw [hq] at HP7
      obtain ⟨ky, ny, ly, yn, ym, yf, yt, yb, ya, yi⟩ := y
      simp only at hly
      generalize hT : joinP (lineP ⟨ky, ny, ly, yn, ym, yf, yt, yb, ya, yi⟩) = T at *
      have hTl : T.length ≤ 200000 := by rw [← hT]; exact Nat.le_trans (join_sum _) small
      have HPT := fun W => Parse_any (bs T) 1 W (by rw [size_bs]; omega) (fun _ => by have := partL_le (bs T).data.toList; rw [list_bs] at this ⊢; omega)
      rw [list_bs, told] at HPT
      have HPT := Lib.hid HPT
      clear told small hT hq
      refine HP7.mono ?_
      rintro e w8 ⟨hb8, L8, rfl, ho8⟩
      obtain ⟨A8, c8, rfl⟩ := own_slice ho8
      dsimp only [ruV]
      have B8 := below_then B7 hb8 B7.size
      have hL8 := own_LIn ho8
      clear HP7 ho8
      go_upto_region 10 with fail
      have RY : (w8.alloc (.cells #[.int .i64 ky, .string (bs ny), .slice A8 ly.length c8, .int .i64 yn, .int .i64 ym, .string (bs yf), .string (bs yt), .string (bs yb), .string (bs ya), .string (bs yi), .int .i64 1] 24)).heap[w8.heap.size]? = some (.cells #[.int .i64 ky, .string (bs ny), .slice A8 ly.length c8, .int .i64 yn, .int .i64 ym, .string (bs yf), .string (bs yt), .string (bs yb), .string (bs ya), .string (bs yi), .int .i64 1] 24 (0, 0)) := heap_alloc_new _ _
      have B9 : Below w.heap.size w (w8.alloc (.cells #[.int .i64 ky, .string (bs ny), .slice A8 ly.length c8, .int .i64 yn, .int .i64 ym, .string (bs yf), .string (bs yt), .string (bs yb), .string (bs ya), .string (bs yi), .int .i64 1] 24)) := B8.alloc B8.size _
      have hL9 := hL8.below ((Below.refl _ _).alloc (Nat.le_refl w8.heap.size) (.cells #[.int .i64 ky, .string (bs ny), .slice A8 ly.length c8, .int .i64 yn, .int .i64 ym, .string (bs yf), .string (bs yt), .string (bs yb), .string (bs ya), .string (bs yi), .int .i64 1] 24))
      clear hL8
      generalize w8.alloc (.cells #[.int .i64 ky, .string (bs ny), .slice A8 ly.length c8, .int .i64 yn, .int .i64 ym, .string (bs yf), .string (bs yt), .string (bs yb), .string (bs ya), .string (bs yi), .int .i64 1] 24) = w9 at *
      generalize w8.heap.size = b9 at *
      have P9 := Lib.hid (HB A8 c8 w9 hL9 (hg.below' B9) (ht.below B9))
      dsimp only [ruV] at P9
      clear HB
      have y0 := row_q0 RY; have y1 := row_q1 RY; have y2 := row_q2 RY; have y3 := row_q3 RY; have y4 := row_q4 RY; have y5 := row_q5 RY; have y6 := row_q6 RY; have y7 := row_q7 RY; have y8 := row_q8 RY; have y9 := row_q9 RY; have y10 := row_q10 RY
      go_upto_region 11 with (go_at_call 6; refine P9.out.mono ?_; rintro e w10 ⟨hb10, rfl⟩)
      clear y0 y1 y2 y3 y4 y5 y6 y7 y8 y9 y10
      have RY := row_below RY hb10
      have hL10 := hL9.below hb10
      have B10 := below_then B9 hb10 B9.size
      clear hL9 P9
      go_upto_region 12 with (go_at_call 10; refine (HPT.out _).mono ?_; rintro e w11 ⟨hb11, L11, rfl, ho11⟩; obtain ⟨A11, c11, rfl⟩ := own_slice ho11; dsimp only [ruV])
      have RY := row_alloc (row_below RY hb11) (.cells #[.int .i64 ky, .string (bs ny), .slice A11 ly.length c11, .int .i64 yn, .int .i64 ym, .string (bs yf), .string (bs yt), .string (bs yb), .string (bs ya), .string (bs yi), .int .i64 1] 24)
      have RZ : (w11.alloc (.cells #[.int .i64 ky, .string (bs ny), .slice A11 ly.length c11, .int .i64 yn, .int .i64 ym, .string (bs yf), .string (bs yt), .string (bs yb), .string (bs ya), .string (bs yi), .int .i64 1] 24)).heap[w11.heap.size]? = some (.cells #[.int .i64 ky, .string (bs ny), .slice A11 ly.length c11, .int .i64 yn, .int .i64 ym, .string (bs yf), .string (bs yt), .string (bs yb), .string (bs ya), .string (bs yi), .int .i64 1] 24 (0, 0)) := heap_alloc_new _ _
      have B11 := below_then B10 hb11 B10.size
      have B12 : Below w.heap.size w (w11.alloc (.cells #[.int .i64 ky, .string (bs ny), .slice A11 ly.length c11, .int .i64 yn, .int .i64 ym, .string (bs yf), .string (bs yt), .string (bs yb), .string (bs ya), .string (bs yi), .int .i64 1] 24)) := B11.alloc B11.size _
      have hb12 : Below w11.heap.size w11 (w11.alloc (.cells #[.int .i64 ky, .string (bs ny), .slice A11 ly.length c11, .int .i64 yn, .int .i64 ym, .string (bs yf), .string (bs yt), .string (bs yb), .string (bs ya), .string (bs yi), .int .i64 1] 24)) := (Below.refl _ _).alloc (Nat.le_refl _) _
      have LA := ((hL10.below hb11).below hb12).at (by omega)
      have LB := LIn.at (l := ly) ((own_LIn ho11).below hb12) (by omega)
      clear ho11 hL10 hb12 HPT
      generalize w11.alloc (.cells #[.int .i64 ky, .string (bs ny), .slice A11 ly.length c11, .int .i64 yn, .int .i64 ym, .string (bs yf), .string (bs yt), .string (bs yb), .string (bs ya), .string (bs yi), .int .i64 1] 24) = w12 at *
      generalize w11.heap.size = b12 at *
      have KR := Lib.hid (keepRule2 ⟨ky, ny, ly, yn, ym, yf, yt, yb, ya, yi⟩ A8 A11 c8 c11 1 1 w12 LA LB)
      dsimp only [ruV] at KR
      have y0 := row_q0 RY; have y1 := row_q1 RY; have y2 := row_q2 RY; have y3 := row_q3 RY; have y4 := row_q4 RY; have y5 := row_q5 RY; have y6 := row_q6 RY; have y7 := row_q7 RY; have y8 := row_q8 RY; have y9 := row_q9 RY; have y10 := row_q10 RY
      have z0 := row_q0 RZ; have z1 := row_q1 RZ; have z2 := row_q2 RZ; have z3 := row_q3 RZ; have z4 := row_q4 RZ; have z5 := row_q5 RZ; have z6 := row_q6 RZ; have z7 := row_q7 RZ; have z8 := row_q8 RZ; have z9 := row_q9 RZ; have z10 := row_q10 RZ
      clear RY RZ LA LB
      go_wp2_with (first
        | (go_at_call 11; refine KR.out.mono ?_; rintro e w13 ⟨rfl, hb13⟩)
        | (go_at_call 8; refine (wakes02 _).mono ?_; rintro e w14 ⟨rfl, hb14⟩))
      go_ret
      exact ⟨rfl, below_then (below_then B12 hb13 B12.size) hb14 (by have := B12.size; have := hb13.size; omega)⟩

end Go.Proofs.YtlbhgjilgdmedaaGreatDoor
