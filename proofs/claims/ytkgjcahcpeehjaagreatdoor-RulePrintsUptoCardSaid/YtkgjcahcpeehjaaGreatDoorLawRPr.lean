/-
  RulePrints: the walk.
-/
import Derived.Test.YtkgjcahcpeehjaaGreatDoorRdrG
import Derived.Test.YtkgjcahcpeehjaaGreatDoorPrIn
import Derived.Test.YtkgjcahcpeehjaaGreatDoorKeepO
import Derived.Test.YtkgjcahcpeehjaaGreatDoorRule02
namespace Go.Proofs.YtkgjcahcpeehjaaGreatDoor
set_option maxRecDepth 100000
open Go.ChangeShapes Go.WideShapes Go.ChangeAt Go.RowKit

theorem allP_len : ∀ l : List Tx, (allP l).length = sumL l
  | [] => rfl
  | t :: r => by rw [allP, sumL, List.length_cons, List.length_append, allP_len r]; omega
theorem digs_short : ∀ (k n : Nat), n < 10 ^ (k + 1) → (digs n).length ≤ k + 1
  | 0, n, h => by rw [digs, if_pos (by simpa using h)]; simp
  | k + 1, n, h => by
    rw [digs]
    split
    · simp
    · have := digs_short k (n / 10) (by rw [Nat.div_lt_iff_lt_mul (by omega)]; rw [Nat.pow_succ] at h; exact h)
      simp; omega
theorem nS_short {n : Int} (h : n ≤ 9223372036854775807) : (nS n).length ≤ 10000000 := by
  unfold nS
  split
  · have := digs_short 18 n.toNat (by have : (10 : Nat) ^ (18 + 1) = 10000000000000000000 := by decide
                                      omega)
    omega
  · simp
theorem short_of {r : Ru} (h : totR r ≤ 1048576) (hn : r.n ≤ 9223372036854775807) (hm : r.m ≤ 9223372036854775807) : Short r := by
  unfold totR at h
  refine ⟨by omega, by rw [allP_len]; omega, by omega, by omega, by omega, by omega, by omega, nS_short hn, nS_short hm⟩
set_option maxHeartbeats 4000000 in
theorem prints_walk (r : Ru) (A : Option Addr) (ca : Nat) (ln how : Int) (w : World) (hL : LIn w A ca r.list) (hg : HandleAt w) (ht : TabAt w)
    (LR : ∀ W, LIn W A ca r.list → Calls Tryz.prog 11 #[ruV r (.slice A r.list.length ca) ln, .int .i64 how] W (RuleOut W)) :
    Calls Tryz.prog 3 #[ruV r (.slice A r.list.length ca) ln, .int .i64 how] w (TrueOn w) := by
  obtain ⟨kd, nm, l, rn, rm, rf, rt, rb, ra, ri⟩ := r
  simp only [ruV] at *
  have B0 : Below w.heap.size w (w.alloc (.cells #[.int .i64 kd, .string (bs nm), .slice A l.length ca, .int .i64 rn, .int .i64 rm, .string (bs rf), .string (bs rt), .string (bs rb), .string (bs ra), .string (bs ri), .int .i64 ln] 24)) := (Below.refl _ _).alloc (Nat.le_refl _) _
  have R0 := heap_alloc_new w (.cells #[.int .i64 kd, .string (bs nm), .slice A l.length ca, .int .i64 rn, .int .i64 rm, .string (bs rf), .string (bs rt), .string (bs rb), .string (bs ra), .string (bs ri), .int .i64 ln] 24)
  have LR0 := Lib.hid (LR _ (hL.below B0))
  clear LR
  have r0 := row_q0 R0; have r1 := row_q1 R0; have r2 := row_q2 R0; have r3 := row_q3 R0; have r4 := row_q4 R0; have r5 := row_q5 R0; have r6 := row_q6 R0; have r7 := row_q7 R0; have r8 := row_q8 R0; have r9 := row_q9 R0; have r10 := row_q10 R0
  go_enter Tryz.func3, Tryz.ntmps3
  go_upto_region 2 with (go_at_call 11; refine LR0.out.mono ?_; rintro e w1 ⟨⟨kx, nx, lx, xn, xm, xf, xt, xb, xa, xi⟩, A1, c1, ln1, rfl, hLx, hn, hm, hs, hb1⟩; dsimp only [ruV])
  clear r0 r1 r2 r3 r4 r5 r6 r7 r8 r9 r10
  have B1 : Below w.heap.size w w1 := below_then B0 hb1 B0.size
  have RX := heap_alloc_new w1 (.cells #[.int .i64 kx, .string (bs nx), .slice A1 lx.length c1, .int .i64 xn, .int .i64 xm, .string (bs xf), .string (bs xt), .string (bs xb), .string (bs xa), .string (bs xi), .int .i64 ln1] 24)
  have B2 : Below w.heap.size w (w1.alloc (.cells #[.int .i64 kx, .string (bs nx), .slice A1 lx.length c1, .int .i64 xn, .int .i64 xm, .string (bs xf), .string (bs xt), .string (bs xb), .string (bs xa), .string (bs xi), .int .i64 ln1] 24)) := B1.alloc B1.size _
  have hL2 := hLx.below ((Below.refl _ _).alloc (Nat.le_refl w1.heap.size) (.cells #[.int .i64 kx, .string (bs nx), .slice A1 lx.length c1, .int .i64 xn, .int .i64 xm, .string (bs xf), .string (bs xt), .string (bs xb), .string (bs xa), .string (bs xi), .int .i64 ln1] 24))
  clear LR0 R0 hLx
  generalize w1.alloc (.cells #[.int .i64 kx, .string (bs nx), .slice A1 lx.length c1, .int .i64 xn, .int .i64 xm, .string (bs xf), .string (bs xt), .string (bs xb), .string (bs xa), .string (bs xi), .int .i64 ln1] 24) = w2 at *
  generalize w1.heap.size = bx at *
  have P2 := Lib.hid (print_in ⟨kx, nx, lx, xn, xm, xf, xt, xb, xa, xi⟩ A1 c1 ln1 w2 hL2 hn hm hs (hg.below' B2) (ht.below B2))
  have hlx : lx.length ≤ 1048576 := by have := sum_len lx; simp only [totR] at hs; omega
  have hsh := short_of hs hn.2 hm.2
  have PD := Lib.hid (fun W (hW : Below w2.heap.size w2 W) => RPrint_any ⟨kx, nx, lx, xn, xm, xf, xt, xb, xa, xi⟩ A1 c1 ln1 W ((hL2.below hW).at (by simp only; omega)) hsh ⟨hn.2, hm.2⟩)
  dsimp only [ruV] at P2 PD
  simp only at hL2
  clear hsh hn hm hs
  have x0 := row_q0 RX; have x1 := row_q1 RX; have x2 := row_q2 RX; have x3 := row_q3 RX; have x4 := row_q4 RX; have x5 := row_q5 RX; have x6 := row_q6 RX; have x7 := row_q7 RX; have x8 := row_q8 RX; have x9 := row_q9 RX; have x10 := row_q10 RX
  rcases hp : printP ⟨kx, nx, lx, xn, xm, xf, xt, xb, xa, xi⟩ with _ | t
  · have HP := Lib.hid hp
    rw [hp] at P2
    clear hp
    go_upto_region 3 with (go_at_call 12; refine P2.out.mono ?_; rintro e w3 ⟨hb3, rfl⟩)
    clear x0 x1 x2 x3 x4 x5 x6 x7 x8 x9 x10
    have RY := row_below RX hb3
    have x0 := row_q0 RY; have x1 := row_q1 RY; have x2 := row_q2 RY; have x3 := row_q3 RY; have x4 := row_q4 RY; have x5 := row_q5 RY; have x6 := row_q6 RY; have x7 := row_q7 RY; have x8 := row_q8 RY; have x9 := row_q9 RY; have x10 := row_q10 RY
    have PD3 := Lib.hid (PD.out w3 hb3)
    have B3 := below_then B2 hb3 B2.size
    have hzb : ((bs []).toList == []) = true := by rw [lit_bs]; rfl
    have hzc : (bs []).toList.isEmpty = true := by rw [Lib.toList_data, list_bs]; rfl
    have KI := Lib.hid (fun W => keepIsO 1 1 W (by omega) (by omega))
    clear P2 PD RX RY hL2
    go_wp2_with (first
      | (go_at_call 13; refine PD3.out.mono ?_; rintro e w4 ⟨hb4, h4⟩; simp only [HP.out] at h4; subst h4)
      | (go_at_call 15; refine (KI.out _).mono ?_; rintro e w5 ⟨rfl, rfl⟩)
      | (go_at_call 14; refine (wakes02 _).mono ?_; rintro e w6 ⟨rfl, hb6⟩))
    go_ret
    exact ⟨rfl, below_then (below_then B3 hb4 B3.size) hb6 (by have := B3.size; have := hb4.size; omega)⟩
  · have HP := Lib.hid hp
    rw [hp] at P2
    clear hp
    go_upto_region 3 with (go_at_call 12; refine P2.out.mono ?_; rintro e w3 ⟨hb3, rfl⟩)
    clear x0 x1 x2 x3 x4 x5 x6 x7 x8 x9 x10
    have RY := row_below RX hb3
    have x0 := row_q0 RY; have x1 := row_q1 RY; have x2 := row_q2 RY; have x3 := row_q3 RY; have x4 := row_q4 RY; have x5 := row_q5 RY; have x6 := row_q6 RY; have x7 := row_q7 RY; have x8 := row_q8 RY; have x9 := row_q9 RY; have x10 := row_q10 RY
    have PD3 := Lib.hid (PD.out w3 hb3)
    have B3 := below_then B2 hb3 B2.size
    have hbb : ((bs t).toList == (bs t).toList) = true := by simp
    clear P2 PD RX RY hL2
    go_wp2_with (first
      | (go_at_call 13; refine PD3.out.mono ?_; rintro e w4 ⟨hb4, h4⟩; simp only [HP.out] at h4; subst h4)
      | (go_at_call 14; refine (wakes02 _).mono ?_; rintro e w6 ⟨rfl, hb6⟩))
    go_ret
    exact ⟨rfl, below_then (below_then B3 hb4 B3.size) hb6 (by have := B3.size; have := hb4.size; omega)⟩
end Go.Proofs.YtkgjcahcpeehjaaGreatDoor
