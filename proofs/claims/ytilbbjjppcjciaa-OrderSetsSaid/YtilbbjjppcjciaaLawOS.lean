/-
  OrderSets: the walk.
-/
import Derived.Test.YtilbbjjppcjciaaOrd6
import Derived.Test.YtilbbjjppcjciaaSets0
import Derived.Deep.RegionWith
namespace Go.Proofs.Ytilbbjjppcjciaa
set_option maxRecDepth 100000
open Go.ChangeShapes Go.WideShapes Go.ChangeAt Go.RowKit

theorem shr_bit (y k : Nat) (hy : y < 4294967296) : (bits .and .u32 ((y : Int) / 2 ^ k) 1 == 1) = y.testBit k := by
  have e : (y : Int) / 2 ^ k = ((y / 2 ^ k : Nat) : Int) := by norm_cast
  have hl : y / 2 ^ k < 4294967296 := Nat.lt_of_le_of_lt (Nat.div_le_self _ _) hy
  have h1 := u32_and_nat (y / 2 ^ k) 1 hl (by omega)
  rw [e, show (1 : Int) = ((1 : Nat) : Int) from rfl, h1, nat_mask1, Nat.testBit_eq_decide_div_mod_eq]
  have : y / 2 ^ k % 2 < 2 := Nat.mod_lt _ (by omega)
  generalize y / 2 ^ k % 2 = x at *
  rcases (by omega : x = 0 ∨ x = 1) with rfl | rfl <;> rfl
theorem u32_nat {x : Int} (h : (Lit.int .u32 x).wf = true) : ∃ k : Nat, x = (k : Int) ∧ k < 4294967296 := by
  have h1 : IntKind.u32.min ≤ x ∧ x ≤ IntKind.u32.max := by simpa [Lit.wf] using h
  have a : IntKind.u32.min = 0 := by decide
  have b : IntKind.u32.max = 4294967295 := by decide
  exact ⟨x.toNat, by omega, by omega⟩
set_option maxHeartbeats 8000000 in
theorem sets_walk (w : World) (v : Value) (zs : List Int) (hz : IntsAt w v zs) (n : Int) (hn : (Lit.int .i64 n).wf = true) (s t : Nat) (hs : s < 4294967296) (ht : t < 4294967296) :
    Calls Try.prog 7 #[v, .int .i64 n, .int .u32 s, .int .u32 t] w (TrueOn w) := by
  have hw := within_bd n 10 (by omega)
  have WI := Lib.hid (Within_any n 10 w hn (by omega) (by omega))
  obtain ⟨N, hNe⟩ : ∃ N : Nat, 1 + within n 10 = (N : Int) := ⟨(1 + within n 10).toNat, by omega⟩
  have hN1 : 1 ≤ N := by omega
  have hN8 : N ≤ 10 := by omega
  have PA := Lib.hid (Pairs_any v zs N true w hz (by omega))
  have hpl := prs_len zs N true
  have HPS := Lib.hid (prs_ok (zs := zs) (n := N))
  generalize prs zs N true = ps at *
  have hsum : IntKind.i64.wrap (1 + within n 10) = (N : Int) := by rw [IntKind.wrap_i64]; omega
  have hv : ∃ A c, v = .slice A zs.length c := let ⟨A, c, e, _⟩ := hz; ⟨A, c, e⟩
  clear hz
  obtain ⟨A0, c0, rfl⟩ := hv
  generalize within n 10 = wn at *
  clear hn hNe
  go_enter Try.func7, Try.ntmps7
  go_upto_region 3 with (first
    | (go_at_call 9; refine WI.out.mono ?_; rintro e w1 ⟨rfl, rfl⟩)
    | (go_at_call 10; refine PA.out.mono ?_; rintro e w1 ⟨v1, v2, v3, rfl, o1, o2, o3, hb1⟩))
  obtain ⟨A, c, rfl⟩ := ownL_nm o1
  obtain ⟨B, d, rfl⟩ := ownP_pr o2
  have NW := Lib.hid (New_up N ps A B c d (by omega) (by omega) (listL_nm o1) (listP_pr o2) HPS.out)
  have L1 := Lib.hid (listL_nm o1)
  have hB1 := hb1.size
  clear o1 o2 o3 PA WI hsum hw
  go_upto_region 6 with (go_at_call 11; refine NW.out.mono ?_; rintro e w2 ⟨g, rfl, ho, hb2⟩)
  have HB2 := Lib.hid (below_then hb1 hb2 hB1)
  obtain ⟨gN, rfl, hgl, hNc, hcells⟩ := names_cells (L1.out.below hb2) hN1
  have HC := Lib.hid hcells
  have RR := Lib.hid (ab_refl N ps)
  have RT := Lib.hid (fun i k j (hk : k < N) => ab_trans (N := N) (ps := ps) (i := i) (k := k) (j := j) hk)
  have AB := Lib.hid (fun i j (hi : i < N) (hj : j < N) => Above_nm ho i j hi hj)
  obtain ⟨hN24, bl, hoa, hrel, hbd⟩ := ho
  have hrr : ∀ i, i < N → rel bl i i = true := fun i hi => by rw [hrel i i hi hi]; exact RR.out i
  have htt : ∀ i k j, rel bl i k = true → rel bl k j = true → rel bl i j = true := fun i k j h1 h2 => by
    have b1 := hbd i k h1
    have b2 := hbd k j h2
    rw [hrel i k b1.1 b1.2] at h1
    rw [hrel k j b2.1 b2.2] at h2
    rw [hrel i j b1.1 b2.2]
    exact RT.out i k j b1.2 h1 h2
  have hlo := hoa.lo
  have dn := fun x hx => Down_any g (nmL N) bl w2 x hx hoa
  have un := fun x hx => Up_any g (nmL N) bl w2 x hx hoa
  rw [nmL_length] at dn un
  have REL := Lib.hid hrel
  -- the laws
  have hal := all_lt hN24
  have HALL : Hid (((2 : Int) ^ N % 4294967296 - 1) % 4294967296 = (allN N : Int)) := by
    show _ = _
    have h1 : (2 : Int) ^ N = ((2 ^ N : Nat) : Int) := by norm_cast
    have h2 : 2 ^ N ≤ 2 ^ 24 := Nat.pow_le_pow_right (by omega) hN24
    have h3 : 0 < 2 ^ N := Nat.two_pow_pos N
    unfold allN
    rw [h1]
    generalize 2 ^ N = P at *
    omega
  -- the laws
  have q1 := u32_andNot_nat (downTo bl s N) (allN N) (by have := down_lt (N := N) hlo s; omega) (by omega)
  rw [down_in hbd s hN24] at q1
  have q2 := u32_andNot_nat (upperTo bl s N) (allN N) (by have := upper_lt (bl := bl) hN24 s; omega) (by omega)
  rw [upper_in s hN24] at q2
  have q3 := u32_and_nat (downTo bl s N) s (by have := down_lt (N := N) hlo s; omega) hs
  rw [down_self hbd hrr s] at q3
  have q4 := u32_and_nat (upperTo bl s N) s (by have := upper_lt (bl := bl) hN24 s; omega) hs
  rw [upper_self hrr s] at q4
  have q5 := u32_and_nat s (allN N) hs (by omega)
  have q6 := u32_or_nat s t hs ht
  have q7 := u32_or_nat (downTo bl s N) (downTo bl t N) (by have := down_lt (N := N) hlo s; omega) (by have := down_lt (N := N) hlo t; omega)
  have q8 := u32_or_nat (upperTo bl s N) (upperTo bl t N) (by have := upper_lt (bl := bl) hN24 s; omega) (by have := upper_lt (bl := bl) hN24 t; omega)
  have hst : s ||| t < 4294967296 := Nat.or_lt_two_pow (n := 32) hs ht
  have d1 := dn s hs
  have d2 := dn (downTo bl s N) (by have := down_lt (N := N) hlo s; omega)
  rw [down_down hbd hrr htt s] at d2
  have d3 := dn (s ||| t) hst
  rw [down_or s t] at d3
  have d4 := dn t ht
  have u1 := un s hs
  have u2 := un (upperTo bl s N) (by have := upper_lt (bl := bl) hN24 s; omega)
  rw [upper_upper hrr htt s] at u2
  have u3 := un (s ||| t) hst
  rw [upper_or s t] at u3
  have u4 := un t ht
  have HDN := Lib.hid dn
  have HUN := Lib.hid un
  have HLO := Lib.hid hlo
  have HOA := Lib.hid hoa
  -- the last line
  have DU := Lib.hid (down_upper hbd s t)
  have dl := down_lt (N := N) hlo s
  have ul := upper_lt (bl := bl) hN24 t
  clear dn un hrr htt hlo hbd hrel hoa NW L1 RT RR hst
  generalize downTo bl s N ||| downTo bl t N = dO at *
  generalize upperTo bl s N ||| upperTo bl t N = uO at *
  generalize s ||| t = st at *
  generalize s &&& allN N = X at *
  generalize downTo bl s N = dS at *
  generalize upperTo bl s N = uS at *
  generalize downTo bl t N = dT at *
  generalize hUT : upperTo bl t N = uT at *
  have HUT := Lib.hid hUT
  clear hUT
  generalize allN N = al at *
  have D1 := Lib.hid d1; have D2 := Lib.hid d2; have D3 := Lib.hid d3; have D4 := Lib.hid d4
  have U1 := Lib.hid u1; have U2 := Lib.hid u2; have U3 := Lib.hid u3; have U4 := Lib.hid u4
  clear d1 d2 d3 d4 u1 u2 u3 u4
  go_upto_region 7 with fail
  rw [HALL.out]
  simp only [Int.ofNat_zero] at q1 q2
  go_upto_region 11 with (first
    | (go_at_call_of 24 (Value.int .u32 (s : Int)); refine D1.out.mono ?_; rintro e w9 ⟨rfl, rfl⟩)
    | (go_at_call_of 26 (Value.int .u32 (s : Int)); refine U1.out.mono ?_; rintro e w9 ⟨rfl, rfl⟩)
    | (go_at_call_of 24 (Value.int .u32 (dS : Int)); refine D2.out.mono ?_; rintro e w9 ⟨rfl, rfl⟩)
    | (go_at_call_of 26 (Value.int .u32 (uS : Int)); refine U2.out.mono ?_; rintro e w9 ⟨rfl, rfl⟩)
    | (go_at_call_of 24 (Value.int .u32 (st : Int)); refine D3.out.mono ?_; rintro e w9 ⟨rfl, rfl⟩)
    | (go_at_call_of 26 (Value.int .u32 (st : Int)); refine U3.out.mono ?_; rintro e w9 ⟨rfl, rfl⟩)
    | (go_at_call_of 24 (Value.int .u32 (t : Int)); refine D4.out.mono ?_; rintro e w9 ⟨rfl, rfl⟩)
    | (go_at_call_of 26 (Value.int .u32 (t : Int)); refine U4.out.mono ?_; rintro e w9 ⟨rfl, rfl⟩))
  clear q1 q2 q3 q4 q5 q6 q7 q8 D1 D2 D3 U1 U2 U3
  go_loopw [122] (fun i wr => ∃ k : Nat, k ≤ N ∧ i = .int .i64 k ∧ Hid (Below w2.heap.size w2 wr)) (fun i _ => N - (intOf i).toNat)
  case atStart => exact ⟨0, Nat.zero_le _, rfl, Below.refl _ _⟩
  case round =>
    obtain ⟨i, hi, rfl, HB⟩ := hrel
    by_cases hil : i < N
    · go_upto_region 14 with fail
      go_loopw [127] (fun i wr => ∃ k : Nat, k ≤ N ∧ i = .int .i64 k ∧ Hid (Below w2.heap.size w2 wr)) (fun i _ => N - (intOf i).toNat)
      case atStart => exact ⟨0, Nat.zero_le _, rfl, HB⟩
      case round =>
        obtain ⟨k, hk, rfl, HBk⟩ := hrel
        by_cases hkl : k < N
        · go_upto_region 16 with fail
          obtain ⟨wx, rfl⟩ : ∃ wx : World, wx = wr := ⟨_, rfl⟩
          have xi := (HBk.out.cell (p := ⟨gN, i, none⟩) hgl).trans (HC.out i hil)
          have xk := (HBk.out.cell (p := ⟨gN, k, none⟩) hgl).trans (HC.out k hkl)
          have ABQ : Hid (∀ m, Calls Try.prog 13 #[.pointer (some ⟨g, 0, none⟩), .string (bs (nmN i)), .string (bs (nmN k))] (wx.drewN m) fun e w' => e = .returned (.bool (ab N ps i k)) ∧ w' = wx.drewN m) := fun m => by
            have h := Above_any g (nmL N) bl (wx.drewN m) (nmN i) (nmN k) (HOA.out.below (below_drewN HBk.out m))
            rw [above_nm (by omega) bl hil hkl, REL.out i k hil hkl] at h
            exact h.mono fun e w' h => ⟨h.1, h.2.symm⟩
          have dk := down_one (bl := bl) hil k
          have uk := upper_one (bl := bl) hil k
          rw [REL.out i k hil hkl] at dk uk
          have ji : (0 : Int) ≤ i := by omega
          have ji2 : (i : Int) < N := by omega
          have jk : (0 : Int) ≤ k := by omega
          have jk2 : (k : Int) < N := by omega
          have DK := Lib.hid dk
          have UK := Lib.hid uk
          clear dk uk
          generalize ab N ps i k = r at *
          generalize nmN i = Xi at *
          generalize nmN k = Xk at *
          go_quiet ((go_at_call 13; exact Calls.quiet_of_same (ABQ.out _)))
          have HBq := Lib.hid (below_drewN HBk.out nq)
          clear ABQ HBk
          generalize wx.drewN nq = wy at *
          have cd := Down_any g (nmL N) bl wy (bitN i) (bit_lt (by omega)) (HOA.out.below HBq.out)
          have cu := Up_any g (nmL N) bl wy (bitN k) (bit_lt (by omega)) (HOA.out.below HBq.out)
          rw [nmL_length] at cd cu
          have ei := bit_val (i := i) (by omega)
          have ek := bit_val (i := k) (by omega)
          have dlt := down_lt (N := N) HLO.out (bitN i)
          have ult := upper_lt (bl := bl) hN24 (bitN k)
          have CD := Lib.hid cd
          have CU := Lib.hid cu
          clear cd cu xi xk
          generalize downTo bl (bitN i) N = y at *
          generalize upperTo bl (bitN k) N = z at *
          generalize bitN i = bi at *
          generalize bitN k = bk at *
          have hy := shr_bit y k (by omega)
          have hz := shr_bit z i (by omega)
          rw [DK.out] at hy
          rw [UK.out] at hz
          clear DK UK
          cases r
          all_goals
            go_wp2_with (first
              | (go_at_call 24; refine CD.out.mono ?_; rintro e w9 ⟨rfl, rfl⟩)
              | (go_at_call 26; refine CU.out.mono ?_; rintro e w9 ⟨rfl, rfl⟩))
            go_roundw
            case rel => exact ⟨k + 1, by omega, by go_num, HBq⟩
            case measure => simp [intOf]; omega
        · go_wp2
          go_roundw
          case rel => exact ⟨i + 1, by omega, by go_num, HBk⟩
          case measure => simp [intOf]; omega
    · obtain ⟨wx, rfl⟩ : ∃ wx : World, wx = wr := ⟨_, rfl⟩
      have cu := Up_any g (nmL N) bl wx t ht (HOA.out.below HB.out)
      have cd0 := Down_any g (nmL N) bl wx 0 (by omega) (HOA.out.below HB.out)
      have cu0 := Up_any g (nmL N) bl wx 0 (by omega) (HOA.out.below HB.out)
      rw [nmL_length] at cu cd0 cu0
      rw [down_zero] at cd0
      rw [upper_zero] at cu0
      rw [HUT.out] at cu
      have p1 := u32_and_nat dS t (by omega) ht
      have p2 := u32_and_nat (dS &&& t) al (Nat.lt_of_le_of_lt Nat.and_le_left (by omega)) (by omega)
      have p3 := u32_and_nat uT s (by omega) hs
      have p4 := u32_and_nat (uT &&& s) al (Nat.lt_of_le_of_lt Nat.and_le_left (by omega)) (by omega)
      have key : ∃ q : Bool, (((dS &&& t &&& al : Nat) : Int) != 0) = q ∧ (((uT &&& s &&& al : Nat) : Int) != 0) = q := by
        have h := DU.out
        generalize dS &&& t &&& al = P at *
        generalize uT &&& s &&& al = Q at *
        by_cases hP : P = 0
        · have hQ := h.1 hP
          exact ⟨false, by simp [hP], by simp [hQ]⟩
        · have hQ : Q ≠ 0 := fun e => hP (h.2 e)
          exact ⟨true, by rw [bne_iff_ne]; omega, by rw [bne_iff_ne]; omega⟩
      obtain ⟨q, k1, k2⟩ := key
      clear DU
      generalize dS &&& t &&& al = P at *
      generalize uT &&& s &&& al = Q at *
      generalize dS &&& t = P0 at *
      generalize uT &&& s = Q0 at *
      have CU := Lib.hid cu
      have CD0 := Lib.hid cd0
      have CU0 := Lib.hid cu0
      have HBf := Lib.hid (below_then HB2.out HB.out HB2.out.size)
      clear cu cd0 cu0 HB HC AB HDN HUN HLO HOA REL D4 U4 HPS
      cases q
      all_goals
        go_wp2_with (first
          | (go_at_call_of 26 (Value.int .u32 (t : Int)); refine CU.out.mono ?_; rintro e w9 ⟨rfl, rfl⟩)
          | (go_at_call 24; refine CD0.out.mono ?_; rintro e w9 ⟨rfl, rfl⟩)
          | (go_at_call 26; refine CU0.out.mono ?_; rintro e w9 ⟨rfl, rfl⟩)
          | (go_at_call 14; refine (wakes04 _).mono ?_; rintro e w8 ⟨rfl, hb8⟩))
        go_ret
        exact ⟨rfl, below_then HBf.out hb8 HBf.out.size⟩
end Go.Proofs.Ytilbbjjppcjciaa
