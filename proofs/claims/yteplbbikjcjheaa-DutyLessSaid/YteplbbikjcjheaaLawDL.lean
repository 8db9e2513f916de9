/-
  DutyLess: the walk.
-/
import Derived.Test.YteplbbikjcjheaaLawDS
namespace Go.Proofs.Yteplbbikjcjheaa
set_option maxRecDepth 100000
open Go.ChangeShapes Go.WideShapes Go.ChangeAt Go.RowKit

theorem stAt_nil (w : World) : StAt w none 0 [] := ⟨Nat.le_refl _, fun j hj => by simp at hj⟩
theorem fst_nil (s : Nat) : fstI s [] = -1 := rfl
set_option maxHeartbeats 4000000 in
theorem less_walk (w : World) (s : Nat) (hs : s < 4294967296) (t : Nat) (ht : t < 4294967296) (v : Value) (zs : List Int) (hz : IntsAt w v zs) (u : Value) (rs : List Nat) (hr : U32sAt w u rs) :
    Calls Try.prog 7 #[.int .u32 s, .int .u32 t, v, u] w (TrueOn w) := by
  have ST := Lib.hid (Sets_any v u zs rs w hz hr)
  have hlt := stL_lt (zs := zs) (u32s_lt hr)
  have hlen := stL_len zs rs
  clear hz hr
  generalize stL zs rs = l at *
  have hor := u32_or_nat s t hs ht
  have hand := u32_and_nat s t hs ht
  have hq : s ||| t < 4294967296 := Nat.or_lt_two_pow (n := 32) hs ht
  have hp : s &&& t < 4294967296 := Nat.and_lt_two_pow (n := 32) s ht
  have hsum := cntTo_or_and s t 32
  have hL := fun h => less_apart (s := s) (t := t) (l := l) h
  generalize s ||| t = q at *
  generalize s &&& t = p at *
  have CC := Lib.hid (fun x W hx => (Count_any x W hx).mono fun e w' (h : e = .returned (.int .i64 (cnt x : Nat)) ∧ ∃ n, w' = W.drewN n) => (⟨h.1, by obtain ⟨n, rfl⟩ := h.2; exact below_drewN (Below.refl _ _) n⟩ : e = .returned (.int .i64 (cnt x : Nat)) ∧ Below W.heap.size W w'))
  go_enter Try.func7, Try.ntmps7
  go_upto_region 2 with (go_at_call 28; refine ST.out.mono ?_; rintro e w1 ⟨v1, v2, rfl, o1, o2, hb1⟩)
  rename_i K4 hK4
  obtain ⟨A, c, rfl⟩ := ownS_slice o1
  have S1 := Lib.hid (stAt_of o1 hlt)
  have HB1 := Lib.hid hb1
  clear o1 o2 hb1 ST hlt
  have AQ := Lib.hid (fun W (hW : Below w1.heap.size w1 W) => Apart_any q l A c W hq (S1.out.below hW) (by omega))
  have AS := Lib.hid (fun W (hW : Below w1.heap.size w1 W) => Apart_any s l A c W hs (S1.out.below hW) (by omega))
  have AN := Lib.hid (fun W => Apart_any s [] none 0 W hs (stAt_nil W) (by simp))
  have FN := Lib.hid (fun W => First_any s [] none 0 W hs (stAt_nil W) (by simp))
  have FS := Lib.hid (fun W (hW : Below w1.heap.size w1 W) => First_any s l A c W hs (S1.out.below hW) (by omega))
  rw [fst_nil] at AN FN
  have AN : Hid (∀ W, Calls Try.prog 33 #[.int .u32 s, .slice none 0 0] W fun e w' => e = .returned (.bool true) ∧ Below W.heap.size W w') := AN
  have hways : (decide (fstI q l < 0) = false) ∨ (decide (fstI q l < 0) = true ∧ decide (fstI s l < 0) = true) := by
    by_cases h : fstI q l < 0
    · right
      have := hL h
      exact ⟨by simpa using h, by rw [this]; rfl⟩
    · left; simpa using h
  have HC := Lib.hid (fst_cases s l)
  have hx0 : Below w1.heap.size w1 w1 := Below.refl _ _
  have ncQ : decide (fstI q l < 0) = decide (fstI q l < 0) := rfl
  clear hL ncQ
  generalize decide (fstI q l < 0) = bq at *
  generalize hbs : decide (fstI s l < 0) = b2 at *
  clear hbs
  go_cut [38] (fun x wx => x = .bool false ∧ Hid (Below w1.heap.size w1 wx))
  case first =>
    rcases hways with rfl | ⟨rfl, rfl⟩
    · go_wp2_with (first
        | (go_at_call_of 33 (Value.int .u32 (q : Int)); refine (AQ.out _ hx0).mono ?_; rintro e w2 ⟨rfl, hb2⟩)
        | (go_at_call_of 33 (Value.slice none 0 0); refine (AN.out _).mono ?_; rintro e w4 ⟨rfl, hb4⟩; have h4 := below_then hb2 hb4 hb2.size)
        | (go_at_call_of 32 (Value.slice none 0 0); refine (FN.out _).mono ?_; rintro e w5 ⟨rfl, hb5⟩; have h5 := below_then h4 hb5 h4.size))
      go_meet
      exact ⟨rfl, h5⟩
    · go_wp2_with (first
        | (go_at_call_of 33 (Value.int .u32 (q : Int)); refine (AQ.out _ hx0).mono ?_; rintro e w2 ⟨rfl, hb2⟩)
        | (go_at_call_of 33 (Value.slice none 0 0); refine (AN.out _).mono ?_; rintro e w4 ⟨rfl, hb4⟩; have h4 := below_then h3 hb4 h3.size)
        | (go_at_call_of 33 (Value.int .u32 (s : Int)); refine (AS.out _ hb2).mono ?_; rintro e w3 ⟨rfl, hb3⟩; have h3 := below_then hb2 hb3 hb2.size)
        | (go_at_call_of 32 (Value.slice none 0 0); refine (FN.out _).mono ?_; rintro e w5 ⟨rfl, hb5⟩; have h5 := below_then h4 hb5 h4.size))
      go_meet
      exact ⟨rfl, h5⟩
  case rest =>
    obtain ⟨rfl, HB2⟩ := hcut
    obtain ⟨w2, rfl⟩ : ∃ w2 : World, w2 = wc := ⟨_, rfl⟩
    refine hK4 _ _ ?_
    clear hK4 AQ AS AN FN hways hx0
    have END : Hid (∀ W, Below w1.heap.size w1 W → Below w.heap.size w W) := fun W hW => below_then HB1.out hW HB1.out.size
    have CS := Lib.hid (CC.out s)
    have CT := Lib.hid (CC.out t)
    have CQ := Lib.hid (CC.out q)
    have CP := Lib.hid (CC.out p)
    have C0 : Hid (∀ W, Calls Try.prog 30 #[.int .u32 0] W fun e w' => e = .returned (.int .i64 0) ∧ Below W.heap.size W w') := fun W => by
      have h := CC.out 0 W (by omega)
      rw [cnt_zero] at h; exact h
    have C1 : Hid (∀ W, Calls Try.prog 30 #[.int .u32 4294967295] W fun e w' => e = .returned (.int .i64 32) ∧ Below W.heap.size W w') := fun W => by
      have h := CC.out 4294967295 W (by omega)
      rw [cnt_all] at h; exact h
    have FSx := Lib.hid (FS.out w2 HB2.out)
    have C8 := Lib.hid (fun x W hx => CC.out x W hx)
    clear FS CC
    have l1 := cnt_le s
    have l2 := cnt_le t
    have l3 := cnt_le q
    have l4 := cnt_le p
    have hsum : cnt s + cnt t = cnt q + cnt p := hsum
    have es : ((cnt s : Int) + cnt t == (cnt q : Int) + cnt p) = true := by rw [beq_iff_eq]; omega
    have HSU := Lib.hid hsum
    clear hsum
    rcases HC.out with ⟨e1, _⟩ | ⟨k, hk, e1, hbk, hnk⟩
    · rw [e1] at FSx
      clear HC e1
      generalize cnt s = n1 at *
      generalize cnt t = n2 at *
      generalize cnt q = n3 at *
      generalize cnt p = n4 at *
      have g1 : decide ((l.length : Int) ≤ -1) = false := by simp; omega
      have g0 : (IntKind.i64.wrap ((n1 : Int) + n2)) = (n1 : Int) + n2 := by rw [IntKind.wrap_i64]; omega
      have g2 : (IntKind.i64.wrap ((n3 : Int) + n4)) = (n3 : Int) + n4 := by rw [IntKind.wrap_i64]; omega
      go_upto_region 5 with (go_at_call 32; refine FSx.out.mono ?_; rintro e w3 ⟨rfl, hb3⟩)
      have HB3 := Lib.hid (below_then HB2.out hb3 HB2.out.size)
      clear hb3 FSx HB2
      go_quiet (fail)
      have HB4 := Lib.hid (below_drewN HB3.out nq)
      generalize w3.drewN nq = w4 at *
      clear HB3 g1
      go_wp2_with (first
        | (go_at_call_of 30 (Value.int .u32 (s : Int)); refine (CS.out _ hs).mono ?_; rintro e w5 ⟨rfl, hb5⟩; have h5 := below_then HB4.out hb5 HB4.out.size)
        | (go_at_call_of 30 (Value.int .u32 (t : Int)); refine (CT.out _ ht).mono ?_; rintro e w6 ⟨rfl, hb6⟩; have h6 := below_then h5 hb6 h5.size)
        | (go_at_call_of 30 (Value.int .u32 (q : Int)); refine (CQ.out _ hq).mono ?_; rintro e w7 ⟨rfl, hb7⟩; have h7 := below_then h6 hb7 h6.size)
        | (go_at_call_of 30 (Value.int .u32 (p : Int)); refine (CP.out _ hp).mono ?_; rintro e w8 ⟨rfl, hb8⟩; have h8 := below_then h7 hb8 h7.size)
        | (go_at_call_of 30 (Value.int .u32 0); refine (C0.out _).mono ?_; rintro e w9 ⟨rfl, hb9⟩; have h9 := below_then h8 hb9 h8.size)
        | (go_at_call_of 30 (Value.int .u32 4294967295); refine (C1.out _).mono ?_; rintro e w10 ⟨rfl, hb10⟩; have h10 := below_then h9 hb10 h9.size)
        | (go_at_call 34; refine (wakes05 _).mono ?_; rintro e w11 ⟨rfl, hb11⟩; have h11 := below_then h10 hb11 h10.size))
      go_ret
      exact ⟨rfl, END.out _ h11⟩
    · rw [e1] at FSx
      have hq0 := fst_take_no hk hnk
      have hq1 := fst_take_yes hk hbk hnk
      have hal : (l.take k).length = k := by rw [List.length_take]; omega
      have hal1 : (l.take (k + 1)).length = k + 1 := by rw [List.length_take]; omega
      have P1 : Hid (∀ W, Below w2.heap.size w2 W → Calls Try.prog 33 #[.int .u32 s, .slice A k c] W fun e w' => e = .returned (.bool true) ∧ Below W.heap.size W w') := fun W hW => by
        have h := Apart_any s (l.take k) A c W hs ((S1.out.below (below_then HB2.out hW HB2.out.size)).take k) (by omega)
        rw [hq0, hal] at h
        exact h
      have P2 : Hid (∀ W, Below w2.heap.size w2 W → Calls Try.prog 33 #[.int .u32 s, .slice A (k + 1) c] W fun e w' => e = .returned (.bool false) ∧ Below W.heap.size W w') := fun W hW => by
        have h := Apart_any s (l.take (k + 1)) A c W hs ((S1.out.below (below_then HB2.out hW HB2.out.size)).take (k + 1)) (by omega)
        have e : decide (fstI s (l.take (k + 1)) < 0) = false := by rw [hq1]; simp
        rw [e, hal1] at h
        exact h
      obtain ⟨g, rfl, hgl, x1, x2, hr⟩ := (S1.out.below HB2.out).2 k hk
      have hcap := S1.out.1
      have hnc : ¬ (cnt (s &&& l[k].2) : Int) < l[k].1 := by
        have := of_decide_eq_true hbk
        omega
      clear HC e1 hbk hnk hq0 hq1 hal hal1
      generalize l[k] = a at *
      obtain ⟨n, r⟩ := a
      simp only at x1 x2 hr hnc
      have han := u32_and_nat s r hs hr
      have CN := Lib.hid (fun W => C8.out (s &&& r) W (Nat.and_lt_two_pow (n := 32) s hr))
      generalize s &&& r = y at *
      generalize cnt s = n1 at *
      generalize cnt t = n2 at *
      generalize cnt q = n3 at *
      generalize cnt p = n4 at *
      generalize cnt y = n5 at *
      have hnd : decide ((n5 : Int) < n) = false := by simpa using hnc
      have g1 : decide (l.length ≤ k) = false := by simp; omega
      have g0 : (IntKind.i64.wrap ((n1 : Int) + n2)) = (n1 : Int) + n2 := by rw [IntKind.wrap_i64]; omega
      have g2 : (IntKind.i64.wrap ((n3 : Int) + n4)) = (n3 : Int) + n4 := by rw [IntKind.wrap_i64]; omega
      have g3 : (IntKind.i64.wrap ((k : Int) + 1)) = (k : Int) + 1 := by rw [IntKind.wrap_i64]; omega
      have kc : (k : Int) ≤ c := by omega
      have kc1 : (k : Int) + 1 ≤ c := by omega
      have c0 : 0 < c := by omega
      have c1 : ¬ c = 0 := by omega
      have k0 : (0 : Int) ≤ k := by omega
      have k1 : (0 : Int) ≤ (k : Int) + 1 := by omega
      have kl : (k : Int) < l.length := by omega
      have t1 : ((k : Int) + 1).toNat = k + 1 := by omega
      have hgl2 : g < w2.heap.size := hgl
      go_upto_region 5 with (go_at_call 32; refine FSx.out.mono ?_; rintro e w3 ⟨rfl, hb3⟩)
      have HB23 := Lib.hid hb3
      have y1 := (hb3.cell (p := ⟨g, k * 2, none⟩) hgl).trans x1
      have y2 := (hb3.cell (p := ⟨g, k * 2 + 1, none⟩) hgl).trans x2
      have hgl3 : g < w3.heap.size := Nat.lt_of_lt_of_le hgl hb3.size
      clear hb3 FSx x1 x2 hgl hgl2
      have CN3 := Lib.hid (fun W (_ : Below w3.heap.size w3 W) => CN.out W)
      have bz : Below w3.heap.size w3 w3 := Below.refl _ _
      have bzd := below_drew bz
      clear CN
      go_region_held3 (fun w' => w'.cell? ⟨g, k * 2, none⟩ = some (.int .i64 n) ∧ w'.cell? ⟨g, k * 2 + 1, none⟩ = some (.int .u32 r))
        (first | exact ⟨y1, y2⟩ | exact ⟨(hC.cell (p := ⟨g, k * 2, none⟩) hgl3).trans y1, (hC.cell (p := ⟨g, k * 2 + 1, none⟩) hgl3).trans y2⟩ | exact ⟨(hD.cell (p := ⟨g, k * 2, none⟩) hgl3).trans y1, (hD.cell (p := ⟨g, k * 2 + 1, none⟩) hgl3).trans y2⟩ | exact ⟨(hE.cell (p := ⟨g, k * 2, none⟩) hgl3).trans y1, (hE.cell (p := ⟨g, k * 2 + 1, none⟩) hgl3).trans y2⟩ | go_keep)
        (first
          | (go_at_call 30; refine (CN3.out _ (by first | exact bz | exact bzd)).mono ?_; rintro e w4 ⟨rfl, hb4⟩; have hC := below_then (by first | exact bz | exact bzd : Below w3.heap.size w3 _) hb4 (by first | exact bz.size | exact bzd.size))
          | (go_at_call_of 33 (Value.slice (some ⟨g, 0, none⟩) k c); refine (P1.out _ (below_then HB23.out hC HB23.out.size)).mono ?_; rintro e w5 ⟨rfl, hb5⟩; have hD := below_then hC hb5 hC.size)
          | (go_at_call 33; refine (P2.out _ (below_then HB23.out hD HB23.out.size)).mono ?_; rintro e w6 ⟨rfl, hb6⟩; have hE := below_then hD hb6 hD.size))
      all_goals
        have HB4 := Lib.hid (below_then HB23.out hE HB23.out.size)
        have HB4 := Lib.hid (below_then HB2.out HB4.out HB2.out.size)
        clear y1 y2 hC hD hE hnc hnd han
        go_wp2_with (first
          | (go_at_call_of 30 (Value.int .u32 (s : Int)); refine (CS.out _ hs).mono ?_; rintro e w5 ⟨rfl, hb5⟩; have h5 := below_then HB4.out hb5 HB4.out.size)
          | (go_at_call_of 30 (Value.int .u32 (t : Int)); refine (CT.out _ ht).mono ?_; rintro e w6 ⟨rfl, hb6⟩; have h6 := below_then h5 hb6 h5.size)
          | (go_at_call_of 30 (Value.int .u32 (q : Int)); refine (CQ.out _ hq).mono ?_; rintro e w7 ⟨rfl, hb7⟩; have h7 := below_then h6 hb7 h6.size)
          | (go_at_call_of 30 (Value.int .u32 (p : Int)); refine (CP.out _ hp).mono ?_; rintro e w8 ⟨rfl, hb8⟩; have h8 := below_then h7 hb8 h7.size)
          | (go_at_call_of 30 (Value.int .u32 0); refine (C0.out _).mono ?_; rintro e w9 ⟨rfl, hb9⟩; have h9 := below_then h8 hb9 h8.size)
          | (go_at_call_of 30 (Value.int .u32 4294967295); refine (C1.out _).mono ?_; rintro e w10 ⟨rfl, hb10⟩; have h10 := below_then h9 hb10 h9.size)
          | (go_at_call 34; refine (wakes05 _).mono ?_; rintro e w11 ⟨rfl, hb11⟩; have h11 := below_then h10 hb11 h10.size))
        go_ret
        exact ⟨rfl, END.out _ h11⟩
end Go.Proofs.Yteplbbikjcjheaa
