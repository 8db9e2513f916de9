import Derived.Test.YtkalfhhdljndfaaGreatDoorGe0
import Derived.Test.YtkalfhhdljndfaaGreatDoorGw
import Derived.Test.YtkalfhhdljndfaaGreatDoorSplit
import Derived.LaidEql
import Derived.Lib.IfaceEq
import Derived.Stop.Asserts
import Derived.RowKitTokens
import Derived.Test.YtkalfhhdljndfaaGreatDoorOnes
namespace Go.Proofs.YtkalfhhdljndfaaGreatDoor
set_option maxRecDepth 100000
open Go.ChangeShapes Go.WideShapes Go.ChangeAt Go.RowKit
theorem givTo_yes {k : Int} (hk : k = 0) {x : Gr} {w0 w' : World} {b : Nat} {v : Value} {gs : List Gr} {last : Int} {e : Ending} (h : GivTo k x w0 b v gs last e w') : e = .returned (.tuple #[.int .i64 x.num, .nilIface]) ∧ GrTo w0 b v (gs ++ [x]) x.num w' := by
 unfold GivTo at h; rwa [if_pos hk] at h
theorem givTo_not {k : Int} (hk : k ≠ 0) {x : Gr} {w0 w' : World} {b : Nat} {v : Value} {gs : List Gr} {last : Int} {e : Ending} (h : GivTo k x w0 b v gs last e w') : e = .returned (.tuple #[.int .i64 0, .iface 49 (.int .i64 k)]) ∧ GrTo w0 b v gs last w' := by
 unfold GivTo at h; rw [if_neg hk, erV_no hk] at h; exact h
set_option maxHeartbeats 8000000 in
theorem gerr_walk (w : World) (a : Int) (ha : (Lit.int .i64 a).wf = true) (hg : HandleAt w) (ht : TabAt w) :
  Calls Tryz.prog 6 #[.int .i64 a] w (TrueOn w) := by
 have h1 := within_bd a 1073741804 (by omega)
 have WI := Lib.hid (fun W => Within_any a 1073741804 W ha (by omega) (by omega))
 generalize within a 1073741804 = n at *
 have hn0 : 0 ≤ n := h1.1
 have hn1 : n ≤ 1073741803 := by omega
 have SM := Lib.hid (some_any 2 (by decide) (by decide) w hg ht)
 clear h1 ha hg ht
 go_enter Tryz.func6, Tryz.ntmps6
 go_upto_region 2 with (go_at_call 28; refine SM.out.mono ?_; rintro e w1 ⟨hb1, rb, ro, rfl, _, hR⟩; have HB1 := Lib.hid hb1; have HRR := Lib.hid hR; have NW := Lib.hid (NewG_any w1); clear hb1 hR)
 go_upto_region 3 with (go_at_call 29; refine NW.out.mono ?_; rintro e w2 ⟨rfl, hm2, hb2⟩; have HM2 := Lib.hid hm2; have HB2 := Lib.hid hb2; clear hm2 hb2)
 go_upto_region 6 with (go_at_call 27; refine (WI.out _).mono ?_; rintro e w3 ⟨rfl, rfl⟩)
 go_upto_region 7 with fail
 go_loopw [65] (fun i wr => ∃ (m : Nat) (v : Value), m ≤ 19 ∧ i = .int .i64 m ∧ Hid (GrM wr w1.heap.size v (geS n m) (geL m)) ∧ Hid (∀ k, v.ownBlock = some k → w2.heap.size < k) ∧ Hid (TabE wr w2.heap.size n) ∧ Hid (Below w1.heap.size w1 wr)) (fun i _ => 19 - (intOf i).toNat)
 case atStart => exact ⟨0, .slice none 0 0, Nat.zero_le _, rfl, HM2.out.below (rbox w2 _), fun k e => by simp [Value.ownBlock] at e, ge_tab w2 n _, below_then HB2.out (rbox w2 _) HB2.out.size⟩
 case round =>
  obtain ⟨m, v, hm, rfl, HM, HV, HTB, HB⟩ := hrel
  by_cases hlt : m < 19
  ·obtain ⟨hx, hst⟩ := ge_step hn0 hn1 hlt
   have hli : (m : Int) < 19 := by omega
   have HI := Lib.hid (geI n hn0 hn1 m)
   have q0 := HTB.out.2 m hx 0 _ (by omega) rfl; have q1 := HTB.out.2 m hx 1 _ (by omega) rfl; have q2 := HTB.out.2 m hx 2 _ (by omega) rfl; have q3 := HTB.out.2 m hx 3 _ (by omega) rfl; have q4 := HTB.out.2 m hx 4 _ (by omega) rfl; have q5 := HTB.out.2 m hx 5 _ (by omega) rfl; have q6 := HTB.out.2 m hx 6 _ (by omega) rfl
   simp only [Nat.add_zero] at q0
   have HST := Lib.hid hst
   clear hst
   generalize (geT n)[m] = x at *
   obtain ⟨xf, xt, xr, xw, xn, xi, xe⟩ := x
   have her := HST.out.er
   have hrole := HST.out.role
   have hloan := HST.out.loan
   have hxlo := HST.out.lo
   have hxhi := HST.out.hi
   simp only at q0 q1 q2 q3 q4 q5 q6 her hrole hloan hxlo hxhi
   unfold geX at her
   dsimp only at her
   have HGR := Lib.hid (fun W (hW : Below wr.heap.size wr W) => by
    have h9 := give_any HRR.out (HM.out.below hW) HI.out (below_then HB.out hW (Nat.le_of_lt HM.out.lt)) xf xt xr hrole xw xn xi hloan
    rw [her] at h9
    exact h9)
   have HOK : Hid (xe = 0 → geS n (m + 1) = geS n m ++ [giveG (geS n m) (giveX (geS n m) (geL m) xf xt xr xw) xn xi] ∧ geL (m + 1) = (giveG (geS n m) (giveX (geS n m) (geL m) xf xt xr xw) xn xi).num ∧ (giveG (geS n m) (giveX (geS n m) (geL m) xf xt xr xw) xn xi).num ≠ 0) := HST.out.ok
   have HNO : Hid (xe ≠ 0 → geS n (m + 1) = geS n m ∧ geL (m + 1) = geL m) := HST.out.no
   clear her hrole hloan HST
   generalize giveG (geS n m) (giveX (geS n m) (geL m) xf xt xr xw) xn xi = nx at *
   have hfew := HI.out.few
   have HX := Lib.hid (heap_alloc_new wr (.cells #[.string (bs xf), .string (bs xt), .string (bs xr), .int .i64 xw, .int .i64 xn, .int .i64 xi, .int .i64 xe] 72))
   have HBX := Lib.hid (rbox wr (.cells #[.string (bs xf), .string (bs xt), .string (bs xr), .int .i64 xw, .int .i64 xn, .int .i64 xi, .int .i64 xe] 72))
   have hlx : wr.heap.size < (wr.alloc (.cells #[.string (bs xf), .string (bs xt), .string (bs xr), .int .i64 xw, .int .i64 xn, .int .i64 xi, .int .i64 xe] 72)).heap.size := by simp
   go_upto_region 9 with fail
   generalize wr.alloc (.cells #[.string (bs xf), .string (bs xt), .string (bs xr), .int .i64 xw, .int .i64 xn, .int .i64 xi, .int .i64 xe] 72) = w4 at *
   clear q0 q1 q2 q3 q4 q5 q6
   have LI := Lib.hid (ListG_any (HM.out.below HBX.out) (by omega))
   go_upto_region 10 with (go_at_call 31; refine LI.out.mono ?_; rintro e w5 ⟨A5, c5, rfl, _, hb5⟩; have HB5 := Lib.hid (below_then HBX.out hb5 HBX.out.size); have HX5 := Lib.hid ((hb5.block _ hlx).trans HX.out); clear hb5)
   clear LI
   obtain ⟨x0, x1, x2, x3, x4, x5, x6⟩ := gqs0 HX5.out
   have GV := Lib.hid (HGR.out w5 HB5.out)
   have hwr2 := HTB.out.1
   have hmb : w1.heap.size < wr.heap.size := HM.out.lt
   have HW5 := Lib.hid (below_then HB.out HB5.out (Nat.le_of_lt hmb))
   have HM5 := Lib.hid (HM.out.below HB5.out)
   have HT5 := Lib.hid (HTB.out.chg (S := fun _ => False) (Chg.of_below HB5.out) (fun h => h))
   have h5z := HB5.out.size
   have hb12 : w1.heap.size < w2.heap.size := HM2.out.lt
   have HOV : Hid (∀ k, v.ownBlock = some k → k < wr.heap.size) := fun k e => (HM.out.own.lt k e).2
   clear HGR HBX HB5 HX HM HTB HB
   by_cases hxe : xe = 0
   ·obtain ⟨hs1, hs2, hs3⟩ := HOK.out hxe
    have HS1 := Lib.hid hs1
    have hnum : (nx.num == 0) = false := by simpa using hs3
    have HL9 : Hid (nx.num = geL (m + 1)) := hs2.symm
    clear hs1 hs2 hs3 HOK HNO hxlo hxhi
    subst hxe
    go_upto_region 11 with (go_at_call 30; refine GV.out.mono ?_; intro e w6 h6; obtain ⟨e9, hg6⟩ := givTo_yes rfl h6; subst e9; clear h6; have HG6 := Lib.hid (grTo_on HW5.out (by omega) hg6 (Nat.le_refl _) (fun k e => by have := HV.out k e; omega)); clear hg6)
    obtain ⟨v6, hm6, hb6, hv6, hc6⟩ := HG6.out
    have HM6 : Hid (GrM w6 w1.heap.size v6 (geS n (m + 1)) (geL (m + 1))) := by show GrM _ _ _ _ _; rw [← HL9.out, HS1.out]; exact hm6
    have HB6 := Lib.hid hb6
    have HT6 := Lib.hid (HT5.out.chg hc6 (fun h => h.elim (fun e => by omega) (fun e => by have := HV.out _ e; omega)))
    have HX6 := Lib.hid ((hc6.block wr.heap.size (by have := (Array.getElem?_eq_some_iff.1 HX5.out).1; exact this) (fun h => h.elim (fun e => by omega) (fun e => by have := HOV.out _ e; omega))).trans HX5.out)
    have HV6 : Hid (∀ k, v6.ownBlock = some k → w2.heap.size < k) := fun k e => (hv6 k e).elim (HV.out k) (fun h => by omega)
    clear x0 x1 x2 x3 x4 x5 x6 hm6 hb6 hv6 hc6 HG6 GV
    have x6 := gq6 HX6.out
    generalize nx.num = nn at *
    go_wp2_with (go_at_call 24; refine (keepIsNilR _).mono ?_; rintro e w7 ⟨rfl, rfl⟩)
    go_roundw
    case rel => exact ⟨m + 1, v6, by omega, by go_num, HM6, HV6, HT6, HB6⟩
    case measure => simp [intOf]; omega
   ·obtain ⟨hs1, hs2⟩ := HNO.out hxe
    have hx1 : (xe == 0) = false := by simpa using hxe
    have hx2 : (xe != 0) = true := by simpa using hxe
    have KI := Lib.hid (fun W => ko.keepIsO xe xe W (by omega) hxhi)
    have hee : (xe == xe) = true := by simp
    have HS9 := Lib.hid (And.intro hs1 hs2)
    have HXE : Hid (xe ≠ 0) := hxe
    clear hs1 hs2 HOK HNO hxlo hxhi hxe
    go_upto_region 11 with (go_at_call 30; refine GV.out.mono ?_; intro e w6 h6; obtain ⟨e9, hg6⟩ := givTo_not HXE.out h6; subst e9; clear h6; have HG6 := Lib.hid (grTo_on HW5.out (by omega) hg6 (Nat.le_refl _) (fun k e => by have := HV.out k e; omega)); clear hg6)
    obtain ⟨v6, hm6, hb6, hv6, hc6⟩ := HG6.out
    have LI := Lib.hid (ListG_any hm6 (by omega))
    have HM6 : Hid (GrM w6 w1.heap.size v6 (geS n (m + 1)) (geL (m + 1))) := by show GrM _ _ _ _ _; rw [HS9.out.1, HS9.out.2]; exact hm6
    have HB6 := Lib.hid hb6
    have HT6 := Lib.hid (HT5.out.chg hc6 (fun h => h.elim (fun e => by omega) (fun e => by have := HV.out _ e; omega)))
    have HX6 := Lib.hid ((hc6.block wr.heap.size (by have := (Array.getElem?_eq_some_iff.1 HX5.out).1; exact this) (fun h => h.elim (fun e => by omega) (fun e => by have := HOV.out _ e; omega))).trans HX5.out)
    have HV6 : Hid (∀ k, v6.ownBlock = some k → w2.heap.size < k) := fun k e => (hv6 k e).elim (HV.out k) (fun h => by omega)
    clear x0 x1 x2 x3 x4 x5 x6 hm6 hb6 hv6 hc6 HG6 GV
    have x6 := gq6 HX6.out
    have h6z := HT6.out.1
    go_wp2_with (first
     | (go_at_call 24; refine (KI.out _).mono ?_; rintro e w7 ⟨rfl, rfl⟩)
     | (go_at_call 31; refine LI.out.mono ?_; rintro e w8 ⟨A8, c8, rfl, _, hb8⟩; have HB8 := Lib.hid hb8; clear hb8))
    go_roundw
    case rel => exact ⟨m + 1, v6, by omega, by go_num, HM6.out.below HB8.out, HV6, HT6.out.chg (S := fun _ => False) (Chg.of_below HB8.out) (fun h => h), below_then HB6.out HB8.out (by omega)⟩
    case measure => simp [intOf]; omega
  ·have hm19 : m = 19 := by omega
   subst hm19
   have hb12 : w1.heap.size < w2.heap.size := HM2.out.lt
   have hmb : w1.heap.size < wr.heap.size := HM.out.lt
   have hl19 : (geS n 19).length ≤ 1000 := by have := (geI n hn0 hn1 19).few; omega
   have R9 := Lib.hid (Revoke_none HM.out hl19 9 [117, 97] (ge_find9 n))
   have R1 : Hid (∀ W, Below wr.heap.size wr W → Calls Tryz.prog 34 #[.pointer (some ⟨w1.heap.size, 0, none⟩), .int .i64 1, .string (bs [117, 98])] W fun e w' => e = .returned (.iface 49 (.int .i64 8)) ∧ Below W.heap.size W w') := fun W hW => Revoke_denied (HM.out.below hW) hl19 1 [117, 98] (geG1 n) (ge_find1 n) (ge_from n)
   have E0 : Hid (∀ W, Below wr.heap.size wr W → Calls Tryz.prog 35 #[.pointer (some ⟨w1.heap.size, 0, none⟩), .int .i64 n] W (RemTo (geS n 19, []) W w1.heap.size v (geL 19))) := fun W hW => by
    have h := Expire_any (HM.out.below hW) hl19 n
    rwa [ge_exp0] at h
   have E5 : Hid (∀ W v9, GrM W w1.heap.size v9 (geS n 19) (geL 19) → Calls Tryz.prog 35 #[.pointer (some ⟨w1.heap.size, 0, none⟩), .int .i64 (n + 5)] W (RemTo ([geG1 n], [2]) W w1.heap.size v9 (geL 19))) := fun W v9 hW => by
    have h := Expire_any hW hl19 (n + 5)
    rwa [ge_exp5] at h
   have E20 : Hid (∀ W v9, GrM W w1.heap.size v9 [geG1 n] (geL 19) → Calls Tryz.prog 35 #[.pointer (some ⟨w1.heap.size, 0, none⟩), .int .i64 (n + 20)] W (RemTo ([], [1]) W w1.heap.size v9 (geL 19))) := fun W v9 hW => by
    have h := Expire_any hW (by simp) (n + 20)
    rwa [ge_exp20] at h
   have hw5 : IntKind.i64.wrap (n + 5) = n + 5 := by rw [IntKind.wrap_i64]; omega
   have hw20 : IntKind.i64.wrap (n + 20) = n + 20 := by rw [IntKind.wrap_i64]; omega
   have HVB : Hid (∀ k, v.ownBlock = some k → w1.heap.size ≤ k) := fun k e => by have := HV.out k e; omega
   clear HTB HV hl19 HM2
   have tok1 : True := trivial
   have tok2 : True := trivial
   go_wp2_with (first
    | (go_at_call_of 34 (Value.int .i64 9); refine R9.out.mono ?_; rintro e w4 ⟨rfl, hb4⟩; have HB4 := Lib.hid hb4; clear hb4)
    | (go_at_call_of 34 (Value.int .i64 1); refine (R1.out _ HB4.out).mono ?_; rintro e w5 ⟨rfl, hb5⟩; have HB5 := Lib.hid (below_then HB4.out hb5 HB4.out.size); clear hb5)
    | (go_at_call_of 24 (Value.int .i64 3); refine (ko.keepIsO 3 3 _ (by omega) (by omega)).mono ?_; rintro e w7 ⟨rfl, rfl⟩)
    | (go_at_call_of 24 (Value.int .i64 8); refine (ko.keepIsO 8 8 _ (by omega) (by omega)).mono ?_; rintro e w7 ⟨rfl, rfl⟩)
    | (have _t := tok1; go_at_call 35; refine (E0.out _ HB5.out).mono ?_; rintro e w6 ⟨A6, c6, rfl, _, hg6⟩; obtain ⟨v6, hm6, hb6, hv6, hc6⟩ := grTo_on (below_then HB.out HB5.out (Nat.le_of_lt hmb)) (Nat.le_trans (Nat.le_of_lt hmb) HB5.out.size) hg6 (Nat.le_refl _) HVB.out; have HV6 : Hid (∀ k, v6.ownBlock = some k → w1.heap.size ≤ k) := (fun k e => (hv6 k e).elim (HVB.out k) (fun h => Nat.le_trans (Nat.le_trans (Nat.le_of_lt hmb) HB5.out.size) h)); have HM6 := Lib.hid hm6; have HB6 := Lib.hid hb6; have E5' := Lib.hid (E5.out _ _ hm6); have hz6 := hm6.lt; clear hg6 hm6 hb6 hv6 hc6; clear tok1 _t)
    | (have _t := tok2; go_at_call 35; refine E5'.out.mono ?_; rintro e w7 ⟨A7, c7, rfl, _, hg7⟩; obtain ⟨v7, hm7, hb7, hv7, hc7⟩ := grTo_on HB6.out (Nat.le_of_lt hz6) hg7 (Nat.le_refl _) HV6.out; have HV7 : Hid (∀ k, v7.ownBlock = some k → w1.heap.size ≤ k) := (fun k e => (hv7 k e).elim (HV6.out k) (fun h => Nat.le_trans (Nat.le_of_lt hz6) h)); have HM7 := Lib.hid hm7; have HB7 := Lib.hid hb7; have E20' := Lib.hid (E20.out _ _ hm7); have hz7 := hm7.lt; clear hg7 hm7 hb7 hv7 hc7; clear tok2 _t)
    | (go_at_call 35; refine E20'.out.mono ?_; rintro e w8 ⟨A8, c8, rfl, _, hg8⟩; obtain ⟨v8, hm8, hb8, hv8, hc8⟩ := grTo_on HB7.out (Nat.le_of_lt hz7) hg8 (Nat.le_refl _) HV7.out; have HB8 := Lib.hid hb8; have LI := Lib.hid (ListG_any hm8 (by simp)); have hz8 := hm8.lt; clear hg8 hm8 hb8 hv8 hc8)
    | (go_at_call 31; refine LI.out.mono ?_; rintro e w9 ⟨A9, c9, rfl, _, hb9⟩; have HB9 := Lib.hid (below_then HB8.out hb9 (Nat.le_of_lt hz8)); have hz9 := hb9.size; clear hb9)
    | (go_at_call 32; refine (wakes12 _).mono ?_; rintro e w10 ⟨rfl, hb10⟩; have HB10 := Lib.hid (below_then HB9.out hb10 (Nat.le_trans (Nat.le_of_lt hz8) hz9)); clear hb10))
   go_ret
   exact ⟨rfl, below_then HB1.out HB10.out HB1.out.size⟩
end Go.Proofs.YtkalfhhdljndfaaGreatDoor
