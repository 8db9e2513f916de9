import Derived.Test.YtgffbgmieppckaaGreatDoorGr4
import Derived.Lib.QuietBelow
namespace Go.Proofs.YtgffbgmieppckaaGreatDoor
set_option maxRecDepth 100000
open Go.ChangeShapes Go.WideShapes Go.ChangeAt Go.RowKit Go.Sort
def BolTo (z : Bool) (w : World) (e : Ending) (w' : World) : Prop := e = .returned (.bool z) ∧ Below w.heap.size w w'
theorem bolTo_mk {z y : Bool} {w w' : World} (h : z = y) (hb : Below w.heap.size w w') : BolTo z w (.returned (.bool y)) w' := by subst h; exact ⟨rfl, hb⟩
section
variable {w4 : World} {rb o : Nat} {ns : List Tx} {bl : List Nat} {r : Rt} (R : RtB w4 rb o ns bl r) {b : Nat} {v : Value} {gs : List Gr} {last : Int} {w : World}
set_option maxHeartbeats 8000000 in
include R in
theorem allowed_any (h : GrM w b v gs last) (hw : Below w4.heap.size w4 w) (hl : gs.length ≤ 1000) (x : Gr) (hx : x.role.length ≤ 1048576) :
  Calls Tryz.prog 103 #[.pointer (some ⟨b, 0, none⟩), .pointer (some ⟨rb, 0, none⟩), gval x] w (BolTo (allowP ns bl r gs x) w) := by
 obtain ⟨xn, xf, xt, xr, xu, xd, xw⟩ := x
 have HX := Lib.hid (heap_alloc_new w (gO xn (bs xf) (bs xt) (bs xr) xu xd xw))
 have HB0 := Lib.hid (rbox w (gO xn (bs xf) (bs xt) (bs xr) xu xd xw))
 have hlx : w.heap.size < (w.alloc (gO xn (bs xf) (bs xt) (bs xr) xu xd xw)).heap.size := by simp
 have LN := Lib.hid (R.LN xr (w.alloc (gO xn (bs xf) (bs xt) (bs xr) xu xd xw)) hx (below_then hw HB0.out hw.size))
 have HH := Lib.hid h
 have HW := Lib.hid hw
 have HRR := Lib.hid R
 have HA : Hid (allowP ns bl r gs ⟨xn, xf, xt, xr, xu, xd, xw⟩ = ((lnP r.loans xr).isSome && !decide ((lnV r.loans xr).1 < xd) && wayP ns bl r gs ⟨xn, xf, xt, xr, xu, xd, xw⟩)) := rfl
 have hf := R.few
 clear R h hw
 unfold LenTo at LN
 generalize (lnP r.loans xr).isSome = ls at *
 generalize (lnV r.loans xr).1 = la at *
 generalize (lnV r.loans xr).2 = lb at *
 dsimp only [gval]
 go_enter Tryz.func103, Tryz.ntmps103
 go_upto_region 1 with fail
 generalize w.alloc (gO xn (bs xf) (bs xt) (bs xr) xu xd xw) = w1 at *
 have x3 := gq3 HX.out
 go_upto_region 2 with (go_at_call 40; refine LN.out.mono ?_; rintro e w2 ⟨rfl, hb2⟩; have HB2 := Lib.hid (below_then HB0.out hb2 HB0.out.size); have HX2 := Lib.hid ((hb2.block _ hlx).trans HX.out); clear hb2)
 have HBL := Lib.hid (rbox w2 (.cells #[.int .i64 la, .int .i64 lb] 89))
 have HL := Lib.hid (heap_alloc_new w2 (.cells #[.int .i64 la, .int .i64 lb] 89))
 have hlt2 : w.heap.size < w2.heap.size := (Array.getElem?_eq_some_iff.1 HX2.out).1
 have HX3 := Lib.hid ((HBL.out.block _ hlt2).trans HX2.out)
 have HB3 := Lib.hid (below_then HB2.out HBL.out HB2.out.size)
 clear x3 LN HX HX2 HB2 HB0
 generalize w2.alloc (.cells #[.int .i64 la, .int .i64 lb] 89) = w3 at *
 generalize w2.heap.size = gl at *
 have l0 := lq0 HL.out
 have y0 := gq0 HX3.out; have y1 := gq1 HX3.out; have y2 := gq2 HX3.out; have y3 := gq3 HX3.out; have y5 := gq5 HX3.out; have y6 := gq6 HX3.out
 cases ls with
 | false =>
  go_wp2
  go_ret
  exact bolTo_mk (by rw [HA.out]; rfl) HB3.out
 | true =>
  by_cases hd : la < xd
  ·have HD : Hid (decide (la < xd) = true) := decide_eq_true hd
   have hd2 := HD.out
   go_wp2
   go_ret
   exact bolTo_mk (by rw [HA.out, HD.out]; rfl) HB3.out
  ·have HD : Hid (decide (la < xd) = false) := decide_eq_false hd
   have hd2 := HD.out
   have HA2 : Hid (allowP ns bl r gs ⟨xn, xf, xt, xr, xu, xd, xw⟩ = wayP ns bl r gs ⟨xn, xf, xt, xr, xu, xd, xw⟩) := by show _ = _; rw [HA.out, HD.out]; simp
   clear HA HD
   generalize allowP ns bl r gs ⟨xn, xf, xt, xr, xu, xd, xw⟩ = res at *
   have hw3 := HB3.out
   have HR3 := Lib.hid (HRR.out.later (below_then HW.out HB3.out HW.out.size))
   have hlx3 : w.heap.size < w3.heap.size := (Array.getElem?_eq_some_iff.1 HX3.out).1
   clear hw3 HRR HW
   by_cases hz : xw = 0
   ·have HZ : Hid (wayP ns bl r gs ⟨xn, xf, xt, xr, xu, xd, xw⟩ = decide (downTo bl (rtHas r.users xf) ns.length &&& oneP ns xr ≠ 0)) := by show _ = _; unfold wayP; rw [if_pos hz]
    subst hz
    have HS : Hid (∀ W, Below w3.heap.size w3 W → Calls Tryz.prog 39 #[.pointer (some ⟨rb, 0, none⟩), .string (bs xf)] W fun e w' => e = .returned (.int .u32 (rtHas r.users xf : Nat)) ∧ Below W.heap.size W w') := fun W hW => HR3.out.HS xf W hW
    have OR : Hid (∀ W, Below w3.heap.size w3 W → Calls Tryz.prog 41 #[.pointer (some ⟨rb, 0, none⟩)] W fun e w' => e = .returned (.pointer (some ⟨o, 0, none⟩)) ∧ W = w') := fun W hW => HR3.out.OR W hW
    have hsu := HR3.out.su xf
    have DN : Hid (∀ W, Below w3.heap.size w3 W → Calls Tryz.prog 75 #[.pointer (some ⟨o, 0, none⟩), .int .u32 (rtHas r.users xf : Nat)] W fun e w' => e = .returned (.int .u32 (downTo bl (rtHas r.users xf) ns.length : Nat)) ∧ W = w') := fun W hW => HR3.out.DN _ W (by omega) hW
    have ON : Hid (∀ W, Below w3.heap.size w3 W → Calls Tryz.prog 100 #[.pointer (some ⟨rb, 0, none⟩), .string (bs xr)] W fun e w' => e = .returned (.int .u32 (oneP ns xr : Nat)) ∧ W = w') := fun W hW => one_any HR3.out xr W hW
    have hdl := downTo_lo HR3.out.lo (rtHas r.users xf) ns.length
    have hol := oneP_lt HR3.out.few xr
    have HV : Hid (bits .and .u32 ((downTo bl (rtHas r.users xf) ns.length : Nat) : Int) ((oneP ns xr : Nat) : Int) = ((downTo bl (rtHas r.users xf) ns.length &&& oneP ns xr : Nat) : Int)) := and_val32 _ _ hdl hol
    clear hdl hol hsu
    generalize downTo bl (rtHas r.users xf) ns.length = dn at *
    generalize rtHas r.users xf = hv at *
    generalize oneP ns xr = op at *
    go_upto_region 5 with fail
    have n1 := fun d os => Calls.regrown_of ((OR.out _ (below_regrown w3 d os)).mono fun e w' h => ⟨h.1, h.2 ▸ Below.refl _ _⟩)
    have n2 := fun d os => Calls.regrown_of (HS.out _ (below_regrown w3 d os))
    have n3 := fun d os => Calls.regrown_of ((DN.out _ (below_regrown w3 d os)).mono fun e w' h => ⟨h.1, h.2 ▸ Below.refl _ _⟩)
    have n4 := fun d os => Calls.regrown_of ((ON.out _ (below_regrown w3 d os)).mono fun e w' h => ⟨h.1, h.2 ▸ Below.refl _ _⟩)
    have c1 : ∀ d os, (grow (redrawn w3 d) os).cell? ⟨w.heap.size, 1, none⟩ = some (.string (bs xf)) := fun d os => cell_regrown y1 d os
    have c3 : ∀ d os, (grow (redrawn w3 d) os).cell? ⟨w.heap.size, 3, none⟩ = some (.string (bs xr)) := fun d os => cell_regrown y3 d os
    refine wp_region_quiet_below (by kernel_rfl) (by kernel_rfl) ?_
    repeat (quiet_step (first | exact n1 _ _ | exact n2 _ _ | exact n3 _ _ | exact n4 _ _))
    refine wpQuiet_nil ?_
    intro _ hw'
    obtain ⟨⟨dq, osq⟩, hw''⟩ := hw'
    subst hw''
    go_wp2
    go_ret
    refine ⟨ret_bool ?_, below_then HB3.out (below_regrown w3 dq osq) HB3.out.size⟩
    rw [HA2.out, HZ.out, HV.out]
    rw [Bool.eq_iff_iff, decide_eq_true_eq, bne_iff_ne]
    omega
   ·have hz1 : (xw == 0) = false := by simpa using hz
    have HZ : Hid (wayP ns bl r gs ⟨xn, xf, xt, xr, xu, xd, xw⟩ = match gFind gs xw with | none => false | some y => decide (y.rcv = xf) && aboveP ns bl y.role xr) := by show _ = _; unfold wayP; exact if_neg hz
    have FI := Lib.hid (find_any gs xw b v last w3 (HH.out.below HB3.out) hl)
    clear hz
    have y6' := y6
    go_upto_region 6 with fail
    cases hfo : gFind gs xw with
    | none =>
     rw [hfo] at HZ FI
     have HF : Hid (wayP ns bl r gs ⟨xn, xf, xt, xr, xu, xd, xw⟩ = false) := HZ.out
     clear hfo HZ
     unfold FinTo at FI
     dsimp only [Option.getD, Option.isSome, gval, gZero] at FI
     go_wp2_with (go_at_call 112; refine FI.out.mono ?_; rintro e w5 ⟨rfl, hb5⟩; have HB5 := Lib.hid (below_then HB3.out hb5 HB3.out.size); clear hb5)
     go_quiet (fail)
     go_wp2
     go_ret
     exact bolTo_mk (by rw [HA2.out, HF.out]) (below_drewN (below_then HB5.out (rbox _ _) HB5.out.size) _)
    | some y =>
     rw [hfo] at HZ FI
     have HF : Hid (wayP ns bl r gs ⟨xn, xf, xt, xr, xu, xd, xw⟩ = (decide (y.rcv = xf) && aboveP ns bl y.role xr)) := HZ.out
     clear hfo HZ
     obtain ⟨yn, yf, yt, yr, yu, yd, yw⟩ := y
     unfold FinTo at FI
     dsimp only [Option.getD, Option.isSome, gval] at FI
     dsimp only at HF
     go_upto_region 7 with (go_at_call 112; refine FI.out.mono ?_; rintro e w5 ⟨rfl, hb5⟩; have HB5 := Lib.hid hb5; clear hb5)
     have HBY := Lib.hid (rbox w5 (gO yn (bs yf) (bs yt) (bs yr) yu yd yw))
     have HY := Lib.hid (heap_alloc_new w5 (gO yn (bs yf) (bs yt) (bs yr) yu yd yw))
     have HB6 := Lib.hid (below_then HB5.out HBY.out HB5.out.size)
     have HX6 := Lib.hid ((HB6.out.block _ hlx3).trans HX3.out)
     have HB7 := Lib.hid (below_then HB3.out HB6.out HB3.out.size)
     clear l0 y0 y1 y2 y3 y5 y6 y6' HX3 HB5 HBY
     generalize w5.alloc (gO yn (bs yf) (bs yt) (bs yr) yu yd yw) = w6 at *
     generalize w5.heap.size = gy at *
     have z2 := gq2 HY.out; have z3 := gq3 HY.out
     have u1 := gq1 HX6.out; have u3 := gq3 HX6.out
     have HE : Hid (((bs yt).toList == (bs xf).toList) = decide (yt = xf)) := by show _ = _; rw [beq_tx, Bool.eq_iff_iff, decide_eq_true_eq, beq_iff_eq]
     cases hg : decide (yt = xf) with
     | false =>
      rw [hg] at HE HF
      have he := HE.out
      clear hg HE
      generalize bs yt = byt at *
      generalize bs xf = bxf at *
      go_quiet (fail)
      go_wp2
      go_ret
      exact bolTo_mk (by rw [HA2.out, HF.out]; rfl) (below_drewN HB7.out _)
     | true =>
      rw [hg] at HE HF
      have he := HE.out
      clear hg HE
      have OR : Hid (∀ W, Below w6.heap.size w6 W → Calls Tryz.prog 41 #[.pointer (some ⟨rb, 0, none⟩)] W fun e w' => e = .returned (.pointer (some ⟨o, 0, none⟩)) ∧ w' = W.drewN 0) := fun W hW => (HR3.out.OR W (below_then HB6.out hW HB6.out.size)).mono fun e w' h => ⟨h.1, h.2.symm⟩
      have AB : Hid (∀ W, Below w6.heap.size w6 W → Calls Tryz.prog 42 #[.pointer (some ⟨o, 0, none⟩), .string (bs yr), .string (bs xr)] W fun e w' => e = .returned (.bool (aboveP ns bl yr xr)) ∧ w' = W.drewN 0) := fun W hW => (HR3.out.AB yr xr W (below_then HB6.out hW HB6.out.size)).mono fun e w' h => ⟨h.1, h.2.symm⟩
      generalize aboveP ns bl yr xr = ab at *
      generalize bs yt = byt at *
      generalize bs xf = bxf at *
      go_quiet (first
       | (go_at_call 41; exact Calls.quiet_of ((OR.out _ (by first | exact Below.refl _ _ | exact below_drewN (Below.refl _ _) _)).mono fun e w' h => ⟨h.1, 0, h.2⟩))
       | (go_at_call 42; exact Calls.quiet_of ((AB.out _ (by first | exact Below.refl _ _ | exact below_drewN (Below.refl _ _) _)).mono fun e w' h => ⟨h.1, 0, h.2⟩)))
      go_wp2
      go_ret
      exact bolTo_mk (by rw [HA2.out, HF.out]; simp) (below_drewN HB7.out _)
end
end Go.Proofs.YtgffbgmieppckaaGreatDoor
namespace Go.Proofs.YtgffbgmieppckaaGreatDoor
set_option maxRecDepth 100000
open Go.ChangeShapes Go.WideShapes Go.ChangeAt Go.RowKit
def erV (k : Int) : Value := if k = 0 then .nilIface else .iface 39 (.int .i64 k)
theorem erV_no {k : Int} (h : k ≠ 0) : erV k = .iface 39 (.int .i64 k) := if_neg h
theorem erV_zero : erV 0 = .nilIface := if_pos rfl
def WrTo (k : Int) (w : World) (e : Ending) (w' : World) : Prop := e = .returned (erV k) ∧ Below w.heap.size w w'
theorem wrTo_no {k j : Int} {w w' : World} (h : k = j) (hj : j ≠ 0) (hb : Below w.heap.size w w') : WrTo k w (.returned (.iface 39 (.int .i64 j))) w' := by subst h; exact ⟨by rw [erV_no hj], hb⟩
theorem wrTo_ok {k : Int} {w w' : World} (h : k = 0) (hb : Below w.heap.size w w') : WrTo k w (.returned .nilIface) w' := by subst h; exact ⟨by rw [erV_zero], hb⟩
section
variable {ns : List Tx} {bl : List Nat} {r : Rt} {gs : List Gr} {x : Gr} {now time : Int}
theorem wr3 (h : knownP ns r x = false) : giveE ns bl r gs x now time = 3 := by unfold giveE; rw [if_pos h]
theorem wr1 (h : knownP ns r x = true) (h2 : argP r x now time = true) : giveE ns bl r gs x now time = 1 := by unfold giveE; rw [if_neg (by rw [h]; simp), if_pos h2]
theorem wr8 (h : knownP ns r x = true) (h2 : argP r x now time = false) (h3 : allowP ns bl r gs x = false) : giveE ns bl r gs x now time = 8 := by unfold giveE; rw [if_neg (by rw [h]; simp), if_neg (by rw [h2]; simp), if_pos h3]
theorem wr11 (h : knownP ns r x = true) (h2 : argP r x now time = false) (h3 : allowP ns bl r gs x = true) (h4 : 1073741824 < now + time) : giveE ns bl r gs x now time = 11 := by unfold giveE; rw [if_neg (by rw [h]; simp), if_neg (by rw [h2]; simp), if_neg (by rw [h3]; simp), if_pos h4]
theorem wr4 (h : knownP ns r x = true) (h2 : argP r x now time = false) (h3 : allowP ns bl r gs x = true) (h4 : ¬ 1073741824 < now + time) (h5 : thereP gs x.rcv x.role = true) : giveE ns bl r gs x now time = 4 := by unfold giveE; rw [if_neg (by rw [h]; simp), if_neg (by rw [h2]; simp), if_neg (by rw [h3]; simp), if_neg h4, if_pos h5]
theorem wr5 (h : knownP ns r x = true) (h2 : argP r x now time = false) (h3 : allowP ns bl r gs x = true) (h4 : ¬ 1073741824 < now + time) (h5 : thereP gs x.rcv x.role = false) (h6 : 20 ≤ gs.length) : giveE ns bl r gs x now time = 5 := by unfold giveE; rw [if_neg (by rw [h]; simp), if_neg (by rw [h2]; simp), if_neg (by rw [h3]; simp), if_neg h4, if_neg (by rw [h5]; simp), if_pos h6]
theorem wr7 (h : knownP ns r x = true) (h2 : argP r x now time = false) (h3 : allowP ns bl r gs x = true) (h4 : ¬ 1073741824 < now + time) (h5 : thereP gs x.rcv x.role = false) (h6 : ¬ 20 ≤ gs.length) (h7 : dutyP ns bl r gs x = false) : giveE ns bl r gs x now time = 7 := by unfold giveE; rw [if_neg (by rw [h]; simp), if_neg (by rw [h2]; simp), if_neg (by rw [h3]; simp), if_neg h4, if_neg (by rw [h5]; simp), if_neg h6, if_pos h7]
theorem wr0 (h : knownP ns r x = true) (h2 : argP r x now time = false) (h3 : allowP ns bl r gs x = true) (h4 : ¬ 1073741824 < now + time) (h5 : thereP gs x.rcv x.role = false) (h6 : ¬ 20 ≤ gs.length) (h7 : dutyP ns bl r gs x = true) : giveE ns bl r gs x now time = 0 := by unfold giveE; rw [if_neg (by rw [h]; simp), if_neg (by rw [h2]; simp), if_neg (by rw [h3]; simp), if_neg h4, if_neg (by rw [h5]; simp), if_neg h6, if_neg (by rw [h7]; simp)]
theorem allow_lent (h : allowP ns bl r gs x = true) : (lnP r.loans x.role).isSome = true := by
 unfold allowP at h
 rw [Bool.and_eq_true, Bool.and_eq_true] at h
 exact h.1.1
end
section
variable {w4 : World} {rb o : Nat} {ns : List Tx} {bl : List Nat} {r : Rt} (R : RtB w4 rb o ns bl r) {b : Nat} {v : Value} {gs : List Gr} {last : Int} {w : World}
set_option maxHeartbeats 8000000 in
include R in
theorem gwrong_any (h : GrM w b v gs last) (hw : Below w4.heap.size w4 w) (hl : gs.length ≤ 1000) (x : Gr) (hx : x.role.length ≤ 1048576) (now time : Int) (hln : (lnV r.loans x.role).2 ≤ 1073741824) :
  Calls Tryz.prog 119 #[.pointer (some ⟨b, 0, none⟩), .pointer (some ⟨rb, 0, none⟩), gval x, .int .i64 now, .int .i64 time] w (WrTo (giveE ns bl r gs x now time) w) := by
 obtain ⟨A, c, rfl⟩ := own_slice h.own
 have KN := Lib.hid (fun W (hW : Below w.heap.size w W) => known_any R (below_then hw hW hw.size) x)
 have AL := Lib.hid (fun W (hW : Below w.heap.size w W) => allowed_any R (h.below hW) (below_then hw hW hw.size) hl x hx)
 have TH := Lib.hid (fun W (hW : Below w.heap.size w W) => there_any (h.below hW) hl x.rcv x.role)
 have HO := Lib.hid (fun W (hW : Below w.heap.size w W) => Holds_any R (h.below hW) (below_then hw hW hw.size) hl x.rcv)
 have W3 := Lib.hid (@wr3 ns bl r gs x now time)
 have W1 := Lib.hid (@wr1 ns bl r gs x now time)
 have W8 := Lib.hid (@wr8 ns bl r gs x now time)
 have W11 := Lib.hid (@wr11 ns bl r gs x now time)
 have W4 := Lib.hid (@wr4 ns bl r gs x now time)
 have W5 := Lib.hid (@wr5 ns bl r gs x now time)
 have W7 := Lib.hid (@wr7 ns bl r gs x now time)
 have W0 := Lib.hid (@wr0 ns bl r gs x now time)
 have HAL := Lib.hid (@allow_lent ns bl r gs x)
 have HAR : Hid (argP r x now time = (decide (x.fro = x.rcv) || decide (time < 1) || ((lnP r.loans x.role).isSome && decide ((lnV r.loans x.role).2 < time)) || decide (now < 0) || decide (1073741824 < now))) := rfl
 have HDU : Hid (dutyP ns bl r gs x = decide (fstI (holdsP ns bl r gs x.rcv ||| downTo bl (oneP ns x.role) ns.length) r.stat < 0)) := rfl
 have HS0 := Lib.hid (holdS_lt R.few x.rcv gs (rtHas r.users x.rcv) (R.su x.rcv))
 have HHL : Hid (holdsP ns bl r gs x.rcv < 16777216) := downTo_lo R.lo _ _
 have HOL := Lib.hid (oneP_lt R.few x.role)
 have HDL : Hid (downTo bl (oneP ns x.role) ns.length < 16777216) := downTo_lo R.lo _ _
 obtain ⟨xn, xf, xt, xr, xu, xd, xw⟩ := x
 dsimp only [gval] at KN AL TH HO W3 W1 W8 W11 W4 W5 W7 W0 HAL HAR HDU HS0 HHL HOL HDL hln hx ⊢
 generalize giveE ns bl r gs ⟨xn, xf, xt, xr, xu, xd, xw⟩ now time = res at *
 generalize knownP ns r ⟨xn, xf, xt, xr, xu, xd, xw⟩ = kno at *
 generalize argP r ⟨xn, xf, xt, xr, xu, xd, xw⟩ now time = arg at *
 generalize allowP ns bl r gs ⟨xn, xf, xt, xr, xu, xd, xw⟩ = alw at *
 generalize thereP gs xt xr = the at *
 generalize dutyP ns bl r gs ⟨xn, xf, xt, xr, xu, xd, xw⟩ = dut at *
 have HX := Lib.hid (heap_alloc_new w (gO xn (bs xf) (bs xt) (bs xr) xu xd xw))
 have HB0 := Lib.hid (rbox w (gO xn (bs xf) (bs xt) (bs xr) xu xd xw))
 have hlx : w.heap.size < (w.alloc (gO xn (bs xf) (bs xt) (bs xr) xu xd xw)).heap.size := by simp
 have LN := Lib.hid (R.LN xr (w.alloc (gO xn (bs xf) (bs xt) (bs xr) xu xd xw)) hx (below_then hw HB0.out hw.size))
 have HRR := Lib.hid (R.later hw)
 have hbl := h.lt
 have HQ := Lib.hid h.q0
 have hns := R.ns8
 clear R h hw hx
 unfold LenTo at LN
 generalize (lnP r.loans xr).isSome = ls at *
 generalize (lnV r.loans xr).1 = la at *
 generalize (lnV r.loans xr).2 = lb at *
 go_enter Tryz.func119, Tryz.ntmps119
 go_upto_region 1 with fail
 generalize w.alloc (gO xn (bs xf) (bs xt) (bs xr) xu xd xw) = w1 at *
 have x3 := gq3 HX.out
 go_upto_region 2 with (go_at_call 40; refine LN.out.mono ?_; rintro e w2 ⟨rfl, hb2⟩; have HB2 := Lib.hid (below_then HB0.out hb2 HB0.out.size); have HX2 := Lib.hid ((hb2.block _ hlx).trans HX.out); clear hb2)
 have HBL := Lib.hid (rbox w2 (.cells #[.int .i64 la, .int .i64 lb] 89))
 have HL := Lib.hid (heap_alloc_new w2 (.cells #[.int .i64 la, .int .i64 lb] 89))
 have hlt2 : w.heap.size < w2.heap.size := (Array.getElem?_eq_some_iff.1 HX2.out).1
 have hll : w2.heap.size < (w2.alloc (.cells #[.int .i64 la, .int .i64 lb] 89)).heap.size := by simp
 have HX3 := Lib.hid ((HBL.out.block _ hlt2).trans HX2.out)
 have HB3 := Lib.hid (below_then HB2.out HBL.out HB2.out.size)
 clear x3 LN HX HX2 HB2 HB0
 generalize w2.alloc (.cells #[.int .i64 la, .int .i64 lb] 89) = w3 at *
 generalize w2.heap.size = gl at *
 have hlx3 : w.heap.size < w3.heap.size := (Array.getElem?_eq_some_iff.1 HX3.out).1
 obtain ⟨y0, y1, y2, y3, y4, y5, y6⟩ := gqs0 HX3.out
 have KN2 := Lib.hid (KN.out w3 HB3.out)
 cases kno with
 | false =>
  have HE := Lib.hid (W3.out (by first | rfl | trivial))
  go_wp2_with (go_at_call 102; refine KN2.out.mono ?_; rintro e w5 ⟨rfl, hb5⟩; have HB5 := Lib.hid (below_then HB3.out hb5 HB3.out.size); clear hb5)
  go_ret
  exact wrTo_no HE.out (by decide) HB5.out
 | true =>
  go_upto_region 4 with (go_at_call 102; refine KN2.out.mono ?_; rintro e w5 ⟨rfl, hb5⟩; have HB5 := Lib.hid hb5; clear hb5)
  clear KN2 KN y0 y1 y2 y3 y4 y5 y6
  have HX5 := Lib.hid ((HB5.out.block _ hlx3).trans HX3.out)
  have HL5 := Lib.hid ((HB5.out.block _ hll).trans HL.out)
  have hlx5 := Nat.lt_of_lt_of_le hlx3 HB5.out.size
  have HB6 := Lib.hid (below_then HB3.out HB5.out HB3.out.size)
  obtain ⟨y0, y1, y2, y3, y4, y5, y6⟩ := gqs0 HX5.out
  have l1 := lq1 HL5.out
  clear HX3 HL HB5 HB3 HBL hlx3 hll hlt2
  have HEQ : Hid (((bs xf).toList == (bs xt).toList) = decide (xf = xt)) := by show _ = _; rw [beq_tx, Bool.eq_iff_iff, decide_eq_true_eq, beq_iff_eq]
  generalize decide (xf = xt) = d1 at *
  cases d1 with
  | true =>
   have HA : Hid (arg = true) := HAR.out
   have HE := Lib.hid (W1.out (by first | rfl | trivial) HA.out)
   have he := HEQ.out
   clear HEQ HAR
   generalize bs xf = bf at *
   generalize bs xt = bt at *
   go_wp2
   go_ret
   exact wrTo_no HE.out (by decide) HB6.out
  | false =>
  by_cases d2 : time < 1
  ·have HA : Hid (arg = true) := HAR.out.trans (by rw [decide_eq_true d2]; rfl)
   have HE := Lib.hid (W1.out (by first | rfl | trivial) HA.out)
   have he := HEQ.out
   clear HEQ HAR
   generalize bs xf = bf at *
   generalize bs xt = bt at *
   go_wp2
   go_ret
   exact wrTo_no HE.out (by decide) HB6.out
  ·have he := HEQ.out
   have h2d := decide_eq_false d2
   have HAR2 : Hid (arg = ((ls && decide (lb < time)) || decide (now < 0) || decide (1073741824 < now))) := HAR.out.trans (by rw [h2d]; rfl)
   clear HAR HEQ h2d
   have HNT : Hid (ls = true → ¬ lb < time → time ≤ 1073741824) := fun _ h => by omega
   by_cases d3 : (ls && decide (lb < time)) = true
   ·have HA : Hid (arg = true) := HAR2.out.trans (by rw [d3]; rfl)
    have HE := Lib.hid (W1.out (by first | rfl | trivial) HA.out)
    rw [Bool.and_eq_true, decide_eq_true_eq] at d3
    obtain ⟨rfl, d3⟩ := d3
    have d3' := decide_eq_true d3
    clear HAR2
    generalize hbf : bs xf = bf at *
    generalize hbt : bs xt = bt at *
    clear hbf hbt
    go_wp2
    go_ret
    exact wrTo_no HE.out (by decide) HB6.out
   ·have HAR3 : Hid (arg = (decide (now < 0) || decide (1073741824 < now))) := HAR2.out.trans (by rw [Bool.not_eq_true] at d3; rw [d3]; rfl)
    have HD3 := Lib.hid d3
    clear HAR2 d3
    have HLS : (ls = false) ∨ (ls = true ∧ decide (lb < time) = false) := by
     have := HD3.out
     cases ls
     ·exact .inl rfl
     ·right; refine ⟨rfl, ?_⟩; simpa using this
    have HNT2 : Hid (alw = true → time ≤ 1073741824) := fun h => HNT.out (HAL.out h) (by have h1 := HAL.out h; have := HD3.out; rw [h1] at this; simpa using this)
    clear HNT HAL HD3 HL5
    rcases HLS with rfl | ⟨rfl, d3'⟩
    all_goals
     by_cases d4 : now < 0
     ·have HA : Hid (arg = true) := HAR3.out.trans (by rw [decide_eq_true d4]; rfl)
      have HE := Lib.hid (W1.out (by first | rfl | trivial) HA.out)
      generalize bs xf = bf at *
      generalize bs xt = bt at *
      go_wp2
      go_ret
      exact wrTo_no HE.out (by decide) HB6.out
     ·by_cases d5 : 1073741824 < now
      ·have HA : Hid (arg = true) := HAR3.out.trans (by rw [decide_eq_true d5]; simp)
       have HE := Lib.hid (W1.out (by first | rfl | trivial) HA.out)
       generalize bs xf = bf at *
       generalize bs xt = bt at *
       go_wp2
       go_ret
       exact wrTo_no HE.out (by decide) HB6.out
      ·have HA : Hid (arg = false) := HAR3.out.trans (by rw [decide_eq_false d4, decide_eq_false d5]; rfl)
       have AL2 := Lib.hid (AL.out w5 HB6.out)
       generalize hbf : bs xf = bf at *
       cases alw with
       | false =>
        have HE := Lib.hid (W8.out (by first | rfl | trivial) HA.out (by first | rfl | trivial))
        clear W1 W3 W4 W5 W7 W0 W11 hbf
        generalize bs xt = bt at *
        go_wp2_with (go_at_call 103; refine AL2.out.mono ?_; rintro e w6 ⟨rfl, hb6⟩; have HB7 := Lib.hid (below_then HB6.out hb6 HB6.out.size); clear hb6)
        go_ret
        exact wrTo_no HE.out (by decide) HB7.out
       | true =>
        have hnt := HNT2.out (by first | rfl | trivial)
        clear W1 W3 W8 HAR3 HNT2
        generalize hbt : bs xt = bt at *
        go_upto_region 12 with (go_at_call 103; refine AL2.out.mono ?_; rintro e w6 ⟨rfl, hb6⟩; have HB7 := Lib.hid (below_then HB6.out hb6 HB6.out.size); have HX6 := Lib.hid ((hb6.block _ hlx5).trans HX5.out); clear hb6)
        clear AL2 y0 y1 y2 y3 y4 y5 y6 he
        try clear d3'
        have hwr : IntKind.i64.wrap (now + time) = now + time := by rw [IntKind.wrap_i64]; omega
        by_cases d6 : 1073741824 < now + time
        ·have HE := Lib.hid (W11.out (by first | rfl | trivial) HA.out (by first | rfl | trivial) (by omega))
         go_wp2
         go_ret
         exact wrTo_no HE.out (by decide) HB7.out
        ·have HD6 := Lib.hid d6
         have d6' : ¬ now + time > 1073741824 := d6
         obtain ⟨y0, y1, y2, y3, y4, y5, y6⟩ := gqs0 HX6.out
         have TH2 := Lib.hid (TH.out w6 HB7.out)
         have hlx6 : w.heap.size < w6.heap.size := (Array.getElem?_eq_some_iff.1 HX6.out).1
         clear d6 W11 TH
         cases the with
         | true =>
          have HE := Lib.hid (W4.out (by first | rfl | trivial) HA.out (by first | rfl | trivial) (by have h6 := HD6.out; omega) (by first | rfl | trivial))
          go_wp2_with (go_at_call 168; refine TH2.out.mono ?_; rintro e w7 ⟨rfl, hb7⟩; have HB8 := Lib.hid (below_then HB7.out hb7 HB7.out.size); clear hb7)
          go_ret
          exact wrTo_no HE.out (by decide) HB8.out
         | false =>
          go_upto_region 16 with (go_at_call 168; refine TH2.out.mono ?_; rintro e w7 ⟨rfl, hb7⟩; have HB8 := Lib.hid (below_then HB7.out hb7 HB7.out.size); have HX7 := Lib.hid ((hb7.block _ hlx6).trans HX6.out); clear hb7)
          clear TH2 y0 y1 y2 y3 y4 y5 y6 W4
          have q0 := (HB8.out.cell (p := ⟨b, 0, none⟩) hbl).trans HQ.out
          by_cases d7 : 20 ≤ gs.length
          ·have HE := Lib.hid (W5.out (by first | rfl | trivial) HA.out (by first | rfl | trivial) (by have h6 := HD6.out; omega) (by first | rfl | trivial) (by omega))
           have d7' : (20 : Int) ≤ gs.length := by omega
           go_wp2
           go_ret
           exact wrTo_no HE.out (by decide) HB8.out
          ·have HD7 := Lib.hid d7
           have d7' : ¬ (20 : Int) ≤ gs.length := by omega
           have W7' := Lib.hid (W7.out (by first | rfl | trivial) HA.out (by first | rfl | trivial) (by have h6 := HD6.out; omega) (by first | rfl | trivial) (by omega))
           have W0' := Lib.hid (W0.out (by first | rfl | trivial) HA.out (by first | rfl | trivial) (by have h6 := HD6.out; omega) (by first | rfl | trivial) (by omega))
           clear W7 W0 W5 d7
           go_upto_region 18 with fail
           have hb8 := HB8.out
           have y2 := gq2 HX7.out; have y3 := gq3 HX7.out
           have hlx7 : w.heap.size < w7.heap.size := (Array.getElem?_eq_some_iff.1 HX7.out).1
           have HO2 : Hid (∀ W, Below w7.heap.size w7 W → Calls Tryz.prog 31 #[.pointer (some ⟨b, 0, none⟩), .pointer (some ⟨rb, 0, none⟩), .string bt] W (HolTo (holdsP ns bl r gs xt) W)) := fun W hW => HO.out W (below_then HB8.out hW HB8.out.size)
           have OR : Hid (∀ W, Below w7.heap.size w7 W → Calls Tryz.prog 41 #[.pointer (some ⟨rb, 0, none⟩)] W fun e w' => e = .returned (.pointer (some ⟨o, 0, none⟩)) ∧ W = w') := fun W hW => HRR.out.OR W (below_then HB8.out hW HB8.out.size)
           have ON : Hid (∀ W, Below w7.heap.size w7 W → Calls Tryz.prog 100 #[.pointer (some ⟨rb, 0, none⟩), .string (bs xr)] W fun e w' => e = .returned (.int .u32 (oneP ns xr : Nat)) ∧ W = w') := fun W hW => one_any HRR.out xr W (below_then HB8.out hW HB8.out.size)
           have DN : Hid (∀ W, Below w7.heap.size w7 W → Calls Tryz.prog 75 #[.pointer (some ⟨o, 0, none⟩), .int .u32 (oneP ns xr : Nat)] W fun e w' => e = .returned (.int .u32 (downTo bl (oneP ns xr) ns.length : Nat)) ∧ W = w') := fun W hW => HRR.out.DN _ W (by have := HOL.out; omega) (below_then HB8.out hW HB8.out.size)
           have ST : Hid (∀ W, Below w7.heap.size w7 W → Calls Tryz.prog 38 #[.pointer (some ⟨rb, 0, none⟩)] W (DsTo r.stat W)) := fun W hW => HRR.out.ST W (below_then HB8.out hW HB8.out.size)
           have hor := or_val _ _ HHL.out HDL.out
           have HORL := Lib.hid (or_lo HHL.out HDL.out)
           have AP : Hid (∀ A9 c9 W, StAt W A9 c9 r.stat → Calls Tryz.prog 37 #[.int .u32 (holdsP ns bl r gs xt ||| downTo bl (oneP ns xr) ns.length : Nat), .slice A9 r.stat.length c9] W fun e w' => e = .returned (.bool dut) ∧ Below W.heap.size W w') := fun A9 c9 W hS => by
            have := Apart_any (holdsP ns bl r gs xt ||| downTo bl (oneP ns xr) ns.length) r.stat A9 c9 W (by have := HORL.out; omega) hS (by omega)
            rwa [← HDU.out] at this
           clear HO HRR HDU HS0 HHL HOL HDL HORL HB7 HX6 HX5
           unfold HolTo at HO2
           generalize holdsP ns bl r gs xt ||| downTo bl (oneP ns xr) ns.length = ho at *
           generalize holdsP ns bl r gs xt = hp at *
           generalize downTo bl (oneP ns xr) ns.length = dn at *
           generalize oneP ns xr = op at *
           cases dut with
           | false =>
            have HE := Lib.hid (W7'.out (by first | rfl | trivial))
            clear W7' W0'
            go_region_held3 (fun w' => w'.cell? ⟨w.heap.size, 2, none⟩ = some (.string bt) ∧ w'.cell? ⟨w.heap.size, 3, none⟩ = some (.string (bs xr)))
             (first | exact ⟨y2, y3⟩ | exact ⟨(HB10.out.cell (p := ⟨w.heap.size, 2, none⟩) hlx7).trans y2, (HB10.out.cell (p := ⟨w.heap.size, 3, none⟩) hlx7).trans y3⟩ | exact ⟨(HB9.out.cell (p := ⟨w.heap.size, 2, none⟩) hlx7).trans y2, (HB9.out.cell (p := ⟨w.heap.size, 3, none⟩) hlx7).trans y3⟩ | exact ⟨(hb2.cell (p := ⟨w.heap.size, 2, none⟩) hlx7).trans y2, (hb2.cell (p := ⟨w.heap.size, 3, none⟩) hlx7).trans y3⟩ | go_keep)
             (first
             | (go_at_call 31; refine (HO2.out _ (by first | exact Below.refl _ _ | exact below_drew (Below.refl _ _))).mono ?_; rintro e W2 ⟨rfl, hb2'⟩; have hb2 : Below w7.heap.size w7 W2 := (by first | exact hb2' | exact below_then (below_drew (Below.refl _ _)) hb2' (Nat.le_refl _)); have s3 := (hb2.cell (p := ⟨w.heap.size, 3, none⟩) hlx7).trans y3)
             | (go_at_call 41; refine (OR.out _ hb2).mono ?_; rintro e W3 ⟨rfl, rfl⟩)
             | (go_at_call 100; refine (ON.out _ hb2).mono ?_; rintro e W3 ⟨rfl, rfl⟩)
             | (go_at_call 75; refine (DN.out _ hb2).mono ?_; rintro e W3 ⟨rfl, rfl⟩)
             | (go_at_call 38; refine (ST.out _ hb2).mono ?_; rintro e W3 ⟨A3, c3, rfl, hs3, hb3'⟩; have HS3 := Lib.hid hs3; have HB9 := Lib.hid (below_then hb2 hb3' hb2.size); clear hs3)
             | (go_at_call 37; refine (AP.out _ _ _ HS3.out).mono ?_; rintro e W4 ⟨rfl, hb4'⟩; have HB10 := Lib.hid (below_then HB9.out hb4' HB9.out.size)))
            go_wp2
            go_ret
            exact wrTo_no HE.out (by decide) (below_then HB8.out (by first | exact HB10.out | exact below_drew HB10.out) HB8.out.size)
           | true =>
            have HE := Lib.hid (W0'.out (by first | rfl | trivial))
            clear W7' W0'
            go_region_held3 (fun w' => w'.cell? ⟨w.heap.size, 2, none⟩ = some (.string bt) ∧ w'.cell? ⟨w.heap.size, 3, none⟩ = some (.string (bs xr)))
             (first | exact ⟨y2, y3⟩ | exact ⟨(HB10.out.cell (p := ⟨w.heap.size, 2, none⟩) hlx7).trans y2, (HB10.out.cell (p := ⟨w.heap.size, 3, none⟩) hlx7).trans y3⟩ | exact ⟨(HB9.out.cell (p := ⟨w.heap.size, 2, none⟩) hlx7).trans y2, (HB9.out.cell (p := ⟨w.heap.size, 3, none⟩) hlx7).trans y3⟩ | exact ⟨(hb2.cell (p := ⟨w.heap.size, 2, none⟩) hlx7).trans y2, (hb2.cell (p := ⟨w.heap.size, 3, none⟩) hlx7).trans y3⟩ | go_keep)
             (first
             | (go_at_call 31; refine (HO2.out _ (by first | exact Below.refl _ _ | exact below_drew (Below.refl _ _))).mono ?_; rintro e W2 ⟨rfl, hb2'⟩; have hb2 : Below w7.heap.size w7 W2 := (by first | exact hb2' | exact below_then (below_drew (Below.refl _ _)) hb2' (Nat.le_refl _)); have s3 := (hb2.cell (p := ⟨w.heap.size, 3, none⟩) hlx7).trans y3)
             | (go_at_call 41; refine (OR.out _ hb2).mono ?_; rintro e W3 ⟨rfl, rfl⟩)
             | (go_at_call 100; refine (ON.out _ hb2).mono ?_; rintro e W3 ⟨rfl, rfl⟩)
             | (go_at_call 75; refine (DN.out _ hb2).mono ?_; rintro e W3 ⟨rfl, rfl⟩)
             | (go_at_call 38; refine (ST.out _ hb2).mono ?_; rintro e W3 ⟨A3, c3, rfl, hs3, hb3'⟩; have HS3 := Lib.hid hs3; have HB9 := Lib.hid (below_then hb2 hb3' hb2.size); clear hs3)
             | (go_at_call 37; refine (AP.out _ _ _ HS3.out).mono ?_; rintro e W4 ⟨rfl, hb4'⟩; have HB10 := Lib.hid (below_then HB9.out hb4' HB9.out.size)))
            go_wp2
            go_ret
            exact wrTo_ok HE.out (below_then HB8.out (by first | exact HB10.out | exact below_drew HB10.out) HB8.out.size)
end
end Go.Proofs.YtgffbgmieppckaaGreatDoor
