import Derived.Test.YtkalfhhdljndfaaGreatDoorGr2
import Derived.BigQuiet
import Derived.Lib.QuietBelow
namespace Go.Proofs.YtkalfhhdljndfaaGreatDoor
set_option maxRecDepth 100000
open Go.ChangeShapes Go.WideShapes Go.ChangeAt Go.RowKit
theorem oneP_lt {ns : List Tx} (h : ns.length ≤ 24) (x : Tx) : oneP ns x < 16777216 := by
 unfold oneP
 split
 ·rename_i hx
  exact pow_lo (by have := idx_lt hx; omega)
 ·omega
theorem holdS_cons_in {ns : List Tx} {u : Tx} {g : Gr} {gs : List Gr} {s : Nat} (h : g.rcv = u) : holdS ns u (g :: gs) s = holdS ns u gs (s ||| oneP ns g.role) := by rw [holdS, if_pos h]
theorem holdS_cons_out {ns : List Tx} {u : Tx} {g : Gr} {gs : List Gr} {s : Nat} (h : g.rcv ≠ u) : holdS ns u (g :: gs) s = holdS ns u gs s := by rw [holdS, if_neg h]
theorem holdS_lt {ns : List Tx} (h : ns.length ≤ 24) (u : Tx) : ∀ (gs : List Gr) (s : Nat), s < 16777216 → holdS ns u gs s < 16777216
 | [], s, hs => hs
 | g :: gs, s, hs => by
  rw [holdS]
  split
  ·exact holdS_lt h u gs _ (or_lo hs (oneP_lt h _))
  ·exact holdS_lt h u gs _ hs
def HolTo (z : Nat) (w : World) (e : Ending) (w' : World) : Prop := e = .returned (.int .u32 (z : Nat)) ∧ Below w.heap.size w w'
section
variable {w4 : World} {rb o : Nat} {ns : List Tx} {bl : List Nat} {r : Rt} (R : RtB w4 rb o ns bl r) {b : Nat} {v : Value} {gs : List Gr} {last : Int} {w : World}
set_option maxHeartbeats 4000000 in
include R in
theorem Holds_any (h : GrM w b v gs last) (hw : Below w4.heap.size w4 w) (hl : gs.length ≤ 1000) (u : Tx) :
  Calls Tryz.prog 33 #[.pointer (some ⟨b, 0, none⟩), .pointer (some ⟨rb, 0, none⟩), .string (bs u)] w (HolTo (holdsP ns bl r gs u) w) := by
 obtain ⟨A, c, rfl⟩ := own_slice h.own
 have HG := Lib.hid (gAt_of h.own)
 have hcc := HG.out.1
 have HQ := Lib.hid h.q0
 have hbl := h.lt
 have HS := Lib.hid (R.HS u w hw)
 have hs0 := R.su u
 have hf := R.few
 have ON : Hid (∀ x W, Below w.heap.size w W → Calls Tryz.prog 85 #[.pointer (some ⟨rb, 0, none⟩), .string (bs x)] W fun e w' => e = .returned (.int .u32 (oneP ns x : Nat)) ∧ W = w') := fun x W hW => one_any R x W (below_then hw hW hw.size)
 have OR : Hid (∀ W, Below w.heap.size w W → Calls Tryz.prog 15 #[.pointer (some ⟨rb, 0, none⟩)] W fun e w' => e = .returned (.pointer (some ⟨o, 0, none⟩)) ∧ W = w') := fun W hW => R.OR W (below_then hw hW hw.size)
 have DN : Hid (∀ (s : Nat) W, s < 4294967296 → Below w.heap.size w W → Calls Tryz.prog 56 #[.pointer (some ⟨o, 0, none⟩), .int .u32 (s : Nat)] W fun e w' => e = .returned (.int .u32 (downTo bl s ns.length : Nat)) ∧ W = w') := fun s W hs hW => R.DN s W hs (below_then hw hW hw.size)
 have HE : Hid (∀ z, holdS ns u gs (rtHas r.users u) = z → holdsP ns bl r gs u = downTo bl z ns.length) := fun z e => by unfold holdsP; rw [e]
 clear h hw R
 generalize holdsP ns bl r gs u = res at *
 generalize hrh : rtHas r.users u = s0 at *
 clear hrh
 go_enter Tryz.func33, Tryz.ntmps33
 go_upto_region 2 with (go_at_call 20; refine HS.out.mono ?_; rintro e w1 ⟨rfl, hb1⟩; have HB1 := Lib.hid hb1; clear hb1)
 have q0 := (HB1.out.cell (p := ⟨b, 0, none⟩) hbl).trans HQ.out
 go_upto_region 3 with fail
 go_loopw [7, 18] (fun s i wr => ∃ (k : Nat) (z : Nat), k ≤ gs.length ∧ s = .int .u32 (z : Nat) ∧ i = .int .i64 k ∧ z < 16777216 ∧ Hid (holdS ns u gs s0 = holdS ns u (gs.drop k) z) ∧ Hid (Below w1.heap.size w1 wr)) (fun _ i _ => gs.length - (intOf i).toNat)
 case atStart => exact ⟨0, s0, Nat.zero_le _, rfl, rfl, hs0, rfl, Below.refl _ _⟩
 case round =>
  obtain ⟨k, z, hk, rfl, rfl, hz, HI, HB⟩ := hrel
  have hbz := HB.out.size
  have HBW := Lib.hid (below_then HB1.out HB.out HB1.out.size)
  by_cases hlt : k < gs.length
  ·have hli : (k : Int) < gs.length := by omega
   obtain ⟨g, rfl, hgl, hc⟩ := (HG.out.below HBW.out).2 k hlt
   have q0 := hc 0 _ (by omega) rfl; have q1 := hc 1 _ (by omega) rfl; have q2 := hc 2 _ (by omega) rfl; have q3 := hc 3 _ (by omega) rfl; have q4 := hc 4 _ (by omega) rfl; have q5 := hc 5 _ (by omega) rfl; have q6 := hc 6 _ (by omega) rfl
   simp only [Nat.add_zero] at q0
   have hI := HI.out
   rw [List.drop_eq_getElem_cons hlt] at hI
   clear hc HI
   generalize gs[k] = x at *
   have HX := Lib.hid (heap_alloc_new wr (.cells #[.int .i64 x.num, .string (bs x.fro), .string (bs x.rcv), .string (bs x.role), .int .i64 x.til, .int .i64 x.dep, .int .i64 x.way] 68))
   have HBX := Lib.hid (rbox wr (.cells #[.int .i64 x.num, .string (bs x.fro), .string (bs x.rcv), .string (bs x.role), .int .i64 x.til, .int .i64 x.dep, .int .i64 x.way] 68))
   go_upto_region 5 with fail
   generalize wr.alloc (.cells #[.int .i64 x.num, .string (bs x.fro), .string (bs x.rcv), .string (bs x.role), .int .i64 x.til, .int .i64 x.dep, .int .i64 x.way] 68) = w2 at *
   have HB3 := Lib.hid (below_then HB.out HBX.out HB.out.size)
   have HB4 := Lib.hid (below_then HB1.out HB3.out HB1.out.size)
   generalize wr.heap.size = gx at *
   have x2 := gq2 HX.out; have x3 := gq3 HX.out
   clear q0 q1 q2 q3 q4 q5 q6
   by_cases he : x.rcv = u
   ·rw [holdS_cons_in he] at hI
    have HI2 := Lib.hid hI
    have hb : ((bs x.rcv).toList == (bs u).toList) = true := by rw [beq_tx]; simp [he]
    have ON2 := Lib.hid (ON.out x.role w2 HB4.out)
    have ho := oneP_lt hf x.role
    have hov := or_val z (oneP ns x.role) hz ho
    have hol := or_lo hz ho
    clear hI he ho
    generalize oneP ns x.role = p at *
    generalize z ||| p = zp at *
    generalize bs x.rcv = bx at *
    generalize bs x.role = br at *
    go_wp2_with (go_at_call 85; refine ON2.out.mono ?_; rintro e w3 ⟨rfl, rfl⟩)
    go_roundw
    case rel => exact ⟨k + 1, zp, by omega, by go_num, by go_num, hol, HI2, HB3⟩
    case measure => simp [intOf]; omega
   ·rw [holdS_cons_out he] at hI
    have HI2 := Lib.hid hI
    have hb : ((bs x.rcv).toList == (bs u).toList) = false := by rw [beq_tx]; simp [he]
    clear hI he
    generalize bs x.rcv = bx at *
    go_wp2
    go_roundw
    case rel => exact ⟨k + 1, z, by omega, by go_num, by go_num, hz, HI2, HB3⟩
    case measure => simp [intOf]; omega
  ·have hli : ¬ (k : Int) < gs.length := by omega
   have hI := HI.out
   rw [List.drop_eq_nil_of_le (by omega), holdS] at hI
   have HR := Lib.hid (HE.out z hI)
   have OR2 := Lib.hid (OR.out wr HBW.out)
   have DN2 := Lib.hid (DN.out z wr (by omega) HBW.out)
   clear HI hI HE
   generalize downTo bl z ns.length = dz at *
   go_wp2_with (first
    | (go_at_call 15; refine OR2.out.mono ?_; rintro e w3 ⟨rfl, rfl⟩)
    | (go_at_call 56; refine DN2.out.mono ?_; rintro e w3 ⟨rfl, rfl⟩))
   go_ret
   exact ⟨by rw [HR.out]; rfl, HBW.out⟩
set_option maxHeartbeats 4000000 in
include R in
theorem known_any (hw : Below w4.heap.size w4 w) (x : Gr) :
  Calls Tryz.prog 93 #[.pointer (some ⟨rb, 0, none⟩), gval x] w fun e w' => e = .returned (.bool (knownP ns r x)) ∧ Below w.heap.size w w' := by
 obtain ⟨xn, xf, xt, xr, xu, xd, xw⟩ := x
 have HX := Lib.hid (heap_alloc_new w (gO xn (bs xf) (bs xt) (bs xr) xu xd xw))
 have HB0 := Lib.hid (rbox w (gO xn (bs xf) (bs xt) (bs xr) xu xd xw))
 have hlx : w.heap.size < (w.alloc (gO xn (bs xf) (bs xt) (bs xr) xu xd xw)).heap.size := by simp
 have US : Hid (∀ W, Below w.heap.size w W → Calls Tryz.prog 43 #[.pointer (some ⟨rb, 0, none⟩)] W (NmTo2 (hnm r.users) W)) := fun W hW => R.US W (below_then hw hW hw.size)
 have OR : Hid (∀ W, Below w.heap.size w W → Calls Tryz.prog 15 #[.pointer (some ⟨rb, 0, none⟩)] W fun e w' => e = .returned (.pointer (some ⟨o, 0, none⟩)) ∧ W = w') := fun W hW => R.OR W (below_then hw hW hw.size)
 have IX : Hid (∀ y W, Below w.heap.size w W → Calls Tryz.prog 19 #[.pointer (some ⟨o, 0, none⟩), .string (bs y)] W fun e w' => e = .returned (.int .i64 (idxI ns y)) ∧ W = w') := fun y W hW => R.IX y W (below_then hw hW hw.size)
 have hul : (hnm r.users).length ≤ 12 := by have := R.nu; unfold hnm; rw [List.length_map]; exact this
 clear R hw
 have HK : Hid (knownP ns r ⟨xn, xf, xt, xr, xu, xd, xw⟩ = (decide (xf ∈ hnm r.users) && decide (xt ∈ hnm r.users) && decide (xr ∈ ns))) := rfl
 generalize knownP ns r ⟨xn, xf, xt, xr, xu, xd, xw⟩ = res at *
 generalize hnm r.users = us at *
 dsimp only [gval]
 go_enter Tryz.func93, Tryz.ntmps93
 go_upto_region 1 with fail
 generalize w.alloc (gO xn (bs xf) (bs xt) (bs xr) xu xd xw) = w1 at *
 go_upto_region 2 with (go_at_call 43; refine (US.out _ HB0.out).mono ?_; rintro e w2 ⟨v2, rfl, ho2, hb2⟩; obtain ⟨A2, c2, rfl⟩ := own_slice ho2; have HL2 := Lib.hid (listAt_of ho2); have HB2 := Lib.hid (below_then HB0.out hb2 HB0.out.size); have HX2 := Lib.hid ((hb2.block _ hlx).trans HX.out); clear ho2 hb2)
 have x1 := gq1 HX2.out; have x2 := gq2 HX2.out; have x3 := gq3 HX2.out
 have C1 : Hid (∀ W, Below w2.heap.size w2 W → Calls Tryz.prog 135 #[.slice A2 us.length c2, .string (bs xf)] W fun e w' => e = .returned (.bool (decide (xf ∈ us))) ∧ w' = W.drewN 0) := fun W hW => (Contains_str us xf A2 c2 W (HL2.out.below hW) (by omega)).mono fun e w' h => ⟨h.1, h.2.symm⟩
 have C2 : Hid (∀ W, Below w2.heap.size w2 W → Calls Tryz.prog 135 #[.slice A2 us.length c2, .string (bs xt)] W fun e w' => e = .returned (.bool (decide (xt ∈ us))) ∧ w' = W.drewN 0) := fun W hW => (Contains_str us xt A2 c2 W (HL2.out.below hW) (by omega)).mono fun e w' h => ⟨h.1, h.2.symm⟩
 have O2 : Hid (∀ W, Below w2.heap.size w2 W → Calls Tryz.prog 15 #[.pointer (some ⟨rb, 0, none⟩)] W fun e w' => e = .returned (.pointer (some ⟨o, 0, none⟩)) ∧ w' = W.drewN 0) := fun W hW => (OR.out W (below_then HB2.out hW HB2.out.size)).mono fun e w' h => ⟨h.1, h.2.symm⟩
 have I2 : Hid (∀ W, Below w2.heap.size w2 W → Calls Tryz.prog 19 #[.pointer (some ⟨o, 0, none⟩), .string (bs xr)] W fun e w' => e = .returned (.int .i64 (idxI ns xr)) ∧ w' = W.drewN 0) := fun W hW => (IX.out xr W (below_then HB2.out hW HB2.out.size)).mono fun e w' h => ⟨h.1, h.2.symm⟩
 have HIX := Lib.hid (idxI_ge ns xr)
 clear US OR IX HL2 HX HX2
 generalize idxI ns xr = ri at *
 generalize decide (xr ∈ ns) = dr at *
 have tok1 : True := trivial
 generalize decide (xf ∈ us) = d1 at *
 generalize decide (xt ∈ us) = d2 at *
 cases d1 with
 | false =>
  go_quiet ((go_at_call 135; exact Calls.quiet_of ((C1.out _ (by first | exact Below.refl _ _ | exact below_drewN (Below.refl _ _) _)).mono fun e w' h => ⟨h.1, 0, h.2⟩)))
  go_wp2
  go_ret
  exact ⟨ret_bool (by rw [HK.out]; rfl), below_drewN HB2.out _⟩
 | true =>
  cases d2 with
  | false =>
   go_quiet (first
    | (go_at_call_of 135 (Value.string (bs xf)); exact Calls.quiet_of ((C1.out _ (by first | exact Below.refl _ _ | exact below_drewN (Below.refl _ _) _)).mono fun e w' h => ⟨h.1, 0, h.2⟩))
    | (go_at_call_of 135 (Value.string (bs xt)); exact Calls.quiet_of ((C2.out _ (by first | exact Below.refl _ _ | exact below_drewN (Below.refl _ _) _)).mono fun e w' h => ⟨h.1, 0, h.2⟩)))
   go_wp2
   go_ret
   exact ⟨ret_bool (by rw [HK.out]; rfl), below_drewN HB2.out _⟩
  | true =>
   go_quiet (first
    | (go_at_call_of 135 (Value.string (bs xf)); exact Calls.quiet_of ((C1.out _ (by first | exact Below.refl _ _ | exact below_drewN (Below.refl _ _) _)).mono fun e w' h => ⟨h.1, 0, h.2⟩))
    | (go_at_call_of 135 (Value.string (bs xt)); exact Calls.quiet_of ((C2.out _ (by first | exact Below.refl _ _ | exact below_drewN (Below.refl _ _) _)).mono fun e w' h => ⟨h.1, 0, h.2⟩))
    | (go_at_call 15; exact Calls.quiet_of ((O2.out _ (by first | exact Below.refl _ _ | exact below_drewN (Below.refl _ _) _)).mono fun e w' h => ⟨h.1, 0, h.2⟩))
    | (go_at_call 19; exact Calls.quiet_of ((I2.out _ (by first | exact Below.refl _ _ | exact below_drewN (Below.refl _ _) _)).mono fun e w' h => ⟨h.1, 0, h.2⟩)))
   go_wp2
   go_ret
   exact ⟨ret_bool (by rw [HK.out, HIX.out]; rfl), below_drewN HB2.out _⟩
end
theorem and_val32 (a b : Nat) (ha : a < 16777216) (hb : b < 16777216) : bits .and .u32 (a : Int) (b : Int) = ((a &&& b : Nat) : Int) := u32_and_nat a b (by omega) (by omega)
section
variable {w4 : World} {rb o : Nat} {ns : List Tx} {bl : List Nat} {r : Rt} (R : RtB w4 rb o ns bl r) {b : Nat} {v : Value} {gs : List Gr} {last : Int} {w : World}
theorem there_clo (g : Gr) (u x : Tx) (b1 b2 : Nat) (w : World) (h1 : b1 < w.heap.size) (h2 : b2 < w.heap.size) (c1 : w.cell? ⟨b1, 0, none⟩ = some (.string (bs u))) (c2 : w.cell? ⟨b2, 0, none⟩ = some (.string (bs x))) :
  Calls Tryz.prog 175 #[gval g, .pointer (some ⟨b1, 0, none⟩), .pointer (some ⟨b2, 0, none⟩)] w fun e w' => e = .returned (.bool (g.rcv == u && g.role == x)) ∧ Below w.heap.size w w' := by
 have HE1 : Hid (((bs g.rcv).toList == (bs u).toList) = (g.rcv == u)) := beq_tx g.rcv u
 have HE2 : Hid (((bs g.role).toList == (bs x).toList) = (g.role == x)) := beq_tx g.role x
 obtain ⟨xn, xf, xt, xr, xu, xd, xw⟩ := g
 have HX := heap_alloc_new w (gO xn (bs xf) (bs xt) (bs xr) xu xd xw)
 have HB := Lib.hid (rbox w (gO xn (bs xf) (bs xt) (bs xr) xu xd xw))
 have y1 := (HB.out.cell (p := ⟨b1, 0, none⟩) h1).trans c1
 have y2 := (HB.out.cell (p := ⟨b2, 0, none⟩) h2).trans c2
 have x2 := gq2 HX; have x3 := gq3 HX
 clear HX c1 c2
 dsimp only [gval] at HE1 HE2 ⊢
 generalize hres : (xt == u && xr == x) = res
 have HR := Lib.hid hres
 clear hres
 go_enter Tryz.func175, Tryz.ntmps175
 go_upto_region 1 with fail
 generalize w.alloc (gO xn (bs xf) (bs xt) (bs xr) xu xd xw) = w1 at *
 cases he : (xt == u) with
 | false =>
  rw [he] at HE1 HR
  have he1 := HE1.out
  clear he HE1
  generalize bs xt = bt at *
  generalize bs u = bu at *
  go_wp2
  go_ret
  exact ⟨ret_bool HR.out, HB.out⟩
 | true =>
  rw [he] at HE1 HR
  have he1 := HE1.out
  clear he HE1
  generalize bs xt = bt at *
  generalize bs u = bu at *
  generalize bs xr = br at *
  generalize bs x = bx at *
  go_wp2
  go_ret
  exact ⟨ret_bool (by rw [← HR.out, Bool.true_and, ← HE2.out]), HB.out⟩
theorem there_miss {gs : List Gr} {u x : Tx} (h : ∀ j (hj : j < gs.length), (gs[j].rcv == u && gs[j].role == x) = false) : thereP gs u x = false := by
 unfold thereP
 rw [List.any_eq_false]
 intro g hg
 obtain ⟨j, hj, rfl⟩ := List.mem_iff_getElem.1 hg
 simpa using h j hj
theorem there_hit {gs : List Gr} {u x : Tx} {k : Nat} (hk : k < gs.length) (h : (gs[k].rcv == u && gs[k].role == x) = true) : thereP gs u x = true := List.any_eq_true.2 ⟨_, List.getElem_mem hk, h⟩
set_option maxHeartbeats 2000000 in
theorem there_idx (gs : List Gr) (u x : Tx) (A : Option Addr) (c b1 b2 : Nat) (w : World) (h : GAt w A c gs) (hl : gs.length ≤ 1000) (h1 : b1 < w.heap.size) (h2 : b2 < w.heap.size) (c1 : w.cell? ⟨b1, 0, none⟩ = some (.string (bs u))) (c2 : w.cell? ⟨b2, 0, none⟩ = some (.string (bs x))) :
  Calls Tryz.prog 195 #[.slice A gs.length c, .func (.func 175) #[] #[.pointer (some ⟨b1, 0, none⟩), .pointer (some ⟨b2, 0, none⟩)]] w fun e w' => ∃ k : Int, e = .returned (.int .i64 k) ∧ decide (0 ≤ k) = thereP gs u x ∧ Below w.heap.size w w' := by
 have HS := Lib.hid h
 have hcc := h.1
 have HC := Lib.hid (fun W (hW : Below w.heap.size w W) (g : Gr) => there_clo g u x b1 b2 W (Nat.lt_of_lt_of_le h1 hW.size) (Nat.lt_of_lt_of_le h2 hW.size) ((hW.cell (p := ⟨b1, 0, none⟩) h1).trans c1) ((hW.cell (p := ⟨b2, 0, none⟩) h2).trans c2))
 clear h c1 c2 h1 h2
 go_enter Tryz.func195, Tryz.ntmps195
 go_wp2
 go_loopw [5, 8] (fun _ i wr => ∃ k : Nat, k ≤ gs.length ∧ i = .int .i64 k ∧ Hid (Below w.heap.size w wr) ∧ Hid (∀ j (_ : j < k) (h : j < gs.length), (gs[j].rcv == u && gs[j].role == x) = false)) (fun _ i _ => gs.length - (intOf i).toNat)
 case atStart => exact ⟨0, Nat.zero_le _, rfl, Below.refl _ _, fun j hj _ => by omega⟩
 case round =>
  obtain ⟨k, hk, rfl, HB, HI⟩ := hrel
  by_cases hlt : k < gs.length
  ·obtain ⟨g, rfl, hgl, hc⟩ := (HS.out.below HB.out).2 k hlt
   have q0 := hc 0 _ (by omega) rfl; have q1 := hc 1 _ (by omega) rfl; have q2 := hc 2 _ (by omega) rfl; have q3 := hc 3 _ (by omega) rfl; have q4 := hc 4 _ (by omega) rfl; have q5 := hc 5 _ (by omega) rfl; have q6 := hc 6 _ (by omega) rfl
   simp only [Nat.add_zero] at q0
   have CL := Lib.hid (HC.out wr HB.out gs[k])
   have HH : Hid ((gs[k].rcv == u && gs[k].role == x) = true → thereP gs u x = true) := fun e => there_hit hlt e
   have HT : Hid ((gs[k].rcv == u && gs[k].role == x) = false → ∀ j (_ : j < k + 1) (h : j < gs.length), (gs[j].rcv == u && gs[j].role == x) = false) := fun hb j hj h => by
    by_cases e : j = k
    ·subst e; exact hb
    ·exact HI.out j (by omega) h
   clear hc
   generalize gs[k] = a at *
   generalize (a.rcv == u && a.role == x) = q at *
   dsimp only [gval] at CL
   cases q
   ·have HT2 := Lib.hid (HT.out rfl)
    clear HH HT HI
    go_wp2_with (go_at_call 175; refine CL.out.mono ?_; rintro e w2 ⟨rfl, hb2⟩)
    have HB2 := Lib.hid (below_then HB.out hb2 HB.out.size)
    go_roundw
    case rel => exact ⟨k + 1, by omega, by go_num, HB2, HT2⟩
    case measure => simp [intOf]; omega
   ·have HE := Lib.hid (HH.out rfl)
    clear HH HT HI
    go_wp2_with (go_at_call 175; refine CL.out.mono ?_; rintro e w2 ⟨rfl, hb2⟩)
    go_ret
    exact ⟨k, rfl, by rw [HE.out]; simp, below_then HB.out hb2 HB.out.size⟩
  ·have HE : Hid (thereP gs u x = false) := there_miss fun j hj => HI.out j (by omega) hj
   clear HI
   go_wp2
   go_ret
   exact ⟨-1, rfl, by rw [HE.out]; rfl, HB.out⟩
theorem there_any (h : GrM w b v gs last) (hl : gs.length ≤ 1000) (u x : Tx) :
  Calls Tryz.prog 132 #[.pointer (some ⟨b, 0, none⟩), .string (bs u), .string (bs x)] w fun e w' => e = .returned (.bool (thereP gs u x)) ∧ Below w.heap.size w w' := by
 obtain ⟨A, c, rfl⟩ := own_slice h.own
 have hb1 := rbox w (.cells #[.string (bs u)] 9)
 have hb2 := below_then hb1 (rbox (w.alloc (.cells #[.string (bs u)] 9)) (.cells #[.string (bs x)] 9)) hb1.size
 have R1 := heap_alloc_new w (.cells #[.string (bs u)] 9)
 have R1' := ((rbox (w.alloc (.cells #[.string (bs u)] 9)) (.cells #[.string (bs x)] 9)).block _ (by simp)).trans R1
 have R2 := heap_alloc_new (w.alloc (.cells #[.string (bs u)] 9)) (.cells #[.string (bs x)] 9)
 rw [show (w.alloc (.cells #[.string (bs u)] 9)).heap.size = w.heap.size + 1 by simp] at R2
 have IX := Lib.hid (there_idx gs u x A c w.heap.size (w.heap.size + 1) ((w.alloc (.cells #[.string (bs u)] 9)).alloc (.cells #[.string (bs x)] 9)) ((gAt_of h.own).below hb2) hl (by simp; omega) (by simp) (by rw [cell_of_row _ _ _ _ _ _ R1']; rfl) (by rw [cell_of_row _ _ _ _ _ _ R2]; rfl))
 have HB := Lib.hid hb2
 have q0 := (hb2.cell (p := ⟨b, 0, none⟩) h.lt).trans h.q0
 have hmf : ∀ (fn : Fn) (first cap : Array Value) (w : World), (Instr.makeFunc fn first cap).run Tryz.prog w = .ok (.func fn first cap) w := fun _ _ _ _ => rfl
 clear h R1 R1' R2 hb1 hb2
 go_enter Tryz.func132, Tryz.ntmps132
 go_upto_region 1 with fail
 generalize (w.alloc (.cells #[.string (bs u)] 9)).alloc (.cells #[.string (bs x)] 9) = w1 at *
 have CF : Hid (Calls Tryz.prog 174 #[.slice A gs.length c, .func (.func 175) #[] #[.pointer (some ⟨w.heap.size, 0, none⟩), .pointer (some ⟨w.heap.size + 1, 0, none⟩)]] w1 fun e w' => e = .returned (.bool (thereP gs u x)) ∧ Below w1.heap.size w1 w') := by
  clear q0 HB
  go_enter Tryz.func174, Tryz.ntmps174
  go_wp2_with (go_at_call 195; refine IX.out.mono ?_; rintro e w2 ⟨k, rfl, hk, hb2⟩; have HK := Lib.hid hk; clear hk)
  go_ret
  exact ⟨ret_bool HK.out, hb2⟩
 clear IX
 go_wp2_with (go_at_call 174; refine CF.out.mono ?_; rintro e w2 ⟨rfl, hb2⟩)
 go_ret
 exact ⟨rfl, below_then HB.out hb2 HB.out.size⟩
end
end Go.Proofs.YtkalfhhdljndfaaGreatDoor
namespace Go.Proofs.YtkalfhhdljndfaaGreatDoor
set_option maxRecDepth 100000
open Go.ChangeShapes Go.WideShapes Go.ChangeAt Go.RowKit Go.Sort
def BolTo (z : Bool) (w : World) (e : Ending) (w' : World) : Prop := e = .returned (.bool z) ∧ Below w.heap.size w w'
theorem bolTo_mk {z y : Bool} {w w' : World} (h : z = y) (hb : Below w.heap.size w w') : BolTo z w (.returned (.bool y)) w' := by subst h; exact ⟨rfl, hb⟩
section
variable {w4 : World} {rb o : Nat} {ns : List Tx} {bl : List Nat} {r : Rt} (R : RtB w4 rb o ns bl r) {b : Nat} {v : Value} {gs : List Gr} {last : Int} {w : World}
set_option maxHeartbeats 8000000 in
include R in
theorem allowed_any (h : GrM w b v gs last) (hw : Below w4.heap.size w4 w) (hl : gs.length ≤ 1000) (x : Gr) (hx : x.role.length ≤ 1048576) :
  Calls Tryz.prog 94 #[.pointer (some ⟨b, 0, none⟩), .pointer (some ⟨rb, 0, none⟩), gval x] w (BolTo (allowP ns bl r gs x) w) := by
 obtain ⟨xn, xf, xt, xr, xu, xd, xw⟩ := x
 have HX := Lib.hid (heap_alloc_new w (gO xn (bs xf) (bs xt) (bs xr) xu xd xw))
 have HB0 := Lib.hid (rbox w (gO xn (bs xf) (bs xt) (bs xr) xu xd xw))
 have hlx : w.heap.size < (w.alloc (gO xn (bs xf) (bs xt) (bs xr) xu xd xw)).heap.size := by simp
 have LN := Lib.hid (R.LN xr (w.alloc (gO xn (bs xf) (bs xt) (bs xr) xu xd xw)) hx (below_then hw HB0.out hw.size))
 have HH := Lib.hid h
 have HW := Lib.hid hw
 have HRR := Lib.hid R
 have HA : Hid (allowP ns bl r gs ⟨xn, xf, xt, xr, xu, xd, xw⟩ = ((lnP r.loans xr).isSome && !decide ((lnV r.loans xr).1 < xd) && wayP ns bl r gs ⟨xn, xf, xt, xr, xu, xd, xw⟩)) := rfl
 have hf := R.few
 clear R h hw
 unfold LenTo at LN
 generalize (lnP r.loans xr).isSome = ls at *
 generalize (lnV r.loans xr).1 = la at *
 generalize (lnV r.loans xr).2 = lb at *
 dsimp only [gval]
 go_enter Tryz.func94, Tryz.ntmps94
 go_upto_region 1 with fail
 generalize w.alloc (gO xn (bs xf) (bs xt) (bs xr) xu xd xw) = w1 at *
 have x3 := gq3 HX.out
 go_upto_region 2 with (go_at_call 46; refine LN.out.mono ?_; rintro e w2 ⟨rfl, hb2⟩; have HB2 := Lib.hid (below_then HB0.out hb2 HB0.out.size); have HX2 := Lib.hid ((hb2.block _ hlx).trans HX.out); clear hb2)
 have HBL := Lib.hid (rbox w2 (.cells #[.int .i64 la, .int .i64 lb] 103))
 have HL := Lib.hid (heap_alloc_new w2 (.cells #[.int .i64 la, .int .i64 lb] 103))
 have hlt2 : w.heap.size < w2.heap.size := (Array.getElem?_eq_some_iff.1 HX2.out).1
 have HX3 := Lib.hid ((HBL.out.block _ hlt2).trans HX2.out)
 have HB3 := Lib.hid (below_then HB2.out HBL.out HB2.out.size)
 clear x3 LN HX HX2 HB2 HB0
 generalize w2.alloc (.cells #[.int .i64 la, .int .i64 lb] 103) = w3 at *
 generalize w2.heap.size = gl at *
 have l0 := lq0 HL.out
 have y0 := gq0 HX3.out; have y1 := gq1 HX3.out; have y2 := gq2 HX3.out; have y3 := gq3 HX3.out; have y5 := gq5 HX3.out; have y6 := gq6 HX3.out
 cases ls with
 | false =>
  go_wp2
  go_ret
  exact bolTo_mk (by rw [HA.out]; rfl) HB3.out
 | true =>
  by_cases hd : la < xd
  ·have HD : Hid (decide (la < xd) = true) := decide_eq_true hd
   have hd2 := HD.out
   go_wp2
   go_ret
   exact bolTo_mk (by rw [HA.out, HD.out]; rfl) HB3.out
  ·have HD : Hid (decide (la < xd) = false) := decide_eq_false hd
   have hd2 := HD.out
   have HA2 : Hid (allowP ns bl r gs ⟨xn, xf, xt, xr, xu, xd, xw⟩ = wayP ns bl r gs ⟨xn, xf, xt, xr, xu, xd, xw⟩) := by show _ = _; rw [HA.out, HD.out]; simp
   clear HA HD
   generalize allowP ns bl r gs ⟨xn, xf, xt, xr, xu, xd, xw⟩ = res at *
   have hw3 := HB3.out
   have HR3 := Lib.hid (HRR.out.later (below_then HW.out HB3.out HW.out.size))
   have hlx3 : w.heap.size < w3.heap.size := (Array.getElem?_eq_some_iff.1 HX3.out).1
   clear hw3 HRR HW
   by_cases hz : xw = 0
   ·have HZ : Hid (wayP ns bl r gs ⟨xn, xf, xt, xr, xu, xd, xw⟩ = decide (downTo bl (rtHas r.users xf) ns.length &&& oneP ns xr ≠ 0)) := by show _ = _; unfold wayP; rw [if_pos hz]
    subst hz
    have HS : Hid (∀ W, Below w3.heap.size w3 W → Calls Tryz.prog 20 #[.pointer (some ⟨rb, 0, none⟩), .string (bs xf)] W fun e w' => e = .returned (.int .u32 (rtHas r.users xf : Nat)) ∧ Below W.heap.size W w') := fun W hW => HR3.out.HS xf W hW
    have OR : Hid (∀ W, Below w3.heap.size w3 W → Calls Tryz.prog 15 #[.pointer (some ⟨rb, 0, none⟩)] W fun e w' => e = .returned (.pointer (some ⟨o, 0, none⟩)) ∧ W = w') := fun W hW => HR3.out.OR W hW
    have hsu := HR3.out.su xf
    have DN : Hid (∀ W, Below w3.heap.size w3 W → Calls Tryz.prog 56 #[.pointer (some ⟨o, 0, none⟩), .int .u32 (rtHas r.users xf : Nat)] W fun e w' => e = .returned (.int .u32 (downTo bl (rtHas r.users xf) ns.length : Nat)) ∧ W = w') := fun W hW => HR3.out.DN _ W (by omega) hW
    have ON : Hid (∀ W, Below w3.heap.size w3 W → Calls Tryz.prog 85 #[.pointer (some ⟨rb, 0, none⟩), .string (bs xr)] W fun e w' => e = .returned (.int .u32 (oneP ns xr : Nat)) ∧ W = w') := fun W hW => one_any HR3.out xr W hW
    have hdl := downTo_lo HR3.out.lo (rtHas r.users xf) ns.length
    have hol := oneP_lt HR3.out.few xr
    have HV : Hid (bits .and .u32 ((downTo bl (rtHas r.users xf) ns.length : Nat) : Int) ((oneP ns xr : Nat) : Int) = ((downTo bl (rtHas r.users xf) ns.length &&& oneP ns xr : Nat) : Int)) := and_val32 _ _ hdl hol
    clear hdl hol hsu
    generalize downTo bl (rtHas r.users xf) ns.length = dn at *
    generalize rtHas r.users xf = hv at *
    generalize oneP ns xr = op at *
    go_upto_region 5 with fail
    have n1 := fun d os => Calls.regrown_of ((OR.out _ (below_regrown w3 d os)).mono fun e w' h => ⟨h.1, h.2 ▸ Below.refl _ _⟩)
    have n2 := fun d os => Calls.regrown_of (HS.out _ (below_regrown w3 d os))
    have n3 := fun d os => Calls.regrown_of ((DN.out _ (below_regrown w3 d os)).mono fun e w' h => ⟨h.1, h.2 ▸ Below.refl _ _⟩)
    have n4 := fun d os => Calls.regrown_of ((ON.out _ (below_regrown w3 d os)).mono fun e w' h => ⟨h.1, h.2 ▸ Below.refl _ _⟩)
    have c1 : ∀ d os, (grow (redrawn w3 d) os).cell? ⟨w.heap.size, 1, none⟩ = some (.string (bs xf)) := fun d os => cell_regrown y1 d os
    have c3 : ∀ d os, (grow (redrawn w3 d) os).cell? ⟨w.heap.size, 3, none⟩ = some (.string (bs xr)) := fun d os => cell_regrown y3 d os
    refine wp_region_quiet_below (by kernel_rfl) (by kernel_rfl) ?_
    repeat (quiet_step (first | exact n1 _ _ | exact n2 _ _ | exact n3 _ _ | exact n4 _ _))
    refine wpQuiet_nil ?_
    intro _ hw'
    obtain ⟨⟨dq, osq⟩, hw''⟩ := hw'
    subst hw''
    go_wp2
    go_ret
    refine ⟨ret_bool ?_, below_then HB3.out (below_regrown w3 dq osq) HB3.out.size⟩
    rw [HA2.out, HZ.out, HV.out]
    rw [Bool.eq_iff_iff, decide_eq_true_eq, bne_iff_ne]
    omega
   ·have hz1 : (xw == 0) = false := by simpa using hz
    have HZ : Hid (wayP ns bl r gs ⟨xn, xf, xt, xr, xu, xd, xw⟩ = match gFind gs xw with | none => false | some y => decide (y.rcv = xf) && aboveP ns bl y.role xr) := by show _ = _; unfold wayP; exact if_neg hz
    have FI := Lib.hid (find_any gs xw b v last w3 (HH.out.below HB3.out) hl)
    clear hz
    have y6' := y6
    go_upto_region 6 with fail
    cases hfo : gFind gs xw with
    | none =>
     rw [hfo] at HZ FI
     have HF : Hid (wayP ns bl r gs ⟨xn, xf, xt, xr, xu, xd, xw⟩ = false) := HZ.out
     clear hfo HZ
     unfold FinTo at FI
     dsimp only [Option.getD, Option.isSome, gval, gZero] at FI
     go_wp2_with (go_at_call 82; refine FI.out.mono ?_; rintro e w5 ⟨rfl, hb5⟩; have HB5 := Lib.hid (below_then HB3.out hb5 HB3.out.size); clear hb5)
     go_quiet (fail)
     go_wp2
     go_ret
     exact bolTo_mk (by rw [HA2.out, HF.out]) (below_drewN (below_then HB5.out (rbox _ _) HB5.out.size) _)
    | some y =>
     rw [hfo] at HZ FI
     have HF : Hid (wayP ns bl r gs ⟨xn, xf, xt, xr, xu, xd, xw⟩ = (decide (y.rcv = xf) && aboveP ns bl y.role xr)) := HZ.out
     clear hfo HZ
     obtain ⟨yn, yf, yt, yr, yu, yd, yw⟩ := y
     unfold FinTo at FI
     dsimp only [Option.getD, Option.isSome, gval] at FI
     dsimp only at HF
     go_upto_region 7 with (go_at_call 82; refine FI.out.mono ?_; rintro e w5 ⟨rfl, hb5⟩; have HB5 := Lib.hid hb5; clear hb5)
     have HBY := Lib.hid (rbox w5 (gO yn (bs yf) (bs yt) (bs yr) yu yd yw))
     have HY := Lib.hid (heap_alloc_new w5 (gO yn (bs yf) (bs yt) (bs yr) yu yd yw))
     have HB6 := Lib.hid (below_then HB5.out HBY.out HB5.out.size)
     have HX6 := Lib.hid ((HB6.out.block _ hlx3).trans HX3.out)
     have HB7 := Lib.hid (below_then HB3.out HB6.out HB3.out.size)
     clear l0 y0 y1 y2 y3 y5 y6 y6' HX3 HB5 HBY
     generalize w5.alloc (gO yn (bs yf) (bs yt) (bs yr) yu yd yw) = w6 at *
     generalize w5.heap.size = gy at *
     have z2 := gq2 HY.out; have z3 := gq3 HY.out
     have u1 := gq1 HX6.out; have u3 := gq3 HX6.out
     have HE : Hid (((bs yt).toList == (bs xf).toList) = decide (yt = xf)) := by show _ = _; rw [beq_tx, Bool.eq_iff_iff, decide_eq_true_eq, beq_iff_eq]
     cases hg : decide (yt = xf) with
     | false =>
      rw [hg] at HE HF
      have he := HE.out
      clear hg HE
      generalize bs yt = byt at *
      generalize bs xf = bxf at *
      go_quiet (fail)
      go_wp2
      go_ret
      exact bolTo_mk (by rw [HA2.out, HF.out]; rfl) (below_drewN HB7.out _)
     | true =>
      rw [hg] at HE HF
      have he := HE.out
      clear hg HE
      have OR : Hid (∀ W, Below w6.heap.size w6 W → Calls Tryz.prog 15 #[.pointer (some ⟨rb, 0, none⟩)] W fun e w' => e = .returned (.pointer (some ⟨o, 0, none⟩)) ∧ w' = W.drewN 0) := fun W hW => (HR3.out.OR W (below_then HB6.out hW HB6.out.size)).mono fun e w' h => ⟨h.1, h.2.symm⟩
      have AB : Hid (∀ W, Below w6.heap.size w6 W → Calls Tryz.prog 18 #[.pointer (some ⟨o, 0, none⟩), .string (bs yr), .string (bs xr)] W fun e w' => e = .returned (.bool (aboveP ns bl yr xr)) ∧ w' = W.drewN 0) := fun W hW => (HR3.out.AB yr xr W (below_then HB6.out hW HB6.out.size)).mono fun e w' h => ⟨h.1, h.2.symm⟩
      generalize aboveP ns bl yr xr = ab at *
      generalize bs yt = byt at *
      generalize bs xf = bxf at *
      go_quiet (first
       | (go_at_call 15; exact Calls.quiet_of ((OR.out _ (by first | exact Below.refl _ _ | exact below_drewN (Below.refl _ _) _)).mono fun e w' h => ⟨h.1, 0, h.2⟩))
       | (go_at_call 18; exact Calls.quiet_of ((AB.out _ (by first | exact Below.refl _ _ | exact below_drewN (Below.refl _ _) _)).mono fun e w' h => ⟨h.1, 0, h.2⟩)))
      go_wp2
      go_ret
      exact bolTo_mk (by rw [HA2.out, HF.out]; simp) (below_drewN HB7.out _)
end
end Go.Proofs.YtkalfhhdljndfaaGreatDoor
