import Derived.Test.YtgffbgmieppckaaGreatDoorGr1
import Derived.BigQuiet
namespace Go.Proofs.YtgffbgmieppckaaGreatDoor
set_option maxRecDepth 100000
open Go.ChangeShapes Go.WideShapes Go.ChangeAt Go.RowKit
def sets7 (W : World) (b : Nat) (v0 v1 v2 v3 v4 v5 v6 : Value) : World := ((((((W.setCell ⟨b, 0, none⟩ v0).setCell ⟨b, 1, none⟩ v1).setCell ⟨b, 2, none⟩ v2).setCell ⟨b, 3, none⟩ v3).setCell ⟨b, 4, none⟩ v4).setCell ⟨b, 5, none⟩ v5).setCell ⟨b, 6, none⟩ v6
theorem sets7_row {W : World} {b : Nat} {a0 a1 a2 a3 a4 a5 a6 : Value} {t : TypeId} (h : W.heap[b]? = some (.cells #[a0, a1, a2, a3, a4, a5, a6] t (0, 0))) (v0 v1 v2 v3 v4 v5 v6 : Value) : (sets7 W b v0 v1 v2 v3 v4 v5 v6).heap[b]? = some (.cells #[v0, v1, v2, v3, v4, v5, v6] t (0, 0)) := by
 show ((((((((W.setCell ⟨b, 0, none⟩ v0).setCell ⟨b, 1, none⟩ v1).setCell ⟨b, 2, none⟩ v2).setCell ⟨b, 3, none⟩ v3).setCell ⟨b, 4, none⟩ v4).setCell ⟨b, 5, none⟩ v5).setCell ⟨b, 6, none⟩ v6).heap[b]?) = _
 have e := heap_set (j := 6) (heap_set (j := 5) (heap_set (j := 4) (heap_set (j := 3) (heap_set (j := 2) (heap_set (j := 1) (heap_set (j := 0) h v0) v1) v2) v3) v4) v5) v6
 simpa using e
theorem sets7_below {n b : Nat} {W0 W : World} (h : Below n W0 W) (hn : n ≤ W0.heap.size) (hb : n ≤ b) (v0 v1 v2 v3 v4 v5 v6 : Value) : Below n W0 (sets7 W b v0 v1 v2 v3 v4 v5 v6) := by
 have st : ∀ {X : World} (j : Nat) (u : Value), Below n W0 X → Below n W0 (X.setCell ⟨b, j, none⟩ u) := fun j u hX => hX.grown (grown_setCell _ b j u) (Nat.le_trans hn hX.size) (fun k e => by cases e; exact hb)
 exact st _ _ (st _ _ (st _ _ (st _ _ (st _ _ (st _ _ (st _ _ h))))))
def gZero : Gr := ⟨0, [], [], [], 0, 0, 0⟩
theorem gFind_hit {gs : List Gr} {n : Int} {k : Nat} (h : k < gs.length) (e : gs[k].num = n) (hb : ∀ j (_ : j < k) (h : j < gs.length), gs[j].num ≠ n) : gFind gs n = some gs[k] := by
 unfold gFind
 rw [List.find?_eq_some_iff_getElem]
 exact ⟨by simpa using e, k, h, rfl, fun j hj => by have := hb j hj (by omega); simpa using this⟩
theorem gFind_miss {gs : List Gr} {n : Int} (hb : ∀ j (h : j < gs.length), gs[j].num ≠ n) : gFind gs n = none := by
 unfold gFind
 rw [List.find?_eq_none]
 intro x hx
 obtain ⟨j, hj, rfl⟩ := List.mem_iff_getElem.1 hx
 simpa using hb j hj
theorem gFind_mem {gs : List Gr} {n : Int} {y : Gr} (h : gFind gs n = some y) : y ∈ gs ∧ y.num = n := by
 unfold gFind at h
 exact ⟨List.mem_of_find?_eq_some h, by simpa using List.find?_some h⟩
def FinTo (o : Option Gr) (w : World) (e : Ending) (w' : World) : Prop := e = .returned (.tuple #[gval (o.getD gZero), .bool o.isSome]) ∧ Below w.heap.size w w'
theorem finTo_hit {o : Option Gr} {y : Gr} {w w' : World} (h : o = some y) (hb : Below w.heap.size w w') : FinTo o w (.returned (.tuple #[.agg #[.int .i64 y.num, .string (bs y.fro), .string (bs y.rcv), .string (bs y.role), .int .i64 y.til, .int .i64 y.dep, .int .i64 y.way], .bool true])) w' := by subst h; exact ⟨rfl, hb⟩
theorem finTo_miss {o : Option Gr} {w w' : World} (h : o = none) (hb : Below w.heap.size w w') : FinTo o w (.returned (.tuple #[.agg #[.int .i64 0, .string ⟨#[]⟩, .string ⟨#[]⟩, .string ⟨#[]⟩, .int .i64 0, .int .i64 0, .int .i64 0], .bool false])) w' := by subst h; exact ⟨rfl, hb⟩
theorem gqs0 {W : World} {b : Nat} {a0 a1 a2 a3 a4 a5 a6 : Value} {t : TypeId} {fz : Nat × Nat} (h : W.heap[b]? = some (.cells #[a0, a1, a2, a3, a4, a5, a6] t fz)) : W.cell? ⟨b, 0, none⟩ = some a0 ∧ W.cell? ⟨b, 1, none⟩ = some a1 ∧ W.cell? ⟨b, 2, none⟩ = some a2 ∧ W.cell? ⟨b, 3, none⟩ = some a3 ∧ W.cell? ⟨b, 4, none⟩ = some a4 ∧ W.cell? ⟨b, 5, none⟩ = some a5 ∧ W.cell? ⟨b, 6, none⟩ = some a6 := ⟨gq0 h, gq1 h, gq2 h, gq3 h, gq4 h, gq5 h, gq6 h⟩
theorem fzGs0_7 {W : World} {t : Nat} {cs : Array Value} {ty : TypeId} (R : W.heap[t]? = some (.cells cs ty (0, 0))) : W.frozen? ⟨t, 0, none⟩ = false ∧ W.frozen? ⟨t, 1, none⟩ = false ∧ W.frozen? ⟨t, 2, none⟩ = false ∧ W.frozen? ⟨t, 3, none⟩ = false ∧ W.frozen? ⟨t, 4, none⟩ = false ∧ W.frozen? ⟨t, 5, none⟩ = false ∧ W.frozen? ⟨t, 6, none⟩ = false := ⟨fzG R 0, fzG R 1, fzG R 2, fzG R 3, fzG R 4, fzG R 5, fzG R 6⟩
abbrev gO (n : Int) (f t r : ByteArray) (u d w : Int) : Obj := .cells #[.int .i64 n, .string f, .string t, .string r, .int .i64 u, .int .i64 d, .int .i64 w] 87
abbrev gCells0 : Obj := .cells #[.int .i64 0, .string ⟨#[]⟩, .string ⟨#[]⟩, .string ⟨#[]⟩, .int .i64 0, .int .i64 0, .int .i64 0] 87
set_option maxHeartbeats 4000000 in
theorem find_any (gs : List Gr) (n : Int) (b : Nat) (v : Value) (last : Int) (w : World) (h : GrM w b v gs last) (hl : gs.length ≤ 1000) :
  Calls Tryz.prog 112 #[.pointer (some ⟨b, 0, none⟩), .int .i64 n] w (FinTo (gFind gs n) w) := by
 obtain ⟨A, c, rfl⟩ := own_slice h.own
 have HG := Lib.hid (gAt_of h.own)
 have hcc := HG.out.1
 have q0 := (World.cell?_alloc_lt w gCells0 ⟨b, 0, none⟩ h.lt).trans h.q0
 have R0 := Lib.hid (heap_alloc_new w gCells0)
 have HB0 := Lib.hid (rbox w gCells0)
 clear h
 go_enter Tryz.func112, Tryz.ntmps112
 go_upto_region 1 with fail
 generalize hw0 : w.alloc gCells0 = w0 at *
 clear hw0
 have hb00 := HB0.out
 have hlt0 : w.heap.size < w0.heap.size := (Array.getElem?_eq_some_iff.1 R0.out).1
 go_upto_region 2 with fail
 go_loopw [13] (fun i wr => ∃ k : Nat, k ≤ gs.length ∧ i = .int .i64 k ∧ Hid (Below w0.heap.size w0 wr) ∧ Hid (∀ j (_ : j < k) (h : j < gs.length), gs[j].num ≠ n)) (fun i _ => gs.length - (intOf i).toNat)
 case atStart => exact ⟨0, Nat.zero_le _, rfl, Below.refl _ _, fun j hj _ => by omega⟩
 case round =>
  obtain ⟨k, hk, rfl, HB, HI⟩ := hrel
  have hbz := HB.out.size
  have HBW := Lib.hid (below_then HB0.out HB.out HB0.out.size)
  have R1 := Lib.hid ((HB.out.block _ hlt0).trans R0.out)
  by_cases hlt : k < gs.length
  ·have hli : (k : Int) < gs.length := by omega
   obtain ⟨g, rfl, hgl, hc⟩ := ((HG.out.below HB0.out).below HB.out).2 k hlt
   have q0 := hc 0 _ (by omega) rfl; have q1 := hc 1 _ (by omega) rfl; have q2 := hc 2 _ (by omega) rfl; have q3 := hc 3 _ (by omega) rfl; have q4 := hc 4 _ (by omega) rfl; have q5 := hc 5 _ (by omega) rfl; have q6 := hc 6 _ (by omega) rfl
   simp only [Nat.add_zero] at q0
   have HH : Hid (gs[k].num = n → gFind gs n = some gs[k]) := fun e => gFind_hit hlt e HI.out
   have HT : Hid (gs[k].num ≠ n → ∀ j (_ : j < k + 1) (h : j < gs.length), gs[j].num ≠ n) := fun e j hj h => by
    by_cases e2 : j = k
    ·subst e2; exact e
    ·exact HI.out j (by omega) h
   clear hc
   generalize gs[k] = x at *
   obtain ⟨xn, xf, xt, xr, xu, xd, xw⟩ := x
   simp only at q0 q1 q2 q3 q4 q5 q6 HH HT
   have HX := Lib.hid (heap_alloc_new wr (gO xn (bs xf) (bs xt) (bs xr) xu xd xw))
   have HBX := Lib.hid (rbox wr (gO xn (bs xf) (bs xt) (bs xr) xu xd xw))
   go_upto_region 4 with fail
   generalize wr.alloc (gO xn (bs xf) (bs xt) (bs xr) xu xd xw) = w2 at *
   have HB2 := Lib.hid (below_then HBW.out HBX.out HBW.out.size)
   have HB3 := Lib.hid (below_then HB.out HBX.out HB.out.size)
   have hltw : w.heap.size < wr.heap.size := (Array.getElem?_eq_some_iff.1 R1.out).1
   have R2 := (HBX.out.block _ hltw).trans R1.out
   generalize wr.heap.size = gx at *
   obtain ⟨x0, x1, x2, x3, x4, x5, x6⟩ := gqs0 HX.out
   clear q0 q1 q2 q3 q4 q5 q6
   by_cases he : xn = n
   ·have HE := Lib.hid (HH.out he)
    subst he
    have he2 : (xn == xn) = true := by simp
    obtain ⟨z0, z1, z2, z3, z4, z5, z6⟩ := gqs0 R2
    obtain ⟨f0, f1, f2, f3, f4, f5, f6⟩ := fzGs0_7 R2
    have HR2 := Lib.hid R2
    clear HH HT HI R2
    go_wp2
    (try simp only [Exit.inBlock, Exit.then])
    refine bodyPost_ret (run_cellG rfl _ _ w.heap.size _ _ _ _ rfl (sets7_row HR2.out _ _ _ _ _ _ _) Tryz.underlying87 rfl (by kernel_rfl)) rfl ?_
    exact finTo_hit HE.out (sets7_below HB2.out (Nat.le_refl _) (Nat.le_refl _) _ _ _ _ _ _ _)
   ·have HT2 := Lib.hid (HT.out he)
    have he2 : (xn == n) = false := by simpa using he
    clear HH HT HI R2
    go_wp2
    go_roundw
    case rel => exact ⟨k + 1, by omega, by go_num, HB3, HT2⟩
    case measure => simp [intOf]; omega
  ·have hli : ¬ (k : Int) < gs.length := by omega
   have HE : Hid (gFind gs n = none) := gFind_miss fun j hj => HI.out j (by omega) hj
   have R2 := R1.out
   obtain ⟨z0, z1, z2, z3, z4, z5, z6⟩ := gqs0 R2
   obtain ⟨f0, f1, f2, f3, f4, f5, f6⟩ := fzGs0_7 R2
   clear HI R2
   go_wp2
   (try simp only [Exit.inBlock, Exit.then])
   refine bodyPost_ret (run_cellG rfl _ _ w.heap.size _ _ _ _ rfl (sets7_row R1.out _ _ _ _ _ _ _) Tryz.underlying87 rfl (by kernel_rfl)) rfl ?_
   exact finTo_miss HE.out (sets7_below HBW.out (Nat.le_refl _) (Nat.le_refl _) _ _ _ _ _ _ _)
theorem one_any {w4 : World} {rb o : Nat} {ns : List Tx} {bl : List Nat} {r : Rt} (R : RtB w4 rb o ns bl r) (x : Tx) (w : World) (hw : Below w4.heap.size w4 w) :
  Calls Tryz.prog 100 #[.pointer (some ⟨rb, 0, none⟩), .string (bs x)] w fun e w' => e = .returned (.int .u32 (oneP ns x : Nat)) ∧ w = w' := by
 have OR := Lib.hid (R.OR w hw)
 have IX := Lib.hid (R.IX x w hw)
 have hf := R.few
 clear R
 by_cases hx : x ∈ ns
 ·have HE : Hid (oneP ns x = bitN (nix ns x)) := if_pos hx
  have hi := idx_lt hx
  rw [idxI_in hx] at IX
  clear hx
  generalize nix ns x = n at *
  have hbv := bit_val (i := n) (by omega)
  have hn0 : ¬ ((n : Int) < 0) := by omega
  go_enter Tryz.func100, Tryz.ntmps100
  go_wp2_with (first
   | (go_at_call 41; refine OR.out.mono ?_; rintro e w1 ⟨rfl, rfl⟩)
   | (go_at_call 92; refine IX.out.mono ?_; rintro e w1 ⟨rfl, rfl⟩))
  go_ret
  exact ⟨by rw [HE.out, ← hbv]; rfl, rfl⟩
 ·have HE : Hid (oneP ns x = 0) := if_neg hx
  rw [idxI_out hx] at IX
  clear hx
  go_enter Tryz.func100, Tryz.ntmps100
  go_wp2_with (first
   | (go_at_call 41; refine OR.out.mono ?_; rintro e w1 ⟨rfl, rfl⟩)
   | (go_at_call 92; refine IX.out.mono ?_; rintro e w1 ⟨rfl, rfl⟩))
  go_ret
  exact ⟨by rw [HE.out]; rfl, rfl⟩
theorem oneP_lt {ns : List Tx} (h : ns.length ≤ 24) (x : Tx) : oneP ns x < 16777216 := by
 unfold oneP
 split
 ·rename_i hx
  exact pow_lo (by have := idx_lt hx; omega)
 ·omega
theorem holdS_cons_in {ns : List Tx} {u : Tx} {g : Gr} {gs : List Gr} {s : Nat} (h : g.rcv = u) : holdS ns u (g :: gs) s = holdS ns u gs (s ||| oneP ns g.role) := by rw [holdS, if_pos h]
theorem holdS_cons_out {ns : List Tx} {u : Tx} {g : Gr} {gs : List Gr} {s : Nat} (h : g.rcv ≠ u) : holdS ns u (g :: gs) s = holdS ns u gs s := by rw [holdS, if_neg h]
theorem holdS_lt {ns : List Tx} (h : ns.length ≤ 24) (u : Tx) : ∀ (gs : List Gr) (s : Nat), s < 16777216 → holdS ns u gs s < 16777216
 | [], s, hs => hs
 | g :: gs, s, hs => by
  rw [holdS]
  split
  ·exact holdS_lt h u gs _ (or_lo hs (oneP_lt h _))
  ·exact holdS_lt h u gs _ hs
def HolTo (z : Nat) (w : World) (e : Ending) (w' : World) : Prop := e = .returned (.int .u32 (z : Nat)) ∧ Below w.heap.size w w'
section
variable {w4 : World} {rb o : Nat} {ns : List Tx} {bl : List Nat} {r : Rt} (R : RtB w4 rb o ns bl r) {b : Nat} {v : Value} {gs : List Gr} {last : Int} {w : World}
set_option maxHeartbeats 4000000 in
include R in
theorem Holds_any (h : GrM w b v gs last) (hw : Below w4.heap.size w4 w) (hl : gs.length ≤ 1000) (u : Tx) :
  Calls Tryz.prog 31 #[.pointer (some ⟨b, 0, none⟩), .pointer (some ⟨rb, 0, none⟩), .string (bs u)] w (HolTo (holdsP ns bl r gs u) w) := by
 obtain ⟨A, c, rfl⟩ := own_slice h.own
 have HG := Lib.hid (gAt_of h.own)
 have hcc := HG.out.1
 have HQ := Lib.hid h.q0
 have hbl := h.lt
 have HS := Lib.hid (R.HS u w hw)
 have hs0 := R.su u
 have hf := R.few
 have ON : Hid (∀ x W, Below w.heap.size w W → Calls Tryz.prog 100 #[.pointer (some ⟨rb, 0, none⟩), .string (bs x)] W fun e w' => e = .returned (.int .u32 (oneP ns x : Nat)) ∧ W = w') := fun x W hW => one_any R x W (below_then hw hW hw.size)
 have OR : Hid (∀ W, Below w.heap.size w W → Calls Tryz.prog 41 #[.pointer (some ⟨rb, 0, none⟩)] W fun e w' => e = .returned (.pointer (some ⟨o, 0, none⟩)) ∧ W = w') := fun W hW => R.OR W (below_then hw hW hw.size)
 have DN : Hid (∀ (s : Nat) W, s < 4294967296 → Below w.heap.size w W → Calls Tryz.prog 75 #[.pointer (some ⟨o, 0, none⟩), .int .u32 (s : Nat)] W fun e w' => e = .returned (.int .u32 (downTo bl s ns.length : Nat)) ∧ W = w') := fun s W hs hW => R.DN s W hs (below_then hw hW hw.size)
 have HE : Hid (∀ z, holdS ns u gs (rtHas r.users u) = z → holdsP ns bl r gs u = downTo bl z ns.length) := fun z e => by unfold holdsP; rw [e]
 clear h hw R
 generalize holdsP ns bl r gs u = res at *
 generalize hrh : rtHas r.users u = s0 at *
 clear hrh
 go_enter Tryz.func31, Tryz.ntmps31
 go_upto_region 2 with (go_at_call 39; refine HS.out.mono ?_; rintro e w1 ⟨rfl, hb1⟩; have HB1 := Lib.hid hb1; clear hb1)
 have q0 := (HB1.out.cell (p := ⟨b, 0, none⟩) hbl).trans HQ.out
 go_upto_region 3 with fail
 go_loopw [7, 18] (fun s i wr => ∃ (k : Nat) (z : Nat), k ≤ gs.length ∧ s = .int .u32 (z : Nat) ∧ i = .int .i64 k ∧ z < 16777216 ∧ Hid (holdS ns u gs s0 = holdS ns u (gs.drop k) z) ∧ Hid (Below w1.heap.size w1 wr)) (fun _ i _ => gs.length - (intOf i).toNat)
 case atStart => exact ⟨0, s0, Nat.zero_le _, rfl, rfl, hs0, rfl, Below.refl _ _⟩
 case round =>
  obtain ⟨k, z, hk, rfl, rfl, hz, HI, HB⟩ := hrel
  have hbz := HB.out.size
  have HBW := Lib.hid (below_then HB1.out HB.out HB1.out.size)
  by_cases hlt : k < gs.length
  ·have hli : (k : Int) < gs.length := by omega
   obtain ⟨g, rfl, hgl, hc⟩ := (HG.out.below HBW.out).2 k hlt
   have q0 := hc 0 _ (by omega) rfl; have q1 := hc 1 _ (by omega) rfl; have q2 := hc 2 _ (by omega) rfl; have q3 := hc 3 _ (by omega) rfl; have q4 := hc 4 _ (by omega) rfl; have q5 := hc 5 _ (by omega) rfl; have q6 := hc 6 _ (by omega) rfl
   simp only [Nat.add_zero] at q0
   have hI := HI.out
   rw [List.drop_eq_getElem_cons hlt] at hI
   clear hc HI
   generalize gs[k] = x at *
   have HX := Lib.hid (heap_alloc_new wr (.cells #[.int .i64 x.num, .string (bs x.fro), .string (bs x.rcv), .string (bs x.role), .int .i64 x.til, .int .i64 x.dep, .int .i64 x.way] 87))
   have HBX := Lib.hid (rbox wr (.cells #[.int .i64 x.num, .string (bs x.fro), .string (bs x.rcv), .string (bs x.role), .int .i64 x.til, .int .i64 x.dep, .int .i64 x.way] 87))
   go_upto_region 5 with fail
   generalize wr.alloc (.cells #[.int .i64 x.num, .string (bs x.fro), .string (bs x.rcv), .string (bs x.role), .int .i64 x.til, .int .i64 x.dep, .int .i64 x.way] 87) = w2 at *
   have HB3 := Lib.hid (below_then HB.out HBX.out HB.out.size)
   have HB4 := Lib.hid (below_then HB1.out HB3.out HB1.out.size)
   generalize wr.heap.size = gx at *
   have x2 := gq2 HX.out; have x3 := gq3 HX.out
   clear q0 q1 q2 q3 q4 q5 q6
   by_cases he : x.rcv = u
   ·rw [holdS_cons_in he] at hI
    have HI2 := Lib.hid hI
    have hb : ((bs x.rcv).toList == (bs u).toList) = true := by rw [beq_tx]; simp [he]
    have ON2 := Lib.hid (ON.out x.role w2 HB4.out)
    have ho := oneP_lt hf x.role
    have hov := or_val z (oneP ns x.role) hz ho
    have hol := or_lo hz ho
    clear hI he ho
    generalize oneP ns x.role = p at *
    generalize z ||| p = zp at *
    generalize bs x.rcv = bx at *
    generalize bs x.role = br at *
    go_wp2_with (go_at_call 100; refine ON2.out.mono ?_; rintro e w3 ⟨rfl, rfl⟩)
    go_roundw
    case rel => exact ⟨k + 1, zp, by omega, by go_num, by go_num, hol, HI2, HB3⟩
    case measure => simp [intOf]; omega
   ·rw [holdS_cons_out he] at hI
    have HI2 := Lib.hid hI
    have hb : ((bs x.rcv).toList == (bs u).toList) = false := by rw [beq_tx]; simp [he]
    clear hI he
    generalize bs x.rcv = bx at *
    go_wp2
    go_roundw
    case rel => exact ⟨k + 1, z, by omega, by go_num, by go_num, hz, HI2, HB3⟩
    case measure => simp [intOf]; omega
  ·have hli : ¬ (k : Int) < gs.length := by omega
   have hI := HI.out
   rw [List.drop_eq_nil_of_le (by omega), holdS] at hI
   have HR := Lib.hid (HE.out z hI)
   have OR2 := Lib.hid (OR.out wr HBW.out)
   have DN2 := Lib.hid (DN.out z wr (by omega) HBW.out)
   clear HI hI HE
   generalize downTo bl z ns.length = dz at *
   go_wp2_with (first
    | (go_at_call 41; refine OR2.out.mono ?_; rintro e w3 ⟨rfl, rfl⟩)
    | (go_at_call 75; refine DN2.out.mono ?_; rintro e w3 ⟨rfl, rfl⟩))
   go_ret
   exact ⟨by rw [HR.out]; rfl, HBW.out⟩
set_option maxHeartbeats 4000000 in
include R in
theorem known_any (hw : Below w4.heap.size w4 w) (x : Gr) :
  Calls Tryz.prog 102 #[.pointer (some ⟨rb, 0, none⟩), gval x] w fun e w' => e = .returned (.bool (knownP ns r x)) ∧ Below w.heap.size w w' := by
 obtain ⟨xn, xf, xt, xr, xu, xd, xw⟩ := x
 have HX := Lib.hid (heap_alloc_new w (gO xn (bs xf) (bs xt) (bs xr) xu xd xw))
 have HB0 := Lib.hid (rbox w (gO xn (bs xf) (bs xt) (bs xr) xu xd xw))
 have hlx : w.heap.size < (w.alloc (gO xn (bs xf) (bs xt) (bs xr) xu xd xw)).heap.size := by simp
 have US : Hid (∀ W, Below w.heap.size w W → Calls Tryz.prog 36 #[.pointer (some ⟨rb, 0, none⟩)] W (NmTo2 (hnm r.users) W)) := fun W hW => R.US W (below_then hw hW hw.size)
 have OR : Hid (∀ W, Below w.heap.size w W → Calls Tryz.prog 41 #[.pointer (some ⟨rb, 0, none⟩)] W fun e w' => e = .returned (.pointer (some ⟨o, 0, none⟩)) ∧ W = w') := fun W hW => R.OR W (below_then hw hW hw.size)
 have IX : Hid (∀ y W, Below w.heap.size w W → Calls Tryz.prog 92 #[.pointer (some ⟨o, 0, none⟩), .string (bs y)] W fun e w' => e = .returned (.int .i64 (idxI ns y)) ∧ W = w') := fun y W hW => R.IX y W (below_then hw hW hw.size)
 have hul : (hnm r.users).length ≤ 12 := by have := R.nu; unfold hnm; rw [List.length_map]; exact this
 clear R hw
 have HK : Hid (knownP ns r ⟨xn, xf, xt, xr, xu, xd, xw⟩ = (decide (xf ∈ hnm r.users) && decide (xt ∈ hnm r.users) && decide (xr ∈ ns))) := rfl
 generalize knownP ns r ⟨xn, xf, xt, xr, xu, xd, xw⟩ = res at *
 generalize hnm r.users = us at *
 dsimp only [gval]
 go_enter Tryz.func102, Tryz.ntmps102
 go_upto_region 1 with fail
 generalize w.alloc (gO xn (bs xf) (bs xt) (bs xr) xu xd xw) = w1 at *
 go_upto_region 2 with (go_at_call 36; refine (US.out _ HB0.out).mono ?_; rintro e w2 ⟨v2, rfl, ho2, hb2⟩; obtain ⟨A2, c2, rfl⟩ := own_slice ho2; have HL2 := Lib.hid (listAt_of ho2); have HB2 := Lib.hid (below_then HB0.out hb2 HB0.out.size); have HX2 := Lib.hid ((hb2.block _ hlx).trans HX.out); clear ho2 hb2)
 have x1 := gq1 HX2.out; have x2 := gq2 HX2.out; have x3 := gq3 HX2.out
 have C1 : Hid (∀ W, Below w2.heap.size w2 W → Calls Tryz.prog 117 #[.slice A2 us.length c2, .string (bs xf)] W fun e w' => e = .returned (.bool (decide (xf ∈ us))) ∧ w' = W.drewN 0) := fun W hW => (Contains_str us xf A2 c2 W (HL2.out.below hW) (by omega)).mono fun e w' h => ⟨h.1, h.2.symm⟩
 have C2 : Hid (∀ W, Below w2.heap.size w2 W → Calls Tryz.prog 117 #[.slice A2 us.length c2, .string (bs xt)] W fun e w' => e = .returned (.bool (decide (xt ∈ us))) ∧ w' = W.drewN 0) := fun W hW => (Contains_str us xt A2 c2 W (HL2.out.below hW) (by omega)).mono fun e w' h => ⟨h.1, h.2.symm⟩
 have O2 : Hid (∀ W, Below w2.heap.size w2 W → Calls Tryz.prog 41 #[.pointer (some ⟨rb, 0, none⟩)] W fun e w' => e = .returned (.pointer (some ⟨o, 0, none⟩)) ∧ w' = W.drewN 0) := fun W hW => (OR.out W (below_then HB2.out hW HB2.out.size)).mono fun e w' h => ⟨h.1, h.2.symm⟩
 have I2 : Hid (∀ W, Below w2.heap.size w2 W → Calls Tryz.prog 92 #[.pointer (some ⟨o, 0, none⟩), .string (bs xr)] W fun e w' => e = .returned (.int .i64 (idxI ns xr)) ∧ w' = W.drewN 0) := fun W hW => (IX.out xr W (below_then HB2.out hW HB2.out.size)).mono fun e w' h => ⟨h.1, h.2.symm⟩
 have HIX := Lib.hid (idxI_ge ns xr)
 clear US OR IX HL2 HX HX2
 generalize idxI ns xr = ri at *
 generalize decide (xr ∈ ns) = dr at *
 have tok1 : True := trivial
 generalize decide (xf ∈ us) = d1 at *
 generalize decide (xt ∈ us) = d2 at *
 cases d1 with
 | false =>
  go_quiet ((go_at_call 117; exact Calls.quiet_of ((C1.out _ (by first | exact Below.refl _ _ | exact below_drewN (Below.refl _ _) _)).mono fun e w' h => ⟨h.1, 0, h.2⟩)))
  go_wp2
  go_ret
  exact ⟨ret_bool (by rw [HK.out]; rfl), below_drewN HB2.out _⟩
 | true =>
  cases d2 with
  | false =>
   go_quiet (first
    | (go_at_call_of 117 (Value.string (bs xf)); exact Calls.quiet_of ((C1.out _ (by first | exact Below.refl _ _ | exact below_drewN (Below.refl _ _) _)).mono fun e w' h => ⟨h.1, 0, h.2⟩))
    | (go_at_call_of 117 (Value.string (bs xt)); exact Calls.quiet_of ((C2.out _ (by first | exact Below.refl _ _ | exact below_drewN (Below.refl _ _) _)).mono fun e w' h => ⟨h.1, 0, h.2⟩)))
   go_wp2
   go_ret
   exact ⟨ret_bool (by rw [HK.out]; rfl), below_drewN HB2.out _⟩
  | true =>
   go_quiet (first
    | (go_at_call_of 117 (Value.string (bs xf)); exact Calls.quiet_of ((C1.out _ (by first | exact Below.refl _ _ | exact below_drewN (Below.refl _ _) _)).mono fun e w' h => ⟨h.1, 0, h.2⟩))
    | (go_at_call_of 117 (Value.string (bs xt)); exact Calls.quiet_of ((C2.out _ (by first | exact Below.refl _ _ | exact below_drewN (Below.refl _ _) _)).mono fun e w' h => ⟨h.1, 0, h.2⟩))
    | (go_at_call 41; exact Calls.quiet_of ((O2.out _ (by first | exact Below.refl _ _ | exact below_drewN (Below.refl _ _) _)).mono fun e w' h => ⟨h.1, 0, h.2⟩))
    | (go_at_call 92; exact Calls.quiet_of ((I2.out _ (by first | exact Below.refl _ _ | exact below_drewN (Below.refl _ _) _)).mono fun e w' h => ⟨h.1, 0, h.2⟩)))
   go_wp2
   go_ret
   exact ⟨ret_bool (by rw [HK.out, HIX.out]; rfl), below_drewN HB2.out _⟩
end
theorem and_val32 (a b : Nat) (ha : a < 16777216) (hb : b < 16777216) : bits .and .u32 (a : Int) (b : Int) = ((a &&& b : Nat) : Int) := u32_and_nat a b (by omega) (by omega)
section
variable {w4 : World} {rb o : Nat} {ns : List Tx} {bl : List Nat} {r : Rt} (R : RtB w4 rb o ns bl r) {b : Nat} {v : Value} {gs : List Gr} {last : Int} {w : World}
theorem there_clo (g : Gr) (u x : Tx) (b1 b2 : Nat) (w : World) (h1 : b1 < w.heap.size) (h2 : b2 < w.heap.size) (c1 : w.cell? ⟨b1, 0, none⟩ = some (.string (bs u))) (c2 : w.cell? ⟨b2, 0, none⟩ = some (.string (bs x))) :
  Calls Tryz.prog 206 #[gval g, .pointer (some ⟨b1, 0, none⟩), .pointer (some ⟨b2, 0, none⟩)] w fun e w' => e = .returned (.bool (g.rcv == u && g.role == x)) ∧ Below w.heap.size w w' := by
 have HE1 : Hid (((bs g.rcv).toList == (bs u).toList) = (g.rcv == u)) := beq_tx g.rcv u
 have HE2 : Hid (((bs g.role).toList == (bs x).toList) = (g.role == x)) := beq_tx g.role x
 obtain ⟨xn, xf, xt, xr, xu, xd, xw⟩ := g
 have HX := heap_alloc_new w (gO xn (bs xf) (bs xt) (bs xr) xu xd xw)
 have HB := Lib.hid (rbox w (gO xn (bs xf) (bs xt) (bs xr) xu xd xw))
 have y1 := (HB.out.cell (p := ⟨b1, 0, none⟩) h1).trans c1
 have y2 := (HB.out.cell (p := ⟨b2, 0, none⟩) h2).trans c2
 have x2 := gq2 HX; have x3 := gq3 HX
 clear HX c1 c2
 dsimp only [gval] at HE1 HE2 ⊢
 generalize hres : (xt == u && xr == x) = res
 have HR := Lib.hid hres
 clear hres
 go_enter Tryz.func206, Tryz.ntmps206
 go_upto_region 1 with fail
 generalize w.alloc (gO xn (bs xf) (bs xt) (bs xr) xu xd xw) = w1 at *
 cases he : (xt == u) with
 | false =>
  rw [he] at HE1 HR
  have he1 := HE1.out
  clear he HE1
  generalize bs xt = bt at *
  generalize bs u = bu at *
  go_wp2
  go_ret
  exact ⟨ret_bool HR.out, HB.out⟩
 | true =>
  rw [he] at HE1 HR
  have he1 := HE1.out
  clear he HE1
  generalize bs xt = bt at *
  generalize bs u = bu at *
  generalize bs xr = br at *
  generalize bs x = bx at *
  go_wp2
  go_ret
  exact ⟨ret_bool (by rw [← HR.out, Bool.true_and, ← HE2.out]), HB.out⟩
theorem there_miss {gs : List Gr} {u x : Tx} (h : ∀ j (hj : j < gs.length), (gs[j].rcv == u && gs[j].role == x) = false) : thereP gs u x = false := by
 unfold thereP
 rw [List.any_eq_false]
 intro g hg
 obtain ⟨j, hj, rfl⟩ := List.mem_iff_getElem.1 hg
 simpa using h j hj
theorem there_hit {gs : List Gr} {u x : Tx} {k : Nat} (hk : k < gs.length) (h : (gs[k].rcv == u && gs[k].role == x) = true) : thereP gs u x = true := List.any_eq_true.2 ⟨_, List.getElem_mem hk, h⟩
set_option maxHeartbeats 2000000 in
theorem there_idx (gs : List Gr) (u x : Tx) (A : Option Addr) (c b1 b2 : Nat) (w : World) (h : GAt w A c gs) (hl : gs.length ≤ 1000) (h1 : b1 < w.heap.size) (h2 : b2 < w.heap.size) (c1 : w.cell? ⟨b1, 0, none⟩ = some (.string (bs u))) (c2 : w.cell? ⟨b2, 0, none⟩ = some (.string (bs x))) :
  Calls Tryz.prog 225 #[.slice A gs.length c, .func (.func 206) #[] #[.pointer (some ⟨b1, 0, none⟩), .pointer (some ⟨b2, 0, none⟩)]] w fun e w' => ∃ k : Int, e = .returned (.int .i64 k) ∧ decide (0 ≤ k) = thereP gs u x ∧ Below w.heap.size w w' := by
 have HS := Lib.hid h
 have hcc := h.1
 have HC := Lib.hid (fun W (hW : Below w.heap.size w W) (g : Gr) => there_clo g u x b1 b2 W (Nat.lt_of_lt_of_le h1 hW.size) (Nat.lt_of_lt_of_le h2 hW.size) ((hW.cell (p := ⟨b1, 0, none⟩) h1).trans c1) ((hW.cell (p := ⟨b2, 0, none⟩) h2).trans c2))
 clear h c1 c2 h1 h2
 go_enter Tryz.func225, Tryz.ntmps225
 go_wp2
 go_loopw [5, 8] (fun _ i wr => ∃ k : Nat, k ≤ gs.length ∧ i = .int .i64 k ∧ Hid (Below w.heap.size w wr) ∧ Hid (∀ j (_ : j < k) (h : j < gs.length), (gs[j].rcv == u && gs[j].role == x) = false)) (fun _ i _ => gs.length - (intOf i).toNat)
 case atStart => exact ⟨0, Nat.zero_le _, rfl, Below.refl _ _, fun j hj _ => by omega⟩
 case round =>
  obtain ⟨k, hk, rfl, HB, HI⟩ := hrel
  by_cases hlt : k < gs.length
  ·obtain ⟨g, rfl, hgl, hc⟩ := (HS.out.below HB.out).2 k hlt
   have q0 := hc 0 _ (by omega) rfl; have q1 := hc 1 _ (by omega) rfl; have q2 := hc 2 _ (by omega) rfl; have q3 := hc 3 _ (by omega) rfl; have q4 := hc 4 _ (by omega) rfl; have q5 := hc 5 _ (by omega) rfl; have q6 := hc 6 _ (by omega) rfl
   simp only [Nat.add_zero] at q0
   have CL := Lib.hid (HC.out wr HB.out gs[k])
   have HH : Hid ((gs[k].rcv == u && gs[k].role == x) = true → thereP gs u x = true) := fun e => there_hit hlt e
   have HT : Hid ((gs[k].rcv == u && gs[k].role == x) = false → ∀ j (_ : j < k + 1) (h : j < gs.length), (gs[j].rcv == u && gs[j].role == x) = false) := fun hb j hj h => by
    by_cases e : j = k
    ·subst e; exact hb
    ·exact HI.out j (by omega) h
   clear hc
   generalize gs[k] = a at *
   generalize (a.rcv == u && a.role == x) = q at *
   dsimp only [gval] at CL
   cases q
   ·have HT2 := Lib.hid (HT.out rfl)
    clear HH HT HI
    go_wp2_with (go_at_call 206; refine CL.out.mono ?_; rintro e w2 ⟨rfl, hb2⟩)
    have HB2 := Lib.hid (below_then HB.out hb2 HB.out.size)
    go_roundw
    case rel => exact ⟨k + 1, by omega, by go_num, HB2, HT2⟩
    case measure => simp [intOf]; omega
   ·have HE := Lib.hid (HH.out rfl)
    clear HH HT HI
    go_wp2_with (go_at_call 206; refine CL.out.mono ?_; rintro e w2 ⟨rfl, hb2⟩)
    go_ret
    exact ⟨k, rfl, by rw [HE.out]; simp, below_then HB.out hb2 HB.out.size⟩
  ·have HE : Hid (thereP gs u x = false) := there_miss fun j hj => HI.out j (by omega) hj
   clear HI
   go_wp2
   go_ret
   exact ⟨-1, rfl, by rw [HE.out]; rfl, HB.out⟩
theorem there_any (h : GrM w b v gs last) (hl : gs.length ≤ 1000) (u x : Tx) :
  Calls Tryz.prog 168 #[.pointer (some ⟨b, 0, none⟩), .string (bs u), .string (bs x)] w fun e w' => e = .returned (.bool (thereP gs u x)) ∧ Below w.heap.size w w' := by
 obtain ⟨A, c, rfl⟩ := own_slice h.own
 have hb1 := rbox w (.cells #[.string (bs u)] 9)
 have hb2 := below_then hb1 (rbox (w.alloc (.cells #[.string (bs u)] 9)) (.cells #[.string (bs x)] 9)) hb1.size
 have R1 := heap_alloc_new w (.cells #[.string (bs u)] 9)
 have R1' := ((rbox (w.alloc (.cells #[.string (bs u)] 9)) (.cells #[.string (bs x)] 9)).block _ (by simp)).trans R1
 have R2 := heap_alloc_new (w.alloc (.cells #[.string (bs u)] 9)) (.cells #[.string (bs x)] 9)
 rw [show (w.alloc (.cells #[.string (bs u)] 9)).heap.size = w.heap.size + 1 by simp] at R2
 have IX := Lib.hid (there_idx gs u x A c w.heap.size (w.heap.size + 1) ((w.alloc (.cells #[.string (bs u)] 9)).alloc (.cells #[.string (bs x)] 9)) ((gAt_of h.own).below hb2) hl (by simp; omega) (by simp) (by rw [cell_of_row _ _ _ _ _ _ R1']; rfl) (by rw [cell_of_row _ _ _ _ _ _ R2]; rfl))
 have HB := Lib.hid hb2
 have q0 := (hb2.cell (p := ⟨b, 0, none⟩) h.lt).trans h.q0
 have hmf : ∀ (fn : Fn) (first cap : Array Value) (w : World), (Instr.makeFunc fn first cap).run Tryz.prog w = .ok (.func fn first cap) w := fun _ _ _ _ => rfl
 clear h R1 R1' R2 hb1 hb2
 go_enter Tryz.func168, Tryz.ntmps168
 go_upto_region 1 with fail
 generalize (w.alloc (.cells #[.string (bs u)] 9)).alloc (.cells #[.string (bs x)] 9) = w1 at *
 have CF : Hid (Calls Tryz.prog 205 #[.slice A gs.length c, .func (.func 206) #[] #[.pointer (some ⟨w.heap.size, 0, none⟩), .pointer (some ⟨w.heap.size + 1, 0, none⟩)]] w1 fun e w' => e = .returned (.bool (thereP gs u x)) ∧ Below w1.heap.size w1 w') := by
  clear q0 HB
  go_enter Tryz.func205, Tryz.ntmps205
  go_wp2_with (go_at_call 225; refine IX.out.mono ?_; rintro e w2 ⟨k, rfl, hk, hb2⟩; have HK := Lib.hid hk; clear hk)
  go_ret
  exact ⟨ret_bool HK.out, hb2⟩
 clear IX
 go_wp2_with (go_at_call 205; refine CF.out.mono ?_; rintro e w2 ⟨rfl, hb2⟩)
 go_ret
 exact ⟨rfl, below_then HB.out hb2 HB.out.size⟩
end
end Go.Proofs.YtgffbgmieppckaaGreatDoor
