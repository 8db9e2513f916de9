import Derived.Test.YtgffbgmieppckaaGreatDoorGr6
import Derived.Deep.AppendLies
namespace Go.Proofs.YtgffbgmieppckaaGreatDoor
set_option maxRecDepth 100000
open Go.ChangeShapes Go.WideShapes Go.ChangeAt Go.RowKit
theorem cells_newG (w : World) (cs : List Value) (t : TypeId) : ∀ j u, cs[j]? = some u → (w.alloc (.cells cs.toArray t)).cell? ((⟨w.heap.size, 0, none⟩ : Addr).add j) = some u := World.news_of_block (by simpa using heap_alloc_new w (.cells cs.toArray t))
theorem cells_newGd (w : World) (cs : List Value) (t : TypeId) : ∀ j u, cs[j]? = some u → (w.alloc (.cells cs.toArray t)).drew.cell? ((⟨w.heap.size, 0, none⟩ : Addr).add j) = some u := cells_newG w cs t
theorem gcells_s (g : Gr) : gcells [g] = gcell g := by simp [gcells]
def GivTo (k : Int) (x : Gr) (w0 : World) (b : Nat) (v : Value) (gs : List Gr) (last : Int) (e : Ending) (w' : World) : Prop :=
 if k = 0 then e = .returned (.tuple #[.int .i64 x.num, .nilIface]) ∧ GrTo w0 b v (gs ++ [x]) x.num w' else e = .returned (.tuple #[.int .i64 0, erV k]) ∧ GrTo w0 b v gs last w'
theorem grTo_below {w w' : World} {b : Nat} {v : Value} {gs : List Gr} {last : Int} (h : GrM w b v gs last) (hb : Below w.heap.size w w') : GrTo w b v gs last w' := ⟨v, h.below hb, Chg.of_below hb, fun _ hk => .inl hk⟩
theorem givTo_no {k j : Int} {x : Gr} {w w' : World} {b : Nat} {v : Value} {gs : List Gr} {last : Int} (hk : k = j) (hj : j ≠ 0) (h : GrM w b v gs last) (hb : Below w.heap.size w w') : GivTo k x w b v gs last (.returned (.tuple #[.int .i64 0, .iface 39 (.int .i64 j)])) w' := by
 subst hk; unfold GivTo; rw [if_neg hj]; exact ⟨by rw [erV_no hj], grTo_below h hb⟩
theorem givTo_ok {k : Int} {x : Gr} {n : Int} {w w' : World} {b : Nat} {v : Value} {gs : List Gr} {last : Int} (hk : k = 0) (hn : n = x.num) (h : GrTo w b v (gs ++ [x]) x.num w') : GivTo k x w b v gs last (.returned (.tuple #[.int .i64 n, .nilIface])) w' := by
 subst hk; subst hn; unfold GivTo; rw [if_pos rfl]; exact ⟨rfl, h⟩
theorem own_ne_row {w : World} {b : Nat} {v : Value} {gs : List Gr} {last : Int} (h : GrM w b v gs last) : v.ownBlock ≠ some b := by
 intro e
 rcases h.own.2 with ⟨rfl, _⟩ | ⟨g, cap, cur, rfl, _, hg, _⟩
 ·simp [Value.ownBlock] at e
 ·simp [Value.ownBlock] at e
  subst e
  rw [h.row] at hg
  injection hg with hg
  injection hg with _ ht _
  exact absurd ht (by decide)
theorem grM_more {w wa w' : World} {b : Nat} {v v' : Value} {gs : List Gr} {last : Int} {x : Gr} (h : GrM w b v gs last) (hb : Below w.heap.size w wa) (hg : wa.grownBy w' v.ownBlock) (ho : OwnG w' 0 v' (gs ++ [x])) (hn : ∀ k, v'.ownBlock = some k → v.ownBlock = some k ∨ w.heap.size ≤ k) (n : Int) :
  GrTo w b v (gs ++ [x]) n ((w'.setCell ⟨b, 0, none⟩ v').setCell ⟨b, 1, none⟩ (.int .i64 n)) := by
 have ha := h.below hb
 have hr : w'.heap[b]? = some (.cells #[v, .int .i64 last] 181 (0, 0)) := (hg.block b ha.lt (fun e => own_ne_row ha e.symm)).trans ha.row
 have hne : v'.ownBlock = none ∨ v'.ownBlock ≠ some b := by
  right
  intro e
  rcases hn b e with e2 | e2
  ·exact own_ne_row h e2
  ·have := h.lt; omega
 have e := heap_set (j := 1) (heap_set (j := 0) hr v') (.int .i64 n)
 refine ⟨v', ⟨by simpa using e, ?_⟩, ?_, hn⟩
 ·exact World.ownsRow.kept (World.ownsRow.kept ho (grown_setCell _ _ _ _) hne) (grown_setCell _ _ _ _) hne
 ·have c1 : Chg (gOwn b v) w wa := Chg.of_below hb
  have c2 : Chg (gOwn b v) wa w' := Chg.of_grown hg fun _ e => .inr e
  have c3 : Chg (gOwn b v) w' (w'.setCell ⟨b, 0, none⟩ v') := Chg.of_grown (grown_setCell _ _ _ _) fun k e => by cases e; exact .inl rfl
  have c4 : Chg (gOwn b v) (w'.setCell ⟨b, 0, none⟩ v') ((w'.setCell ⟨b, 0, none⟩ v').setCell ⟨b, 1, none⟩ (.int .i64 n)) := Chg.of_grown (grown_setCell _ _ _ _) fun k e => by cases e; exact .inl rfl
  exact ((c1.trans c2).trans c3).trans c4
section
variable {w4 : World} {rb o : Nat} {ns : List Tx} {bl : List Nat} {r : Rt} (R : RtB w4 rb o ns bl r) {b : Nat} {v : Value} {gs : List Gr} {last : Int} {w : World}
set_option maxHeartbeats 8000000 in
include R in
theorem give_none (h : GrM w b v gs last) (hI : GrI gs last) (hw : Below w4.heap.size w4 w) (fro rcv role : Tx) (hx : role.length ≤ 1048576) (way now time : Int) (hln : (lnV r.loans role).2 ≤ 1073741824) (hy : gFind gs way = none) :
  Calls Tryz.prog 52 #[.pointer (some ⟨b, 0, none⟩), .pointer (some ⟨rb, 0, none⟩), .string (bs fro), .string (bs rcv), .string (bs role), .int .i64 way, .int .i64 now, .int .i64 time] w
   (GivTo (giveE ns bl r gs (giveX gs last fro rcv role way) now time) (giveG gs (giveX gs last fro rcv role way) now time) w b v gs last) := by
 have HM := Lib.hid h
 have hlo := hI.lo
 have hhi := hI.hi
 have hfew := hI.few
 have hwl : IntKind.i64.wrap (last + 1) = last + 1 := by rw [IntKind.wrap_i64]; omega
 have HGX : Hid (giveX gs last fro rcv role way = ⟨last + 1, fro, rcv, role, 0, 1, way⟩) := by show _ = _; unfold giveX; rw [hy]
 have HGG : Hid (giveG gs ⟨last + 1, fro, rcv, role, 0, 1, way⟩ now time = ⟨last + 1, fro, rcv, role, now + time, 1, way⟩) := by show _ = _; unfold giveG; dsimp only; rw [hy]
 rw [HGX.out, HGG.out]
 have WR := Lib.hid (fun W (hW : Below w.heap.size w W) => gwrong_any R (h.below hW) (below_then hw hW hw.size) (by omega) ⟨last + 1, fro, rcv, role, 0, 1, way⟩ hx now time hln)
 have FI := Lib.hid (fun W (hW : Below w.heap.size w W) => find_any gs way b v last W (h.below hW) (by omega))
 simp only [hy] at FI
 have HW0 : Hid (giveE ns bl r gs ⟨last + 1, fro, rcv, role, 0, 1, way⟩ now time = 0 → 0 ≤ now ∧ now + time ≤ 1073741824 ∧ 1 ≤ time) := fun h0 => by
  unfold giveE at h0
  split at h0
  ·cases h0
  ·split at h0
   ·cases h0
   ·rename_i ha
    split at h0
    ·cases h0
    ·split at h0
     ·cases h0
     ·rename_i ht
      unfold argP at ha
      simp only [Bool.or_eq_true, decide_eq_true_eq, not_or] at ha
      omega
 clear R hw hx hln hI hy HGX HGG
 dsimp only [gval] at WR
 unfold FinTo at FI
 dsimp only [Option.getD, Option.isSome, gval, gZero] at FI
 generalize giveE ns bl r gs ⟨last + 1, fro, rcv, role, 0, 1, way⟩ now time = res at *
 have q1 := h.q1
 have hbl := h.lt
 clear h
 go_enter Tryz.func52, Tryz.ntmps52
 have HX0 := Lib.hid (heap_alloc_new w (gO (last + 1) (bs fro) (bs rcv) (bs role) 0 1 way))
 have HB0 := Lib.hid (rbox w (gO (last + 1) (bs fro) (bs rcv) (bs role) 0 1 way))
 have hlx : w.heap.size < (w.alloc (gO (last + 1) (bs fro) (bs rcv) (bs role) 0 1 way)).heap.size := by simp
 go_upto_region 2 with fail
 generalize w.alloc (gO (last + 1) (bs fro) (bs rcv) (bs role) 0 1 way) = w1 at *
 have FI2 := Lib.hid (FI.out w1 HB0.out)
 go_upto_region 3 with (go_at_call 112; refine FI2.out.mono ?_; rintro e w2 ⟨rfl, hb2⟩; have HB2 := Lib.hid (below_then HB0.out hb2 HB0.out.size); have HX2 := Lib.hid ((hb2.block _ hlx).trans HX0.out); clear hb2)
 have hlx2 : w.heap.size < w2.heap.size := (Array.getElem?_eq_some_iff.1 HX2.out).1
 have HBY := Lib.hid (rbox w2 (.cells #[.int .i64 0, .string (bs []), .string (bs []), .string (bs []), .int .i64 0, .int .i64 0, .int .i64 0] 87))
 have HY := Lib.hid (heap_alloc_new w2 (.cells #[.int .i64 0, .string (bs []), .string (bs []), .string (bs []), .int .i64 0, .int .i64 0, .int .i64 0] 87))
 have HX3 := Lib.hid ((HBY.out.block _ hlx2).trans HX2.out)
 have HB3 := Lib.hid (below_then HB2.out HBY.out HB2.out.size)
 have hly : w2.heap.size < (w2.alloc (.cells #[.int .i64 0, .string (bs []), .string (bs []), .string (bs []), .int .i64 0, .int .i64 0, .int .i64 0] 87)).heap.size := by simp
 clear FI FI2 HX0 HX2 HB0 HB2 HBY hlx
 generalize w2.alloc (.cells #[.int .i64 0, .string (bs []), .string (bs []), .string (bs []), .int .i64 0, .int .i64 0, .int .i64 0] 87) = w3 at *
 generalize w2.heap.size = gy at *
 have hlx3 : w.heap.size < w3.heap.size := (Array.getElem?_eq_some_iff.1 HX3.out).1
 have hgy : w.heap.size ≠ gy := by omega
 go_upto_region 5 with fail
 have HX4 := HX3
 have HB4 := HB3
 have HY4 := HY
 have hly3 := hly
 clear HX3 HB3 HY
 obtain ⟨w5, rfl⟩ : ∃ w5 : World, w5 = w3 := ⟨_, rfl⟩
 obtain ⟨y0, y1, y2, y3, y4, y5, y6⟩ := gqs0 HX4.out
 have WR2 := Lib.hid (WR.out w5 HB4.out)
 clear WR
 by_cases hres : res = 0
 ·obtain ⟨hn0, hnt, ht1⟩ := HW0.out hres
  have HR : Hid (res = 0) := hres
  have he : erV res = .nilIface := by rw [hres, erV_zero]
  unfold WrTo at WR2
  rw [he] at WR2
  clear hres he HW0
  go_upto_region 8 with (go_at_call 119; refine WR2.out.mono ?_; rintro e w6 ⟨rfl, hb6⟩; have HB6 := Lib.hid (below_then HB4.out hb6 HB4.out.size); have HX6 := Lib.hid ((hb6.block _ hlx3).trans HX4.out); have HY6 := Lib.hid ((hb6.block _ hly3).trans HY4.out); clear hb6)
  clear y0 y1 y2 y3 y4 y5 y6 WR2 HX4 HY4 HB4
  have hwt : IntKind.i64.wrap (now + time) = now + time := by rw [IntKind.wrap_i64]; omega
  have x4 := gq4 HX6.out
  have f4 := fzG HX6.out 4
  ·have HX7 : Hid ((w6.setCell ⟨w.heap.size, 4, none⟩ (.int .i64 (now + time))).heap[w.heap.size]? = some (.cells #[.int .i64 (last + 1), .string (bs fro), .string (bs rcv), .string (bs role), .int .i64 (now + time), .int .i64 1, .int .i64 way] 87 (0, 0))) := by show _ = _; simpa using heap_set (j := 4) HX6.out (.int .i64 (now + time))
   have HB7 : Hid (Below w.heap.size w (w6.setCell ⟨w.heap.size, 4, none⟩ (.int .i64 (now + time)))) := HB6.out.setCell (Nat.le_refl _) _
   go_upto_region 11 with fail
   clear x4 f4 HX6 HY6 HB6
   generalize w6.setCell ⟨w.heap.size, 4, none⟩ (.int .i64 (now + time)) = w7 at *
   have hlx7 : w.heap.size < w7.heap.size := (Array.getElem?_eq_some_iff.1 HX7.out).1
   have HM7 := Lib.hid (HM.out.below HB7.out)
   obtain ⟨i0, hi, hz0, hz1, hz2⟩ := info_parts Tryz.infoGrant
   obtain ⟨A, c, rfl⟩ := own_slice HM.out.own
   obtain ⟨y0, y1, y2, y3, y4, y5, y6⟩ := gqs0 HX7.out
   have p0 := HM7.out.q0
   have p0a : ∀ O, (w7.alloc O).cell? ⟨b, 0, none⟩ = some (.slice A gs.length c) := fun O => (World.cell?_alloc_lt _ _ _ HM7.out.lt).trans p0
   obtain ⟨nx, hnx⟩ : ∃ nx : Gr, nx = ⟨last + 1, fro, rcv, role, now + time, 1, way⟩ := ⟨_, rfl⟩
   have HB7a : Hid (∀ O, Below w.heap.size w (w7.alloc O)) := fun O => below_then HB7.out (rbox w7 O) HB7.out.size
   have t1 : (w7.alloc (gO (last + 1) (bs fro) (bs rcv) (bs role) (now + time) 1 way)).drew.ownsRow 0 87 7 (.slice A gs.length c) gs.length (gcells gs) := World.ownsRow.alloc HM7.out.own _
   have t3 : ∀ j u, (gcell ⟨last + 1, fro, rcv, role, now + time, 1, way⟩)[j]? = some u → (w7.alloc (gO (last + 1) (bs fro) (bs rcv) (bs role) (now + time) 1 way)).drew.cell? ((⟨w7.heap.size, 0, none⟩ : Addr).add j) = some u := cells_newGd w7 (gcell ⟨last + 1, fro, rcv, role, now + time, 1, way⟩) 87
   have t5 : gs.length + 1 ≤ maxLen := by unfold maxLen; omega
   have t6 : (gs.length + 1) * 80 ≤ 140737488355328 := by omega
   have HG1 : Hid (∀ u ∈ gcell ⟨last + 1, fro, rcv, role, now + time, 1, way⟩, u.oneCell' = true) := by have := gcells_one [⟨last + 1, fro, rcv, role, now + time, 1, way⟩]; rw [gcells_s] at this; exact this
   have hlx7b : ∀ O, w.heap.size < (w7.alloc O).heap.size := fun O => by have := (rbox w7 O).size; omega
   clear hnx nx
   go_cut [] (fun wx => ∃ g1 cp1 wa X1, Below w.heap.size w wa ∧ wa.grownBy X1 (Value.ownBlock (.slice A gs.length c)) ∧ OwnG X1 0 (.slice (some ⟨g1, 0, none⟩) (gs.length + 1) cp1) (gs ++ [⟨last + 1, fro, rcv, role, now + time, 1, way⟩]) ∧ (Value.ownBlock (.slice A gs.length c) = some g1 ∨ w.heap.size ≤ g1) ∧ wx = X1.setCell ⟨b, 0, none⟩ (.slice (some ⟨g1, 0, none⟩) (gs.length + 1) cp1) ∧ wx.heap[w.heap.size]? = some (.cells #[.int .i64 (last + 1), .string (bs fro), .string (bs rcv), .string (bs role), .int .i64 (now + time), .int .i64 1, .int .i64 way] 87 (0, 0)))
   case first =>
    go_region_law (
     (refine step_append_lies _ rfl (.tmp 67) (.tmp 69) 61 rfl 0 87 i0 _ 7 80 Tryz.underlying61 hi hz0 hz1 hz2 rfl (by decide) (.slice A gs.length c) gs.length (gcells gs) (by simp [Act.eval]) t1 ⟨w7.heap.size, 0, none⟩ 1 1 (gcell ⟨last + 1, fro, rcv, role, now + time, 1, way⟩) (by simp [Act.eval]) rfl t3 HG1.out (by decide) t5 t6 (Nat.zero_le _) _ rfl ?_; intro g1 cp1 X1 hown1 hg1 hat1 hlt1
      have hMa : GrM (w7.alloc (gO (last + 1) (bs fro) (bs rcv) (bs role) (now + time) 1 way)).drew b (.slice A gs.length c) gs last := HM7.out.below (below_drew (rbox w7 _))
      have hr9 : X1.heap[b]? = some (.cells #[.slice A gs.length c, .int .i64 last] 181 (0, 0)) := (hg1.block b hMa.lt (fun e => own_ne_row hMa e.symm)).trans hMa.row
      have z1 : X1.frozen? ⟨b, 0, none⟩ = false := by simp [World.frozen?, hr9]
      have z2 := cell_of_row X1 b 0 _ _ _ hr9
      have hxr : X1.heap[w.heap.size]? = _ := (hg1.block w.heap.size (hlx7b _) (fun e => by have h1 := HM.out.own.lt _ e.symm; omega)).trans (((rbox w7 _).block _ hlx7).trans HX7.out)
      have HXR := Lib.hid hxr
      have HOW : Hid (OwnG X1 0 (.slice (some ⟨g1, 0, none⟩) (gs.length + 1) cp1) (gs ++ [⟨last + 1, fro, rcv, role, now + time, 1, way⟩])) := by show World.ownsRow _ _ _ _ _ _ _; rw [List.length_append, gcells_snoc]; exact hown1
      have HGR := Lib.hid hg1
      have HAT : Hid (Value.ownBlock (.slice A gs.length c) = some g1 ∨ w.heap.size ≤ g1) := hat1.imp id (fun e => by have := HB7.out.size; have e2 : g1 = (w7.alloc (gO (last + 1) (bs fro) (bs rcv) (bs role) (now + time) 1 way)).heap.size := e; have h9 := (rbox w7 (gO (last + 1) (bs fro) (bs rcv) (bs role) (now + time) 1 way)).size; omega)
      clear hown1 hg1 hat1 hxr hMa))
    all_goals
     go_wp2_with fail
     go_meet
     exact ⟨g1, cp1, _, X1, below_drew (HB7a.out _), HGR.out, HOW.out, HAT.out, rfl, (Below.heap_setCell X1 ⟨b, 0, none⟩ _ w.heap.size (by have := HM.out.lt; show w.heap.size ≠ b; omega)).trans HXR.out⟩
   case rest =>
    obtain ⟨g1, cp1, wa, X1, hba, hgr, how, hat, rfl, hxr⟩ := hcut
    have HF := Lib.hid (grM_more HM.out hba hgr how (fun k e => by simp only [Value.ownBlock, Option.some.injEq] at e; subst e; exact hat) (last + 1))
    have x0 := gq0 hxr
    have hr9 : X1.heap[b]? = some (.cells #[.slice A gs.length c, .int .i64 last] 181 (0, 0)) := (hgr.block b (HM.out.below hba).lt (fun e => own_ne_row (HM.out.below hba) e.symm)).trans (HM.out.below hba).row
    have hr8 := heap_set (j := 0) hr9 (.slice (some ⟨g1, 0, none⟩) (gs.length + 1) cp1)
    have hr7 : (X1.setCell ⟨b, 0, none⟩ (.slice (some ⟨g1, 0, none⟩) (gs.length + 1) cp1)).heap[b]? = some (.cells #[.slice (some ⟨g1, 0, none⟩) (gs.length + 1) cp1, .int .i64 last] 181 (0, 0)) := by simpa using hr8
    have f1 := fzG hr7 1
    have b1 := cell_of_row _ b 1 _ _ _ hr7
    have x0' : ((X1.setCell ⟨b, 0, none⟩ (.slice (some ⟨g1, 0, none⟩) (gs.length + 1) cp1)).setCell ⟨b, 1, none⟩ (.int .i64 (last + 1))).cell? ⟨w.heap.size, 0, none⟩ = some (.int .i64 (last + 1)) := by
     rw [← x0]
     exact World.cell?_of_block (Below.heap_setCell _ ⟨b, 1, none⟩ _ w.heap.size (by have := HM.out.lt; show w.heap.size ≠ b; omega))
    clear hba hgr how hat hxr hr9 hr8 hr7 p0 p0a t1 t3
    generalize X1.setCell ⟨b, 0, none⟩ (.slice (some ⟨g1, 0, none⟩) (gs.length + 1) cp1) = X2 at *
    go_wp2
    go_ret2
    exact givTo_ok HR.out rfl HF.out
 ·have HR : Hid (res ≠ 0) := hres
  have he : erV res = .iface 39 (.int .i64 res) := erV_no hres
  unfold WrTo at WR2
  rw [he] at WR2
  clear hres he HW0
  go_wp2_with (go_at_call 119; refine WR2.out.mono ?_; rintro e w6 ⟨rfl, hb6⟩; have HB6 := Lib.hid (below_then HB4.out hb6 HB4.out.size); clear hb6)
  go_ret2
  exact givTo_no rfl HR.out HM.out HB6.out
set_option maxHeartbeats 8000000 in
include R in
theorem give_some (h : GrM w b v gs last) (hI : GrI gs last) (hw : Below w4.heap.size w4 w) (fro rcv role : Tx) (hx : role.length ≤ 1048576) (way now time : Int) (hln : (lnV r.loans role).2 ≤ 1073741824) (y : Gr) (hy : gFind gs way = some y) :
  Calls Tryz.prog 52 #[.pointer (some ⟨b, 0, none⟩), .pointer (some ⟨rb, 0, none⟩), .string (bs fro), .string (bs rcv), .string (bs role), .int .i64 way, .int .i64 now, .int .i64 time] w
   (GivTo (giveE ns bl r gs (giveX gs last fro rcv role way) now time) (giveG gs (giveX gs last fro rcv role way) now time) w b v gs last) := by
 have HM := Lib.hid h
 have hlo := hI.lo
 have hhi := hI.hi
 have hfew := hI.few
 have hwl : IntKind.i64.wrap (last + 1) = last + 1 := by rw [IntKind.wrap_i64]; omega
 have hyd := hI.dep y (gFind_mem hy).1
 have hyt := hI.til y (gFind_mem hy).1
 have HGX : Hid (giveX gs last fro rcv role way = ⟨last + 1, fro, rcv, role, 0, y.dep + 1, way⟩) := by show _ = _; unfold giveX; rw [hy]
 have HGG : Hid (giveG gs ⟨last + 1, fro, rcv, role, 0, y.dep + 1, way⟩ now time = ⟨last + 1, fro, rcv, role, min (now + time) y.til, y.dep + 1, way⟩) := by show _ = _; unfold giveG; dsimp only; rw [hy]
 have hwd : IntKind.i64.wrap (y.dep + 1) = y.dep + 1 := by rw [IntKind.wrap_i64]; omega
 rw [HGX.out, HGG.out]
 have WR := Lib.hid (fun W (hW : Below w.heap.size w W) => gwrong_any R (h.below hW) (below_then hw hW hw.size) (by omega) ⟨last + 1, fro, rcv, role, 0, y.dep + 1, way⟩ hx now time hln)
 have FI := Lib.hid (fun W (hW : Below w.heap.size w W) => find_any gs way b v last W (h.below hW) (by omega))
 simp only [hy] at FI
 have HW0 : Hid (giveE ns bl r gs ⟨last + 1, fro, rcv, role, 0, y.dep + 1, way⟩ now time = 0 → 0 ≤ now ∧ now + time ≤ 1073741824 ∧ 1 ≤ time) := fun h0 => by
  unfold giveE at h0
  split at h0
  ·cases h0
  ·split at h0
   ·cases h0
   ·rename_i ha
    split at h0
    ·cases h0
    ·split at h0
     ·cases h0
     ·rename_i ht
      unfold argP at ha
      simp only [Bool.or_eq_true, decide_eq_true_eq, not_or] at ha
      omega
 clear R hw hx hln hI hy HGX HGG
 dsimp only [gval] at WR
 unfold FinTo at FI
 dsimp only [Option.getD, Option.isSome, gval] at FI
 generalize giveE ns bl r gs ⟨last + 1, fro, rcv, role, 0, y.dep + 1, way⟩ now time = res at *
 obtain ⟨yn, yf, yt, yr, yu, yd, yw⟩ := y
 dsimp only at FI hyd hyt hwd WR ⊢
 have q1 := h.q1
 have hbl := h.lt
 clear h
 go_enter Tryz.func52, Tryz.ntmps52
 have HX0 := Lib.hid (heap_alloc_new w (gO (last + 1) (bs fro) (bs rcv) (bs role) 0 1 way))
 have HB0 := Lib.hid (rbox w (gO (last + 1) (bs fro) (bs rcv) (bs role) 0 1 way))
 have hlx : w.heap.size < (w.alloc (gO (last + 1) (bs fro) (bs rcv) (bs role) 0 1 way)).heap.size := by simp
 go_upto_region 2 with fail
 generalize w.alloc (gO (last + 1) (bs fro) (bs rcv) (bs role) 0 1 way) = w1 at *
 have FI2 := Lib.hid (FI.out w1 HB0.out)
 go_upto_region 3 with (go_at_call 112; refine FI2.out.mono ?_; rintro e w2 ⟨rfl, hb2⟩; have HB2 := Lib.hid (below_then HB0.out hb2 HB0.out.size); have HX2 := Lib.hid ((hb2.block _ hlx).trans HX0.out); clear hb2)
 have hlx2 : w.heap.size < w2.heap.size := (Array.getElem?_eq_some_iff.1 HX2.out).1
 have HBY := Lib.hid (rbox w2 (gO yn (bs yf) (bs yt) (bs yr) yu yd yw))
 have HY := Lib.hid (heap_alloc_new w2 (gO yn (bs yf) (bs yt) (bs yr) yu yd yw))
 have HX3 := Lib.hid ((HBY.out.block _ hlx2).trans HX2.out)
 have HB3 := Lib.hid (below_then HB2.out HBY.out HB2.out.size)
 have hly : w2.heap.size < (w2.alloc (gO yn (bs yf) (bs yt) (bs yr) yu yd yw)).heap.size := by simp
 clear FI FI2 HX0 HX2 HB0 HB2 HBY hlx
 generalize w2.alloc (gO yn (bs yf) (bs yt) (bs yr) yu yd yw) = w3 at *
 generalize w2.heap.size = gy at *
 have hlx3 : w.heap.size < w3.heap.size := (Array.getElem?_eq_some_iff.1 HX3.out).1
 have hgy : w.heap.size ≠ gy := by omega
 have z5 := gq5 HY.out
 have f5 := fzG HX3.out 5
 have x5 := gq5 HX3.out
 go_upto_region 5 with fail
 have hX4 := heap_set (j := 5) HX3.out (.int .i64 (yd + 1))
 have HX4 : Hid ((w3.setCell ⟨w.heap.size, 5, none⟩ (.int .i64 (yd + 1))).heap[w.heap.size]? = some (.cells #[.int .i64 (last + 1), .string (bs fro), .string (bs rcv), .string (bs role), .int .i64 0, .int .i64 (yd + 1), .int .i64 way] 87 (0, 0))) := by show _ = _; simpa using hX4
 have HB4 : Hid (Below w.heap.size w (w3.setCell ⟨w.heap.size, 5, none⟩ (.int .i64 (yd + 1)))) := HB3.out.setCell (Nat.le_refl _) _
 have HY4 : Hid ((w3.setCell ⟨w.heap.size, 5, none⟩ (.int .i64 (yd + 1))).heap[gy]? = _) := (Below.heap_setCell w3 ⟨w.heap.size, 5, none⟩ _ gy (Ne.symm hgy)).trans HY.out
 clear hX4 x5 f5 z5 HX3 HY HB3 hlx3
 have hlx3 : w.heap.size < (w3.setCell ⟨w.heap.size, 5, none⟩ (.int .i64 (yd + 1))).heap.size := (Array.getElem?_eq_some_iff.1 HX4.out).1
 have hly3 : gy < (w3.setCell ⟨w.heap.size, 5, none⟩ (.int .i64 (yd + 1))).heap.size := (Array.getElem?_eq_some_iff.1 HY4.out).1
 generalize w3.setCell ⟨w.heap.size, 5, none⟩ (.int .i64 (yd + 1)) = w5 at *
 obtain ⟨y0, y1, y2, y3, y4, y5, y6⟩ := gqs0 HX4.out
 have WR2 := Lib.hid (WR.out w5 HB4.out)
 clear WR
 by_cases hres : res = 0
 ·obtain ⟨hn0, hnt, ht1⟩ := HW0.out hres
  have HR : Hid (res = 0) := hres
  have he : erV res = .nilIface := by rw [hres, erV_zero]
  unfold WrTo at WR2
  rw [he] at WR2
  clear hres he HW0
  go_upto_region 8 with (go_at_call 119; refine WR2.out.mono ?_; rintro e w6 ⟨rfl, hb6⟩; have HB6 := Lib.hid (below_then HB4.out hb6 HB4.out.size); have HX6 := Lib.hid ((hb6.block _ hlx3).trans HX4.out); have HY6 := Lib.hid ((hb6.block _ hly3).trans HY4.out); clear hb6)
  clear y0 y1 y2 y3 y4 y5 y6 WR2 HX4 HY4 HB4
  have hwt : IntKind.i64.wrap (now + time) = now + time := by rw [IntKind.wrap_i64]; omega
  have x4 := gq4 HX6.out
  have f4 := fzG HX6.out 4
  have y4 := gq4 HY6.out
  have HX6b : Hid ((w6.setCell ⟨w.heap.size, 4, none⟩ (.int .i64 (now + time))).heap[w.heap.size]? = some (.cells #[.int .i64 (last + 1), .string (bs fro), .string (bs rcv), .string (bs role), .int .i64 (now + time), .int .i64 (yd + 1), .int .i64 way] 87 (0, 0))) := by show _ = _; simpa using heap_set (j := 4) HX6.out (.int .i64 (now + time))
  have HB6b : Hid (Below w.heap.size w (w6.setCell ⟨w.heap.size, 4, none⟩ (.int .i64 (now + time)))) := HB6.out.setCell (Nat.le_refl _) _
  have HY6b : Hid ((w6.setCell ⟨w.heap.size, 4, none⟩ (.int .i64 (now + time))).heap[gy]? = _) := (Below.heap_setCell w6 ⟨w.heap.size, 4, none⟩ _ gy (Ne.symm hgy)).trans HY6.out
  go_upto_region 10 with fail
  clear x4 f4 y4 HX6 HY6 HB6
  have x4 := gq4 HX6b.out
  have f4 := fzG HX6b.out 4
  have y4 := gq4 HY6b.out
  generalize w6.setCell ⟨w.heap.size, 4, none⟩ (.int .i64 (now + time)) = w9 at *
  by_cases hmi : now + time < yu
  ·have hm2 : min (now + time) yu = now + time := by omega
   have HM2 := Lib.hid hm2
   have HX7 : Hid ((w9.setCell ⟨w.heap.size, 4, none⟩ (.int .i64 (now + time))).heap[w.heap.size]? = some (.cells #[.int .i64 (last + 1), .string (bs fro), .string (bs rcv), .string (bs role), .int .i64 (now + time), .int .i64 (yd + 1), .int .i64 way] 87 (0, 0))) := by show _ = _; simpa using heap_set (j := 4) HX6b.out (.int .i64 (now + time))
   have HB7 : Hid (Below w.heap.size w (w9.setCell ⟨w.heap.size, 4, none⟩ (.int .i64 (now + time)))) := HB6b.out.setCell (Nat.le_refl _) _
   go_upto_region 11 with fail
   clear x4 f4 y4 HX6b HY6b HB6b hm2
   generalize w9.setCell ⟨w.heap.size, 4, none⟩ (.int .i64 (now + time)) = w7 at *
   have hlx7 : w.heap.size < w7.heap.size := (Array.getElem?_eq_some_iff.1 HX7.out).1
   have HM7 := Lib.hid (HM.out.below HB7.out)
   obtain ⟨i0, hi, hz0, hz1, hz2⟩ := info_parts Tryz.infoGrant
   obtain ⟨A, c, rfl⟩ := own_slice HM.out.own
   obtain ⟨y0, y1, y2, y3, y4, y5, y6⟩ := gqs0 HX7.out
   have p0 := HM7.out.q0
   have p0a : ∀ O, (w7.alloc O).cell? ⟨b, 0, none⟩ = some (.slice A gs.length c) := fun O => (World.cell?_alloc_lt _ _ _ HM7.out.lt).trans p0
   obtain ⟨nx, hnx⟩ : ∃ nx : Gr, nx = ⟨last + 1, fro, rcv, role, now + time, yd + 1, way⟩ := ⟨_, rfl⟩
   have HB7a : Hid (∀ O, Below w.heap.size w (w7.alloc O)) := fun O => below_then HB7.out (rbox w7 O) HB7.out.size
   have t1 : (w7.alloc (gO (last + 1) (bs fro) (bs rcv) (bs role) (now + time) (yd + 1) way)).drew.ownsRow 0 87 7 (.slice A gs.length c) gs.length (gcells gs) := World.ownsRow.alloc HM7.out.own _
   have t3 : ∀ j u, (gcell ⟨last + 1, fro, rcv, role, now + time, yd + 1, way⟩)[j]? = some u → (w7.alloc (gO (last + 1) (bs fro) (bs rcv) (bs role) (now + time) (yd + 1) way)).drew.cell? ((⟨w7.heap.size, 0, none⟩ : Addr).add j) = some u := cells_newGd w7 (gcell ⟨last + 1, fro, rcv, role, now + time, yd + 1, way⟩) 87
   have t5 : gs.length + 1 ≤ maxLen := by unfold maxLen; omega
   have t6 : (gs.length + 1) * 80 ≤ 140737488355328 := by omega
   have HG1 : Hid (∀ u ∈ gcell ⟨last + 1, fro, rcv, role, now + time, yd + 1, way⟩, u.oneCell' = true) := by have := gcells_one [⟨last + 1, fro, rcv, role, now + time, yd + 1, way⟩]; rw [gcells_s] at this; exact this
   have hlx7b : ∀ O, w.heap.size < (w7.alloc O).heap.size := fun O => by have := (rbox w7 O).size; omega
   clear hnx nx
   go_cut [] (fun wx => ∃ g1 cp1 wa X1, Below w.heap.size w wa ∧ wa.grownBy X1 (Value.ownBlock (.slice A gs.length c)) ∧ OwnG X1 0 (.slice (some ⟨g1, 0, none⟩) (gs.length + 1) cp1) (gs ++ [⟨last + 1, fro, rcv, role, now + time, yd + 1, way⟩]) ∧ (Value.ownBlock (.slice A gs.length c) = some g1 ∨ w.heap.size ≤ g1) ∧ wx = X1.setCell ⟨b, 0, none⟩ (.slice (some ⟨g1, 0, none⟩) (gs.length + 1) cp1) ∧ wx.heap[w.heap.size]? = some (.cells #[.int .i64 (last + 1), .string (bs fro), .string (bs rcv), .string (bs role), .int .i64 (now + time), .int .i64 (yd + 1), .int .i64 way] 87 (0, 0)))
   case first =>
    go_region_law (
     (refine step_append_lies _ rfl (.tmp 67) (.tmp 69) 61 rfl 0 87 i0 _ 7 80 Tryz.underlying61 hi hz0 hz1 hz2 rfl (by decide) (.slice A gs.length c) gs.length (gcells gs) (by simp [Act.eval]) t1 ⟨w7.heap.size, 0, none⟩ 1 1 (gcell ⟨last + 1, fro, rcv, role, now + time, yd + 1, way⟩) (by simp [Act.eval]) rfl t3 HG1.out (by decide) t5 t6 (Nat.zero_le _) _ rfl ?_; intro g1 cp1 X1 hown1 hg1 hat1 hlt1
      have hMa : GrM (w7.alloc (gO (last + 1) (bs fro) (bs rcv) (bs role) (now + time) (yd + 1) way)).drew b (.slice A gs.length c) gs last := HM7.out.below (below_drew (rbox w7 _))
      have hr9 : X1.heap[b]? = some (.cells #[.slice A gs.length c, .int .i64 last] 181 (0, 0)) := (hg1.block b hMa.lt (fun e => own_ne_row hMa e.symm)).trans hMa.row
      have z1 : X1.frozen? ⟨b, 0, none⟩ = false := by simp [World.frozen?, hr9]
      have z2 := cell_of_row X1 b 0 _ _ _ hr9
      have hxr : X1.heap[w.heap.size]? = _ := (hg1.block w.heap.size (hlx7b _) (fun e => by have h1 := HM.out.own.lt _ e.symm; omega)).trans (((rbox w7 _).block _ hlx7).trans HX7.out)
      have HXR := Lib.hid hxr
      have HOW : Hid (OwnG X1 0 (.slice (some ⟨g1, 0, none⟩) (gs.length + 1) cp1) (gs ++ [⟨last + 1, fro, rcv, role, now + time, yd + 1, way⟩])) := by show World.ownsRow _ _ _ _ _ _ _; rw [List.length_append, gcells_snoc]; exact hown1
      have HGR := Lib.hid hg1
      have HAT : Hid (Value.ownBlock (.slice A gs.length c) = some g1 ∨ w.heap.size ≤ g1) := hat1.imp id (fun e => by have := HB7.out.size; have e2 : g1 = (w7.alloc (gO (last + 1) (bs fro) (bs rcv) (bs role) (now + time) (yd + 1) way)).heap.size := e; have h9 := (rbox w7 (gO (last + 1) (bs fro) (bs rcv) (bs role) (now + time) (yd + 1) way)).size; omega)
      clear hown1 hg1 hat1 hxr hMa))
    all_goals
     go_wp2_with fail
     go_meet
     exact ⟨g1, cp1, _, X1, below_drew (HB7a.out _), HGR.out, HOW.out, HAT.out, rfl, (Below.heap_setCell X1 ⟨b, 0, none⟩ _ w.heap.size (by have := HM.out.lt; show w.heap.size ≠ b; omega)).trans HXR.out⟩
   case rest =>
    obtain ⟨g1, cp1, wa, X1, hba, hgr, how, hat, rfl, hxr⟩ := hcut
    have HF := Lib.hid (grM_more HM.out hba hgr how (fun k e => by simp only [Value.ownBlock, Option.some.injEq] at e; subst e; exact hat) (last + 1))
    have x0 := gq0 hxr
    have hr9 : X1.heap[b]? = some (.cells #[.slice A gs.length c, .int .i64 last] 181 (0, 0)) := (hgr.block b (HM.out.below hba).lt (fun e => own_ne_row (HM.out.below hba) e.symm)).trans (HM.out.below hba).row
    have hr8 := heap_set (j := 0) hr9 (.slice (some ⟨g1, 0, none⟩) (gs.length + 1) cp1)
    have hr7 : (X1.setCell ⟨b, 0, none⟩ (.slice (some ⟨g1, 0, none⟩) (gs.length + 1) cp1)).heap[b]? = some (.cells #[.slice (some ⟨g1, 0, none⟩) (gs.length + 1) cp1, .int .i64 last] 181 (0, 0)) := by simpa using hr8
    have f1 := fzG hr7 1
    have b1 := cell_of_row _ b 1 _ _ _ hr7
    have x0' : ((X1.setCell ⟨b, 0, none⟩ (.slice (some ⟨g1, 0, none⟩) (gs.length + 1) cp1)).setCell ⟨b, 1, none⟩ (.int .i64 (last + 1))).cell? ⟨w.heap.size, 0, none⟩ = some (.int .i64 (last + 1)) := by
     rw [← x0]
     exact World.cell?_of_block (Below.heap_setCell _ ⟨b, 1, none⟩ _ w.heap.size (by have := HM.out.lt; show w.heap.size ≠ b; omega))
    clear hba hgr how hat hxr hr9 hr8 hr7 p0 p0a t1 t3
    generalize X1.setCell ⟨b, 0, none⟩ (.slice (some ⟨g1, 0, none⟩) (gs.length + 1) cp1) = X2 at *
    go_wp2
    go_ret2
    exact givTo_ok HR.out rfl (by rw [HM2.out]; exact HF.out)
  ·have hm2 : min (now + time) yu = yu := by omega
   have HM2 := Lib.hid hm2
   have HX7 : Hid ((w9.setCell ⟨w.heap.size, 4, none⟩ (.int .i64 yu)).heap[w.heap.size]? = some (.cells #[.int .i64 (last + 1), .string (bs fro), .string (bs rcv), .string (bs role), .int .i64 yu, .int .i64 (yd + 1), .int .i64 way] 87 (0, 0))) := by show _ = _; simpa using heap_set (j := 4) HX6b.out (.int .i64 yu)
   have HB7 : Hid (Below w.heap.size w (w9.setCell ⟨w.heap.size, 4, none⟩ (.int .i64 yu))) := HB6b.out.setCell (Nat.le_refl _) _
   go_upto_region 11 with fail
   clear x4 f4 y4 HX6b HY6b HB6b hm2
   generalize w9.setCell ⟨w.heap.size, 4, none⟩ (.int .i64 yu) = w7 at *
   have hlx7 : w.heap.size < w7.heap.size := (Array.getElem?_eq_some_iff.1 HX7.out).1
   have HM7 := Lib.hid (HM.out.below HB7.out)
   obtain ⟨i0, hi, hz0, hz1, hz2⟩ := info_parts Tryz.infoGrant
   obtain ⟨A, c, rfl⟩ := own_slice HM.out.own
   obtain ⟨y0, y1, y2, y3, y4, y5, y6⟩ := gqs0 HX7.out
   have p0 := HM7.out.q0
   have p0a : ∀ O, (w7.alloc O).cell? ⟨b, 0, none⟩ = some (.slice A gs.length c) := fun O => (World.cell?_alloc_lt _ _ _ HM7.out.lt).trans p0
   obtain ⟨nx, hnx⟩ : ∃ nx : Gr, nx = ⟨last + 1, fro, rcv, role, yu, yd + 1, way⟩ := ⟨_, rfl⟩
   have HB7a : Hid (∀ O, Below w.heap.size w (w7.alloc O)) := fun O => below_then HB7.out (rbox w7 O) HB7.out.size
   have t1 : (w7.alloc (gO (last + 1) (bs fro) (bs rcv) (bs role) yu (yd + 1) way)).drew.ownsRow 0 87 7 (.slice A gs.length c) gs.length (gcells gs) := World.ownsRow.alloc HM7.out.own _
   have t3 : ∀ j u, (gcell ⟨last + 1, fro, rcv, role, yu, yd + 1, way⟩)[j]? = some u → (w7.alloc (gO (last + 1) (bs fro) (bs rcv) (bs role) yu (yd + 1) way)).drew.cell? ((⟨w7.heap.size, 0, none⟩ : Addr).add j) = some u := cells_newGd w7 (gcell ⟨last + 1, fro, rcv, role, yu, yd + 1, way⟩) 87
   have t5 : gs.length + 1 ≤ maxLen := by unfold maxLen; omega
   have t6 : (gs.length + 1) * 80 ≤ 140737488355328 := by omega
   have HG1 : Hid (∀ u ∈ gcell ⟨last + 1, fro, rcv, role, yu, yd + 1, way⟩, u.oneCell' = true) := by have := gcells_one [⟨last + 1, fro, rcv, role, yu, yd + 1, way⟩]; rw [gcells_s] at this; exact this
   have hlx7b : ∀ O, w.heap.size < (w7.alloc O).heap.size := fun O => by have := (rbox w7 O).size; omega
   clear hnx nx
   go_cut [] (fun wx => ∃ g1 cp1 wa X1, Below w.heap.size w wa ∧ wa.grownBy X1 (Value.ownBlock (.slice A gs.length c)) ∧ OwnG X1 0 (.slice (some ⟨g1, 0, none⟩) (gs.length + 1) cp1) (gs ++ [⟨last + 1, fro, rcv, role, yu, yd + 1, way⟩]) ∧ (Value.ownBlock (.slice A gs.length c) = some g1 ∨ w.heap.size ≤ g1) ∧ wx = X1.setCell ⟨b, 0, none⟩ (.slice (some ⟨g1, 0, none⟩) (gs.length + 1) cp1) ∧ wx.heap[w.heap.size]? = some (.cells #[.int .i64 (last + 1), .string (bs fro), .string (bs rcv), .string (bs role), .int .i64 yu, .int .i64 (yd + 1), .int .i64 way] 87 (0, 0)))
   case first =>
    go_region_law (
     (refine step_append_lies _ rfl (.tmp 67) (.tmp 69) 61 rfl 0 87 i0 _ 7 80 Tryz.underlying61 hi hz0 hz1 hz2 rfl (by decide) (.slice A gs.length c) gs.length (gcells gs) (by simp [Act.eval]) t1 ⟨w7.heap.size, 0, none⟩ 1 1 (gcell ⟨last + 1, fro, rcv, role, yu, yd + 1, way⟩) (by simp [Act.eval]) rfl t3 HG1.out (by decide) t5 t6 (Nat.zero_le _) _ rfl ?_; intro g1 cp1 X1 hown1 hg1 hat1 hlt1
      have hMa : GrM (w7.alloc (gO (last + 1) (bs fro) (bs rcv) (bs role) yu (yd + 1) way)).drew b (.slice A gs.length c) gs last := HM7.out.below (below_drew (rbox w7 _))
      have hr9 : X1.heap[b]? = some (.cells #[.slice A gs.length c, .int .i64 last] 181 (0, 0)) := (hg1.block b hMa.lt (fun e => own_ne_row hMa e.symm)).trans hMa.row
      have z1 : X1.frozen? ⟨b, 0, none⟩ = false := by simp [World.frozen?, hr9]
      have z2 := cell_of_row X1 b 0 _ _ _ hr9
      have hxr : X1.heap[w.heap.size]? = _ := (hg1.block w.heap.size (hlx7b _) (fun e => by have h1 := HM.out.own.lt _ e.symm; omega)).trans (((rbox w7 _).block _ hlx7).trans HX7.out)
      have HXR := Lib.hid hxr
      have HOW : Hid (OwnG X1 0 (.slice (some ⟨g1, 0, none⟩) (gs.length + 1) cp1) (gs ++ [⟨last + 1, fro, rcv, role, yu, yd + 1, way⟩])) := by show World.ownsRow _ _ _ _ _ _ _; rw [List.length_append, gcells_snoc]; exact hown1
      have HGR := Lib.hid hg1
      have HAT : Hid (Value.ownBlock (.slice A gs.length c) = some g1 ∨ w.heap.size ≤ g1) := hat1.imp id (fun e => by have := HB7.out.size; have e2 : g1 = (w7.alloc (gO (last + 1) (bs fro) (bs rcv) (bs role) yu (yd + 1) way)).heap.size := e; have h9 := (rbox w7 (gO (last + 1) (bs fro) (bs rcv) (bs role) yu (yd + 1) way)).size; omega)
      clear hown1 hg1 hat1 hxr hMa))
    all_goals
     go_wp2_with fail
     go_meet
     exact ⟨g1, cp1, _, X1, below_drew (HB7a.out _), HGR.out, HOW.out, HAT.out, rfl, (Below.heap_setCell X1 ⟨b, 0, none⟩ _ w.heap.size (by have := HM.out.lt; show w.heap.size ≠ b; omega)).trans HXR.out⟩
   case rest =>
    obtain ⟨g1, cp1, wa, X1, hba, hgr, how, hat, rfl, hxr⟩ := hcut
    have HF := Lib.hid (grM_more HM.out hba hgr how (fun k e => by simp only [Value.ownBlock, Option.some.injEq] at e; subst e; exact hat) (last + 1))
    have x0 := gq0 hxr
    have hr9 : X1.heap[b]? = some (.cells #[.slice A gs.length c, .int .i64 last] 181 (0, 0)) := (hgr.block b (HM.out.below hba).lt (fun e => own_ne_row (HM.out.below hba) e.symm)).trans (HM.out.below hba).row
    have hr8 := heap_set (j := 0) hr9 (.slice (some ⟨g1, 0, none⟩) (gs.length + 1) cp1)
    have hr7 : (X1.setCell ⟨b, 0, none⟩ (.slice (some ⟨g1, 0, none⟩) (gs.length + 1) cp1)).heap[b]? = some (.cells #[.slice (some ⟨g1, 0, none⟩) (gs.length + 1) cp1, .int .i64 last] 181 (0, 0)) := by simpa using hr8
    have f1 := fzG hr7 1
    have b1 := cell_of_row _ b 1 _ _ _ hr7
    have x0' : ((X1.setCell ⟨b, 0, none⟩ (.slice (some ⟨g1, 0, none⟩) (gs.length + 1) cp1)).setCell ⟨b, 1, none⟩ (.int .i64 (last + 1))).cell? ⟨w.heap.size, 0, none⟩ = some (.int .i64 (last + 1)) := by
     rw [← x0]
     exact World.cell?_of_block (Below.heap_setCell _ ⟨b, 1, none⟩ _ w.heap.size (by have := HM.out.lt; show w.heap.size ≠ b; omega))
    clear hba hgr how hat hxr hr9 hr8 hr7 p0 p0a t1 t3
    generalize X1.setCell ⟨b, 0, none⟩ (.slice (some ⟨g1, 0, none⟩) (gs.length + 1) cp1) = X2 at *
    go_wp2
    go_ret2
    exact givTo_ok HR.out rfl (by rw [HM2.out]; exact HF.out)
 ·have HR : Hid (res ≠ 0) := hres
  have he : erV res = .iface 39 (.int .i64 res) := erV_no hres
  unfold WrTo at WR2
  rw [he] at WR2
  clear hres he HW0
  go_wp2_with (go_at_call 119; refine WR2.out.mono ?_; rintro e w6 ⟨rfl, hb6⟩; have HB6 := Lib.hid (below_then HB4.out hb6 HB4.out.size); clear hb6)
  go_ret2
  exact givTo_no rfl HR.out HM.out HB6.out
include R in
theorem give_any (h : GrM w b v gs last) (hI : GrI gs last) (hw : Below w4.heap.size w4 w) (fro rcv role : Tx) (hx : role.length ≤ 1048576) (way now time : Int) (hln : (lnV r.loans role).2 ≤ 1073741824) :
  Calls Tryz.prog 52 #[.pointer (some ⟨b, 0, none⟩), .pointer (some ⟨rb, 0, none⟩), .string (bs fro), .string (bs rcv), .string (bs role), .int .i64 way, .int .i64 now, .int .i64 time] w
   (GivTo (giveE ns bl r gs (giveX gs last fro rcv role way) now time) (giveG gs (giveX gs last fro rcv role way) now time) w b v gs last) := by
 cases hy : gFind gs way with
 | none => exact give_none R h hI hw fro rcv role hx way now time hln hy
 | some y => exact give_some R h hI hw fro rcv role hx way now time hln y hy
end
end Go.Proofs.YtgffbgmieppckaaGreatDoor
