import Derived.Test.YtgffbgmieppckaaGreatDoorSe3
import Derived.Test.YtgffbgmieppckaaGreatDoorInts
import Derived.Test.YtgffbgmieppckaaGreatDoorPrint2
namespace Go.Proofs.YtgffbgmieppckaaGreatDoor
set_option maxRecDepth 100000
open Go.ChangeShapes Go.WideShapes Go.ChangeAt Go.RowKit
theorem NewSe_any (w : World) : Calls Tryz.prog 46 #[] w fun e w' => e = .returned (.pointer (some ⟨w.heap.size, 0, none⟩)) ∧ SeM w' w.heap.size (.slice none 0 0) [] 0 ∧ Below w.heap.size w w' := by
 go_enter Tryz.func46, Tryz.ntmps46
 go_wp2
 go_ret
 exact ⟨rfl, ⟨heap_alloc_new w _, World.ownsRow_nil _ _ _ _⟩, rbox w _⟩
def SlTo (l : List Se) (w : World) (e : Ending) (w' : World) : Prop := ∃ A c, e = .returned (.slice A l.length c) ∧ OwnSe w' w.heap.size (.slice A l.length c) l ∧ Below w.heap.size w w'
theorem slTo_mk {l m : List Se} {n c : Nat} {A : Option Addr} {w w' : World} (hm : m = l) (hn : n = l.length) (h : OwnSe w' w.heap.size (.slice A n c) m) (hb : Below w.heap.size w w') : SlTo l w (.returned (.slice A n c)) w' := by subst hm; subst hn; exact ⟨A, c, rfl, h, hb⟩
set_option maxHeartbeats 1000000 in
theorem CloneSe_any (l : List Se) (A : Option Addr) (c : Nat) (w : World) (h : SeAt w A c l) (hl : l.length ≤ 1000) : Calls Tryz.prog 114 #[.slice A l.length c] w (SlTo l w) := by
 obtain ⟨i0, hi, hz0, hz1, hz2⟩ := info_parts Tryz.infoSeat
 have hcc := h.1
 have qT : ∀ (w : World) (a : Option Addr) (n c n' c' : Nat), (binOp .eql 102 (.slice a n c) (.slice none n' c')).run Tryz.prog w = .ok (.bool a.isNone) w := fun w a n c n' c' => Lib.run_eql_slice_nil w _ _ a n c n' c' Tryz.underlying102
 cases A with
 | none =>
  have h0 : l = [] := by
   cases l with
   | nil => rfl
   | cons a r => obtain ⟨g, e, _⟩ := h.2 0 (by simp); cases e
  subst h0
  clear h
  go_enter Tryz.func114, Tryz.ntmps114
  go_wp2
  go_ret
  exact slTo_mk rfl rfl (World.ownsRow_nil _ _ _ _) (Below.refl _ _)
 | some a =>
  by_cases h0 : l.length = 0
  ·have e0 : l = [] := List.length_eq_zero_iff.1 h0
   subst e0
   clear h h0
   go_enter Tryz.func114, Tryz.ntmps114
   go_wp2_with (at_builtin; go_must (refine wpList_append_none rfl (.tmp 5) (.tmp 6) 102 rfl 106 i0 Tryz.underlying102 hi (some ⟨w.heap.size, 0, none⟩) 0 0 rfl (Nat.le_refl _) _ _ _ rfl rfl ?_))
   go_ret
   exact slTo_mk rfl rfl (World.ownsRow_lit w #[] 0 (Nat.le_refl _) (Nat.zero_le _) (by simp)) (rbox w _)
  ·have hpos : 0 < l.length := by omega
   obtain ⟨g, e, hgl, _⟩ := h.2 0 hpos
   obtain rfl := Option.some.inj e
   have HC : Hid (∀ O, ∀ j u, (secells l)[j]? = some u → (w.alloc O).cell? ((⟨g, 0, none⟩ : Addr).add j) = some u) := fun O => sat_cells (h.below (rbox w O))
   have HL := Lib.hid (secells_length l)
   have HO0 : Hid ((w.alloc (.cells #[] 106)).ownsRow w.heap.size 106 3 (.slice (some ⟨w.heap.size, 0, none⟩) 0 0) 0 []) := World.ownsRow_lit w #[] 0 (Nat.le_refl _) (Nat.zero_le _) (by simp)
   clear h e h0
   go_enter Tryz.func114, Tryz.ntmps114
   go_wp2_with (at_builtin; go_must (refine wpList_append_lies _ rfl (.tmp 5) (.tmp 6) 102 rfl w.heap.size 106 i0 _ 3 32 Tryz.underlying102 hi hz0 hz1 hz2 rfl (by decide) (.slice (some ⟨w.heap.size, 0, none⟩) 0 0) 0 [] rfl HO0.out ⟨g, 0, none⟩ l.length c (secells l) rfl HL.out (HC.out _) (secells_one l) hpos (by unfold maxLen; omega) (by omega) (by simp) _ rfl ?_); intro g9 cp9 w9 hown9 hg9 hat9 hlt9)
   go_ret
   have hown : OwnSe w9 w.heap.size (.slice (some ⟨g9, 0, none⟩) l.length cp9) l := by
    show World.ownsRow _ _ _ _ _ _ _
    simpa using hown9
   exact slTo_mk rfl (by simp) (by simpa using hown) (((rbox w _)).grown hg9 (by simp) (fun j e => by cases e; exact Nat.le_refl _))
section
variable {b : Nat} {v : Value} {ss : List Se} {last : Int} {w : World}
theorem ListSe_any (h : SeM w b v ss last) (hl : ss.length ≤ 1000) : Calls Tryz.prog 47 #[.pointer (some ⟨b, 0, none⟩)] w (SlTo ss w) := by
 obtain ⟨A, c, rfl⟩ := own_slice h.own
 have q0 := h.q0
 have CL := Lib.hid (CloneSe_any ss A c w (seAt_of h.own) hl)
 clear h
 go_enter Tryz.func47, Tryz.ntmps47
 go_wp2_with (go_at_call 114; refine CL.out.mono ?_; rintro e w2 ⟨A2, c2, rfl, ho2, hb2⟩)
 go_ret
 exact slTo_mk rfl rfl ho2 hb2
theorem seTo_chg {w w1 w' : World} {b : Nat} {v v1 : Value} {ss : List Se} {last : Int} (hc : Chg (gOwn b v) w w1) (h1 : ∀ k, v1.ownBlock = some k → v.ownBlock = some k ∨ w.heap.size ≤ k) (h : SeTo w1 b v1 ss last w') : SeTo w b v ss last w' := by
 obtain ⟨v', k1, k2, k3⟩ := h
 refine ⟨v', k1, ⟨k2.os.trans hc.os, k2.tape.trans hc.tape, k2.output.trans hc.output, Nat.le_trans hc.size k2.size, fun i hi hn => ?_⟩, fun k e => (k3 k e).elim (h1 k) (fun h => .inr (Nat.le_trans hc.size h))⟩
 refine (k2.block i (Nat.lt_of_lt_of_le hi hc.size) fun h9 => ?_).trans (hc.block i hi hn)
 rcases h9 with h9 | h9
 ·exact hn (.inl h9)
 ·rcases h1 i h9 with h8 | h8
  ·exact hn (.inr h8)
  ·omega
theorem seM_put {wa w' : World} {v' : Value} {ss' : List Se} (h : SeM w b v ss last) (hb : Below w.heap.size w wa) (hg : wa.grownBy w' v.ownBlock) (ho : OwnSe w' 0 v' ss') (hn : ∀ k, v'.ownBlock = some k → v.ownBlock = some k ∨ w.heap.size ≤ k) :
  SeTo w b v ss' last (w'.setCell ⟨b, 0, none⟩ v') := by
 have ha := h.below hb
 have hr : w'.heap[b]? = some (.cells #[v, .int .i64 last] 203 (0, 0)) := (hg.block b ha.lt (fun e => ha.ne e.symm)).trans ha.row
 have hne : v'.ownBlock = none ∨ v'.ownBlock ≠ some b := by
  right
  intro e
  rcases hn b e with e2 | e2
  ·exact h.ne e2
  ·have := h.lt; omega
 have e := heap_set (j := 0) hr v'
 refine ⟨v', ⟨by simpa using e, ?_⟩, ?_, hn⟩
 ·exact World.ownsRow.kept ho (grown_setCell _ _ _ _) hne
 ·have c1 : Chg (gOwn b v) w wa := Chg.of_below hb
  have c2 : Chg (gOwn b v) wa w' := Chg.of_grown hg fun _ e => .inr e
  have c3 : Chg (gOwn b v) w' (w'.setCell ⟨b, 0, none⟩ v') := Chg.of_grown (grown_setCell _ _ _ _) fun k e => by cases e; exact .inl rfl
  exact (c1.trans c2).trans c3
theorem sIx_neg {ss : List Se} {n : Int} (h : ¬ sAt ss n < ss.length) : sIx ss n = -1 := if_neg h
theorem sIx_pos {ss : List Se} {n : Int} (h : sAt ss n < ss.length) : sIx ss n = (sAt ss n : Nat) := if_pos h
theorem Close_none (h : SeM w b v ss last) (hl : ss.length ≤ 1000) (n : Int) (hn : ¬ sAt ss n < ss.length) :
  Calls Tryz.prog 48 #[.pointer (some ⟨b, 0, none⟩), .int .i64 n] w fun e w' => e = .returned (.iface 39 (.int .i64 3)) ∧ Below w.heap.size w w' := by
 have FI := Lib.hid (sfind_any h hl n)
 rw [sIx_neg hn] at FI
 clear h hn
 go_enter Tryz.func48, Tryz.ntmps48
 go_wp2_with (go_at_call 115; refine FI.out.mono ?_; rintro e w2 ⟨rfl, hb2⟩)
 go_ret
 exact ⟨rfl, hb2⟩
set_option maxHeartbeats 1000000 in
theorem Close_ok (h : SeM w b v ss last) (hl : ss.length ≤ 1000) (n : Int) (hn : sAt ss n < ss.length) :
  Calls Tryz.prog 48 #[.pointer (some ⟨b, 0, none⟩), .int .i64 n] w fun e w' => e = .returned .nilIface ∧ SeTo w b v (ss.eraseIdx (sAt ss n)) last w' := by
 have FI := Lib.hid (sfind_any h hl n)
 rw [sIx_pos hn] at FI
 have HM := Lib.hid h
 obtain ⟨g, c, hv⟩ : ∃ g c, v = .slice (some ⟨g, 0, none⟩) ss.length c := by
  obtain ⟨A, c, rfl⟩ := own_slice h.own
  obtain ⟨g, cap', e, _⟩ := own_form h.own (by omega)
  exact ⟨g, cap', e⟩
 subst hv
 generalize hk : sAt ss n = k at *
 have DL := Lib.hid (fun W (hW : Below w.heap.size w W) => sDel_any (h.below hW).own hn hl)
 have hk0 : ¬ ((k : Nat) : Int) < 0 := by omega
 have hwk : IntKind.i64.wrap ((k : Int) + 1) = ((k + 1 : Nat) : Int) := by rw [IntKind.wrap_i64]; omega
 clear h hk
 go_enter Tryz.func48, Tryz.ntmps48
 go_upto_region 4 with (go_at_call 115; refine FI.out.mono ?_; rintro e w2 ⟨rfl, hb2⟩; have HB2 := Lib.hid hb2; clear hb2)
 have HM2 := Lib.hid (HM.out.below HB2.out)
 have q0 := HM2.out.q0
 have D2 := Lib.hid (DL.out w2 HB2.out)
 clear DL FI
 go_wp2_with (go_at_call 116; refine D2.out.mono ?_; rintro e w3 ⟨rfl, ho3, hg3⟩; have HO3 := Lib.hid ho3; have HG3 := Lib.hid hg3; have hr3 := (hg3.block b HM2.out.lt (fun e => HM2.out.ne e.symm)).trans HM2.out.row; have f0 := fzG hr3 0; have p0 := lq0 hr3; clear ho3 hg3 hr3)
 go_ret
 exact ⟨rfl, seM_put HM.out HB2.out HG3.out HO3.out (fun k e => .inl (by simpa [Value.ownBlock] using e))⟩
end
def opE (us : List Tx) (x : Tx) (n : Nat) : Int := if x ∈ us then if 12 ≤ n then 5 else 0 else 3
def OpTo (k : Int) (x : Tx) (w0 : World) (b : Nat) (v : Value) (ss : List Se) (last : Int) (e : Ending) (w' : World) : Prop :=
 if k = 0 then e = .returned (.tuple #[.int .i64 (last + 1), .nilIface]) ∧ SeTo w0 b v (ss ++ [⟨last + 1, x, 0⟩]) (last + 1) w' else e = .returned (.tuple #[.int .i64 0, .iface 39 (.int .i64 k)]) ∧ SeTo w0 b v ss last w'
theorem opTo_no {k j : Int} {x : Tx} {w w' : World} {b : Nat} {v : Value} {ss : List Se} {last : Int} (hk : k = j) (hj : j ≠ 0) (h : SeM w b v ss last) (hb : Below w.heap.size w w') : OpTo k x w b v ss last (.returned (.tuple #[.int .i64 0, .iface 39 (.int .i64 j)])) w' := by
 subst hk; unfold OpTo; rw [if_neg hj]; exact ⟨rfl, seTo_same h hb⟩
theorem opTo_ok {k n : Int} {x : Tx} {w w' : World} {b : Nat} {v : Value} {ss : List Se} {last : Int} (hk : k = 0) (hn : n = last + 1) (h : SeTo w b v (ss ++ [⟨last + 1, x, 0⟩]) (last + 1) w') : OpTo k x w b v ss last (.returned (.tuple #[.int .i64 n, .nilIface])) w' := by
 subst hk; subst hn; unfold OpTo; rw [if_pos rfl]; exact ⟨rfl, h⟩
section
variable {w4 : World} {rb o : Nat} {ns : List Tx} {bl : List Nat} {r : Rt} (R : RtB w4 rb o ns bl r) {b : Nat} {v : Value} {ss : List Se} {last : Int} {w : World}
set_option maxHeartbeats 4000000 in
include R in
theorem Open_any (h : SeM w b v ss last) (hw : Below w4.heap.size w4 w) (hl : ss.length ≤ 1000) (h0 : 0 ≤ last) (h1 : last ≤ 1000000000) (x : Tx) :
  Calls Tryz.prog 49 #[.pointer (some ⟨b, 0, none⟩), .pointer (some ⟨rb, 0, none⟩), .string (bs x)] w (OpTo (opE (hnm r.users) x ss.length) x w b v ss last) := by
 have US : Hid (∀ W, Below w.heap.size w W → Calls Tryz.prog 36 #[.pointer (some ⟨rb, 0, none⟩)] W (NmTo2 (hnm r.users) W)) := fun W hW => R.US W (below_then hw hW hw.size)
 have hul : (hnm r.users).length ≤ 12 := by have := R.nu; unfold hnm; rw [List.length_map]; exact this
 have HM := Lib.hid h
 clear R hw
 generalize hnm r.users = us at *
 have HC : Hid (∀ A c W, ListAt W A c us → Calls Tryz.prog 117 #[.slice A us.length c, .string (bs x)] W fun e w' => e = .returned (.bool (decide (x ∈ us))) ∧ W = w') := fun A c W hL => Contains_str us x A c W hL (by omega)
 have HE : Hid (opE us x ss.length = if x ∈ us then if 12 ≤ ss.length then 5 else 0 else 3) := rfl
 generalize opE us x ss.length = k at *
 have hwl : IntKind.i64.wrap (last + 1) = last + 1 := by rw [IntKind.wrap_i64]; omega
 clear h
 by_cases hx : x ∈ us
 ·have hd := decide_eq_true hx
  have HE1 : Hid (k = if 12 ≤ ss.length then 5 else 0) := by show _ = _; rw [HE.out, if_pos hx]
  clear HE hx
  generalize decide (x ∈ us) = dx at *
  subst hd
  have cells0 := HM.out.q0
  by_cases hf : 12 ≤ ss.length
  ·have HK : Hid (k = 5) := by show _ = _; rw [HE1.out, if_pos hf]
   have hfi : (12 : Int) ≤ ss.length := by omega
   clear HE1 hf
   obtain ⟨A, c, rfl⟩ := own_slice HM.out.own
   clear cells0
   go_enter Tryz.func49, Tryz.ntmps49
   go_upto_region 3 with (first
    | (go_at_call 36; refine (US.out _ (Below.refl _ _)).mono ?_; rintro e w2 ⟨v2, rfl, ho2, hb2⟩; obtain ⟨A2, c2, rfl⟩ := own_slice ho2; have HL2 := Lib.hid (listAt_of ho2); have HB2 := Lib.hid hb2; have q0 := (HM.out.below hb2).q0; clear ho2 hb2)
    | (go_at_call 117; refine (HC.out A2 c2 _ HL2.out).mono ?_; rintro e w3 ⟨rfl, rfl⟩))
   go_wp2
   go_ret2
   exact opTo_no HK.out (by decide) HM.out HB2.out
  ·have HK : Hid (k = 0) := by show _ = _; rw [HE1.out, if_neg hf]
   have hfi : ¬ (12 : Int) ≤ ss.length := by omega
   clear HE1 hf cells0
   obtain ⟨A, c, rfl⟩ := own_slice HM.out.own
   obtain ⟨i0, hi, hz0, hz1, hz2⟩ := info_parts Tryz.infoSeat
   go_enter Tryz.func49, Tryz.ntmps49
   go_upto_region 3 with (first
    | (go_at_call 36; refine (US.out _ (Below.refl _ _)).mono ?_; rintro e w2 ⟨v2, rfl, ho2, hb2⟩; obtain ⟨A2, c2, rfl⟩ := own_slice ho2; have HL2 := Lib.hid (listAt_of ho2); have HB2 := Lib.hid hb2; have q0 := (HM.out.below hb2).q0; have q1 := (HM.out.below hb2).q1; have f1 := (HM.out.below hb2).fz 1; clear ho2 hb2)
    | (go_at_call 117; refine (HC.out A2 c2 _ HL2.out).mono ?_; rintro e w3 ⟨rfl, rfl⟩))
   go_upto_region 6 with fail
   have HM2 := HM.out.below HB2.out
   have e7 := heap_set (j := 1) HM2.row (.int .i64 (last + 1))
   have hg7 := grown_setCell w2 b 1 (.int .i64 (last + 1))
   have HM7 : Hid (SeM (w2.setCell ⟨b, 1, none⟩ (.int .i64 (last + 1))) b (.slice A ss.length c) ss (last + 1)) := ⟨by simpa using e7, World.ownsRow.kept HM2.own hg7 (.inr HM2.ne)⟩
   have HC7 : Hid (Chg (gOwn b (.slice A ss.length c)) w (w2.setCell ⟨b, 1, none⟩ (.int .i64 (last + 1)))) := (Chg.of_below HB2.out).trans (Chg.of_grown hg7 fun k e => by cases e; exact .inl rfl)
   clear q0 q1 f1 HM2 e7 hg7 HL2 HC US
   generalize w2.setCell ⟨b, 1, none⟩ (.int .i64 (last + 1)) = w7 at *
   have p0 := HM7.out.q0
   have p1 := HM7.out.q1
   have p0a : ∀ O, (w7.alloc O).cell? ⟨b, 0, none⟩ = some (.slice A ss.length c) := fun O => (World.cell?_alloc_lt _ _ _ HM7.out.lt).trans p0
   have p1a : ∀ O, (w7.alloc O).cell? ⟨b, 1, none⟩ = some (.int .i64 (last + 1)) := fun O => (World.cell?_alloc_lt _ _ _ HM7.out.lt).trans p1
   have t1 : (w7.alloc (.cells #[.int .i64 (last + 1), .string (bs x), .int .u32 0] 106)).drew.ownsRow 0 106 3 (.slice A ss.length c) ss.length (secells ss) := World.ownsRow.alloc HM7.out.own _
   have t3 : ∀ j u, ([.int .i64 (last + 1), .string (bs x), .int .u32 0] : List Value)[j]? = some u → (w7.alloc (.cells #[.int .i64 (last + 1), .string (bs x), .int .u32 0] 106)).drew.cell? ((⟨w7.heap.size, 0, none⟩ : Addr).add j) = some u := cells_newGd w7 [.int .i64 (last + 1), .string (bs x), .int .u32 0] 106
   have t5 : ss.length + 1 ≤ maxLen := by unfold maxLen; omega
   have t6 : (ss.length + 1) * 32 ≤ 140737488355328 := by omega
   have HG1 : Hid (∀ u ∈ ([.int .i64 (last + 1), .string (bs x), .int .u32 0] : List Value), u.oneCell' = true) := by intro u hu; simp at hu; rcases hu with rfl | rfl | rfl <;> rfl
   go_region_law (
    (refine step_append_lies _ rfl (.tmp 34) (.tmp 41) 102 rfl 0 106 i0 _ 3 32 Tryz.underlying102 hi hz0 hz1 hz2 rfl (by decide) (.slice A ss.length c) ss.length (secells ss) (by simp [Act.eval]) t1 ⟨w7.heap.size, 0, none⟩ 1 1 [.int .i64 (last + 1), .string (bs x), .int .u32 0] (by simp [Act.eval]) rfl t3 HG1.out (by decide) t5 t6 (Nat.zero_le _) _ rfl ?_; intro g1 cp1 X1 hown1 hg1 hat1 hlt1
     have hMa : SeM (w7.alloc (.cells #[.int .i64 (last + 1), .string (bs x), .int .u32 0] 106)).drew b (.slice A ss.length c) ss (last + 1) := HM7.out.below (below_drew (rbox w7 _))
     have hr9 : X1.heap[b]? = some (.cells #[.slice A ss.length c, .int .i64 (last + 1)] 203 (0, 0)) := (hg1.block b hMa.lt (fun e => hMa.ne e.symm)).trans hMa.row
     have z1 : X1.frozen? ⟨b, 0, none⟩ = false := by simp [World.frozen?, hr9]
     have z2 := lq0 hr9
     have HR9 := Lib.hid hr9
     have HOW : Hid (OwnSe X1 0 (.slice (some ⟨g1, 0, none⟩) (ss.length + 1) cp1) (ss ++ [⟨last + 1, x, 0⟩])) := by show World.ownsRow _ _ _ _ _ _ _; rw [List.length_append, secells_snoc]; exact hown1
     have HGR := Lib.hid hg1
     have HAT : Hid (Value.ownBlock (.slice A ss.length c) = some g1 ∨ w7.heap.size ≤ g1) := hat1.imp id (fun e => by have e2 : g1 = (w7.alloc (.cells #[.int .i64 (last + 1), .string (bs x), .int .u32 0] 106)).heap.size := e; have h9 := (rbox w7 (.cells #[.int .i64 (last + 1), .string (bs x), .int .u32 0] 106)).size; omega)
     clear hown1 hg1 hat1 hr9 hMa))
   all_goals
    have x1 : (X1.setCell ⟨b, 0, none⟩ (.slice (some ⟨g1, 0, none⟩) (ss.length + 1) cp1)).cell? ⟨b, 1, none⟩ = some (.int .i64 (last + 1)) := lq1 (by simpa using heap_set (j := 0) HR9.out (.slice (some ⟨g1, 0, none⟩) (ss.length + 1) cp1))
    go_wp2
    go_ret2
    refine opTo_ok HK.out rfl (seTo_chg HC7.out (fun k e => .inl e) ?_)
    have hp := seM_put (v' := .slice (some ⟨g1, 0, none⟩) (ss.length + 1) cp1) HM7.out (below_drew (rbox w7 _)) HGR.out HOW.out (fun k e => by simp only [Value.ownBlock, Option.some.injEq] at e; subst e; exact HAT.out)
    exact hp
 ·have hd := decide_eq_false hx
  have HK : Hid (k = 3) := by show _ = _; rw [HE.out, if_neg hx]
  clear HE hx
  generalize decide (x ∈ us) = dx at *
  subst hd
  go_enter Tryz.func49, Tryz.ntmps49
  go_wp2_with (first
   | (go_at_call 36; refine (US.out _ (Below.refl _ _)).mono ?_; rintro e w2 ⟨v2, rfl, ho2, hb2⟩; obtain ⟨A2, c2, rfl⟩ := own_slice ho2; have HL2 := Lib.hid (listAt_of ho2); have HB2 := Lib.hid hb2; clear ho2 hb2)
   | (go_at_call 117; refine (HC.out A2 c2 _ HL2.out).mono ?_; rintro e w3 ⟨rfl, rfl⟩))
  go_ret2
  exact opTo_no HK.out (by decide) HM.out HB2.out
end
theorem Chg.new {S : Nat → Prop} {w w1 w' : World} {row : Option Nat} (h : Chg S w w1) (hg : w1.grownBy w' row) (hr : ∀ k, row = some k → w.heap.size ≤ k) : Chg S w w' :=
 ⟨hg.os.trans h.os, hg.tape.trans h.tape, hg.output.trans h.output, Nat.le_trans h.size hg.size, fun k hk hn => (hg.block k (Nat.lt_of_lt_of_le hk h.size) (fun e => by have := hr k e.symm; omega)).trans (h.block k hk hn)⟩
end Go.Proofs.YtgffbgmieppckaaGreatDoor
