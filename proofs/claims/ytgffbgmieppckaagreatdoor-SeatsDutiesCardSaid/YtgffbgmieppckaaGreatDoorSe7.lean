import Derived.Test.YtgffbgmieppckaaGreatDoorSe5
namespace Go.Proofs.YtgffbgmieppckaaGreatDoor
set_option maxRecDepth 100000
open Go.ChangeShapes Go.WideShapes Go.ChangeAt Go.RowKit
def sets3 (W : World) (b : Nat) (v0 v1 v2 : Value) : World := ((W.setCell ⟨b, 0, none⟩ v0).setCell ⟨b, 1, none⟩ v1).setCell ⟨b, 2, none⟩ v2
theorem sets3_row {W : World} {b : Nat} {a0 a1 a2 : Value} {t : TypeId} (h : W.heap[b]? = some (.cells #[a0, a1, a2] t (0, 0))) (v0 v1 v2 : Value) : (sets3 W b v0 v1 v2).heap[b]? = some (.cells #[v0, v1, v2] t (0, 0)) := by
 show ((((W.setCell ⟨b, 0, none⟩ v0).setCell ⟨b, 1, none⟩ v1).setCell ⟨b, 2, none⟩ v2).heap[b]?) = _
 have e := heap_set (j := 2) (heap_set (j := 1) (heap_set (j := 0) h v0) v1) v2
 simpa using e
theorem sets3_below {n b : Nat} {W0 W : World} (h : Below n W0 W) (hn : n ≤ W0.heap.size) (hb : n ≤ b) (v0 v1 v2 : Value) : Below n W0 (sets3 W b v0 v1 v2) := by
 have st : ∀ {X : World} (j : Nat) (u : Value), Below n W0 X → Below n W0 (X.setCell ⟨b, j, none⟩ u) := fun j u hX => hX.grown (grown_setCell _ b j u) (Nat.le_trans hn hX.size) (fun k e => by cases e; exact hb)
 exact st _ _ (st _ _ (st _ _ h))
def seZero : Se := ⟨0, [], 0⟩
def sGet (ss : List Se) (n : Int) : Option Se := ss[sAt ss n]?
theorem sGet_pos {ss : List Se} {n : Int} (h : sAt ss n < ss.length) : sGet ss n = some ss[sAt ss n] := List.getElem?_eq_getElem h
theorem sGet_neg {ss : List Se} {n : Int} (h : ¬ sAt ss n < ss.length) : sGet ss n = none := List.getElem?_eq_none (by omega)
def GetTo (o : Option Se) (w : World) (e : Ending) (w' : World) : Prop := e = .returned (.tuple #[sval (o.getD seZero), .bool o.isSome]) ∧ Below w.heap.size w w'
theorem getTo_hit {o : Option Se} {y : Se} {w w' : World} (h : o = some y) (hb : Below w.heap.size w w') : GetTo o w (.returned (.tuple #[.agg #[.int .i64 y.num, .string (bs y.user), .int .u32 (y.act : Nat)], .bool true])) w' := by subst h; exact ⟨rfl, hb⟩
theorem getTo_miss {o : Option Se} {w w' : World} (h : o = none) (hb : Below w.heap.size w w') : GetTo o w (.returned (.tuple #[.agg #[.int .i64 0, .string ⟨#[]⟩, .int .u32 0], .bool false])) w' := by subst h; exact ⟨rfl, hb⟩
abbrev seCells0 : Obj := .cells #[.int .i64 0, .string ⟨#[]⟩, .int .u32 0] 106
section
variable {b : Nat} {v : Value} {ss : List Se} {last : Int} {w : World}
set_option maxHeartbeats 2000000 in
theorem Get_any (h : SeM w b v ss last) (hl : ss.length ≤ 1000) (n : Int) :
  Calls Tryz.prog 55 #[.pointer (some ⟨b, 0, none⟩), .int .i64 n] w (GetTo (sGet ss n) w) := by
 obtain ⟨A, c, rfl⟩ := own_slice h.own
 have HM := Lib.hid h
 have R0 := Lib.hid (heap_alloc_new w seCells0)
 have HB0 := Lib.hid (rbox w seCells0)
 have FI : Hid (∀ W, Below w.heap.size w W → Calls Tryz.prog 115 #[.pointer (some ⟨b, 0, none⟩), .int .i64 n] W fun e w' => e = .returned (.int .i64 (sIx ss n)) ∧ Below W.heap.size W w') := fun W hW => sfind_any (h.below hW) hl n
 clear h
 go_enter Tryz.func55, Tryz.ntmps55
 go_upto_region 1 with fail
 generalize hw0 : w.alloc seCells0 = w0 at *
 clear hw0
 have FI0 := Lib.hid (FI.out w0 HB0.out)
 have hlt0 : w.heap.size < w0.heap.size := (Array.getElem?_eq_some_iff.1 R0.out).1
 clear FI
 by_cases hn : sAt ss n < ss.length
 ·have HG := Lib.hid (sGet_pos hn)
  rw [sIx_pos hn] at FI0
  generalize hk : sAt ss n = k at *
  clear hk
  have hk0 : ¬ ((k : Nat) : Int) < 0 := by omega
  have hki : ((k : Nat) : Int) < ss.length := by omega
  go_upto_region 4 with (go_at_call 115; refine FI0.out.mono ?_; rintro e w2 ⟨rfl, hb2⟩; have HB2 := Lib.hid (below_then HB0.out hb2 HB0.out.size); have R2 := Lib.hid ((hb2.block _ hlt0).trans R0.out); clear hb2)
  have HM2 := HM.out.below HB2.out
  have p0 := HM2.q0
  have hcc := (seAt_of HM2.own).1
  obtain ⟨g, rfl, hgl, hc⟩ := (seAt_of HM2.own).2 k hn
  have q0 := hc 0 _ (by omega) rfl; have q1 := hc 1 _ (by omega) rfl; have q2 := hc 2 _ (by omega) rfl
  simp only [Nat.add_zero] at q0
  clear hc HM2
  generalize ss[k] = y at *
  obtain ⟨yn, yu, ya⟩ := y
  simp only at q0 q1 q2
  have z0 := tq0 R2.out; have z1 := tq1 R2.out; have z2 := tq2 R2.out
  have f0 := fzG R2.out 0; have f1 := fzG R2.out 1; have f2 := fzG R2.out 2
  go_wp2
  (try simp only [Exit.inBlock, Exit.then])
  refine bodyPost_ret (run_cellG rfl _ _ w.heap.size _ _ _ _ rfl (sets3_row R2.out _ _ _) Tryz.underlying106 rfl (by kernel_rfl)) rfl ?_
  exact getTo_hit HG.out (sets3_below HB2.out (Nat.le_refl _) (Nat.le_refl _) _ _ _)
 ·have HG := Lib.hid (sGet_neg hn)
  rw [sIx_neg hn] at FI0
  clear hn
  go_upto_region 3 with (go_at_call 115; refine FI0.out.mono ?_; rintro e w2 ⟨rfl, hb2⟩; have HB2 := Lib.hid (below_then HB0.out hb2 HB0.out.size); have R2 := Lib.hid ((hb2.block _ hlt0).trans R0.out); clear hb2)
  have z0 := tq0 R2.out; have z1 := tq1 R2.out; have z2 := tq2 R2.out
  have f0 := fzG R2.out 0; have f1 := fzG R2.out 1; have f2 := fzG R2.out 2
  go_wp2
  (try simp only [Exit.inBlock, Exit.then])
  refine bodyPost_ret (run_cellG rfl _ _ w.heap.size _ _ _ _ rfl (sets3_row R2.out _ _ _) Tryz.underlying106 rfl (by kernel_rfl)) rfl ?_
  exact getTo_miss HG.out (sets3_below HB2.out (Nat.le_refl _) (Nat.le_refl _) _ _ _)
end
section
variable {w4 : World} {rb o : Nat} {ns : List Tx} {bl : List Nat} {r : Rt} (R : RtS w4 rb o ns bl r) {b : Nat} {v : Value} {ss : List Se} {last : Int} {w : World}
def mayP (bl : List Nat) (r : Rt) (len : Nat) (ss : List Se) (n : Int) (q : Tx) : Bool := match sGet ss n with
 | none => false
 | some s => q.isEmpty || decide (s.act &&& upperTo bl (rtHas r.perms q) len ≠ 0)
set_option maxHeartbeats 4000000 in
include R in
theorem May_any (h : SeM w b v ss last) (hw : Below w4.heap.size w4 w) (hl : ss.length ≤ 1000) (ha : ∀ s ∈ ss, s.act < 16777216) (n : Int) (q : Tx) (hup : upperTo bl (rtHas r.perms q) ns.length < 16777216) :
  Calls Tryz.prog 53 #[.pointer (some ⟨b, 0, none⟩), .pointer (some ⟨rb, 0, none⟩), .int .i64 n, .string (bs q)] w fun e w' => e = .returned (.bool (mayP bl r ns.length ss n q)) ∧ Below w.heap.size w w' := by
 have GT := Lib.hid (Get_any h hl n)
 have GV : Hid (∀ W, Below w.heap.size w W → Calls Tryz.prog 66 #[.pointer (some ⟨rb, 0, none⟩), .string (bs q)] W fun e w' => e = .returned (.int .u32 (upperTo bl (rtHas r.perms q) ns.length : Nat)) ∧ Below W.heap.size W w') := fun W hW => R.GV q W (below_then hw hW hw.size)
 have HE : Hid (mayP bl r ns.length ss n q = match sGet ss n with
  | none => false
  | some s => q.isEmpty || decide (s.act &&& upperTo bl (rtHas r.perms q) ns.length ≠ 0)) := rfl
 have HSA : Hid (∀ s, sGet ss n = some s → s.act < 16777216) := fun s e => ha s (List.mem_of_getElem? e)
 generalize mayP bl r ns.length ss n q = res at *
 generalize upperTo bl (rtHas r.perms q) ns.length = up at *
 clear R h hw ha
 cases ho : sGet ss n with
 | none =>
  rw [ho] at GT HE
  have HE1 : Hid (res = false) := HE.out
  unfold GetTo at GT
  clear HE HSA ho
  dsimp only [sval, seZero, Option.getD, Option.isSome] at GT
  go_enter Tryz.func53, Tryz.ntmps53
  go_upto_region 2 with (go_at_call 55; refine GT.out.mono ?_; rintro e w2 ⟨rfl, hb2⟩; have HB2 := Lib.hid hb2; clear hb2)
  have HB3 := Lib.hid (below_then HB2.out (rbox w2 (.cells #[.int .i64 0, .string (bs []), .int .u32 ((0 : Nat) : Int)] 106)) HB2.out.size)
  go_quiet (fail)
  go_wp2
  go_ret
  exact ⟨ret_bool HE1.out.symm, by first | exact HB3.out | exact below_drew HB3.out | exact below_drewN HB3.out _⟩
 | some s =>
  rw [ho] at GT HE
  have hsa := HSA.out s ho
  unfold GetTo at GT
  clear HSA ho
  obtain ⟨xn, xu, xa⟩ := s
  dsimp only [sval, Option.getD, Option.isSome] at GT hsa
  cases q with
  | nil =>
   have HE1 : Hid (res = true) := HE.out
   clear HE
   have hq : ((bs []).toList == []) = true := by rw [Lib.toList_data, list_bs]; rfl
   go_enter Tryz.func53, Tryz.ntmps53
   go_upto_region 2 with (go_at_call 55; refine GT.out.mono ?_; rintro e w2 ⟨rfl, hb2⟩; have HB2 := Lib.hid hb2; clear hb2)
   have HB3 := Lib.hid (below_then HB2.out (rbox w2 (.cells #[.int .i64 xn, .string (bs xu), .int .u32 (xa : Nat)] 106)) HB2.out.size)
   go_quiet (fail)
   go_wp2
   go_ret
   exact ⟨ret_bool HE1.out.symm, by first | exact HB3.out | exact below_drew HB3.out | exact below_drewN HB3.out _⟩
  | cons a q =>
   have HE1 : Hid (decide (xa &&& up ≠ 0) = res) := by show _ = _; rw [HE.out]; simp
   clear HE
   have hq : ((bs (a :: q)).toList == []) = false := by rw [Lib.toList_data, list_bs]; rfl
   have hand := and_val32 xa up hsa hup
   generalize hz : xa &&& up = z at *
   have hz0 : (((z : Nat) : Int) != 0) = decide (z ≠ 0) := by
    by_cases e : z = 0
    ·subst e; rfl
    ·rw [decide_eq_true e]; simpa using e
   rw [HE1.out] at hz0
   clear hz HE1
   generalize bs (a :: q) = bq at *
   go_enter Tryz.func53, Tryz.ntmps53
   go_upto_region 2 with (go_at_call 55; refine GT.out.mono ?_; rintro e w2 ⟨rfl, hb2⟩; have HB2 := Lib.hid hb2; clear hb2)
   have HX := heap_alloc_new w2 (.cells #[.int .i64 xn, .string (bs xu), .int .u32 (xa : Nat)] 106)
   have HB3 := Lib.hid (below_then HB2.out (rbox w2 (.cells #[.int .i64 xn, .string (bs xu), .int .u32 (xa : Nat)] 106)) HB2.out.size)
   have hlx : w2.heap.size < (w2.alloc (.cells #[.int .i64 xn, .string (bs xu), .int .u32 (xa : Nat)] 106)).heap.size := by simp
   generalize w2.alloc (.cells #[.int .i64 xn, .string (bs xu), .int .u32 (xa : Nat)] 106) = w3 at *
   have x2 := tq2 HX
   have G3 : Hid (∀ W, Below w3.heap.size w3 W → Calls Tryz.prog 66 #[.pointer (some ⟨rb, 0, none⟩), .string bq] W fun e w' => e = .returned (.int .u32 (up : Nat)) ∧ Below W.heap.size W w') := fun W hW => GV.out W (below_then HB3.out hW HB3.out.size)
   clear GV HX GT
   go_region_with (go_at_call 66; refine (G3.out _ (by first | exact Below.refl _ _ | exact below_drew (Below.refl _ _))).mono ?_; rintro e W2 ⟨rfl, hb2'⟩; have hb2 : Below w3.heap.size w3 W2 := (by first | exact hb2' | exact below_then (below_drew (Below.refl _ _)) hb2' (Nat.le_refl _)); have s2 := (hb2.cell (p := ⟨w2.heap.size, 2, none⟩) hlx).trans x2)
   all_goals
    go_wp2
    go_ret
    have HB5 := below_then HB3.out hb2 HB3.out.size
    exact ⟨rfl, by first | exact HB5 | exact below_drew HB5⟩
end
theorem secells_set : ∀ (ss : List Se) (k : Nat) (a : Nat) (h : k < ss.length), (secells ss).set (k * 3 + 2) (.int .u32 (a : Nat)) = secells (ss.set k { ss[k] with act := a })
 | x :: r, 0, a, _ => rfl
 | x :: r, k + 1, a, h => by
  show (scell x ++ secells r).set ((k + 1) * 3 + 2) _ = scell x ++ secells (r.set k _)
  rw [List.set_append_right _ _ (by show 3 ≤ _; omega), show (k + 1) * 3 + 2 - (scell x).length = k * 3 + 2 by show (k + 1) * 3 + 2 - 3 = _; omega, secells_set r k a (by simpa using h)]
  rfl
def actB (dyn : List (Int × Nat)) (held : Nat) (act bit : Nat) : Int := if bit = 0 then 3 else if act &&& bit ≠ 0 then 4 else if held &&& bit = 0 then 8 else if 0 ≤ fstI (act ||| bit) dyn then 7 else 0
def actE (ns : List Tx) (bl : List Nat) (r : Rt) (gs : List Gr) (ss : List Se) (n : Int) (x : Tx) : Int := match sGet ss n with
 | none => 3
 | some s => actB r.dyn (holdsP ns bl r gs s.user) s.act (oneP ns x)
def sPut (ss : List Se) (n : Int) (f : Se → Nat) : List Se := match sGet ss n with
 | none => ss
 | some s => ss.set (sAt ss n) { s with act := f s }
def ActTo (k : Int) (ss' : List Se) (w0 : World) (b : Nat) (v : Value) (last : Int) (e : Ending) (w' : World) : Prop :=
 if k = 0 then e = .returned .nilIface ∧ SeTo w0 b v ss' last w' else e = .returned (.iface 39 (.int .i64 k)) ∧ Below w0.heap.size w0 w'
theorem actTo_no {k j : Int} {ss' : List Se} {w w' : World} {b : Nat} {v : Value} {last : Int} (hk : k = j) (hj : j ≠ 0) (hb : Below w.heap.size w w') : ActTo k ss' w b v last (.returned (.iface 39 (.int .i64 j))) w' := by subst hk; unfold ActTo; rw [if_neg hj]; exact ⟨rfl, hb⟩
theorem actTo_ok {k : Int} {ss' : List Se} {w w' : World} {b : Nat} {v : Value} {last : Int} (hk : k = 0) (h : SeTo w b v ss' last w') : ActTo k ss' w b v last (.returned .nilIface) w' := by subst hk; unfold ActTo; rw [if_pos rfl]; exact ⟨rfl, h⟩
theorem seM_set2 {w wa : World} {b g n c k a : Nat} {ss : List Se} {last : Int} (h : SeM w b (.slice (some ⟨g, 0, none⟩) n c) ss last) (hb : Below w.heap.size w wa) (hk : k < ss.length) :
  SeM (wa.setCell ⟨g, k * 3 + 2, none⟩ (.int .u32 (a : Nat))) b (.slice (some ⟨g, 0, none⟩) n c) (ss.set k { ss[k] with act := a }) last ∧ Chg (gOwn b (.slice (some ⟨g, 0, none⟩) n c)) w (wa.setCell ⟨g, k * 3 + 2, none⟩ (.int .u32 (a : Nat))) := by
 obtain rfl : n = ss.length := by
  rcases h.own.2 with ⟨h0, _⟩ | ⟨g', cap, cur, e1, _⟩
  ·cases h0
  ·injection e1
 have ha := h.below hb
 have hg := grown_setCell wa g (k * 3 + 2) (.int .u32 (a : Nat))
 have hne : g ≠ b := fun e => ha.ne (by rw [← e]; rfl)
 refine ⟨⟨(hg.block b ha.lt (fun e => hne (by injection e with e; exact e.symm))).trans ha.row, ?_⟩, (Chg.of_below hb).trans (Chg.of_grown hg fun _ e => .inr e)⟩
 have ho := own_setS (o := k * 3 + 2) (v := .int .u32 (a : Nat)) ha.own
 rw [secells_set ss k a hk] at ho
 show World.ownsRow _ _ _ _ _ _ _
 rw [List.length_set]
 exact ho
theorem seM_set {w wa : World} {b g c k a : Nat} {ss : List Se} {last : Int} (h : SeM w b (.slice (some ⟨g, 0, none⟩) ss.length c) ss last) (hb : Below w.heap.size w wa) (hk : k < ss.length) :
  SeTo w b (.slice (some ⟨g, 0, none⟩) ss.length c) (ss.set k { ss[k] with act := a }) last (wa.setCell ⟨g, k * 3 + 2, none⟩ (.int .u32 (a : Nat))) :=
 have h2 := seM_set2 (a := a) h hb hk
 ⟨_, h2.1, h2.2, fun _ e => .inl e⟩
theorem ne0_dec (z : Nat) : (((z : Nat) : Int) != 0) = decide (z ≠ 0) := by
 by_cases e : z = 0
 ·subst e; rfl
 ·rw [decide_eq_true e]; simpa using e
theorem eq0_dec (z : Nat) : (((z : Nat) : Int) == 0) = decide (z = 0) := by
 by_cases e : z = 0
 ·subst e; rfl
 ·rw [decide_eq_false e]; simpa using e
section
variable {w4 : World} {rb o : Nat} {ns : List Tx} {bl : List Nat} {r : Rt} (R : RtS w4 rb o ns bl r) {b bg : Nat} {v vg : Value} {ss : List Se} {gs : List Gr} {last lg : Int} {w : World}
set_option maxHeartbeats 8000000 in
include R in
theorem Activate_any (h : SeM w b v ss last) (hG : GrM w bg vg gs lg) (hw : Below w4.heap.size w4 w) (hl : ss.length ≤ 1000) (hgl : gs.length ≤ 1000) (ha : ∀ s ∈ ss, s.act < 16777216) (n : Int) (x : Tx) :
  Calls Tryz.prog 51 #[.pointer (some ⟨b, 0, none⟩), .pointer (some ⟨rb, 0, none⟩), .pointer (some ⟨bg, 0, none⟩), .int .i64 n, .string (bs x)] w (ActTo (actE ns bl r gs ss n x) (sPut ss n fun s => s.act ||| oneP ns x) w b v last) := by
 have FI := Lib.hid (sfind_any h hl n)
 have OR : Hid (∀ W, Below w.heap.size w W → Calls Tryz.prog 41 #[.pointer (some ⟨rb, 0, none⟩)] W fun e w' => e = .returned (.pointer (some ⟨o, 0, none⟩)) ∧ W = w') := fun W hW => R.B.OR W (below_then hw hW hw.size)
 have ON : Hid (∀ W, Below w.heap.size w W → Calls Tryz.prog 118 #[.pointer (some ⟨o, 0, none⟩), .string (bs x)] W fun e w' => e = .returned (.int .u32 (oneP ns x : Nat)) ∧ W = w') := fun W hW => oneS_any R.B x W (below_then hw hW hw.size)
 have HO : Hid (∀ u W, Below w.heap.size w W → Calls Tryz.prog 31 #[.pointer (some ⟨bg, 0, none⟩), .pointer (some ⟨rb, 0, none⟩), .string (bs u)] W (HolTo (holdsP ns bl r gs u) W)) := fun u W hW => Holds_any R.B (hG.below hW) (below_then hw hW hw.size) hgl u
 have DY : Hid (∀ W, Below w.heap.size w W → Calls Tryz.prog 64 #[.pointer (some ⟨rb, 0, none⟩)] W (DsTo r.dyn W)) := fun W hW => R.DY W (below_then hw hW hw.size)
 have hnd := R.nd8
 have HHL : Hid (∀ u, holdsP ns bl r gs u < 16777216) := fun u => downTo_lo R.B.lo _ _
 have HOL := Lib.hid (oneP_lt R.B.few x)
 have HM := Lib.hid h
 have HE : Hid (actE ns bl r gs ss n x = match sGet ss n with
  | none => 3
  | some s => actB r.dyn (holdsP ns bl r gs s.user) s.act (oneP ns x)) := rfl
 have HP : Hid (∀ s, sGet ss n = some s → (sPut ss n fun s => s.act ||| oneP ns x) = ss.set (sAt ss n) { s with act := s.act ||| oneP ns x }) := fun s e => by show _ = _; unfold sPut; rw [e]
 generalize actE ns bl r gs ss n x = kk at *
 generalize (sPut ss n fun s => s.act ||| oneP ns x) = ss' at *
 clear R hw h hG
 unfold HolTo at HO
 by_cases hn : sAt ss n < ss.length
 ·have hg9 := sGet_pos hn
  rw [hg9] at HE
  have HE1 : Hid (kk = actB r.dyn (holdsP ns bl r gs ss[sAt ss n].user) ss[sAt ss n].act (oneP ns x)) := HE.out
  have HP1 := Lib.hid (HP.out _ hg9)
  rw [sIx_pos hn] at FI
  clear HE HP hg9
  have hsa := ha _ (List.getElem_mem hn)
  clear ha
  generalize sAt ss n = k at *
  have hhu := HHL.out ss[k].user
  have HOu := Lib.hid (HO.out ss[k].user)
  have hor := or_val32 _ _ hsa HOL.out
  have HORL := Lib.hid (or_lo hsa HOL.out)
  have hand := and_val32 _ _ hsa HOL.out
  have hhd := and_val32 _ _ hhu HOL.out
  generalize holdsP ns bl r gs ss[k].user = hd at *
  obtain ⟨g, c, hv⟩ : ∃ g c, v = .slice (some ⟨g, 0, none⟩) ss.length c := by
   obtain ⟨A, c, rfl⟩ := own_slice HM.out.own
   obtain ⟨g, cap', e, _⟩ := own_form HM.out.own (by omega)
   exact ⟨g, cap', e⟩
  subst hv
  have hcc := (seAt_of HM.out.own).1
  obtain ⟨g', e', hgl9, hcs⟩ := (seAt_of HM.out.own).2 k hn
  obtain rfl : g' = g := by injection e' with e'; injection e' with e'; exact e'.symm
  have y1 := hcs 1 _ (by omega) rfl
  have y2 := hcs 2 _ (by omega) rfl
  have HST : Hid (∀ wa, Below w.heap.size w wa → SeTo w b (.slice (some ⟨g', 0, none⟩) ss.length c) (ss.set k { ss[k] with act := ss[k].act ||| oneP ns x }) last (wa.setCell ⟨g', k * 3 + 2, none⟩ (.int .u32 (ss[k].act ||| oneP ns x : Nat)))) := fun wa hb => seM_set HM.out hb hn
  rw [← HP1.out] at HST
  have HFZ : Hid (∀ W, Below w.heap.size w W → W.frozen? ⟨g', k * 3 + 2, none⟩ = false) := fun W hW => by
   rcases (HM.out.below hW).own.2 with ⟨h0, _⟩ | ⟨g9, cap, cur, e1, _, hg9, _⟩
   ·cases h0
   ·injection e1 with ea
    injection ea with ea
    injection ea with ea
    subst ea
    simp [World.frozen?, hg9]
  have HY : Hid (∀ W, Below w.heap.size w W → W.cell? ⟨g', k * 3 + 1, none⟩ = some (.string (bs ss[k].user)) ∧ W.cell? ⟨g', k * 3 + 2, none⟩ = some (.int .u32 (ss[k].act : Nat))) := fun W hW => ⟨(hW.cell (p := ⟨g', k * 3 + 1, none⟩) hgl9).trans y1, (hW.cell (p := ⟨g', k * 3 + 2, none⟩) hgl9).trans y2⟩
  have AP : Hid (∀ A9 c9 W, StAt W A9 c9 r.dyn → Calls Tryz.prog 37 #[.int .u32 (ss[k].act ||| oneP ns x : Nat), .slice A9 r.dyn.length c9] W fun e w' => e = .returned (.bool (decide (fstI (ss[k].act ||| oneP ns x) r.dyn < 0))) ∧ Below W.heap.size W w') := fun A9 c9 W hS => Apart_any (ss[k].act ||| oneP ns x) r.dyn A9 c9 W (by have := HORL.out; omega) hS (by omega)
  clear hcs y1 y2 e' HO HP1 HHL HORL HOL
  generalize hu9 : bs ss[k].user = ub at *
  clear hu9
  generalize ss[k].act = act at *
  generalize oneP ns x = bit at *
  have hk0 : ¬ ((k : Nat) : Int) < 0 := by omega
  have hki : ((k : Nat) : Int) < ss.length := by omega
  have hand0 := ne0_dec (act &&& bit)
  have hhd0 := eq0_dec (hd &&& bit)
  have hbit0 := eq0_dec bit
  have HE2 : Hid (kk = if bit = 0 then 3 else if act &&& bit ≠ 0 then 4 else if hd &&& bit = 0 then 8 else if 0 ≤ fstI (act ||| bit) r.dyn then 7 else 0) := HE1.out
  clear HE1
  generalize fstI (act ||| bit) r.dyn = fs at *
  generalize act ||| bit = ab at *
  generalize act &&& bit = ab1 at *
  generalize hd &&& bit = ab2 at *
  go_enter Tryz.func51, Tryz.ntmps51
  go_upto_region 2 with (first
   | (go_at_call 115; refine FI.out.mono ?_; rintro e w2 ⟨rfl, hb2⟩; have HB2 := Lib.hid hb2; clear hb2)
   | (go_at_call 41; refine (OR.out _ HB2.out).mono ?_; rintro e w3 ⟨rfl, rfl⟩)
   | (go_at_call 118; refine (ON.out _ HB2.out).mono ?_; rintro e w3 ⟨rfl, rfl⟩))
  have p0 := (HM.out.below HB2.out).q0
  have y1 := (HY.out w2 HB2.out).1
  have y2 := (HY.out w2 HB2.out).2
  clear FI
  by_cases d0 : bit = 0
  ·have HK : Hid (kk = 3) := by show _ = _; rw [HE2.out, if_pos d0]
   rw [decide_eq_true d0] at hbit0
   clear d0 HE2
   go_wp2
   go_ret
   exact actTo_no HK.out (by decide) HB2.out
  ·have HE3 : Hid (kk = if ab1 ≠ 0 then 4 else if ab2 = 0 then 8 else if 0 ≤ fs then 7 else 0) := by show _ = _; rw [HE2.out, if_neg d0]
   rw [decide_eq_false d0] at hbit0
   clear d0 HE2
   by_cases d1 : ab1 ≠ 0
   ·have HK : Hid (kk = 4) := by show _ = _; rw [HE3.out, if_pos d1]
    rw [decide_eq_true d1] at hand0
    clear d1 HE3
    go_wp2
    go_ret
    exact actTo_no HK.out (by decide) HB2.out
   ·have HE4 : Hid (kk = if ab2 = 0 then 8 else if 0 ≤ fs then 7 else 0) := by show _ = _; rw [HE3.out, if_neg d1]
    rw [decide_eq_false d1] at hand0
    clear d1 HE3
    have HO2 := Lib.hid (HOu.out w2 HB2.out)
    by_cases d2 : ab2 = 0
    ·have HK : Hid (kk = 8) := by show _ = _; rw [HE4.out, if_pos d2]
     rw [decide_eq_true d2] at hhd0
     clear d2 HE4
     go_wp2_with (go_at_call 31; refine HO2.out.mono ?_; rintro e w5 ⟨rfl, hb5⟩; have HB5 := Lib.hid (below_then HB2.out hb5 HB2.out.size); clear hb5)
     go_ret
     exact actTo_no HK.out (by decide) HB5.out
    ·have HE5 : Hid (kk = if 0 ≤ fs then 7 else 0) := by show _ = _; rw [HE4.out, if_neg d2]
     rw [decide_eq_false d2] at hhd0
     clear d2 HE4
     go_upto_region 9 with (go_at_call 31; refine HO2.out.mono ?_; rintro e w5 ⟨rfl, hb5⟩; have HB5 := Lib.hid (below_then HB2.out hb5 HB2.out.size); clear hb5)
     have z2 := (HY.out w5 HB5.out).2
     have hgl5 : g' < w5.heap.size := Nat.lt_of_lt_of_le hgl9 HB5.out.size
     have DY5 : Hid (∀ W, Below w5.heap.size w5 W → Calls Tryz.prog 64 #[.pointer (some ⟨rb, 0, none⟩)] W (DsTo r.dyn W)) := fun W hW => DY.out W (below_then HB5.out hW HB5.out.size)
     clear DY p0 y1 y2 HO2 HOu
     by_cases d3 : 0 ≤ fs
     ·have HK : Hid (kk = 7) := by show _ = _; rw [HE5.out, if_pos d3]
      rw [decide_eq_false (by omega : ¬ fs < 0)] at AP
      clear d3 HE5
      go_region_held3 (fun w' => w'.cell? ⟨g', k * 3 + 2, none⟩ = some (.int .u32 (act : Nat)))
       (first | exact z2 | exact (HB10.out.cell (p := ⟨g', k * 3 + 2, none⟩) hgl5).trans z2 | exact (HB9.out.cell (p := ⟨g', k * 3 + 2, none⟩) hgl5).trans z2 | go_keep)
       (first
       | (go_at_call 64; refine (DY5.out _ (by first | exact Below.refl _ _ | exact below_drew (Below.refl _ _))).mono ?_; rintro e W3 ⟨A3, c3, rfl, hs3, hb3'⟩; have HS3 := Lib.hid hs3; have HB9 : Hid (Below w5.heap.size w5 W3) := (by first | exact hb3' | exact below_then (below_drew (Below.refl _ _)) hb3' (Nat.le_refl _)); clear hs3)
       | (go_at_call 37; refine (AP.out _ _ _ HS3.out).mono ?_; rintro e W4 ⟨rfl, hb4'⟩; have HB10 := Lib.hid (below_then HB9.out hb4' HB9.out.size)))
      go_wp2
      go_ret
      exact actTo_no HK.out (by decide) (below_then HB5.out (by first | exact HB10.out | exact below_drew HB10.out) HB5.out.size)
     ·have HK : Hid (kk = 0) := by show _ = _; rw [HE5.out, if_neg d3]
      rw [decide_eq_true (by omega : fs < 0)] at AP
      clear d3 HE5
      go_region_held3 (fun w' => w'.cell? ⟨g', k * 3 + 2, none⟩ = some (.int .u32 (act : Nat)))
       (first | exact z2 | exact (HB10.out.cell (p := ⟨g', k * 3 + 2, none⟩) hgl5).trans z2 | exact (HB9.out.cell (p := ⟨g', k * 3 + 2, none⟩) hgl5).trans z2 | go_keep)
       (first
       | (go_at_call 64; refine (DY5.out _ (by first | exact Below.refl _ _ | exact below_drew (Below.refl _ _))).mono ?_; rintro e W3 ⟨A3, c3, rfl, hs3, hb3'⟩; have HS3 := Lib.hid hs3; have HB9 : Hid (Below w5.heap.size w5 W3) := (by first | exact hb3' | exact below_then (below_drew (Below.refl _ _)) hb3' (Nat.le_refl _)); clear hs3)
       | (go_at_call 37; refine (AP.out _ _ _ HS3.out).mono ?_; rintro e W4 ⟨rfl, hb4'⟩; have HB10 := Lib.hid (below_then HB9.out hb4' HB9.out.size)))
      have HB11 : Hid (Below w.heap.size w W4) := below_then HB5.out HB10.out HB5.out.size
      have t2 := (HY.out W4 HB11.out).2
      have f2 := HFZ.out W4 HB11.out
      have t2d : W4.drew.cell? ⟨g', k * 3 + 2, none⟩ = some (.int .u32 (act : Nat)) := t2
      have f2d : W4.drew.frozen? ⟨g', k * 3 + 2, none⟩ = false := f2
      go_wp2
      go_ret
      exact actTo_ok HK.out (by first | exact HST.out _ HB11.out | exact HST.out _ (below_drew HB11.out))
 ·have hg9 := sGet_neg hn
  rw [hg9] at HE
  have HK : Hid (kk = 3) := HE.out
  rw [sIx_neg hn] at FI
  clear HE HP hg9 HO DY ha
  go_enter Tryz.func51, Tryz.ntmps51
  go_wp2_with (first
   | (go_at_call 115; refine FI.out.mono ?_; rintro e w2 ⟨rfl, hb2⟩; have HB2 := Lib.hid hb2; clear hb2)
   | (go_at_call 41; refine (OR.out _ HB2.out).mono ?_; rintro e w3 ⟨rfl, rfl⟩)
   | (go_at_call 118; refine (ON.out _ HB2.out).mono ?_; rintro e w3 ⟨rfl, rfl⟩))
  go_ret
  exact actTo_no HK.out (by decide) HB2.out
end
end Go.Proofs.YtgffbgmieppckaaGreatDoor
