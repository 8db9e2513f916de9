import Derived.Test.YtkalfhhdljndfaaGreatDoorGr8
namespace Go.Proofs.YtkalfhhdljndfaaGreatDoor
set_option maxRecDepth 100000
open Go.ChangeShapes Go.WideShapes Go.ChangeAt Go.RowKit
theorem Tryz.infoIntG : (Tryz.prog.info? 3).map (fun i => (i.zero, i.size, i.bytes)) = some (some (.int .i64 0), 1, 8) := by kernel_rfl
theorem kat_of {w : World} {base c : Nat} {A : Option Addr} {l : List Int} (h : OwnN w base (.slice A l.length c) l) : KAt w A l := fun j hj => by
 obtain ⟨g, cap', e, _, hl, _, hc⟩ := own_form h (by omega)
 have eA : A = some ⟨g, 0, none⟩ := by injection e
 exact ⟨g, eA, hl, by have := hc j (.int .i64 l[j]) (by simp [List.getElem?_eq_getElem hj]); simpa using this⟩
theorem own_mono0 {w : World} {base e s n : Nat} {v : Value} {xs : List Value} (h : w.ownsRow base e s v n xs) : w.ownsRow 0 e s v n xs := by
 obtain ⟨h1, h2 | ⟨g, cap, cur, e1, _, r⟩⟩ := h
 ·exact ⟨h1, .inl h2⟩
 ·exact ⟨h1, .inr ⟨g, cap, cur, e1, Nat.zero_le _, r⟩⟩
theorem grTo_then {w w1 w' : World} {b : Nat} {v : Value} {gs : List Gr} {last : Int} (hb : Below w.heap.size w w1) (h : GrTo w1 b v gs last w') : GrTo w b v gs last w' := by
 obtain ⟨v', h1, h2, h3⟩ := h
 exact ⟨v', h1, (Chg.of_below hb).trans h2, fun k e => (h3 k e).imp id fun h => Nat.le_trans hb.size h⟩
theorem own_baseG {w : World} {b1 b2 e s n : Nat} {v : Value} {xs : List Value} (h : w.ownsRow b1 e s v n xs) (hb : b2 ≤ b1) : w.ownsRow b2 e s v n xs := by
 obtain ⟨h1, h2 | ⟨g, cap, cur, e1, h3, r⟩⟩ := h
 ·exact ⟨h1, .inl h2⟩
 ·exact ⟨h1, .inr ⟨g, cap, cur, e1, Nat.le_trans hb h3, r⟩⟩
theorem clo_rev (g : Gr) (n : Int) (bn : Nat) (w : World) (hb : bn < w.heap.size) (hc : w.cell? ⟨bn, 0, none⟩ = some (.int .i64 n)) :
  Calls Tryz.prog 87 #[gval g, .pointer (some ⟨bn, 0, none⟩)] w fun e w' => e = .returned (.bool (g.num == n)) ∧ Below w.heap.size w w' := by
 obtain ⟨xn, xf, xt, xr, xu, xd, xw⟩ := g
 have HX := heap_alloc_new w (gO xn (bs xf) (bs xt) (bs xr) xu xd xw)
 have HB := Lib.hid (rbox w (gO xn (bs xf) (bs xt) (bs xr) xu xd xw))
 have y1 := (HB.out.cell (p := ⟨bn, 0, none⟩) hb).trans hc
 have x0 := gq0 HX; have x4 := gq4 HX
 clear HX hc
 dsimp only [gval]
 go_enter Tryz.func87, Tryz.ntmps87
 go_upto_region 1 with fail
 generalize w.alloc (gO xn (bs xf) (bs xt) (bs xr) xu xd xw) = w1 at *
 go_wp2
 go_ret
 exact ⟨rfl, HB.out⟩
theorem clo_exp (g : Gr) (n : Int) (bn : Nat) (w : World) (hb : bn < w.heap.size) (hc : w.cell? ⟨bn, 0, none⟩ = some (.int .i64 n)) :
  Calls Tryz.prog 88 #[gval g, .pointer (some ⟨bn, 0, none⟩)] w fun e w' => e = .returned (.bool (decide (g.til ≤ n))) ∧ Below w.heap.size w w' := by
 obtain ⟨xn, xf, xt, xr, xu, xd, xw⟩ := g
 have HX := heap_alloc_new w (gO xn (bs xf) (bs xt) (bs xr) xu xd xw)
 have HB := Lib.hid (rbox w (gO xn (bs xf) (bs xt) (bs xr) xu xd xw))
 have y1 := (HB.out.cell (p := ⟨bn, 0, none⟩) hb).trans hc
 have x0 := gq0 HX; have x4 := gq4 HX
 clear HX hc
 dsimp only [gval]
 go_enter Tryz.func88, Tryz.ntmps88
 go_upto_region 1 with fail
 generalize w.alloc (gO xn (bs xf) (bs xt) (bs xr) xu xd xw) = w1 at *
 go_wp2
 go_ret
 exact ⟨rfl, HB.out⟩
section
variable {b : Nat} {v : Value} {gs : List Gr} {last : Int} {w : World}
set_option maxHeartbeats 8000000 in
theorem rem_rev (h : GrM w b v gs last) (hl : gs.length ≤ 1000) (n : Int) (bn : Nat) (hbn : bn < w.heap.size) (hc : w.cell? ⟨bn, 0, none⟩ = some (.int .i64 n)) :
  Calls Tryz.prog 86 #[.pointer (some ⟨b, 0, none⟩), .func (.func 87) #[] #[.pointer (some ⟨bn, 0, none⟩)]] w (RemTo (remP (fun g => g.num == n) gs) w b v last) := by
 obtain ⟨A, c, rfl⟩ := own_slice h.own
 have HM := Lib.hid h
 have HG := Lib.hid (gAt_of h.own)
 have hcc := HG.out.1
 have q0 := h.q0
 have CLO := Lib.hid (fun W (hW : Below w.heap.size w W) (g : Gr) => clo_rev g n bn W (Nat.lt_of_lt_of_le hbn hW.size) ((hW.cell (p := ⟨bn, 0, none⟩) hbn).trans hc))
 have HRP : Hid (∀ p, List.foldl (remStep fun g => g.num == n) ([], []) gs = p → remP (fun g => g.num == n) gs = p) := fun p e => e
 obtain ⟨i0, hi, hz0, hz1, hz2⟩ := info_parts Tryz.infoGrant
 obtain ⟨i1, ii, iz0, iz1, iz2⟩ := info_parts Tryz.infoIntG
 clear h hc hbn
 generalize hov : (fun g : Gr => g.num == n) = ov at *
 have HOV := Lib.hid hov
 clear hov
 go_enter Tryz.func86, Tryz.ntmps86
 go_upto_region 4 with fail
 go_loopw [5, 6, 14] (fun sl sg i wr => ∃ (k : Nat) (LL : List Gr) (GG : List Int) (AL : Option Addr) (cL : Nat) (AG : Option Addr) (cG : Nat), k ≤ gs.length ∧ sl = .slice AL LL.length cL ∧ sg = .slice AG GG.length cG ∧ i = .int .i64 k ∧ Hid (List.foldl (remStep ov) ([], []) gs = List.foldl (remStep ov) (LL, GG) (gs.drop k)) ∧ Hid (OwnG wr w.heap.size (.slice AL LL.length cL) LL) ∧ Hid (OwnN wr w.heap.size (.slice AG GG.length cG) GG) ∧ Hid (Below w.heap.size w wr) ∧ Hid (LL.length + GG.length = k)) (fun _ _ i _ => gs.length - (intOf i).toNat)
 case atStart => exact ⟨0, [], [], none, 0, none, 0, Nat.zero_le _, rfl, rfl, rfl, rfl, World.ownsRow_nil _ _ _ _, World.ownsRow_nil _ _ _ _, Below.refl _ _, rfl⟩
 case round =>
  obtain ⟨k, LL, GG, AL, cL, AG, cG, hk, rfl, rfl, rfl, HI, HL, HN, HB, HLG⟩ := hrel
  have hbz := HB.out.size
  by_cases hlt : k < gs.length
  ·have hli : (k : Int) < gs.length := by omega
   obtain ⟨g, rfl, hgl, hcs⟩ := (HG.out.below HB.out).2 k hlt
   have q0 := hcs 0 _ (by omega) rfl; have q1 := hcs 1 _ (by omega) rfl; have q2 := hcs 2 _ (by omega) rfl; have q3 := hcs 3 _ (by omega) rfl; have q4 := hcs 4 _ (by omega) rfl; have q5 := hcs 5 _ (by omega) rfl; have q6 := hcs 6 _ (by omega) rfl
   simp only [Nat.add_zero] at q0
   have hI := HI.out
   rw [List.drop_eq_getElem_cons hlt, List.foldl_cons] at hI
   clear hcs HI
   generalize gs[k] = x at *
   obtain ⟨xn, xf, xt, xr, xu, xd, xw⟩ := x
   simp only at q0 q1 q2 q3 q4 q5 q6
   have HX := Lib.hid (heap_alloc_new wr (gO xn (bs xf) (bs xt) (bs xr) xu xd xw))
   have HBX := Lib.hid (rbox wr (gO xn (bs xf) (bs xt) (bs xr) xu xd xw))
   go_upto_region 6 with fail
   have hlx : wr.heap.size < (wr.alloc (gO xn (bs xf) (bs xt) (bs xr) xu xd xw)).heap.size := by simp
   generalize wr.alloc (gO xn (bs xf) (bs xt) (bs xr) xu xd xw) = w2 at *
   have HB2 := Lib.hid (below_then HB.out HBX.out (by omega))
   have HL2 : Hid (OwnG w2 w.heap.size (.slice AL LL.length cL) LL) := own_below HL.out HBX.out (by omega)
   have HN2 : Hid (OwnN w2 w.heap.size (.slice AG GG.length cG) GG) := own_below HN.out HBX.out (by omega)
   generalize wr.heap.size = gx at *
   have CL2 := Lib.hid (CLO.out w2 HB2.out ⟨xn, xf, xt, xr, xu, xd, xw⟩)
   obtain ⟨x0, x1, x2, x3, x4, x5, x6⟩ := gqs0 HX.out
   have hst : remStep ov (LL, GG) ⟨xn, xf, xt, xr, xu, xd, xw⟩ = if (ov ⟨xn, xf, xt, xr, xu, xd, xw⟩ || decide (xw ∈ GG)) = true then (LL, GG ++ [xn]) else (LL ++ [⟨xn, xf, xt, xr, xu, xd, xw⟩], GG) := rfl
   rw [hst] at hI
   have hov2 : ov ⟨xn, xf, xt, xr, xu, xd, xw⟩ = (xn == n) := by rw [← HOV.out]
   rw [hov2] at hI
   have HII := Lib.hid hI
   clear q0 q1 q2 q3 q4 q5 q6 hst hov2 hI HL HN HB
   dsimp only [gval] at CL2
   have hll : LL.length ≤ 1000 := by have := HLG.out; omega
   have hgl2 : GG.length ≤ 1000 := by have := HLG.out; omega
   generalize (xn == n) = q at *
   cases q with
   | true =>
     have HS2 := Lib.hid HII.out
     rw [Bool.true_or, if_pos rfl] at HS2
     go_upto_region 7 with (go_at_call 87; refine CL2.out.mono ?_; rintro e w3 ⟨rfl, hb3⟩; have HB3 := Lib.hid hb3; clear hb3)
     have HB4 := Lib.hid (below_then HB2.out HB3.out HB2.out.size)
     have hz4 := HB4.out.size
     have HL3 : Hid (OwnG w3 w.heap.size (.slice AL LL.length cL) LL) := own_below HL2.out HB3.out HB2.out.size
     have HN3 : Hid (OwnN w3 w.heap.size (.slice AG GG.length cG) GG) := own_below HN2.out HB3.out HB2.out.size
     have hX3 := (HB3.out.block _ hlx).trans HX.out
     clear x0 x1 x2 x3 x4 x5 x6
     have x0 := gq0 hX3
     have HX3 := Lib.hid hX3
     clear hX3 HII
     go_wp2_with (at_builtin; go_must (refine wpList_append_own _ rfl (.tmp 27) (.tmp 30) 22 rfl w.heap.size 3 i1 _ 1 8 Tryz.underlying22 ii iz0 iz1 iz2 rfl (by decide) _ GG.length (GG.map fun n => Value.int .i64 n) rfl (HN3.out.alloc _) ⟨w3.heap.size, 0, none⟩ 1 1 [.int .i64 xn] rfl rfl (cells_new _ _ _) (by intro u hu; simp at hu; subst hu; rfl) (by unfold maxLen; omega) (by omega) (by simp; omega) ?_); intro v' w5 hown' hg' _; obtain ⟨A5, c5, rfl⟩ := own_slice hown')
     have HN5 : Hid (OwnN w5 w.heap.size (.slice A5 (GG.length + 1) c5) (GG ++ [xn])) := by
      show World.ownsRow _ _ _ _ _ _ _
      rw [List.length_append, List.map_append]
      exact hown'
     have HL5 : Hid (OwnG w5 w.heap.size (.slice AL LL.length cL) LL) := World.ownsRow.kept (World.ownsRow.alloc HL3.out _) hg' (rt_rows HL3.out HN3.out (by decide))
     have HB5 : Hid (Below w.heap.size w w5) := (HB4.out.alloc HB4.out.size _).grown hg' (Nat.le_trans HB4.out.size (by simp)) (fun j e => (HN3.out.lt j e).1)
     clear hown' hg'
     go_roundw
     case rel => exact ⟨k + 1, LL, GG ++ [xn], AL, cL, A5, c5, by omega, rfl, by rw [List.length_append]; rfl, by go_num, HS2, HL5, by rw [List.length_append]; exact HN5, HB5, by show _ = _; have := HLG.out; rw [List.length_append]; simp; omega⟩
     case measure => simp [intOf]; omega
   | false =>
     rw [Bool.false_or] at HII
     have CN : Hid (∀ W, Below w2.heap.size w2 W → Calls Tryz.prog 113 #[.slice AG GG.length cG, .int .i64 xw] W fun e w' => e = .returned (.bool (decide (xw ∈ GG))) ∧ W = w') := fun W hW => Contains_any GG xw AG cG W (kat_of (own_below HN2.out hW HB2.out.size)) (by omega) (own_cap (own_below HN2.out hW HB2.out.size) |> fun h => by simpa using h)
     cases hq2 : decide (xw ∈ GG) with
     | true =>
      rw [hq2] at CN
      rw [hq2, if_pos rfl] at HII
      have HS2 := HII
      clear hq2
      go_upto_region 7 with (first
       | (go_at_call 87; refine CL2.out.mono ?_; rintro e w3 ⟨rfl, hb3⟩; have HB3 := Lib.hid hb3; have hX3 := (HB3.out.block _ hlx).trans HX.out; have x6' := gq6 hX3; clear hb3)
       | (go_at_call 113; refine (CN.out _ HB3.out).mono ?_; rintro e w9 ⟨rfl, rfl⟩))
      have HB4 := Lib.hid (below_then HB2.out HB3.out HB2.out.size)
      have hz4 := HB4.out.size
      have HL3 : Hid (OwnG w3 w.heap.size (.slice AL LL.length cL) LL) := own_below HL2.out HB3.out HB2.out.size
      have HN3 : Hid (OwnN w3 w.heap.size (.slice AG GG.length cG) GG) := own_below HN2.out HB3.out HB2.out.size
      clear x0 x1 x2 x3 x4 x5 x6 x6' CN
      have x0 := gq0 hX3
      have HX3 := Lib.hid hX3
      clear hX3
      go_wp2_with (at_builtin; go_must (refine wpList_append_own _ rfl (.tmp 27) (.tmp 30) 22 rfl w.heap.size 3 i1 _ 1 8 Tryz.underlying22 ii iz0 iz1 iz2 rfl (by decide) _ GG.length (GG.map fun n => Value.int .i64 n) rfl (HN3.out.alloc _) ⟨w3.heap.size, 0, none⟩ 1 1 [.int .i64 xn] rfl rfl (cells_new _ _ _) (by intro u hu; simp at hu; subst hu; rfl) (by unfold maxLen; omega) (by omega) (by simp; omega) ?_); intro v' w5 hown' hg' _; obtain ⟨A5, c5, rfl⟩ := own_slice hown')
      have HN5 : Hid (OwnN w5 w.heap.size (.slice A5 (GG.length + 1) c5) (GG ++ [xn])) := by
       show World.ownsRow _ _ _ _ _ _ _
       rw [List.length_append, List.map_append]
       exact hown'
      have HL5 : Hid (OwnG w5 w.heap.size (.slice AL LL.length cL) LL) := World.ownsRow.kept (World.ownsRow.alloc HL3.out _) hg' (rt_rows HL3.out HN3.out (by decide))
      have HB5 : Hid (Below w.heap.size w w5) := (HB4.out.alloc HB4.out.size _).grown hg' (Nat.le_trans HB4.out.size (by simp)) (fun j e => (HN3.out.lt j e).1)
      clear hown' hg'
      go_roundw
      case rel => exact ⟨k + 1, LL, GG ++ [xn], AL, cL, A5, c5, by omega, rfl, by rw [List.length_append]; rfl, by go_num, HS2, HL5, by rw [List.length_append]; exact HN5, HB5, by show _ = _; have := HLG.out; rw [List.length_append]; simp; omega⟩
      case measure => simp [intOf]; omega
     | false =>
      rw [hq2] at CN
      rw [hq2, if_neg (by simp)] at HII
      have HS2 := HII
      clear hq2
      go_upto_region 8 with (first
       | (go_at_call 87; refine CL2.out.mono ?_; rintro e w3 ⟨rfl, hb3⟩; have HB3 := Lib.hid hb3; have hX3 := (HB3.out.block _ hlx).trans HX.out; have x6' := gq6 hX3; clear hb3)
       | (go_at_call 113; refine (CN.out _ HB3.out).mono ?_; rintro e w9 ⟨rfl, rfl⟩))
      have HB4 := Lib.hid (below_then HB2.out HB3.out HB2.out.size)
      have hz4 := HB4.out.size
      have HL3 : Hid (OwnG w3 w.heap.size (.slice AL LL.length cL) LL) := own_below HL2.out HB3.out HB2.out.size
      have HN3 : Hid (OwnN w3 w.heap.size (.slice AG GG.length cG) GG) := own_below HN2.out HB3.out HB2.out.size
      clear x0 x1 x2 x3 x4 x5 x6 x6' CN
      obtain ⟨x0, x1, x2, x3, x4, x5, x6⟩ := gqs0 hX3
      have HX3 := Lib.hid hX3
      clear hX3
      go_wp2_with (at_builtin; go_must (refine wpList_append_own _ rfl (.tmp 32) (.tmp 34) 65 rfl w.heap.size 68 i0 _ 7 80 Tryz.underlying65 hi hz0 hz1 hz2 rfl (by decide) _ LL.length (gcells LL) rfl (HL3.out.alloc _) ⟨w3.heap.size, 0, none⟩ 1 1 (gcell ⟨xn, xf, xt, xr, xu, xd, xw⟩) rfl rfl (cells_newG w3 (gcell ⟨xn, xf, xt, xr, xu, xd, xw⟩) _) (by have := gcells_one [⟨xn, xf, xt, xr, xu, xd, xw⟩]; rw [gcells_s] at this; exact this) (by unfold maxLen; omega) (by omega) (by simp; omega) ?_); intro v' w5 hown' hg' _; obtain ⟨A5, c5, rfl⟩ := own_slice hown')
      have HL5 : Hid (OwnG w5 w.heap.size (.slice A5 (LL.length + 1) c5) (LL ++ [⟨xn, xf, xt, xr, xu, xd, xw⟩])) := by
       show World.ownsRow _ _ _ _ _ _ _
       rw [List.length_append, gcells_snoc]
       exact hown'
      have HN5 : Hid (OwnN w5 w.heap.size (.slice AG GG.length cG) GG) := World.ownsRow.kept (World.ownsRow.alloc HN3.out _) hg' (rt_rows HN3.out HL3.out (by decide))
      have HB5 : Hid (Below w.heap.size w w5) := (HB4.out.alloc HB4.out.size _).grown hg' (Nat.le_trans HB4.out.size (by simp)) (fun j e => (HL3.out.lt j e).1)
      clear hown' hg'
      go_roundw
      case rel => exact ⟨k + 1, LL ++ [⟨xn, xf, xt, xr, xu, xd, xw⟩], GG, A5, c5, AG, cG, by omega, by rw [List.length_append]; rfl, rfl, by go_num, HS2, by rw [List.length_append]; exact HL5, HN5, HB5, by show _ = _; have := HLG.out; rw [List.length_append]; simp; omega⟩
      case measure => simp [intOf]; omega
  ·have hli : ¬ (k : Int) < gs.length := by omega
   have hI := HI.out
   rw [List.drop_eq_nil_of_le (by omega), List.foldl_nil] at hI
   have HE := Lib.hid (HRP.out _ hI)
   have hM2 := HM.out.below HB.out
   have HM2 := Lib.hid hM2
   have b0 := hM2.q0
   have f0 := hM2.fz 0
   clear hI HI hM2
   go_wp2
   go_ret
   rw [HE.out]
   refine ⟨AG, cG, rfl, ?_, .slice AL LL.length cL, ⟨?_, ?_⟩, ?_, ?_⟩
   ·exact World.ownsRow.kept HN.out (grown_setCell _ _ _ _) (.inr fun e => by have := (HN.out.lt _ e).1; have := HM.out.lt; omega)
   ·simpa using heap_set (j := 0) HM2.out.row (.slice AL LL.length cL)
   ·exact World.ownsRow.kept (own_mono0 HL.out) (grown_setCell _ _ _ _) (.inr fun e => by have := (HL.out.lt _ e).1; have := HM.out.lt; omega)
   ·exact (Chg.of_below HB.out).trans (Chg.of_grown (grown_setCell _ _ _ _) fun k e => by cases e; exact .inl rfl)
   ·exact fun k e => .inr (HL.out.lt k e).1
set_option maxHeartbeats 8000000 in
theorem rem_exp (h : GrM w b v gs last) (hl : gs.length ≤ 1000) (n : Int) (bn : Nat) (hbn : bn < w.heap.size) (hc : w.cell? ⟨bn, 0, none⟩ = some (.int .i64 n)) :
  Calls Tryz.prog 86 #[.pointer (some ⟨b, 0, none⟩), .func (.func 88) #[] #[.pointer (some ⟨bn, 0, none⟩)]] w (RemTo (remP (fun g => decide (g.til ≤ n)) gs) w b v last) := by
 obtain ⟨A, c, rfl⟩ := own_slice h.own
 have HM := Lib.hid h
 have HG := Lib.hid (gAt_of h.own)
 have hcc := HG.out.1
 have q0 := h.q0
 have CLO := Lib.hid (fun W (hW : Below w.heap.size w W) (g : Gr) => clo_exp g n bn W (Nat.lt_of_lt_of_le hbn hW.size) ((hW.cell (p := ⟨bn, 0, none⟩) hbn).trans hc))
 have HRP : Hid (∀ p, List.foldl (remStep fun g => decide (g.til ≤ n)) ([], []) gs = p → remP (fun g => decide (g.til ≤ n)) gs = p) := fun p e => e
 obtain ⟨i0, hi, hz0, hz1, hz2⟩ := info_parts Tryz.infoGrant
 obtain ⟨i1, ii, iz0, iz1, iz2⟩ := info_parts Tryz.infoIntG
 clear h hc hbn
 generalize hov : (fun g : Gr => decide (g.til ≤ n)) = ov at *
 have HOV := Lib.hid hov
 clear hov
 go_enter Tryz.func86, Tryz.ntmps86
 go_upto_region 4 with fail
 go_loopw [5, 6, 14] (fun sl sg i wr => ∃ (k : Nat) (LL : List Gr) (GG : List Int) (AL : Option Addr) (cL : Nat) (AG : Option Addr) (cG : Nat), k ≤ gs.length ∧ sl = .slice AL LL.length cL ∧ sg = .slice AG GG.length cG ∧ i = .int .i64 k ∧ Hid (List.foldl (remStep ov) ([], []) gs = List.foldl (remStep ov) (LL, GG) (gs.drop k)) ∧ Hid (OwnG wr w.heap.size (.slice AL LL.length cL) LL) ∧ Hid (OwnN wr w.heap.size (.slice AG GG.length cG) GG) ∧ Hid (Below w.heap.size w wr) ∧ Hid (LL.length + GG.length = k)) (fun _ _ i _ => gs.length - (intOf i).toNat)
 case atStart => exact ⟨0, [], [], none, 0, none, 0, Nat.zero_le _, rfl, rfl, rfl, rfl, World.ownsRow_nil _ _ _ _, World.ownsRow_nil _ _ _ _, Below.refl _ _, rfl⟩
 case round =>
  obtain ⟨k, LL, GG, AL, cL, AG, cG, hk, rfl, rfl, rfl, HI, HL, HN, HB, HLG⟩ := hrel
  have hbz := HB.out.size
  by_cases hlt : k < gs.length
  ·have hli : (k : Int) < gs.length := by omega
   obtain ⟨g, rfl, hgl, hcs⟩ := (HG.out.below HB.out).2 k hlt
   have q0 := hcs 0 _ (by omega) rfl; have q1 := hcs 1 _ (by omega) rfl; have q2 := hcs 2 _ (by omega) rfl; have q3 := hcs 3 _ (by omega) rfl; have q4 := hcs 4 _ (by omega) rfl; have q5 := hcs 5 _ (by omega) rfl; have q6 := hcs 6 _ (by omega) rfl
   simp only [Nat.add_zero] at q0
   have hI := HI.out
   rw [List.drop_eq_getElem_cons hlt, List.foldl_cons] at hI
   clear hcs HI
   generalize gs[k] = x at *
   obtain ⟨xn, xf, xt, xr, xu, xd, xw⟩ := x
   simp only at q0 q1 q2 q3 q4 q5 q6
   have HX := Lib.hid (heap_alloc_new wr (gO xn (bs xf) (bs xt) (bs xr) xu xd xw))
   have HBX := Lib.hid (rbox wr (gO xn (bs xf) (bs xt) (bs xr) xu xd xw))
   go_upto_region 6 with fail
   have hlx : wr.heap.size < (wr.alloc (gO xn (bs xf) (bs xt) (bs xr) xu xd xw)).heap.size := by simp
   generalize wr.alloc (gO xn (bs xf) (bs xt) (bs xr) xu xd xw) = w2 at *
   have HB2 := Lib.hid (below_then HB.out HBX.out (by omega))
   have HL2 : Hid (OwnG w2 w.heap.size (.slice AL LL.length cL) LL) := own_below HL.out HBX.out (by omega)
   have HN2 : Hid (OwnN w2 w.heap.size (.slice AG GG.length cG) GG) := own_below HN.out HBX.out (by omega)
   generalize wr.heap.size = gx at *
   have CL2 := Lib.hid (CLO.out w2 HB2.out ⟨xn, xf, xt, xr, xu, xd, xw⟩)
   obtain ⟨x0, x1, x2, x3, x4, x5, x6⟩ := gqs0 HX.out
   have hst : remStep ov (LL, GG) ⟨xn, xf, xt, xr, xu, xd, xw⟩ = if (ov ⟨xn, xf, xt, xr, xu, xd, xw⟩ || decide (xw ∈ GG)) = true then (LL, GG ++ [xn]) else (LL ++ [⟨xn, xf, xt, xr, xu, xd, xw⟩], GG) := rfl
   rw [hst] at hI
   have hov2 : ov ⟨xn, xf, xt, xr, xu, xd, xw⟩ = (decide (xu ≤ n)) := by rw [← HOV.out]
   rw [hov2] at hI
   have HII := Lib.hid hI
   clear q0 q1 q2 q3 q4 q5 q6 hst hov2 hI HL HN HB
   dsimp only [gval] at CL2
   have hll : LL.length ≤ 1000 := by have := HLG.out; omega
   have hgl2 : GG.length ≤ 1000 := by have := HLG.out; omega
   generalize (decide (xu ≤ n)) = q at *
   cases q with
   | true =>
     have HS2 := Lib.hid HII.out
     rw [Bool.true_or, if_pos rfl] at HS2
     go_upto_region 7 with (go_at_call 88; refine CL2.out.mono ?_; rintro e w3 ⟨rfl, hb3⟩; have HB3 := Lib.hid hb3; clear hb3)
     have HB4 := Lib.hid (below_then HB2.out HB3.out HB2.out.size)
     have hz4 := HB4.out.size
     have HL3 : Hid (OwnG w3 w.heap.size (.slice AL LL.length cL) LL) := own_below HL2.out HB3.out HB2.out.size
     have HN3 : Hid (OwnN w3 w.heap.size (.slice AG GG.length cG) GG) := own_below HN2.out HB3.out HB2.out.size
     have hX3 := (HB3.out.block _ hlx).trans HX.out
     clear x0 x1 x2 x3 x4 x5 x6
     have x0 := gq0 hX3
     have HX3 := Lib.hid hX3
     clear hX3 HII
     go_wp2_with (at_builtin; go_must (refine wpList_append_own _ rfl (.tmp 27) (.tmp 30) 22 rfl w.heap.size 3 i1 _ 1 8 Tryz.underlying22 ii iz0 iz1 iz2 rfl (by decide) _ GG.length (GG.map fun n => Value.int .i64 n) rfl (HN3.out.alloc _) ⟨w3.heap.size, 0, none⟩ 1 1 [.int .i64 xn] rfl rfl (cells_new _ _ _) (by intro u hu; simp at hu; subst hu; rfl) (by unfold maxLen; omega) (by omega) (by simp; omega) ?_); intro v' w5 hown' hg' _; obtain ⟨A5, c5, rfl⟩ := own_slice hown')
     have HN5 : Hid (OwnN w5 w.heap.size (.slice A5 (GG.length + 1) c5) (GG ++ [xn])) := by
      show World.ownsRow _ _ _ _ _ _ _
      rw [List.length_append, List.map_append]
      exact hown'
     have HL5 : Hid (OwnG w5 w.heap.size (.slice AL LL.length cL) LL) := World.ownsRow.kept (World.ownsRow.alloc HL3.out _) hg' (rt_rows HL3.out HN3.out (by decide))
     have HB5 : Hid (Below w.heap.size w w5) := (HB4.out.alloc HB4.out.size _).grown hg' (Nat.le_trans HB4.out.size (by simp)) (fun j e => (HN3.out.lt j e).1)
     clear hown' hg'
     go_roundw
     case rel => exact ⟨k + 1, LL, GG ++ [xn], AL, cL, A5, c5, by omega, rfl, by rw [List.length_append]; rfl, by go_num, HS2, HL5, by rw [List.length_append]; exact HN5, HB5, by show _ = _; have := HLG.out; rw [List.length_append]; simp; omega⟩
     case measure => simp [intOf]; omega
   | false =>
     rw [Bool.false_or] at HII
     have CN : Hid (∀ W, Below w2.heap.size w2 W → Calls Tryz.prog 113 #[.slice AG GG.length cG, .int .i64 xw] W fun e w' => e = .returned (.bool (decide (xw ∈ GG))) ∧ W = w') := fun W hW => Contains_any GG xw AG cG W (kat_of (own_below HN2.out hW HB2.out.size)) (by omega) (own_cap (own_below HN2.out hW HB2.out.size) |> fun h => by simpa using h)
     cases hq2 : decide (xw ∈ GG) with
     | true =>
      rw [hq2] at CN
      rw [hq2, if_pos rfl] at HII
      have HS2 := HII
      clear hq2
      go_upto_region 7 with (first
       | (go_at_call 88; refine CL2.out.mono ?_; rintro e w3 ⟨rfl, hb3⟩; have HB3 := Lib.hid hb3; have hX3 := (HB3.out.block _ hlx).trans HX.out; have x6' := gq6 hX3; clear hb3)
       | (go_at_call 113; refine (CN.out _ HB3.out).mono ?_; rintro e w9 ⟨rfl, rfl⟩))
      have HB4 := Lib.hid (below_then HB2.out HB3.out HB2.out.size)
      have hz4 := HB4.out.size
      have HL3 : Hid (OwnG w3 w.heap.size (.slice AL LL.length cL) LL) := own_below HL2.out HB3.out HB2.out.size
      have HN3 : Hid (OwnN w3 w.heap.size (.slice AG GG.length cG) GG) := own_below HN2.out HB3.out HB2.out.size
      clear x0 x1 x2 x3 x4 x5 x6 x6' CN
      have x0 := gq0 hX3
      have HX3 := Lib.hid hX3
      clear hX3
      go_wp2_with (at_builtin; go_must (refine wpList_append_own _ rfl (.tmp 27) (.tmp 30) 22 rfl w.heap.size 3 i1 _ 1 8 Tryz.underlying22 ii iz0 iz1 iz2 rfl (by decide) _ GG.length (GG.map fun n => Value.int .i64 n) rfl (HN3.out.alloc _) ⟨w3.heap.size, 0, none⟩ 1 1 [.int .i64 xn] rfl rfl (cells_new _ _ _) (by intro u hu; simp at hu; subst hu; rfl) (by unfold maxLen; omega) (by omega) (by simp; omega) ?_); intro v' w5 hown' hg' _; obtain ⟨A5, c5, rfl⟩ := own_slice hown')
      have HN5 : Hid (OwnN w5 w.heap.size (.slice A5 (GG.length + 1) c5) (GG ++ [xn])) := by
       show World.ownsRow _ _ _ _ _ _ _
       rw [List.length_append, List.map_append]
       exact hown'
      have HL5 : Hid (OwnG w5 w.heap.size (.slice AL LL.length cL) LL) := World.ownsRow.kept (World.ownsRow.alloc HL3.out _) hg' (rt_rows HL3.out HN3.out (by decide))
      have HB5 : Hid (Below w.heap.size w w5) := (HB4.out.alloc HB4.out.size _).grown hg' (Nat.le_trans HB4.out.size (by simp)) (fun j e => (HN3.out.lt j e).1)
      clear hown' hg'
      go_roundw
      case rel => exact ⟨k + 1, LL, GG ++ [xn], AL, cL, A5, c5, by omega, rfl, by rw [List.length_append]; rfl, by go_num, HS2, HL5, by rw [List.length_append]; exact HN5, HB5, by show _ = _; have := HLG.out; rw [List.length_append]; simp; omega⟩
      case measure => simp [intOf]; omega
     | false =>
      rw [hq2] at CN
      rw [hq2, if_neg (by simp)] at HII
      have HS2 := HII
      clear hq2
      go_upto_region 8 with (first
       | (go_at_call 88; refine CL2.out.mono ?_; rintro e w3 ⟨rfl, hb3⟩; have HB3 := Lib.hid hb3; have hX3 := (HB3.out.block _ hlx).trans HX.out; have x6' := gq6 hX3; clear hb3)
       | (go_at_call 113; refine (CN.out _ HB3.out).mono ?_; rintro e w9 ⟨rfl, rfl⟩))
      have HB4 := Lib.hid (below_then HB2.out HB3.out HB2.out.size)
      have hz4 := HB4.out.size
      have HL3 : Hid (OwnG w3 w.heap.size (.slice AL LL.length cL) LL) := own_below HL2.out HB3.out HB2.out.size
      have HN3 : Hid (OwnN w3 w.heap.size (.slice AG GG.length cG) GG) := own_below HN2.out HB3.out HB2.out.size
      clear x0 x1 x2 x3 x4 x5 x6 x6' CN
      obtain ⟨x0, x1, x2, x3, x4, x5, x6⟩ := gqs0 hX3
      have HX3 := Lib.hid hX3
      clear hX3
      go_wp2_with (at_builtin; go_must (refine wpList_append_own _ rfl (.tmp 32) (.tmp 34) 65 rfl w.heap.size 68 i0 _ 7 80 Tryz.underlying65 hi hz0 hz1 hz2 rfl (by decide) _ LL.length (gcells LL) rfl (HL3.out.alloc _) ⟨w3.heap.size, 0, none⟩ 1 1 (gcell ⟨xn, xf, xt, xr, xu, xd, xw⟩) rfl rfl (cells_newG w3 (gcell ⟨xn, xf, xt, xr, xu, xd, xw⟩) _) (by have := gcells_one [⟨xn, xf, xt, xr, xu, xd, xw⟩]; rw [gcells_s] at this; exact this) (by unfold maxLen; omega) (by omega) (by simp; omega) ?_); intro v' w5 hown' hg' _; obtain ⟨A5, c5, rfl⟩ := own_slice hown')
      have HL5 : Hid (OwnG w5 w.heap.size (.slice A5 (LL.length + 1) c5) (LL ++ [⟨xn, xf, xt, xr, xu, xd, xw⟩])) := by
       show World.ownsRow _ _ _ _ _ _ _
       rw [List.length_append, gcells_snoc]
       exact hown'
      have HN5 : Hid (OwnN w5 w.heap.size (.slice AG GG.length cG) GG) := World.ownsRow.kept (World.ownsRow.alloc HN3.out _) hg' (rt_rows HN3.out HL3.out (by decide))
      have HB5 : Hid (Below w.heap.size w w5) := (HB4.out.alloc HB4.out.size _).grown hg' (Nat.le_trans HB4.out.size (by simp)) (fun j e => (HL3.out.lt j e).1)
      clear hown' hg'
      go_roundw
      case rel => exact ⟨k + 1, LL ++ [⟨xn, xf, xt, xr, xu, xd, xw⟩], GG, A5, c5, AG, cG, by omega, by rw [List.length_append]; rfl, rfl, by go_num, HS2, by rw [List.length_append]; exact HL5, HN5, HB5, by show _ = _; have := HLG.out; rw [List.length_append]; simp; omega⟩
      case measure => simp [intOf]; omega
  ·have hli : ¬ (k : Int) < gs.length := by omega
   have hI := HI.out
   rw [List.drop_eq_nil_of_le (by omega), List.foldl_nil] at hI
   have HE := Lib.hid (HRP.out _ hI)
   have hM2 := HM.out.below HB.out
   have HM2 := Lib.hid hM2
   have b0 := hM2.q0
   have f0 := hM2.fz 0
   clear hI HI hM2
   go_wp2
   go_ret
   rw [HE.out]
   refine ⟨AG, cG, rfl, ?_, .slice AL LL.length cL, ⟨?_, ?_⟩, ?_, ?_⟩
   ·exact World.ownsRow.kept HN.out (grown_setCell _ _ _ _) (.inr fun e => by have := (HN.out.lt _ e).1; have := HM.out.lt; omega)
   ·simpa using heap_set (j := 0) HM2.out.row (.slice AL LL.length cL)
   ·exact World.ownsRow.kept (own_mono0 HL.out) (grown_setCell _ _ _ _) (.inr fun e => by have := (HL.out.lt _ e).1; have := HM.out.lt; omega)
   ·exact (Chg.of_below HB.out).trans (Chg.of_grown (grown_setCell _ _ _ _) fun k e => by cases e; exact .inl rfl)
   ·exact fun k e => .inr (HL.out.lt k e).1
theorem Revoke_none (h : GrM w b v gs last) (hl : gs.length ≤ 1000) (n : Int) (u : Tx) (hf : gFind gs n = none) :
  Calls Tryz.prog 34 #[.pointer (some ⟨b, 0, none⟩), .int .i64 n, .string (bs u)] w fun e w' => e = .returned (.iface 49 (.int .i64 3)) ∧ Below w.heap.size w w' := by
 have HB := Lib.hid (rbox w (.cells #[.int .i64 n] 3))
 have HR := heap_alloc_new w (.cells #[.int .i64 n] 3)
 have FI := Lib.hid (find_any gs n b v last _ (h.below HB.out) hl)
 rw [hf] at FI
 unfold FinTo at FI
 dsimp only [Option.getD, Option.isSome, gval, gZero] at FI
 have x0 := oq0 HR
 clear HR h hf
 go_enter Tryz.func34, Tryz.ntmps34
 go_upto_region 1 with fail
 generalize w.alloc (.cells #[.int .i64 n] 3) = w1 at *
 go_wp2_with (go_at_call 82; refine FI.out.mono ?_; rintro e w2 ⟨rfl, hb2⟩; have HB2 := Lib.hid (below_then HB.out hb2 HB.out.size); clear hb2)
 go_ret
 exact ⟨rfl, below_then HB2.out (rbox _ _) HB2.out.size⟩
theorem Revoke_denied (h : GrM w b v gs last) (hl : gs.length ≤ 1000) (n : Int) (u : Tx) (y : Gr) (hf : gFind gs n = some y) (hu : y.fro ≠ u) :
  Calls Tryz.prog 34 #[.pointer (some ⟨b, 0, none⟩), .int .i64 n, .string (bs u)] w fun e w' => e = .returned (.iface 49 (.int .i64 8)) ∧ Below w.heap.size w w' := by
 have HB := Lib.hid (rbox w (.cells #[.int .i64 n] 3))
 have HR := heap_alloc_new w (.cells #[.int .i64 n] 3)
 have FI := Lib.hid (find_any gs n b v last _ (h.below HB.out) hl)
 rw [hf] at FI
 obtain ⟨xn, xf, xt, xr, xu, xd, xw⟩ := y
 unfold FinTo at FI
 dsimp only [Option.getD, Option.isSome, gval] at FI
 dsimp only at hu
 have hb : ((bs xf).toList == (bs u).toList) = false := by rw [beq_tx]; simpa using hu
 have hb2 : ((bs xf).toList != (bs u).toList) = true := by rw [bne, hb]; rfl
 have x0 := oq0 HR
 clear HR h hf hu
 go_enter Tryz.func34, Tryz.ntmps34
 go_upto_region 1 with fail
 generalize w.alloc (.cells #[.int .i64 n] 3) = w1 at *
 generalize bs xf = bf at *
 generalize bs u = bu at *
 go_wp2_with (go_at_call 82; refine FI.out.mono ?_; rintro e w2 ⟨rfl, hb2⟩; have HB2 := Lib.hid (below_then HB.out hb2 HB.out.size); clear hb2)
 go_ret
 exact ⟨rfl, below_then HB2.out (rbox _ _) HB2.out.size⟩
set_option maxHeartbeats 2000000 in
theorem Revoke_ok (h : GrM w b v gs last) (hl : gs.length ≤ 1000) (n : Int) (y : Gr) (hf : gFind gs n = some y) :
  Calls Tryz.prog 34 #[.pointer (some ⟨b, 0, none⟩), .int .i64 n, .string (bs y.fro)] w fun e w' => e = .returned .nilIface ∧ GrTo w b v (remP (fun g => g.num == n) gs).1 last w' := by
 have HB := Lib.hid (rbox w (.cells #[.int .i64 n] 3))
 have HR := Lib.hid (heap_alloc_new w (.cells #[.int .i64 n] 3))
 have hlr : w.heap.size < (w.alloc (.cells #[.int .i64 n] 3)).heap.size := by simp
 have HM := Lib.hid h
 have FI := Lib.hid (find_any gs n b v last _ (h.below HB.out) hl)
 rw [hf] at FI
 obtain ⟨xn, xf, xt, xr, xu, xd, xw⟩ := y
 unfold FinTo at FI
 dsimp only [Option.getD, Option.isSome, gval] at FI
 dsimp only
 have hb : ((bs xf).toList == (bs xf).toList) = true := by simp
 have hb2 : ((bs xf).toList != (bs xf).toList) = false := by rw [bne, hb]; rfl
 have x0 := oq0 HR.out
 have hmf : ∀ (fn : Fn) (first cap : Array Value) (w : World), (Instr.makeFunc fn first cap).run Tryz.prog w = .ok (.func fn first cap) w := fun _ _ _ _ => rfl
 clear h hf
 go_enter Tryz.func34, Tryz.ntmps34
 go_upto_region 1 with fail
 generalize w.alloc (.cells #[.int .i64 n] 3) = w1 at *
 generalize bs xf = bf at *
 go_upto_region 2 with (go_at_call 82; refine FI.out.mono ?_; rintro e w2 ⟨rfl, hb2⟩; have HB2 := Lib.hid hb2; clear hb2)
 have HBX := Lib.hid (below_then HB2.out (rbox w2 (.cells #[.int .i64 xn, .string bf, .string (bs xt), .string (bs xr), .int .i64 xu, .int .i64 xd, .int .i64 xw] 68)) HB2.out.size)
 have hX := heap_alloc_new w2 (.cells #[.int .i64 xn, .string bf, .string (bs xt), .string (bs xr), .int .i64 xu, .int .i64 xd, .int .i64 xw] 68)
 generalize w2.alloc (.cells #[.int .i64 xn, .string bf, .string (bs xt), .string (bs xr), .int .i64 xu, .int .i64 xd, .int .i64 xw] 68) = w3 at *
 generalize w2.heap.size = gx at *
 have z1 := gq1 hX
 have HB3 := Lib.hid (below_then HB.out HBX.out HB.out.size)
 have hR3 := (HBX.out.block _ hlr).trans HR.out
 have hlr3 : w.heap.size < w3.heap.size := (Array.getElem?_eq_some_iff.1 hR3).1
 have RM := Lib.hid (rem_rev (HM.out.below HB3.out) hl n w.heap.size hlr3 (by rw [cell_of_row _ _ _ _ _ _ hR3]; rfl))
 clear hR3 hX
 go_wp2_with (go_at_call 86; refine RM.out.mono ?_; rintro e w5 ⟨A5, c5, rfl, _, hgr⟩; have HGR := Lib.hid hgr; clear hgr)
 go_ret
 exact ⟨rfl, grTo_then HB3.out HGR.out⟩
theorem Expire_any (h : GrM w b v gs last) (hl : gs.length ≤ 1000) (now : Int) :
  Calls Tryz.prog 35 #[.pointer (some ⟨b, 0, none⟩), .int .i64 now] w (RemTo (remP (fun g => decide (g.til ≤ now)) gs) w b v last) := by
 have HB := Lib.hid (rbox w (.cells #[.int .i64 now] 3))
 have HR := Lib.hid (heap_alloc_new w (.cells #[.int .i64 now] 3))
 have RM := Lib.hid (rem_exp (h.below HB.out) hl now w.heap.size (by simp) (by rw [cell_of_row _ _ _ _ _ _ HR.out]; rfl))
 have hmf : ∀ (fn : Fn) (first cap : Array Value) (w : World), (Instr.makeFunc fn first cap).run Tryz.prog w = .ok (.func fn first cap) w := fun _ _ _ _ => rfl
 clear h
 go_enter Tryz.func35, Tryz.ntmps35
 go_upto_region 1 with fail
 generalize hw1 : w.alloc (.cells #[.int .i64 now] 3) = w1 at *
 clear hw1
 go_wp2_with (go_at_call 86; refine RM.out.mono ?_; rintro e w5 ⟨A5, c5, rfl, ho, hgr⟩; have HGR := Lib.hid hgr; have HOW := Lib.hid ho; clear hgr ho)
 go_ret
 exact ⟨A5, c5, rfl, own_baseG HOW.out HB.out.size, grTo_then HB.out HGR.out⟩
end
end Go.Proofs.YtkalfhhdljndfaaGreatDoor
