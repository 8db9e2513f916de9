import Derived.Test.YtgffbgmieppckaaGreatDoorGr7
import Derived.Test.YtgffbgmieppckaaGreatDoorPrint2
import Derived.Test.YtgffbgmieppckaaGreatDoorSplit
import Derived.Test.YtgffbgmieppckaaGreatDoorOwn
import Derived.Test.YtgffbgmieppckaaGreatDoorGr1
namespace Go.Proofs.YtgffbgmieppckaaGreatDoor
set_option maxRecDepth 100000
open Go.ChangeShapes Go.WideShapes Go.ChangeAt Go.RowKit
theorem NewG_any (w : World) : Calls Tryz.prog 24 #[] w fun e w' => e = .returned (.pointer (some ⟨w.heap.size, 0, none⟩)) ∧ GrM w' w.heap.size (.slice none 0 0) [] 0 ∧ Below w.heap.size w w' := by
 go_enter Tryz.func24, Tryz.ntmps24
 go_wp2
 go_ret
 exact ⟨rfl, ⟨heap_alloc_new w _, World.ownsRow_nil _ _ _ _⟩, rbox w _⟩
section
variable {b : Nat} {v : Value} {gs : List Gr} {last : Int} {w : World}
def OwnN (w : World) (base : Nat) (v : Value) (l : List Int) : Prop := w.ownsRow base 3 1 v l.length (l.map fun n => Value.int .i64 n)
def RemTo (p : List Gr × List Int) (w0 : World) (b : Nat) (v : Value) (last : Int) (e : Ending) (w' : World) : Prop := ∃ A c, e = .returned (.slice A p.2.length c) ∧ OwnN w' w0.heap.size (.slice A p.2.length c) p.2 ∧ GrTo w0 b v p.1 last w'
end
theorem Tryz.infoIntG : (Tryz.prog.info? 3).map (fun i => (i.zero, i.size, i.bytes)) = some (some (.int .i64 0), 1, 8) := by kernel_rfl
theorem kat_of {w : World} {base c : Nat} {A : Option Addr} {l : List Int} (h : OwnN w base (.slice A l.length c) l) : KAt w A l := fun j hj => by
 obtain ⟨g, cap', e, _, hl, _, hc⟩ := own_form h (by omega)
 have eA : A = some ⟨g, 0, none⟩ := by injection e
 exact ⟨g, eA, hl, by have := hc j (.int .i64 l[j]) (by simp [List.getElem?_eq_getElem hj]); simpa using this⟩
theorem own_mono0 {w : World} {base e s n : Nat} {v : Value} {xs : List Value} (h : w.ownsRow base e s v n xs) : w.ownsRow 0 e s v n xs := by
 obtain ⟨h1, h2 | ⟨g, cap, cur, e1, _, r⟩⟩ := h
 ·exact ⟨h1, .inl h2⟩
 ·exact ⟨h1, .inr ⟨g, cap, cur, e1, Nat.zero_le _, r⟩⟩
theorem grTo_then {w w1 w' : World} {b : Nat} {v : Value} {gs : List Gr} {last : Int} (hb : Below w.heap.size w w1) (h : GrTo w1 b v gs last w') : GrTo w b v gs last w' := by
 obtain ⟨v', h1, h2, h3⟩ := h
 exact ⟨v', h1, (Chg.of_below hb).trans h2, fun k e => (h3 k e).imp id fun h => Nat.le_trans hb.size h⟩
theorem own_baseG {w : World} {b1 b2 e s n : Nat} {v : Value} {xs : List Value} (h : w.ownsRow b1 e s v n xs) (hb : b2 ≤ b1) : w.ownsRow b2 e s v n xs := by
 obtain ⟨h1, h2 | ⟨g, cap, cur, e1, h3, r⟩⟩ := h
 ·exact ⟨h1, .inl h2⟩
 ·exact ⟨h1, .inr ⟨g, cap, cur, e1, Nat.le_trans hb h3, r⟩⟩
theorem clo_exp (g : Gr) (n : Int) (bn : Nat) (w : World) (hb : bn < w.heap.size) (hc : w.cell? ⟨bn, 0, none⟩ = some (.int .i64 n)) :
  Calls Tryz.prog 96 #[gval g, .pointer (some ⟨bn, 0, none⟩)] w fun e w' => e = .returned (.bool (decide (g.til ≤ n))) ∧ Below w.heap.size w w' := by
 obtain ⟨xn, xf, xt, xr, xu, xd, xw⟩ := g
 have HX := heap_alloc_new w (.cells #[.int .i64 xn, .string (bs xf), .string (bs xt), .string (bs xr), .int .i64 xu, .int .i64 xd, .int .i64 xw] 87)
 have HB := Lib.hid (rbox w (.cells #[.int .i64 xn, .string (bs xf), .string (bs xt), .string (bs xr), .int .i64 xu, .int .i64 xd, .int .i64 xw] 87))
 have y1 := (HB.out.cell (p := ⟨bn, 0, none⟩) hb).trans hc
 have x0 := gq0 HX; have x4 := gq4 HX
 clear HX hc
 dsimp only [gval]
 go_enter Tryz.func96, Tryz.ntmps96
 go_upto_region 1 with fail
 generalize w.alloc (.cells #[.int .i64 xn, .string (bs xf), .string (bs xt), .string (bs xr), .int .i64 xu, .int .i64 xd, .int .i64 xw] 87) = w1 at *
 go_wp2
 go_ret
 exact ⟨rfl, HB.out⟩
section
variable {b : Nat} {v : Value} {gs : List Gr} {last : Int} {w : World}
set_option maxHeartbeats 8000000 in
theorem rem_exp (h : GrM w b v gs last) (hl : gs.length ≤ 1000) (n : Int) (bn : Nat) (hbn : bn < w.heap.size) (hc : w.cell? ⟨bn, 0, none⟩ = some (.int .i64 n)) :
  Calls Tryz.prog 95 #[.pointer (some ⟨b, 0, none⟩), .func (.func 96) #[] #[.pointer (some ⟨bn, 0, none⟩)]] w (RemTo (remP (fun g => decide (g.til ≤ n)) gs) w b v last) := by
 obtain ⟨A, c, rfl⟩ := own_slice h.own
 have HM := Lib.hid h
 have HG := Lib.hid (gAt_of h.own)
 have hcc := HG.out.1
 have q0 := h.q0
 have CLO := Lib.hid (fun W (hW : Below w.heap.size w W) (g : Gr) => clo_exp g n bn W (Nat.lt_of_lt_of_le hbn hW.size) ((hW.cell (p := ⟨bn, 0, none⟩) hbn).trans hc))
 have HRP : Hid (∀ p, List.foldl (remStep fun g => decide (g.til ≤ n)) ([], []) gs = p → remP (fun g => decide (g.til ≤ n)) gs = p) := fun p e => e
 obtain ⟨i0, hi, hz0, hz1, hz2⟩ := info_parts Tryz.infoGrant
 obtain ⟨i1, ii, iz0, iz1, iz2⟩ := info_parts Tryz.infoIntG
 clear h hc hbn
 generalize hov : (fun g : Gr => decide (g.til ≤ n)) = ov at *
 have HOV := Lib.hid hov
 clear hov
 go_enter Tryz.func95, Tryz.ntmps95
 go_upto_region 4 with fail
 go_loopw [5, 6, 14] (fun sl sg i wr => ∃ (k : Nat) (LL : List Gr) (GG : List Int) (AL : Option Addr) (cL : Nat) (AG : Option Addr) (cG : Nat), k ≤ gs.length ∧ sl = .slice AL LL.length cL ∧ sg = .slice AG GG.length cG ∧ i = .int .i64 k ∧ Hid (List.foldl (remStep ov) ([], []) gs = List.foldl (remStep ov) (LL, GG) (gs.drop k)) ∧ Hid (OwnG wr w.heap.size (.slice AL LL.length cL) LL) ∧ Hid (OwnN wr w.heap.size (.slice AG GG.length cG) GG) ∧ Hid (Below w.heap.size w wr) ∧ Hid (LL.length + GG.length = k)) (fun _ _ i _ => gs.length - (intOf i).toNat)
 case atStart => exact ⟨0, [], [], none, 0, none, 0, Nat.zero_le _, rfl, rfl, rfl, rfl, World.ownsRow_nil _ _ _ _, World.ownsRow_nil _ _ _ _, Below.refl _ _, rfl⟩
 case round =>
  obtain ⟨k, LL, GG, AL, cL, AG, cG, hk, rfl, rfl, rfl, HI, HL, HN, HB, HLG⟩ := hrel
  have hbz := HB.out.size
  by_cases hlt : k < gs.length
  ·have hli : (k : Int) < gs.length := by omega
   obtain ⟨g, rfl, hgl, hcs⟩ := (HG.out.below HB.out).2 k hlt
   have q0 := hcs 0 _ (by omega) rfl; have q1 := hcs 1 _ (by omega) rfl; have q2 := hcs 2 _ (by omega) rfl; have q3 := hcs 3 _ (by omega) rfl; have q4 := hcs 4 _ (by omega) rfl; have q5 := hcs 5 _ (by omega) rfl; have q6 := hcs 6 _ (by omega) rfl
   simp only [Nat.add_zero] at q0
   have hI := HI.out
   rw [List.drop_eq_getElem_cons hlt, List.foldl_cons] at hI
   clear hcs HI
   generalize gs[k] = x at *
   obtain ⟨xn, xf, xt, xr, xu, xd, xw⟩ := x
   simp only at q0 q1 q2 q3 q4 q5 q6
   have HX := Lib.hid (heap_alloc_new wr (.cells #[.int .i64 xn, .string (bs xf), .string (bs xt), .string (bs xr), .int .i64 xu, .int .i64 xd, .int .i64 xw] 87))
   have HBX := Lib.hid (rbox wr (.cells #[.int .i64 xn, .string (bs xf), .string (bs xt), .string (bs xr), .int .i64 xu, .int .i64 xd, .int .i64 xw] 87))
   go_upto_region 6 with fail
   have hlx : wr.heap.size < (wr.alloc (.cells #[.int .i64 xn, .string (bs xf), .string (bs xt), .string (bs xr), .int .i64 xu, .int .i64 xd, .int .i64 xw] 87)).heap.size := by simp
   generalize wr.alloc (.cells #[.int .i64 xn, .string (bs xf), .string (bs xt), .string (bs xr), .int .i64 xu, .int .i64 xd, .int .i64 xw] 87) = w2 at *
   have HB2 := Lib.hid (below_then HB.out HBX.out (by omega))
   have HL2 : Hid (OwnG w2 w.heap.size (.slice AL LL.length cL) LL) := own_below HL.out HBX.out (by omega)
   have HN2 : Hid (OwnN w2 w.heap.size (.slice AG GG.length cG) GG) := own_below HN.out HBX.out (by omega)
   generalize wr.heap.size = gx at *
   have CL2 := Lib.hid (CLO.out w2 HB2.out ⟨xn, xf, xt, xr, xu, xd, xw⟩)
   obtain ⟨x0, x1, x2, x3, x4, x5, x6⟩ := gqs0 HX.out
   have hst : remStep ov (LL, GG) ⟨xn, xf, xt, xr, xu, xd, xw⟩ = if (ov ⟨xn, xf, xt, xr, xu, xd, xw⟩ || decide (xw ∈ GG)) = true then (LL, GG ++ [xn]) else (LL ++ [⟨xn, xf, xt, xr, xu, xd, xw⟩], GG) := rfl
   rw [hst] at hI
   have hov2 : ov ⟨xn, xf, xt, xr, xu, xd, xw⟩ = (decide (xu ≤ n)) := by rw [← HOV.out]
   rw [hov2] at hI
   have HII := Lib.hid hI
   clear q0 q1 q2 q3 q4 q5 q6 hst hov2 hI HL HN HB
   dsimp only [gval] at CL2
   have hll : LL.length ≤ 1000 := by have := HLG.out; omega
   have hgl2 : GG.length ≤ 1000 := by have := HLG.out; omega
   generalize (decide (xu ≤ n)) = q at *
   cases q with
   | true =>
     have HS2 := Lib.hid HII.out
     rw [Bool.true_or, if_pos rfl] at HS2
     go_upto_region 7 with (go_at_call 96; refine CL2.out.mono ?_; rintro e w3 ⟨rfl, hb3⟩; have HB3 := Lib.hid hb3; clear hb3)
     have HB4 := Lib.hid (below_then HB2.out HB3.out HB2.out.size)
     have hz4 := HB4.out.size
     have HL3 : Hid (OwnG w3 w.heap.size (.slice AL LL.length cL) LL) := own_below HL2.out HB3.out HB2.out.size
     have HN3 : Hid (OwnN w3 w.heap.size (.slice AG GG.length cG) GG) := own_below HN2.out HB3.out HB2.out.size
     have hX3 := (HB3.out.block _ hlx).trans HX.out
     clear x0 x1 x2 x3 x4 x5 x6
     have x0 := gq0 hX3
     have HX3 := Lib.hid hX3
     clear hX3 HII
     go_wp2_with (at_builtin; go_must (refine wpList_append_own _ rfl (.tmp 27) (.tmp 30) 22 rfl w.heap.size 3 i1 _ 1 8 Tryz.underlying22 ii iz0 iz1 iz2 rfl (by decide) _ GG.length (GG.map fun n => Value.int .i64 n) rfl (HN3.out.alloc _) ⟨w3.heap.size, 0, none⟩ 1 1 [.int .i64 xn] rfl rfl (cells_new _ _ _) (by intro u hu; simp at hu; subst hu; rfl) (by unfold maxLen; omega) (by omega) (by simp; omega) ?_); intro v' w5 hown' hg' _; obtain ⟨A5, c5, rfl⟩ := own_slice hown')
     have HN5 : Hid (OwnN w5 w.heap.size (.slice A5 (GG.length + 1) c5) (GG ++ [xn])) := by
      show World.ownsRow _ _ _ _ _ _ _
      rw [List.length_append, List.map_append]
      exact hown'
     have HL5 : Hid (OwnG w5 w.heap.size (.slice AL LL.length cL) LL) := World.ownsRow.kept (World.ownsRow.alloc HL3.out _) hg' (rt_rows HL3.out HN3.out (by decide))
     have HB5 : Hid (Below w.heap.size w w5) := (HB4.out.alloc HB4.out.size _).grown hg' (Nat.le_trans HB4.out.size (by simp)) (fun j e => (HN3.out.lt j e).1)
     clear hown' hg'
     go_roundw
     case rel => exact ⟨k + 1, LL, GG ++ [xn], AL, cL, A5, c5, by omega, rfl, by rw [List.length_append]; rfl, by go_num, HS2, HL5, by rw [List.length_append]; exact HN5, HB5, by show _ = _; have := HLG.out; rw [List.length_append]; simp; omega⟩
     case measure => simp [intOf]; omega
   | false =>
     rw [Bool.false_or] at HII
     have CN : Hid (∀ W, Below w2.heap.size w2 W → Calls Tryz.prog 140 #[.slice AG GG.length cG, .int .i64 xw] W fun e w' => e = .returned (.bool (decide (xw ∈ GG))) ∧ W = w') := fun W hW => Contains_any GG xw AG cG W (kat_of (own_below HN2.out hW HB2.out.size)) (by omega) (own_cap (own_below HN2.out hW HB2.out.size) |> fun h => by simpa using h)
     cases hq2 : decide (xw ∈ GG) with
     | true =>
      rw [hq2] at CN
      rw [hq2, if_pos rfl] at HII
      have HS2 := HII
      clear hq2
      go_upto_region 7 with (first
       | (go_at_call 96; refine CL2.out.mono ?_; rintro e w3 ⟨rfl, hb3⟩; have HB3 := Lib.hid hb3; have hX3 := (HB3.out.block _ hlx).trans HX.out; have x6' := gq6 hX3; clear hb3)
       | (go_at_call 140; refine (CN.out _ HB3.out).mono ?_; rintro e w9 ⟨rfl, rfl⟩))
      have HB4 := Lib.hid (below_then HB2.out HB3.out HB2.out.size)
      have hz4 := HB4.out.size
      have HL3 : Hid (OwnG w3 w.heap.size (.slice AL LL.length cL) LL) := own_below HL2.out HB3.out HB2.out.size
      have HN3 : Hid (OwnN w3 w.heap.size (.slice AG GG.length cG) GG) := own_below HN2.out HB3.out HB2.out.size
      clear x0 x1 x2 x3 x4 x5 x6 x6' CN
      have x0 := gq0 hX3
      have HX3 := Lib.hid hX3
      clear hX3
      go_wp2_with (at_builtin; go_must (refine wpList_append_own _ rfl (.tmp 27) (.tmp 30) 22 rfl w.heap.size 3 i1 _ 1 8 Tryz.underlying22 ii iz0 iz1 iz2 rfl (by decide) _ GG.length (GG.map fun n => Value.int .i64 n) rfl (HN3.out.alloc _) ⟨w3.heap.size, 0, none⟩ 1 1 [.int .i64 xn] rfl rfl (cells_new _ _ _) (by intro u hu; simp at hu; subst hu; rfl) (by unfold maxLen; omega) (by omega) (by simp; omega) ?_); intro v' w5 hown' hg' _; obtain ⟨A5, c5, rfl⟩ := own_slice hown')
      have HN5 : Hid (OwnN w5 w.heap.size (.slice A5 (GG.length + 1) c5) (GG ++ [xn])) := by
       show World.ownsRow _ _ _ _ _ _ _
       rw [List.length_append, List.map_append]
       exact hown'
      have HL5 : Hid (OwnG w5 w.heap.size (.slice AL LL.length cL) LL) := World.ownsRow.kept (World.ownsRow.alloc HL3.out _) hg' (rt_rows HL3.out HN3.out (by decide))
      have HB5 : Hid (Below w.heap.size w w5) := (HB4.out.alloc HB4.out.size _).grown hg' (Nat.le_trans HB4.out.size (by simp)) (fun j e => (HN3.out.lt j e).1)
      clear hown' hg'
      go_roundw
      case rel => exact ⟨k + 1, LL, GG ++ [xn], AL, cL, A5, c5, by omega, rfl, by rw [List.length_append]; rfl, by go_num, HS2, HL5, by rw [List.length_append]; exact HN5, HB5, by show _ = _; have := HLG.out; rw [List.length_append]; simp; omega⟩
      case measure => simp [intOf]; omega
     | false =>
      rw [hq2] at CN
      rw [hq2, if_neg (by simp)] at HII
      have HS2 := HII
      clear hq2
      go_upto_region 8 with (first
       | (go_at_call 96; refine CL2.out.mono ?_; rintro e w3 ⟨rfl, hb3⟩; have HB3 := Lib.hid hb3; have hX3 := (HB3.out.block _ hlx).trans HX.out; have x6' := gq6 hX3; clear hb3)
       | (go_at_call 140; refine (CN.out _ HB3.out).mono ?_; rintro e w9 ⟨rfl, rfl⟩))
      have HB4 := Lib.hid (below_then HB2.out HB3.out HB2.out.size)
      have hz4 := HB4.out.size
      have HL3 : Hid (OwnG w3 w.heap.size (.slice AL LL.length cL) LL) := own_below HL2.out HB3.out HB2.out.size
      have HN3 : Hid (OwnN w3 w.heap.size (.slice AG GG.length cG) GG) := own_below HN2.out HB3.out HB2.out.size
      clear x0 x1 x2 x3 x4 x5 x6 x6' CN
      obtain ⟨x0, x1, x2, x3, x4, x5, x6⟩ := gqs0 hX3
      have HX3 := Lib.hid hX3
      clear hX3
      go_wp2_with (at_builtin; go_must (refine wpList_append_own _ rfl (.tmp 32) (.tmp 34) 61 rfl w.heap.size 87 i0 _ 7 80 Tryz.underlying61 hi hz0 hz1 hz2 rfl (by decide) _ LL.length (gcells LL) rfl (HL3.out.alloc _) ⟨w3.heap.size, 0, none⟩ 1 1 (gcell ⟨xn, xf, xt, xr, xu, xd, xw⟩) rfl rfl (cells_newG w3 (gcell ⟨xn, xf, xt, xr, xu, xd, xw⟩) _) (by have := gcells_one [⟨xn, xf, xt, xr, xu, xd, xw⟩]; rw [gcells_s] at this; exact this) (by unfold maxLen; omega) (by omega) (by simp; omega) ?_); intro v' w5 hown' hg' _; obtain ⟨A5, c5, rfl⟩ := own_slice hown')
      have HL5 : Hid (OwnG w5 w.heap.size (.slice A5 (LL.length + 1) c5) (LL ++ [⟨xn, xf, xt, xr, xu, xd, xw⟩])) := by
       show World.ownsRow _ _ _ _ _ _ _
       rw [List.length_append, gcells_snoc]
       exact hown'
      have HN5 : Hid (OwnN w5 w.heap.size (.slice AG GG.length cG) GG) := World.ownsRow.kept (World.ownsRow.alloc HN3.out _) hg' (rt_rows HN3.out HL3.out (by decide))
      have HB5 : Hid (Below w.heap.size w w5) := (HB4.out.alloc HB4.out.size _).grown hg' (Nat.le_trans HB4.out.size (by simp)) (fun j e => (HL3.out.lt j e).1)
      clear hown' hg'
      go_roundw
      case rel => exact ⟨k + 1, LL ++ [⟨xn, xf, xt, xr, xu, xd, xw⟩], GG, A5, c5, AG, cG, by omega, by rw [List.length_append]; rfl, rfl, by go_num, HS2, by rw [List.length_append]; exact HL5, HN5, HB5, by show _ = _; have := HLG.out; rw [List.length_append]; simp; omega⟩
      case measure => simp [intOf]; omega
  ·have hli : ¬ (k : Int) < gs.length := by omega
   have hI := HI.out
   rw [List.drop_eq_nil_of_le (by omega), List.foldl_nil] at hI
   have HE := Lib.hid (HRP.out _ hI)
   have hM2 := HM.out.below HB.out
   have HM2 := Lib.hid hM2
   have b0 := hM2.q0
   have f0 := hM2.fz 0
   clear hI HI hM2
   go_wp2
   go_ret
   rw [HE.out]
   refine ⟨AG, cG, rfl, ?_, .slice AL LL.length cL, ⟨?_, ?_⟩, ?_, ?_⟩
   ·exact World.ownsRow.kept HN.out (grown_setCell _ _ _ _) (.inr fun e => by have := (HN.out.lt _ e).1; have := HM.out.lt; omega)
   ·simpa using heap_set (j := 0) HM2.out.row (.slice AL LL.length cL)
   ·exact World.ownsRow.kept (own_mono0 HL.out) (grown_setCell _ _ _ _) (.inr fun e => by have := (HL.out.lt _ e).1; have := HM.out.lt; omega)
   ·exact (Chg.of_below HB.out).trans (Chg.of_grown (grown_setCell _ _ _ _) fun k e => by cases e; exact .inl rfl)
   ·exact fun k e => .inr (HL.out.lt k e).1
theorem Expire_any (h : GrM w b v gs last) (hl : gs.length ≤ 1000) (now : Int) :
  Calls Tryz.prog 29 #[.pointer (some ⟨b, 0, none⟩), .int .i64 now] w (RemTo (remP (fun g => decide (g.til ≤ now)) gs) w b v last) := by
 have HB := Lib.hid (rbox w (.cells #[.int .i64 now] 3))
 have HR := Lib.hid (heap_alloc_new w (.cells #[.int .i64 now] 3))
 have RM := Lib.hid (rem_exp (h.below HB.out) hl now w.heap.size (by simp) (by rw [cell_of_row _ _ _ _ _ _ HR.out]; rfl))
 have hmf : ∀ (fn : Fn) (first cap : Array Value) (w : World), (Instr.makeFunc fn first cap).run Tryz.prog w = .ok (.func fn first cap) w := fun _ _ _ _ => rfl
 clear h
 go_enter Tryz.func29, Tryz.ntmps29
 go_upto_region 1 with fail
 generalize hw1 : w.alloc (.cells #[.int .i64 now] 3) = w1 at *
 clear hw1
 go_wp2_with (go_at_call 95; refine RM.out.mono ?_; rintro e w5 ⟨A5, c5, rfl, ho, hgr⟩; have HGR := Lib.hid hgr; have HOW := Lib.hid ho; clear hgr ho)
 go_ret
 exact ⟨A5, c5, rfl, own_baseG HOW.out HB.out.size, grTo_then HB.out HGR.out⟩
end
theorem IntsAt.below {w w' : World} {v : Value} {zs : List Int} (h : IntsAt w v zs) (hb : Below w.heap.size w w') : IntsAt w' v zs :=
 let ⟨A, c, e, hl, hc⟩ := h
 ⟨A, c, e, hl, fun k hk => let ⟨b, off, e, hbl, hx, hw⟩ := hc k hk; ⟨b, off, e, Nat.lt_of_lt_of_le hbl hb.size, (hb.cell (p := ⟨b, off + k, none⟩) hbl).trans hx, hw⟩⟩
structure Se where
 num : Int
 user : Tx
 act : Nat
def sAt (ss : List Se) (n : Int) : Nat := ss.findIdx fun s => s.num == n
def sIx (ss : List Se) (n : Int) : Int := if sAt ss n < ss.length then (sAt ss n : Int) else -1
theorem sAt_hit {ss : List Se} {n : Int} {k : Nat} (h : k < ss.length) (e : ss[k].num = n) (hb : ∀ j (_ : j < k) (h : j < ss.length), ss[j].num ≠ n) : sAt ss n = k := by
 unfold sAt
 rw [List.findIdx_eq h]
 exact ⟨by simpa using e, fun j hj => by have := hb j hj (by omega); simpa using this⟩
theorem sAt_miss {ss : List Se} {n : Int} (hb : ∀ j (h : j < ss.length), ss[j].num ≠ n) : ¬ sAt ss n < ss.length := by
 intro h
 have h2 : (ss[sAt ss n].num == n) = true := List.findIdx_getElem (w := h)
 exact hb _ h (by simpa using h2)
theorem sIx_hit {ss : List Se} {n : Int} {k : Nat} (h : k < ss.length) (e : ss[k].num = n) (hb : ∀ j (_ : j < k) (h : j < ss.length), ss[j].num ≠ n) : sIx ss n = k := by
 unfold sIx
 rw [sAt_hit h e hb, if_pos h]
theorem sIx_miss {ss : List Se} {n : Int} (hb : ∀ j (h : j < ss.length), ss[j].num ≠ n) : sIx ss n = -1 := if_neg (sAt_miss hb)
def scell (s : Se) : List Value := [.int .i64 s.num, .string (bs s.user), .int .u32 (s.act : Nat)]
def secells (l : List Se) : List Value := l.flatMap scell
def sval (s : Se) : Value := .agg #[.int .i64 s.num, .string (bs s.user), .int .u32 (s.act : Nat)]
theorem secells_length (l : List Se) : (secells l).length = l.length * 3 := by
 induction l with
 | nil => rfl
 | cons a l ih => show (scell a ++ secells l).length = _; rw [List.length_append, ih, List.length_cons]; show 3 + _ = _; omega
theorem secells_snoc (l : List Se) (p : Se) : secells (l ++ [p]) = secells l ++ scell p := by simp [secells]
theorem secells_app (l m : List Se) : secells (l ++ m) = secells l ++ secells m := by simp [secells]
theorem secells_at : ∀ (l : List Se) (j f : Nat) (h : j < l.length), f < 3 → (secells l)[j * 3 + f]? = (scell l[j])[f]?
 | x :: r, 0, f, _, hf => by
  show (scell x ++ secells r)[_]? = _
  rw [List.getElem?_append_left (by show _ < 3; omega)]; simp
 | x :: r, j + 1, f, h, hf => by
  show (scell x ++ secells r)[_]? = _
  rw [List.getElem?_append_right (by show 3 ≤ _; omega), show (scell x).length = 3 from rfl, show (j + 1) * 3 + f - 3 = j * 3 + f by omega]
  exact secells_at r j f (by simpa using h) hf
theorem secells_one (l : List Se) : ∀ u ∈ secells l, u.oneCell' = true := by
 intro u hu
 simp only [secells, List.mem_flatMap] at hu
 obtain ⟨p, _, hu⟩ := hu
 simp [scell] at hu
 rcases hu with rfl | rfl | rfl <;> rfl
theorem secells_take (l : List Se) (k : Nat) : secells (l.take k) = (secells l).take (k * 3) := by
 by_cases h : k ≤ l.length
 ·have e := secells_app (l.take k) (l.drop k)
  rw [List.take_append_drop] at e
  rw [e, List.take_left' (by rw [secells_length, List.length_take]; omega)]
 ·rw [List.take_of_length_le (by omega), List.take_of_length_le (by rw [secells_length]; omega)]
theorem secells_drop (l : List Se) (k : Nat) : secells (l.drop k) = (secells l).drop (k * 3) := by
 by_cases h : k ≤ l.length
 ·have e := secells_app (l.take k) (l.drop k)
  rw [List.take_append_drop] at e
  rw [e, List.drop_left' (by rw [secells_length, List.length_take]; omega)]
 ·rw [List.drop_of_length_le (by omega), List.drop_of_length_le (by rw [secells_length]; omega)]; rfl
def OwnSe (w : World) (base : Nat) (v : Value) (l : List Se) : Prop := w.ownsRow base 106 3 v l.length (secells l)
def SeAt (w : World) (A : Option Addr) (c : Nat) (l : List Se) : Prop := l.length ≤ c ∧ ∀ j (hj : j < l.length), ∃ g, A = some ⟨g, 0, none⟩ ∧ g < w.heap.size ∧ ∀ f u, f < 3 → (scell l[j])[f]? = some u → w.cell? ⟨g, j * 3 + f, none⟩ = some u
theorem SeAt.below {w w' : World} {A : Option Addr} {c : Nat} {l : List Se} (h : SeAt w A c l) (hb : Below w.heap.size w w') : SeAt w' A c l :=
 ⟨h.1, fun j hj => let ⟨g, e, hl, hc⟩ := h.2 j hj; ⟨g, e, Nat.lt_of_lt_of_le hl hb.size, fun f u hf hu => (hb.cell (p := ⟨g, j * 3 + f, none⟩) hl).trans (hc f u hf hu)⟩⟩
theorem seAt_of {w : World} {base c : Nat} {A : Option Addr} {l : List Se} (h : OwnSe w base (.slice A l.length c) l) : SeAt w A c l :=
 ⟨own_cap h, fun j hj => by
  obtain ⟨g, cap', e, _, hl, _, hc⟩ := own_form h (by omega)
  have eA : A = some ⟨g, 0, none⟩ := by injection e
  exact ⟨g, eA, hl, fun f u hf hu => hc _ _ (by rw [secells_at l j f hj hf]; exact hu)⟩⟩
theorem sat_cells {w : World} {g c : Nat} {l : List Se} (h : SeAt w (some ⟨g, 0, none⟩) c l) : ∀ j u, (secells l)[j]? = some u → w.cell? ((⟨g, 0, none⟩ : Addr).add j) = some u := fun j u hu => by
 have hadd : (⟨g, 0, none⟩ : Addr).add j = ⟨g, j, none⟩ := by unfold Addr.add; split <;> simp_all
 rw [hadd]
 have hj : j < l.length * 3 := by rw [← secells_length]; exact (List.getElem?_eq_some_iff.1 hu).1
 have hk : j / 3 < l.length := by omega
 obtain ⟨g', e, _, hc⟩ := h.2 (j / 3) hk
 obtain rfl : g' = g := by have := Option.some.inj e; injection this with e1; exact e1.symm
 have e3 : j = j / 3 * 3 + j % 3 := by omega
 have h7 : j % 3 < 3 := Nat.mod_lt _ (by omega)
 rw [e3, secells_at l (j / 3) (j % 3) hk h7] at hu
 rw [e3]
 exact hc _ _ h7 hu
theorem Tryz.infoSeat : (Tryz.prog.info? 106).map (fun i => (i.zero, i.size, i.bytes)) = some (some (.agg #[.int .i64 0, .string ⟨#[]⟩, .int .u32 0]), 3, 32) := by kernel_rfl
structure SeM (W : World) (b : Nat) (v : Value) (ss : List Se) (last : Int) : Prop where
 row : W.heap[b]? = some (.cells #[v, .int .i64 last] 203 (0, 0))
 own : OwnSe W 0 v ss
theorem SeM.lt {W : World} {b : Nat} {v : Value} {ss : List Se} {last : Int} (h : SeM W b v ss last) : b < W.heap.size := (Array.getElem?_eq_some_iff.1 h.row).1
theorem SeM.below {W W' : World} {b : Nat} {v : Value} {ss : List Se} {last : Int} (h : SeM W b v ss last) (hb : Below W.heap.size W W') : SeM W' b v ss last :=
 ⟨(hb.block _ h.lt).trans h.row, own_below h.own hb (Nat.zero_le _)⟩
theorem SeM.q0 {W : World} {b : Nat} {v : Value} {ss : List Se} {last : Int} (h : SeM W b v ss last) : W.cell? ⟨b, 0, none⟩ = some v := by rw [cell_of_row _ _ _ _ _ _ h.row]; rfl
theorem SeM.q1 {W : World} {b : Nat} {v : Value} {ss : List Se} {last : Int} (h : SeM W b v ss last) : W.cell? ⟨b, 1, none⟩ = some (.int .i64 last) := by rw [cell_of_row _ _ _ _ _ _ h.row]; rfl
theorem SeM.fz {W : World} {b : Nat} {v : Value} {ss : List Se} {last : Int} (h : SeM W b v ss last) (j : Nat) : W.frozen? ⟨b, j, none⟩ = false := by simp [World.frozen?, h.row]
theorem SeM.ne {w : World} {b : Nat} {v : Value} {ss : List Se} {last : Int} (h : SeM w b v ss last) : v.ownBlock ≠ some b := by
 intro e
 rcases h.own.2 with ⟨rfl, _⟩ | ⟨g, cap, cur, rfl, _, hg, _⟩
 ·simp [Value.ownBlock] at e
 ·simp [Value.ownBlock] at e
  subst e
  rw [h.row] at hg
  injection hg with hg
  injection hg with _ ht _
  exact absurd ht (by decide)
def SeTo (w0 : World) (b : Nat) (v : Value) (ss : List Se) (last : Int) (w : World) : Prop := ∃ v', SeM w b v' ss last ∧ Chg (gOwn b v) w0 w ∧ ∀ k, v'.ownBlock = some k → v.ownBlock = some k ∨ w0.heap.size ≤ k
theorem seTo_same {w w' : World} {b : Nat} {v : Value} {ss : List Se} {last : Int} (h : SeM w b v ss last) (hb : Below w.heap.size w w') : SeTo w b v ss last w' := ⟨v, h.below hb, Chg.of_below hb, fun _ e => .inl e⟩
theorem seTo_on {B b : Nat} {v : Value} {ss : List Se} {last : Int} {w1 W W' : World} (hb : Below B w1 W) (hB : B ≤ W.heap.size) (h : SeTo W b v ss last W') (hbB : B ≤ b) (hv : ∀ k, v.ownBlock = some k → B ≤ k) :
  ∃ v', SeM W' b v' ss last ∧ Below B w1 W' ∧ (∀ k, v'.ownBlock = some k → v.ownBlock = some k ∨ W.heap.size ≤ k) ∧ Chg (gOwn b v) W W' := by
 obtain ⟨v', h1, h2, h3⟩ := h
 exact ⟨v', h1, hb.trans (h2.below hB fun k hk => hk.elim (fun e => by omega) (hv k)), h3, h2⟩
theorem setCells_rowS (g : Nat) (e : TypeId) : ∀ (vs : List Value) (o : Nat) (w : World) (cur : Array Value), w.heap[g]? = some (.cells cur e (0, 0)) → o + vs.length ≤ cur.size →
  ∃ cur', (w.setCells g o vs).heap[g]? = some (.cells cur' e (0, 0)) ∧ cur'.size = cur.size ∧ cur'.toList = cur.toList.take o ++ vs ++ cur.toList.drop (o + vs.length)
 | [], o, w, cur, h, _ => ⟨cur, h, rfl, by simp⟩
 | v :: r, o, w, cur, h, hl => by
  simp only [List.length_cons] at hl
  obtain ⟨cur', h1, h2, h3⟩ := setCells_rowS g e r (o + 1) (w.setCell ⟨g, o, none⟩ v) _ (heap_set (j := o) h v) (by simp; omega)
  refine ⟨cur', h1, by rw [h2]; simp, ?_⟩
  rw [h3]
  have ho : o < cur.toList.length := by simp; omega
  simp only [List.length_cons, Array.toList_setIfInBounds]
  rw [List.take_set, List.drop_set_of_lt (by omega), List.take_add_one, List.set_append_right _ _ (by rw [List.length_take]; omega), show o + 1 + r.length = o + (r.length + 1) by omega]
  rw [List.getElem?_eq_getElem ho]
  have : o - (cur.toList.take o).length = 0 := by rw [List.length_take]; omega
  rw [this]
  simp
theorem setCells_grownS (g : Nat) : ∀ (vs : List Value) (o : Nat) (w : World), w.grownBy (w.setCells g o vs) (some g)
 | [], _, w => ⟨rfl, rfl, rfl, Nat.le_refl _, fun _ _ _ => rfl⟩
 | v :: r, o, w => by
  have h1 := grown_setCell w g o v
  have h2 := setCells_grownS g r (o + 1) (w.setCell ⟨g, o, none⟩ v)
  exact ⟨h2.os.trans h1.os, h2.tape.trans h1.tape, h2.output.trans h1.output, Nat.le_trans h1.size h2.size, fun k hk hn => (h2.block k (Nat.lt_of_lt_of_le hk h1.size) hn).trans (h1.block k hk hn)⟩
theorem own_moved {w : World} {g base n cap s m o : Nat} {e : TypeId} {xs news : List Value} (h : w.ownsRow base e s (.slice (some ⟨g, 0, none⟩) n cap) n xs) (ho : o ≤ n * s) (hm : o + news.length = m * s) (hmn : m ≤ n) :
  (w.setCells g o news).ownsRow base e s (.slice (some ⟨g, 0, none⟩) m cap) m (xs.take o ++ news) := by
 obtain ⟨hx, h0 | ⟨g', cap', cur, e1, hb, hg, hn, hc, hs, ht⟩⟩ := h
 ·cases h0.1
 ·injection e1 with ea eb ec
  injection ea with ea
  injection ea with ea
  subst ea; subst ec
  have hms : m * s ≤ cap * s := Nat.mul_le_mul_right _ (by omega)
  have hns : n * s ≤ cap * s := Nat.mul_le_mul_right _ hn
  obtain ⟨cur', k1, k2, k3⟩ := setCells_rowS g e news o w cur hg (by omega)
  refine ⟨by rw [List.length_append, List.length_take]; omega, .inr ⟨g, cap, cur', rfl, hb, k1, by omega, hc, by omega, ?_⟩⟩
  rw [k3, ← hm, List.take_left' (by rw [List.length_append, List.length_take, Array.length_toList]; omega), ← ht, List.take_take]
  congr 2
  omega
theorem own_beyond {w : World} {g base n cap s o : Nat} {e : TypeId} {xs vs : List Value} (h : w.ownsRow base e s (.slice (some ⟨g, 0, none⟩) n cap) n xs) (ho : n * s ≤ o) (hm : o + vs.length ≤ cap * s) :
  (w.setCells g o vs).ownsRow base e s (.slice (some ⟨g, 0, none⟩) n cap) n xs := by
 obtain ⟨hx, h0 | ⟨g', cap', cur, e1, hb, hg, hn, hc, hs, ht⟩⟩ := h
 ·cases h0.1
 ·injection e1 with ea eb ec
  injection ea with ea
  injection ea with ea
  subst ea; subst ec
  obtain ⟨cur', k1, k2, k3⟩ := setCells_rowS g e vs o w cur hg (by omega)
  refine ⟨hx, .inr ⟨g, cap, cur', rfl, hb, k1, hn, hc, by omega, ?_⟩⟩
  have hns : n * s ≤ cap * s := Nat.mul_le_mul_right _ hn
  rw [k3, List.append_assoc, List.take_append_of_le_length (by rw [List.length_take, Array.length_toList]; omega), List.take_take, Nat.min_eq_left (by omega), ht]
theorem own_setS {w : World} {g base n cap s o : Nat} {e : TypeId} {xs : List Value} {v : Value} (h : w.ownsRow base e s (.slice (some ⟨g, 0, none⟩) n cap) n xs) :
  (w.setCell ⟨g, o, none⟩ v).ownsRow base e s (.slice (some ⟨g, 0, none⟩) n cap) n (xs.set o v) := by
 obtain ⟨hx, h0 | ⟨g', cap', cur, e1, hb, hg, hn, hc, hs, ht⟩⟩ := h
 ·cases h0.1
 ·injection e1 with ea eb ec
  injection ea with ea
  injection ea with ea
  subst ea; subst ec
  refine ⟨by simpa using hx, .inr ⟨g, cap, _, rfl, hb, heap_set (j := o) hg v, hn, hc, by simpa using hs, ?_⟩⟩
  rw [Array.toList_setIfInBounds, List.take_set, ht]
theorem Dynamic_any (b : Nat) (w : World) (l : List (Int × Nat)) (A : Option Addr) (c : Nat) (hc : w.cell? ⟨b, 4, none⟩ = some (.slice A l.length c)) (h : StAt w A c l) (hl : l.length ≤ 1000) :
  Calls Tryz.prog 64 #[.pointer (some ⟨b, 0, none⟩)] w (DsTo l w) := by
 have RO := Lib.hid (CloneDS_any l A c w h hl)
 clear h
 go_enter Tryz.func64, Tryz.ntmps64
 go_wp2_with (go_at_call 109; refine RO.out.mono ?_; rintro e w2 ⟨A2, c2, rfl, hs2, hb2⟩)
 go_ret
 exact dsTo_mk rfl hs2 hb2
structure RtS (w4 : World) (rb o : Nat) (ns : List Tx) (bl : List Nat) (r : Rt) : Prop where
 B : RtB w4 rb o ns bl r
 GV : ∀ x W, Below w4.heap.size w4 W → Calls Tryz.prog 66 #[.pointer (some ⟨rb, 0, none⟩), .string (bs x)] W fun e w' => e = .returned (.int .u32 (upperTo bl (rtHas r.perms x) ns.length : Nat)) ∧ Below W.heap.size W w'
 DY : ∀ W, Below w4.heap.size w4 W → Calls Tryz.prog 64 #[.pointer (some ⟨rb, 0, none⟩)] W (DsTo r.dyn W)
 nd8 : r.dyn.length ≤ 8
 sd : ∀ p ∈ r.dyn, p.2 < 16777216
 sp : ∀ p ∈ r.perms, p.2 < 16777216
theorem RtS.later {w4 w5 : World} {rb o : Nat} {ns : List Tx} {bl : List Nat} {r : Rt} (h : RtS w4 rb o ns bl r) (hb : Below w4.heap.size w4 w5) : RtS w5 rb o ns bl r :=
 have k : ∀ {W : World}, Below w5.heap.size w5 W → Below w4.heap.size w4 W := fun q => below_then hb q hb.size
 ⟨h.B.later hb, fun x W q => h.GV x W (k q), fun W q => h.DY W (k q), h.nd8, h.sd, h.sp⟩
theorem rtS_of {base : Nat} {w4 : World} {rb : Nat} {ns : List Tx} {bl : List Nat} {r : Rt} (h : RtM base w4 rb ns bl r) : ∃ o, RtS w4 rb o ns bl r := by
 obtain ⟨w0, o, vU, vP, vS, vD, vA, m, hlo, hA, hO0, hI⟩ := h
 have hO := hO0.below hA.be
 obtain ⟨AU, cU, rfl⟩ := own_slice hA.oU
 obtain ⟨AP, cP, rfl⟩ := own_slice hA.oP
 obtain ⟨AS, cS, rfl⟩ := own_slice hA.oS
 obtain ⟨AD, cD, rfl⟩ := own_slice hA.oD
 refine ⟨o, ⟨?_, ?_, ?_, ?_, ?_, ?_, ?_, ?_, hO.few, hO.lo, hI.nu, hI.ns, fun x => rtHas_lt hI.su x, hI.ss⟩, ?_, ?_, hI.nd, hI.sd, hI.sp⟩
 ·exact fun W hW => Order_any rb W o (hA.below hW).q0
 ·exact fun W hW => Users_any r.users AU cU rb W (hA.below hW).q1 (hAt_of (hA.below hW).oU) (by have := hI.nu; omega)
 ·exact fun x W hW => Has_any r.users x AU cU rb W (hA.below hW).q1 (hAt_of (hA.below hW).oU) (by have := hI.nu; omega)
 ·exact fun s W hs hW => Down_any o ns bl W s hs (hO.below hW)
 ·exact fun x W hW => OIndex_any o ns bl W x (hO.below hW)
 ·exact fun x y W hW => Above_any o ns bl W x y (hO.below hW)
 ·exact fun W hW => Static_any rb W r.stat AS cS (hA.below hW).q3 (dsAt_of (hA.below hW).oS (fun p hp => by have := hI.ss p hp; omega)) (by have := hI.ns; omega)
 ·exact fun x W hx hW => Lends_any m r.loans.length r.loans x hx rb W (hA.below hW).q6 (hA.below hW).lt (hA.below hW).mp
 ·exact fun x W hW => Gives_any rb W r.perms x AP cP o ns bl (hA.below hW).q0 (hA.below hW).q2 (hA.below hW).lt (hAt_of (hA.below hW).oP) (by have := hI.np; omega) (hO.below hW) hI.sp
 ·exact fun W hW => Dynamic_any rb W r.dyn AD cD (hA.below hW).q4 (dsAt_of (hA.below hW).oD (fun p hp => by have := hI.sd p hp; omega)) (by have := hI.nd; omega)
theorem oneS_any {w4 : World} {rb o : Nat} {ns : List Tx} {bl : List Nat} {r : Rt} (R : RtB w4 rb o ns bl r) (x : Tx) (w : World) (hw : Below w4.heap.size w4 w) :
  Calls Tryz.prog 118 #[.pointer (some ⟨o, 0, none⟩), .string (bs x)] w fun e w' => e = .returned (.int .u32 (oneP ns x : Nat)) ∧ w = w' := by
 have IX := Lib.hid (R.IX x w hw)
 have hf := R.few
 clear R
 by_cases hx : x ∈ ns
 ·have HE : Hid (oneP ns x = bitN (nix ns x)) := if_pos hx
  have hi := idx_lt hx
  rw [idxI_in hx] at IX
  clear hx
  generalize nix ns x = n at *
  have hbv := bit_val (i := n) (by omega)
  have hn0 : ¬ ((n : Int) < 0) := by omega
  go_enter Tryz.func118, Tryz.ntmps118
  go_wp2_with (go_at_call 92; refine IX.out.mono ?_; rintro e w1 ⟨rfl, rfl⟩)
  go_ret
  exact ⟨by rw [HE.out, ← hbv]; rfl, rfl⟩
 ·have HE : Hid (oneP ns x = 0) := if_neg hx
  rw [idxI_out hx] at IX
  clear hx
  go_enter Tryz.func118, Tryz.ntmps118
  go_wp2_with (go_at_call 92; refine IX.out.mono ?_; rintro e w1 ⟨rfl, rfl⟩)
  go_ret
  exact ⟨by rw [HE.out]; rfl, rfl⟩
end Go.Proofs.YtgffbgmieppckaaGreatDoor
