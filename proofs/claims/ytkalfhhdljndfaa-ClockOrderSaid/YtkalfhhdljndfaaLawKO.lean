/-
  ClockOrder: for every list of Dues, Sort gives the same Dues, in order, and is its own.
-/
import Derived.Test.YtkalfhhdljndfaaCkC
import Derived.Test.YtkalfhhdljndfaaCkU
import Derived.Test.YtkalfhhdljndfaaCk3
import Derived.Deep.RegionHeld3
namespace Go.Proofs.Ytkalfhhdljndfaa
set_option maxRecDepth 100000
open Go.ChangeShapes Go.WideShapes Go.ChangeAt Go.RowKit
theorem two_rows (w : World) (X Y : Obj) : ((w.alloc X).alloc Y).drew.heap[w.heap.size]? = some X ∧ ((w.alloc X).alloc Y).drew.heap[w.heap.size + 1]? = some Y := by
  refine ⟨?_, ?_⟩
  · show ((w.alloc X).alloc Y).heap[w.heap.size]? = some X
    rw [heap_alloc_old _ _ (by simp)]
    exact heap_alloc_new w X
  · show ((w.alloc X).alloc Y).heap[w.heap.size + 1]? = some Y
    have := heap_alloc_new (w.alloc X) Y
    simpa using this
theorem srt_cases {x y : DueT} (h : ¬ ltD y x) : x.1 < y.1 ∨ (x.1 = y.1 ∧ x.2.1 ≠ y.2.1 ∧ x.2.1 < y.2.1) ∨ (x.1 = y.1 ∧ x.2.1 = y.2.1 ∧ ¬ y.2.2 < x.2.2) := by
  rcases ltD_tri x y with h1 | h1 | h1
  · rcases h1 with h1 | ⟨h1, h2 | ⟨h2, h3⟩⟩
    · exact Or.inl h1
    · refine Or.inr (Or.inl ⟨h1, fun e => ?_, h2⟩)
      rw [e] at h2; exact List.lt_irrefl _ h2
    · exact Or.inr (Or.inr ⟨h1, h2, by omega⟩)
  · subst h1; exact Or.inr (Or.inr ⟨rfl, rfl, by omega⟩)
  · exact absurd h1 h
set_option maxHeartbeats 2000000 in
theorem order_walk (w : World) (v : Value) (l : List DueT) (h : DuesAt w v l) :
    Calls Try.prog 3 #[v] w (TrueOn w) := by
  have DU := Lib.hid (Dues_any v l false w h)
  have WK := Lib.hid (fun W => wakes10 W)
  have hmm := @run_makeMap Try.prog
  have hLn := duesL_len false l
  have KEY := Lib.hid (keyD_dues l)
  generalize duesL false l = L at *
  clear h
  go_enter Try.func3, Try.ntmps3
  go_upto_region 2 with (go_at_call 4; refine DU.out.mono ?_; rintro e w1 ⟨hb1, v1, rfl, ho1⟩; obtain ⟨A3, c3, rfl, hx1⟩ := own_list ho1; have HB1 := Lib.hid hb1; have HX1 := Lib.hid hx1; clear hb1 ho1 hx1)
  have SO := Lib.hid (Sort_at A3 c3 L w1 HX1.out (by omega))
  go_upto_region 3 with (go_at_call 5; refine SO.out.mono ?_; rintro e w2 ⟨⟨A4, c4, rfl, hs2⟩, hb2⟩; have HB2 := Lib.hid (below_then HB1.out hb2 HB1.out.size); have HX2 := Lib.hid (LAtD.below HX1.out hb2); have HS2 := Lib.hid hs2; clear hb2 hs2)
  clear DU SO HX1 HB1
  have hSl := srt_len L
  have SO2 := Lib.hid (show Calls Try.prog 5 #[.slice A4 L.length c4] w2 fun e w' => (∃ A' c', e = .returned (.slice A' L.length c') ∧ LAtD w' A' (srtD L)) ∧ Below w2.heap.size w2 w' by
    have h9 := Sort_at A4 c4 (srtD L) w2 HS2.out (by rw [hSl]; omega)
    rw [hSl, ← srtD_of (List.Perm.refl _) (srtD_srt L)] at h9
    exact h9)
  have HSL := Lib.hid hSl
  clear hSl
  go_upto_region 5 with (first
    | (go_at_call 5; refine SO2.out.mono ?_; rintro e w3 ⟨⟨A9, c9, rfl, hs3⟩, hb3⟩; have HB3 := Lib.hid (below_then HB2.out hb3 HB2.out.size); have HX3 := Lib.hid (LAtD.below HX2.out hb3); have HS3 := Lib.hid (LAtD.below HS2.out hb3); have HS9 := Lib.hid hs3; have SD := Lib.hid (show Calls Try.prog 6 #[.slice A9 L.length c9, .slice A4 L.length c4] w3 fun e w' => e = .returned (.bool true) ∧ Below w3.heap.size w3 w' by
        have h9 := SameD_any (srtD L) A9 A4 c9 c4 w3 (by rw [HSL.out]; omega) HS9.out HS3.out
        rw [HSL.out] at h9
        exact h9); clear hb3 hs3)
    | (go_at_call 6; refine SD.out.mono ?_; rintro e w4 ⟨rfl, hb4⟩; have HB4 := Lib.hid (below_then HB3.out hb4 HB3.out.size); have HX4 := Lib.hid (LAtD.below HX3.out hb4); have HS4 := Lib.hid (LAtD.below HS3.out hb4); clear hb4))
  have hb5 := below_then HB4.out (box_b w4 (.map #[] 0)) HB4.out.size
  have cm5 := CM.made w4
  clear HB2 HX2 HS2 HB3 HX3 HS3 HS9 SD SO2
  have HXW := Lib.hid (show ∀ W, Below w4.heap.size (w4.alloc (.map #[] 0)) W → LAtD W A3 L from fun W hW => LAtD.below HX4.out ((box_b w4 (.map #[] 0)).trans hW))
  have HSW := Lib.hid (show ∀ W, Below w4.heap.size (w4.alloc (.map #[] 0)) W → LAtD W A4 (srtD L) from fun W hW => LAtD.below HS4.out ((box_b w4 (.map #[] 0)).trans hW))
  clear HX4 HS4
  have hbm : w4.heap.size < (w4.alloc (.map #[] 0)).heap.size := by simp
  have hb4w := HB4.out.size
  go_upto_region 6 with fail
  generalize w4.alloc (.map #[] 0) = w5 at *
  generalize w4.heap.size = bm at *
  have HB5 := Lib.hid hb5; have CM5 := Lib.hid cm5
  clear hb5 cm5 HB4
  go_wp2
  go_loopw [31] (fun i wr => ∃ k : Nat, k ≤ L.length ∧ i = .int .i64 k ∧ Hid (Below bm w5 wr) ∧ Hid (CM wr bm (2 * k) (cD L (srtD L) k k))) (fun i _ => L.length - (intOf i).toNat)
  case atStart => exact ⟨0, Nat.zero_le _, rfl, Below.refl _ _, CM5.out.ext (cD_zero _ _).symm⟩
  case round =>
    obtain ⟨k, hk, rfl, HBr, HCM⟩ := hrel
    by_cases hlt : k < L.length
    · have HKX := KEY.out L[k] (List.getElem_mem hlt)
      have hls : k < (srtD L).length := by rw [HSL.out]; exact hlt
      have HKS := KEY.out (srtD L)[k] ((srtD_perm L).mem_iff.1 (List.getElem_mem hls))
      have hbd := cD_bd L (srtD L) k k (klD L[k]) (by omega) (by rw [HSL.out]; omega)
      have hbd2 := cD_bd L (srtD L) (k + 1) k (klD (srtD L)[k]) (by omega) (by rw [HSL.out]; omega)
      obtain ⟨gx, rfl, dx⟩ := HXW.out wr HBr.out (by omega)
      obtain ⟨a0, a1, a2⟩ := dx.2 k hlt
      obtain ⟨lk0, v0, st, wa, wb, me, lk1, es, cm1, gra, grb⟩ := bump (w := wr.drew) HCM.out (by unfold maxLen; omega) HKX (c' := cD L (srtD L) k k (klD L[k]) + 1) (WalkArith.wf_i64 (by omega))
      rw [cD_up L (srtD L) k k hlt] at cm1
      generalize cD L (srtD L) k k (klD L[k]) = cc at *
      have hwr : IntKind.i64.wrap (cc + 1) = cc + 1 := by rw [IntKind.wrap_i64]; omega
      unfold dueW at lk0 me lk1
      have es' : (Instr.entryStore 28 (.map (some bm)) (.int .i64 st) (.int .i64 (cc + 1))).run Try.prog wa = .ok () wb := es
      have me' : (Instr.mapEntry 28 (.map (some bm)) (.agg #[.int .i64 L[k].1, .string (bs L[k].2.1), .int .i64 L[k].2.2])).run Try.prog wr.drew = .ok (.tuple #[v0, .int .i64 st]) wa := me
      clear es me
      have HCM1 := Lib.hid cm1
      have hbb : Below bm w5 wb := (below_drew HBr.out).grown grb (by have := HBr.out.size; simp; omega) (fun j hj => by cases hj; exact Nat.le_refl _)
      clear cm1 HCM dx hbd
      go_wp2
      go_region
      clear lk0 lk1 es' me' hwr a0 a1 a2 gra grb
      have HBB := Lib.hid hbb
      clear hbb
      obtain ⟨gs, rfl, ds⟩ := HSW.out wb HBB.out (by rw [HSL.out]; omega)
      obtain ⟨a0, a1, a2⟩ := ds.2 k hls
      obtain ⟨lk0, v1, st1, wc, wd, me, lk1, es, cm2, grc, grd⟩ := bump (w := wb.drew) HCM1.out (by unfold maxLen; omega) HKS (c' := cD L (srtD L) (k + 1) k (klD (srtD L)[k]) - 1) (WalkArith.wf_i64 (by omega))
      rw [cD_down L (srtD L) (k + 1) k hls] at cm2
      generalize cD L (srtD L) (k + 1) k (klD (srtD L)[k]) = cc2 at *
      have hwr : IntKind.i64.wrap (cc2 - 1) = cc2 - 1 := by rw [IntKind.wrap_i64]; omega
      unfold dueW at lk0 me lk1
      have es' : (Instr.entryStore 28 (.map (some bm)) (.int .i64 st1) (.int .i64 (cc2 - 1))).run Try.prog wc = .ok () wd := es
      have me' : (Instr.mapEntry 28 (.map (some bm)) (.agg #[.int .i64 (srtD L)[k].1, .string (bs (srtD L)[k].2.1), .int .i64 (srtD L)[k].2.2])).run Try.prog wb.drew = .ok (.tuple #[v1, .int .i64 st1]) wc := me
      clear es me
      have HCM2 := Lib.hid cm2
      have HBD := Lib.hid (show Below bm w5 wd from (below_drew HBB.out).grown grd (by have := HBB.out.size; simp; omega) (fun j hj => by cases hj; exact Nat.le_refl _))
      clear cm2 ds hbd2 HCM1 HBB
      go_wp2
      go_region
      go_wp2
      go_roundw
      case rel => exact ⟨k + 1, by omega, by go_num, HBD, (by rw [show 2 * (k + 1) = 2 * k + 1 + 1 by omega]; exact HCM2.out)⟩
      case measure => simp [intOf]; omega
    · have hkL : k = L.length := by omega
      have CM6 := Lib.hid (show CM wr bm (2 * k) (fun _ => 0) from HCM.out.ext (by rw [hkL]; exact cD_end (srtD_perm L)))
      have hnl : ¬ ((k : Int) < L.length) := by omega
      obtain ⟨w7, cnt, rg, rm, grr⟩ := range_zero CM6.out
      have HRM := Lib.hid rm
      have hbw := HBr.out.size
      have HB7 := Lib.hid (HBr.out.grown grr (by omega) (fun j hj => by cases hj))
      generalize hri : wr.heap.size = ri at *
      have hrib : bm ≤ ri := by omega
      clear rm grr HCM hri
      go_wp2
      go_loopw [] (fun wx => ∃ cnt, Hid (RM wx bm ri cnt) ∧ Hid (Below bm w5 wx)) (fun wx => wx.rangeLeft bm ri)
      case atStart => exact ⟨cnt, HRM, HB7⟩
      case round =>
        obtain ⟨cnt2, HRX, HBX⟩ := hrel
        rcases next_zero HRX.out 0 with hr | ⟨key, w8, cnt3, hr, rm8, hlt8, gr8, hen⟩
        · clear HRX
          go_wp2
          go_loopw [9] (fun i wy => ∃ j : Nat, (j + 1 ≤ L.length ∨ j = 0) ∧ i = .int .i64 ((j : Int) + 1) ∧ Hid (Below bm w5 wy)) (fun i _ => L.length - (intOf i).toNat)
          case atStart => exact ⟨0, Or.inr rfl, rfl, HBX⟩
          case round =>
            obtain ⟨j, hj, rfl, HBY⟩ := hrel
            by_cases hlt : j + 1 < L.length
            · have hls : j + 1 < (srtD L).length := by rw [HSL.out]; exact hlt
              obtain ⟨gs, rfl, ds⟩ := HSW.out _ HBY.out (by rw [HSL.out]; omega)
              obtain ⟨a0, a1, a2⟩ := ds.2 j (by omega)
              obtain ⟨b0, b1, b2⟩ := ds.2 (j + 1) hls
              have hso := srt_two (srtD_srt L) j (j + 1) (by omega) hls (by omega)
              generalize (srtD L)[j] = x at *
              generalize (srtD L)[j + 1] = y at *
              have hji : (j : Int) + 1 < L.length := by omega
              have hwj : IntKind.i64.wrap (j : Int) = j := by rw [IntKind.wrap_i64]; omega
              clear ds hj
              go_upto_region 20 with fail
              have hj0 : (0 : Int) ≤ j := by omega
              have hj1 : (0 : Int) ≤ (j : Int) + 1 := by omega
              have hjl : (j : Int) < L.length := by omega
              have hjt : ((j : Int) + 1).toNat = j + 1 := by omega
              have hgz : gs < wr.heap.size := World.block_lt_of_cell? wr _ a0
              have ne1 : wr.heap.size ≠ gs := by omega
              have ne2 : wr.heap.size + 1 ≠ gs := by omega
              have ne3 : wr.heap.size + 1 ≠ wr.heap.size := by omega
              have ne4 : wr.heap.size ≠ wr.heap.size + 1 := by omega
              go_region_held3 (fun w' => w'.cell? ⟨gs, j * 3, none⟩ = some (.int .i64 x.1) ∧ w'.cell? ⟨gs, j * 3 + 1, none⟩ = some (.string (bs x.2.1)) ∧ w'.cell? ⟨gs, j * 3 + 2, none⟩ = some (.int .i64 x.2.2) ∧ w'.cell? ⟨gs, (j + 1) * 3, none⟩ = some (.int .i64 y.1) ∧ w'.cell? ⟨gs, (j + 1) * 3 + 1, none⟩ = some (.string (bs y.2.1)) ∧ w'.cell? ⟨gs, (j + 1) * 3 + 2, none⟩ = some (.int .i64 y.2.2)) (go_keep) (fail)
              · have ⟨R1, R2⟩ := two_rows wr (.cells #[.int .i64 x.1, .string (bs x.2.1), .int .i64 x.2.2] 27) (.cells #[.int .i64 y.1, .string (bs y.2.1), .int .i64 y.2.2] 27)
                have HBZ := Lib.hid (below_drew (((HBY.out).alloc (by have := HBY.out.size; omega) (.cells #[.int .i64 x.1, .string (bs x.2.1), .int .i64 x.2.2] 27)).alloc (by have := HBY.out.size; simp; omega) (.cells #[.int .i64 y.1, .string (bs y.2.1), .int .i64 y.2.2] 27)))
                generalize ((wr.alloc (.cells #[.int .i64 x.1, .string (bs x.2.1), .int .i64 x.2.2] 27)).alloc (.cells #[.int .i64 y.1, .string (bs y.2.1), .int .i64 y.2.2] 27)).drew = wz at *
                clear a0 a1 a2 b0 b1 b2
                have a0 := cell_of_row _ _ 0 _ _ _ R1; have a1 := cell_of_row _ _ 1 _ _ _ R1; have a2 := cell_of_row _ _ 2 _ _ _ R1
                have b0 := cell_of_row _ _ 0 _ _ _ R2; have b1 := cell_of_row _ _ 1 _ _ _ R2; have b2 := cell_of_row _ _ 2 _ _ _ R2
                clear R1 R2 HBY
                have HSO := Lib.hid (srt_cases hso)
                clear hso hji hj0 hj1 hjl hjt hgz ne1 ne2 ne3 ne4 hls
                obtain ⟨xt, xd, xi⟩ := x
                obtain ⟨yt, yd, yi⟩ := y
                have hwj2 : IntKind.i64.wrap ((j : Int) + 1 + 1) = (j : Int) + 1 + 1 := by rw [IntKind.wrap_i64]; omega
                rcases HSO.out with h1 | ⟨h1, h2, h3⟩ | ⟨h1, h2, h3⟩
                · simp only at h1
                  have t1 : ¬ yt < xt := by omega
                  have t2 : ¬ xt = yt := by omega
                  have t3 : (xt == yt) = false := by simpa using t2
                  clear h1 HSO
                  simp only at a0 a1 a2 b0 b1 b2
                  go_wp2
                  go_roundw
                  case rel => exact ⟨j + 1, Or.inl (by omega), by simp, HBZ⟩
                  case measure => simp [intOf]; omega
                · simp only at h1 h2 h3
                  subst h1
                  have t1 : Op.bytesLess (bs xd).toList (bs yd).toList = true := by rw [bytesLess_eq, bsL, bsL]; exact decide_eq_true h3
                  have t2 : ((bs xd).toList == (bs yd).toList) = false := by rw [bsL, bsL]; simpa using h2
                  clear h2 h3 HSO
                  simp only at a0 a1 a2 b0 b1 b2
                  go_wp2
                  go_roundw
                  case rel => exact ⟨j + 1, Or.inl (by omega), by simp, HBZ⟩
                  case measure => simp [intOf]; omega
                · simp only at h1 h2 h3
                  subst h1 h2
                  clear HSO
                  have t1 : Op.bytesLess (bs xd).toList (bs xd).toList = false := by rw [bytesLess_eq, bsL]; exact decide_eq_false (fun h => List.lt_irrefl _ h)
                  have t2 : ((bs xd).toList == (bs xd).toList) = true := by simp
                  simp only at a0 a1 a2 b0 b1 b2
                  go_wp2
                  go_roundw
                  case rel => exact ⟨j + 1, Or.inl (by omega), by simp, HBZ⟩
                  case measure => simp [intOf]; omega
              · have ⟨R1, R2⟩ := two_rows wr (.cells #[.int .i64 y.1, .string (bs y.2.1), .int .i64 y.2.2] 27) (.cells #[.int .i64 x.1, .string (bs x.2.1), .int .i64 x.2.2] 27)
                have HBZ := Lib.hid (below_drew (((HBY.out).alloc (by have := HBY.out.size; omega) (.cells #[.int .i64 y.1, .string (bs y.2.1), .int .i64 y.2.2] 27)).alloc (by have := HBY.out.size; simp; omega) (.cells #[.int .i64 x.1, .string (bs x.2.1), .int .i64 x.2.2] 27)))
                generalize ((wr.alloc (.cells #[.int .i64 y.1, .string (bs y.2.1), .int .i64 y.2.2] 27)).alloc (.cells #[.int .i64 x.1, .string (bs x.2.1), .int .i64 x.2.2] 27)).drew = wz at *
                clear a0 a1 a2 b0 b1 b2
                have b0 := cell_of_row _ _ 0 _ _ _ R1; have b1 := cell_of_row _ _ 1 _ _ _ R1; have b2 := cell_of_row _ _ 2 _ _ _ R1
                have a0 := cell_of_row _ _ 0 _ _ _ R2; have a1 := cell_of_row _ _ 1 _ _ _ R2; have a2 := cell_of_row _ _ 2 _ _ _ R2
                clear R1 R2 HBY
                have HSO := Lib.hid (srt_cases hso)
                clear hso hji hj0 hj1 hjl hjt hgz ne1 ne2 ne3 ne4 hls
                obtain ⟨xt, xd, xi⟩ := x
                obtain ⟨yt, yd, yi⟩ := y
                have hwj2 : IntKind.i64.wrap ((j : Int) + 1 + 1) = (j : Int) + 1 + 1 := by rw [IntKind.wrap_i64]; omega
                rcases HSO.out with h1 | ⟨h1, h2, h3⟩ | ⟨h1, h2, h3⟩
                · simp only at h1
                  have t1 : ¬ yt < xt := by omega
                  have t2 : ¬ xt = yt := by omega
                  have t3 : (xt == yt) = false := by simpa using t2
                  clear h1 HSO
                  simp only at a0 a1 a2 b0 b1 b2
                  go_wp2
                  go_roundw
                  case rel => exact ⟨j + 1, Or.inl (by omega), by simp, HBZ⟩
                  case measure => simp [intOf]; omega
                · simp only at h1 h2 h3
                  subst h1
                  have t1 : Op.bytesLess (bs xd).toList (bs yd).toList = true := by rw [bytesLess_eq, bsL, bsL]; exact decide_eq_true h3
                  have t2 : ((bs xd).toList == (bs yd).toList) = false := by rw [bsL, bsL]; simpa using h2
                  clear h2 h3 HSO
                  simp only at a0 a1 a2 b0 b1 b2
                  go_wp2
                  go_roundw
                  case rel => exact ⟨j + 1, Or.inl (by omega), by simp, HBZ⟩
                  case measure => simp [intOf]; omega
                · simp only at h1 h2 h3
                  subst h1 h2
                  clear HSO
                  have t1 : Op.bytesLess (bs xd).toList (bs xd).toList = false := by rw [bytesLess_eq, bsL]; exact decide_eq_false (fun h => List.lt_irrefl _ h)
                  have t2 : ((bs xd).toList == (bs xd).toList) = true := by simp
                  simp only at a0 a1 a2 b0 b1 b2
                  go_wp2
                  go_roundw
                  case rel => exact ⟨j + 1, Or.inl (by omega), by simp, HBZ⟩
                  case measure => simp [intOf]; omega
            · have hji : ¬ ((j : Int) + 1 < L.length) := by omega
              go_wp2_with (go_at_call 7; refine (WK.out _).mono ?_; rintro e w9 ⟨rfl, hb9⟩)
              go_ret
              have hz9 := (HB5.out.trans (HBY.out.mono hb4w)).size
              exact ⟨rfl, below_then (HB5.out.trans (HBY.out.mono hb4w)) hb9 hz9⟩
        · have HR8 := Lib.hid rm8
          have HB8 := Lib.hid (HBX.out.grown gr8 (by have := HBX.out.size; omega) (fun q hq => by cases hq; exact hrib))
          have hms : w8.rangeLeft bm ri < wr.rangeLeft bm ri := by rw [rm8.left, HRX.out.left]; exact hlt8
          have HMS := Lib.hid hms
          clear rm8 gr8 hms HRX
          go_wp2
          go_roundw
          case rel => exact ⟨cnt3, HR8, HB8⟩
          case measure => exact HMS.out
end Go.Proofs.Ytkalfhhdljndfaa
