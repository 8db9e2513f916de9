/-
  Package clock: Sort of at most one; Of a chart of two states, each with an After: what is due of the first one.
-/
import Derived.Test.YtbacdllokgcohaaCk1
import Derived.Test.YtbacdllokgcohaaSh1b
namespace Go.Proofs.Ytbacdllokgcohaa
set_option maxRecDepth 100000
open Go.ChangeShapes Go.WideShapes Go.ChangeAt Go.RowKit

theorem Try.infoDue : (Try.prog.info? 56).map (fun i => (i.zero, i.size, i.bytes)) = some (some (.agg #[.int .i64 0, .string ⟨#[]⟩, .int .i64 0]), 3, 32) := by kernel_rfl
def dcell (t : Int) (d : Tx) (i : Int) : List Value := [.int .i64 t, .string (bs d), .int .i64 i]
theorem dcell_one (t : Int) (d : Tx) (i : Int) : ∀ u ∈ dcell t d i, u.oneCell' = true := by intro u hu; simp [dcell] at hu; rcases hu with rfl | rfl | rfl <;> rfl
theorem Sort_none (c : Nat) (w : World) :
    Calls Try.prog 21 #[.slice none 0 c] w fun e w' => (∃ c', e = .returned (.slice none 0 c')) ∧ Below w.heap.size w w' := by
  have hs := fun A c fv W => sortD_one A 0 c fv W (by omega)
  go_enter Try.func21, Try.ntmps21
  go_wp2_with (go_at_call 45; refine (hs _ _ _ _).mono ?_; rintro e w' ⟨rfl, rfl⟩)
  go_ret
  exact ⟨⟨_, rfl⟩, Below.refl _ _⟩
set_option maxHeartbeats 2000000 in
theorem Sort_one (g cap base : Nat) (t : Int) (d : Tx) (i : Int) (w : World) (h : w.ownsRow base 56 3 (.slice (some ⟨g, 0, none⟩) 1 cap) 1 (dcell t d i)) :
    Calls Try.prog 21 #[.slice (some ⟨g, 0, none⟩) 1 cap] w fun e w' => ∃ g' c', e = .returned (.slice (some ⟨g', 0, none⟩) 1 c') ∧ w'.ownsRow w.heap.size 56 3 (.slice (some ⟨g', 0, none⟩) 1 c') 1 (dcell t d i) ∧ Below w.heap.size w w' := by
  obtain ⟨i0, hi, hz0, hz1, hz2⟩ := info_parts Try.infoDue
  have hc : ∀ j u, (dcell t d i)[j]? = some u → w.cell? ((⟨g, 0, none⟩ : Addr).add j) = some u := h.cells (g := g) rfl
  have HC := Lib.hid hc
  have HO := Lib.hid (dcell_one t d i)
  have HL : Hid ((dcell t d i).length = 1 * 3) := rfl
  clear h hc
  generalize dcell t d i = xs at *
  have hs := fun A c fv W => sortD_one A 1 c fv W (by omega)
  go_enter Try.func21, Try.ntmps21
  go_wp2_with (first
    | (at_builtin; go_must (refine wpList_append_own _ rfl (.const (.slice none 0 0)) (.tmp 4) 53 rfl w.heap.size 56 i0 _ 3 32 Try.underlying53 hi hz0 hz1 hz2 rfl (by decide) (.slice none 0 0) 0 [] rfl (World.ownsRow_nil _ _ _ _) ⟨g, 0, none⟩ 1 cap xs rfl HL.out HC.out HO.out (by unfold maxLen; omega) (by omega) (Nat.le_refl _) ?_); intro v' w4 hown' hg' _; have hg2 : w.grownBy w4 none := hg'; have hown2 : w4.ownsRow w.heap.size 56 3 v' 1 xs := (by simpa using hown'); obtain ⟨g', c', rfl, _⟩ := own_form hown2 (by omega))
    | (go_at_call 45; refine (hs _ _ _ _).mono ?_; rintro e w' ⟨rfl, rfl⟩))
  go_ret
  exact ⟨g', c', rfl, hown2, hg2.os, hg2.tape, hg2.output, hg2.size, fun j hj => hg2.block j hj (by simp)⟩
def lastT (T : Int) : List Tr := [⟨11, 0, 1, [], [], [], T⟩, ⟨11, 1, 0, [], [], [], 1⟩]
def OfLast (s T : Int) (w : World) (e : Ending) (w' : World) : Prop := Below w.heap.size w w' ∧ (if s + T ≤ 1073741824 then ∃ g c, e = .returned (.slice (some ⟨g, 0, none⟩) 1 c) ∧ w'.ownsRow w.heap.size 56 3 (.slice (some ⟨g, 0, none⟩) 1 c) 1 (dcell (s + T) [100] 0) else ∃ c, e = .returned (.slice none 0 c))
set_option maxHeartbeats 4000000 in
theorem Of_last (s T : Int) (AN AK AP AT : Option Addr) (nN cN nK cK nP cP cT gS : Nat) (vP : Value) (w : World) (hs0 : 0 ≤ s) (hs : s ≤ 1073741824) (ht0 : 0 ≤ T) (ht : T ≤ 1073741824)
    (hT : TAt w AT (lastT T)) (hgS : gS < w.heap.size) (hS : w.cell? ⟨gS, 0, none⟩ = some (.int .i64 s)) :
    Calls Try.prog 18 #[.agg #[.slice AN nN cN, .slice AK nK cK, .slice AP nP cP, .slice AT 2 cT], .agg #[.int .u32 1, vP, .slice (some ⟨gS, 0, none⟩) 2 2], .string (bs [100])] w (OfLast s T w) := by
  obtain ⟨i0, hi, hz0, hz1, hz2⟩ := info_parts Try.infoDue
  obtain ⟨gT, rfl, hgT, hc0⟩ := hT 0 (show 0 < 2 by omega)
  obtain ⟨gT', eT, _, hc1⟩ := hT 1 (show 1 < 2 by omega)
  injection eT with eT
  injection eT with eT
  subst eT
  have EN := Lib.hid (fun W => end_any s T W hs0 hs ht0 ht)
  have IN0 := Lib.hid (fun W => in_zero vP (some ⟨gS, 0, none⟩) 2 W)
  have IN1 := Lib.hid (fun W => in_one vP (some ⟨gS, 0, none⟩) 2 W)
  have hB0 : Below w.heap.size w ((w.alloc (.cells #[.slice AN nN cN, .slice AK nK cK, .slice AP nP cP, .slice (some ⟨gT, 0, none⟩) 2 cT] 28)).alloc (.cells #[.int .u32 1, vP, .slice (some ⟨gS, 0, none⟩) 2 2] 36)) := ((Below.refl _ _).alloc (Nat.le_refl _) _).alloc (by simp) _
  have RC : ((w.alloc (.cells #[.slice AN nN cN, .slice AK nK cK, .slice AP nP cP, .slice (some ⟨gT, 0, none⟩) 2 cT] 28)).alloc (.cells #[.int .u32 1, vP, .slice (some ⟨gS, 0, none⟩) 2 2] 36)).heap[w.heap.size]? = _ := (heap_alloc_old _ _ (by simp)).trans (heap_alloc_new _ _)
  have RX : ((w.alloc (.cells #[.slice AN nN cN, .slice AK nK cK, .slice AP nP cP, .slice (some ⟨gT, 0, none⟩) 2 cT] 28)).alloc (.cells #[.int .u32 1, vP, .slice (some ⟨gS, 0, none⟩) 2 2] 36)).heap[w.heap.size + 1]? = some (.cells #[.int .u32 1, vP, .slice (some ⟨gS, 0, none⟩) 2 2] 36 (0, 0)) := by
    have := heap_alloc_new (w.alloc (.cells #[.slice AN nN cN, .slice AK nK cK, .slice AP nP cP, .slice (some ⟨gT, 0, none⟩) 2 cT] 28)) (.cells #[.int .u32 1, vP, .slice (some ⟨gS, 0, none⟩) 2 2] 36)
    simpa using this
  have HB0 := Lib.hid hB0
  have hT0 := fun j u hj hu => (hB0.cell (p := ⟨gT, 0 * 7 + j, none⟩) hgT).trans (hc0 j u hj hu)
  have hT1 := fun j u hj hu => (HB0.out.cell (p := ⟨gT, 1 * 7 + j, none⟩) hgT).trans (hc1 j u hj hu)
  have hS0 := (hB0.cell (p := ⟨gS, 0, none⟩) hgS).trans hS
  clear hT hB0 hc0 hc1 hS
  go_enter Try.func18, Try.ntmps18
  go_upto_region 3 with fail
  generalize (w.alloc (.cells #[.slice AN nN cN, .slice AK nK cK, .slice AP nP cP, .slice (some ⟨gT, 0, none⟩) 2 cT] 28)).alloc (.cells #[.int .u32 1, vP, .slice (some ⟨gS, 0, none⟩) 2 2] 36) = w0 at *
  have hgT0 : gT < w0.heap.size := Nat.lt_of_lt_of_le hgT HB0.out.size
  have hgS0 : gS < w0.heap.size := Nat.lt_of_lt_of_le hgS HB0.out.size
  have hx1 : w.heap.size + 1 < w0.heap.size := (Array.getElem?_eq_some_iff.1 RX).1
  have p0 := hT0 0 _ (by omega) rfl; have p1 := hT0 1 _ (by omega) rfl; have p2 := hT0 2 _ (by omega) rfl; have p3 := hT0 3 _ (by omega) rfl; have p4 := hT0 4 _ (by omega) rfl; have p5 := hT0 5 _ (by omega) rfl; have p6 := hT0 6 _ (by omega) rfl
  have r0 := hT1 0 _ (by omega) rfl; have r1 := hT1 1 _ (by omega) rfl; have r2 := hT1 2 _ (by omega) rfl; have r3 := hT1 3 _ (by omega) rfl; have r4 := hT1 4 _ (by omega) rfl; have r5 := hT1 5 _ (by omega) rfl; have r6 := hT1 6 _ (by omega) rfl
  have HK0 : Hid (∀ W, Below w0.heap.size w0 W → W.cell? ⟨gT, 0, none⟩ = some (.int .i64 11) ∧ W.cell? ⟨gT, 1, none⟩ = some (.int .i64 0) ∧ W.cell? ⟨gT, 2, none⟩ = some (.int .i64 1) ∧ W.cell? ⟨gT, 3, none⟩ = some (.string (bs [])) ∧ W.cell? ⟨gT, 4, none⟩ = some (.string (bs [])) ∧ W.cell? ⟨gT, 5, none⟩ = some (.string (bs [])) ∧ W.cell? ⟨gT, 6, none⟩ = some (.int .i64 T)) := fun W hW =>
    ⟨(hW.cell (p := ⟨gT, 0, none⟩) hgT0).trans p0, (hW.cell (p := ⟨gT, 1, none⟩) hgT0).trans p1, (hW.cell (p := ⟨gT, 2, none⟩) hgT0).trans p2, (hW.cell (p := ⟨gT, 3, none⟩) hgT0).trans p3, (hW.cell (p := ⟨gT, 4, none⟩) hgT0).trans p4, (hW.cell (p := ⟨gT, 5, none⟩) hgT0).trans p5, (hW.cell (p := ⟨gT, 6, none⟩) hgT0).trans p6⟩
  have HK1 : Hid (∀ W, Below w0.heap.size w0 W → W.cell? ⟨gT, 7, none⟩ = some (.int .i64 11) ∧ W.cell? ⟨gT, 8, none⟩ = some (.int .i64 1) ∧ W.cell? ⟨gT, 9, none⟩ = some (.int .i64 0) ∧ W.cell? ⟨gT, 10, none⟩ = some (.string (bs [])) ∧ W.cell? ⟨gT, 11, none⟩ = some (.string (bs [])) ∧ W.cell? ⟨gT, 12, none⟩ = some (.string (bs [])) ∧ W.cell? ⟨gT, 13, none⟩ = some (.int .i64 1)) := fun W hW =>
    ⟨(hW.cell (p := ⟨gT, 7, none⟩) hgT0).trans r0, (hW.cell (p := ⟨gT, 8, none⟩) hgT0).trans r1, (hW.cell (p := ⟨gT, 9, none⟩) hgT0).trans r2, (hW.cell (p := ⟨gT, 10, none⟩) hgT0).trans r3, (hW.cell (p := ⟨gT, 11, none⟩) hgT0).trans r4, (hW.cell (p := ⟨gT, 12, none⟩) hgT0).trans r5, (hW.cell (p := ⟨gT, 13, none⟩) hgT0).trans r6⟩
  have HKX : Hid (∀ W, Below w0.heap.size w0 W → W.cell? ⟨w.heap.size + 1, 0, none⟩ = some (.int .u32 1) ∧ W.cell? ⟨w.heap.size + 1, 1, none⟩ = some vP ∧ W.cell? ⟨w.heap.size + 1, 2, none⟩ = some (.slice (some ⟨gS, 0, none⟩) 2 2) ∧ W.cell? ⟨gS, 0, none⟩ = some (.int .i64 s)) := fun W hW =>
    ⟨(hW.cell (p := ⟨w.heap.size + 1, 0, none⟩) hx1).trans (cell_of_row _ _ 0 _ _ _ RX), (hW.cell (p := ⟨w.heap.size + 1, 1, none⟩) hx1).trans (cell_of_row _ _ 1 _ _ _ RX), (hW.cell (p := ⟨w.heap.size + 1, 2, none⟩) hx1).trans (cell_of_row _ _ 2 _ _ _ RX), (hW.cell (p := ⟨gS, 0, none⟩) hgS0).trans hS0⟩
  have HRC := Lib.hid RC
  have hd0 : (0 : Int) ≤ s + T := by omega
  clear hT0 hT1 hS0 p0 p1 p2 p3 p4 p5 p6 r0 r1 r2 r3 r4 r5 r6 RX
  have c3 := cell_of_row _ _ 3 _ _ _ RC
  clear RC
  go_upto_region 3 with fail
  go_loopw [7, 15] (fun l i wr => ∃ k : Nat, k ≤ 2 ∧ i = .int .i64 k ∧ Hid (Below w0.heap.size w0 wr) ∧ Hid (if 1 ≤ k ∧ s + T ≤ 1073741824 then wr.ownsRow w0.heap.size 56 3 l 1 (dcell (s + T) [100] 0) else l = .slice none 0 0)) (fun _ i _ => 2 - (intOf i).toNat)
  case atStart => exact ⟨0, by omega, rfl, Below.refl _ _, rfl⟩
  case round =>
    obtain ⟨k, hk, rfl, HB, HL⟩ := hrel
    have hbz := HB.out.size
    have hbw := below_then HB0.out HB.out HB0.out.size
    rcases (by omega : k = 0 ∨ k = 1 ∨ k = 2) with rfl | rfl | rfl
    · have hl : u7 = .slice none 0 0 := HL.out
      subst hl
      obtain ⟨p0, p1, p2, p3, p4, p5, p6⟩ := HK0.out _ HB.out
      go_upto_region 5 with fail
      have RT := heap_alloc_new wr (.cells #[.int .i64 11, .int .i64 0, .int .i64 1, .string (bs []), .string (bs []), .string (bs []), .int .i64 T] 32)
      have hbt := below_then HB.out (box_b wr (.cells #[.int .i64 11, .int .i64 0, .int .i64 1, .string (bs []), .string (bs []), .string (bs []), .int .i64 T] 32)) hbz
      have hwt := box_b wr (.cells #[.int .i64 11, .int .i64 0, .int .i64 1, .string (bs []), .string (bs []), .string (bs []), .int .i64 T] 32)
      clear p0 p1 p2 p3 p4 p5 p6
      generalize wr.alloc (.cells #[.int .i64 11, .int .i64 0, .int .i64 1, .string (bs []), .string (bs []), .string (bs []), .int .i64 T] 32) = wt at *
      obtain ⟨gt, hgt9⟩ : ∃ gt, gt = wr.heap.size := ⟨_, rfl⟩
      rw [← hgt9] at RT
      go_must (rw [← hgt9])
      clear hgt9
      have t0 := cell_of_row _ _ 0 _ _ _ RT; have t1 := cell_of_row _ _ 1 _ _ _ RT; have t6 := cell_of_row _ _ 6 _ _ _ RT
      have hgt := (Array.getElem?_eq_some_iff.1 RT).1
      have HBT := Lib.hid hbt
      have hbtz := hbt.size
      have HRT := Lib.hid RT
      clear RT hbt
      obtain ⟨x0, x1, x2, xs⟩ := HKX.out _ HBT.out
      have e6 : (#[Value.int .i64 11, .int .i64 0, .int .i64 1, .string (bs []), .string (bs []), .string (bs []), .int .i64 T])[6]? = some (.int .i64 T) := rfl
      rw [e6] at t6
      go_upto_region 6 with (go_at_call 43; refine (IN0.out _).mono ?_; rintro e w5 ⟨rfl, hb5⟩; have HB5 := Lib.hid hb5; clear hb5)
      have y2 := (HB5.out.cell (p := ⟨w.heap.size + 1, 2, none⟩) (show w.heap.size + 1 < wt.heap.size by omega)).trans x2
      have ys := (HB5.out.cell (p := ⟨gS, 0, none⟩) (show gS < wt.heap.size by omega)).trans xs
      have y1 := (HB5.out.cell (p := ⟨gt, 1, none⟩) hgt).trans t1
      have y6 := (HB5.out.cell (p := ⟨gt, 6, none⟩) hgt).trans t6
      have hb05 := below_then HBT.out HB5.out HBT.out.size
      clear t0 t1 t6 x0 x1 x2 xs e6
      have EQ : Hid (∀ n, Calls Try.prog 44 #[.int .i64 s, .int .i64 T] (w5.drewN n) fun e w' => e = .returned (.tuple #[.int .i64 (if s + T ≤ 1073741824 then s + T else 0), .bool (decide (s + T ≤ 1073741824))]) ∧ w' = w5.drewN n) := fun n => (EN.out _).mono fun _ _ h => ⟨h.1, h.2.symm⟩
      by_cases hx : s + T ≤ 1073741824
      · have HEQ : Hid ((if s + T ≤ 1073741824 then s + T else 0) = s + T ∧ decide (s + T ≤ 1073741824) = true) := ⟨if_pos hx, decide_eq_true hx⟩
        have HX := Lib.hid hx
        clear hx
        have EQ2 : Hid (∀ n, Calls Try.prog 44 #[.int .i64 s, .int .i64 T] (w5.drewN n) fun e w' => e = .returned (.tuple #[.int .i64 (s + T), .bool true]) ∧ w' = w5.drewN n) := fun n => (EQ.out n).mono fun _ _ h => ⟨by rw [h.1, HEQ.out.1, HEQ.out.2], h.2⟩
        go_quiet ((go_at_call 44; exact Calls.quiet_of_same (EQ2.out _)))
        have hb6 := below_drewN hb05 nq
        generalize w5.drewN nq = w6 at *
        have HB6 := Lib.hid hb6
        have hz6 := hb6.size
        clear hb6 hb05 HB5 y1 y2 y6 ys EQ EQ2
        go_wp2_with (at_builtin; go_must (refine wpList_append_own _ rfl (.tmp 43) (.tmp 48) 53 rfl w0.heap.size 56 i0 _ 3 32 Try.underlying53 hi hz0 hz1 hz2 rfl (by decide) (.slice none 0 0) 0 [] rfl (World.ownsRow_nil _ _ _ _) ⟨w6.heap.size, 0, none⟩ 1 1 (dcell (s + T) [100] 0) rfl rfl (cells_new _ _ _) (dcell_one _ _ _) (by unfold maxLen; omega) (by omega) (by simp; omega) ?_); intro v' w7 hown' hg' _; have hown2 : w7.ownsRow w0.heap.size 56 3 v' 1 (dcell (s + T) [100] 0) := (by simpa using hown'); have hg2 := (World.grownBy_alloc w6 (.cells (dcell (s + T) [100] 0).toArray 56) _).andThen hg' (fun j e => .inr e))
        have HB7 := Lib.hid (HB6.out.grown hg2 hz6 (fun j e => by cases e))
        go_roundw
        case rel => exact ⟨1, by omega, by go_num, HB7.out, (by show (if _ then _ else _); rw [if_pos ⟨by omega, HX.out⟩]; exact hown2)⟩
        case measure => simp [intOf]
      · have HEQ : Hid ((if s + T ≤ 1073741824 then s + T else 0) = 0 ∧ decide (s + T ≤ 1073741824) = false) := ⟨if_neg hx, decide_eq_false hx⟩
        have HX := Lib.hid hx
        clear hx
        have EQ2 : Hid (∀ n, Calls Try.prog 44 #[.int .i64 s, .int .i64 T] (w5.drewN n) fun e w' => e = .returned (.tuple #[.int .i64 0, .bool false]) ∧ w' = w5.drewN n) := fun n => (EQ.out n).mono fun _ _ h => ⟨by rw [h.1, HEQ.out.1, HEQ.out.2], h.2⟩
        go_quiet ((go_at_call 44; exact Calls.quiet_of_same (EQ2.out _)))
        go_wp2
        go_roundw
        case rel => exact ⟨1, by omega, by go_num, below_drewN hb05 _, (by show (if _ then _ else _); rw [if_neg (fun h => HX.out h.2)])⟩
        case measure => simp [intOf]
    · obtain ⟨p0, p1, p2, p3, p4, p5, p6⟩ := HK1.out _ HB.out
      go_upto_region 5 with fail
      have RT := heap_alloc_new wr (.cells #[.int .i64 11, .int .i64 1, .int .i64 0, .string (bs []), .string (bs []), .string (bs []), .int .i64 1] 32)
      have hbt := below_then HB.out (box_b wr (.cells #[.int .i64 11, .int .i64 1, .int .i64 0, .string (bs []), .string (bs []), .string (bs []), .int .i64 1] 32)) hbz
      have hwt := box_b wr (.cells #[.int .i64 11, .int .i64 1, .int .i64 0, .string (bs []), .string (bs []), .string (bs []), .int .i64 1] 32)
      clear p0 p1 p2 p3 p4 p5 p6
      generalize wr.alloc (.cells #[.int .i64 11, .int .i64 1, .int .i64 0, .string (bs []), .string (bs []), .string (bs []), .int .i64 1] 32) = wt at *
      obtain ⟨gt, hgt9⟩ : ∃ gt, gt = wr.heap.size := ⟨_, rfl⟩
      rw [← hgt9] at RT
      go_must (rw [← hgt9])
      clear hgt9
      have t0 := cell_of_row _ _ 0 _ _ _ RT; have t1 := cell_of_row _ _ 1 _ _ _ RT; have t6 := cell_of_row _ _ 6 _ _ _ RT
      have hgt := (Array.getElem?_eq_some_iff.1 RT).1
      have HBT := Lib.hid hbt
      have hbtz := hbt.size
      have HRT := Lib.hid RT
      clear RT hbt
      obtain ⟨x0, x1, x2, xs⟩ := HKX.out _ HBT.out
      have e6 : (#[Value.int .i64 11, .int .i64 1, .int .i64 0, .string (bs []), .string (bs []), .string (bs []), .int .i64 1])[6]? = some (.int .i64 1) := rfl
      rw [e6] at t6
      go_wp2_with (go_at_call 43; refine (IN1.out _).mono ?_; rintro e w5 ⟨rfl, hb5⟩)
      have hb05 := below_then HBT.out hb5 HBT.out.size
      have HL5 : Hid (if 1 ≤ 2 ∧ s + T ≤ 1073741824 then w5.ownsRow w0.heap.size 56 3 u7 1 (dcell (s + T) [100] 0) else u7 = .slice none 0 0) := by
        have h0 := HL.out
        show (if 1 ≤ 2 ∧ s + T ≤ 1073741824 then _ else _)
        by_cases hx : s + T ≤ 1073741824
        · rw [if_pos ⟨by omega, hx⟩] at h0 ⊢
          exact own_below h0 (below_then hwt hb5 hwt.size) (by omega)
        · rw [if_neg (fun h => hx h.2)] at h0 ⊢
          exact h0
      go_roundw
      case rel => exact ⟨2, by omega, by go_num, hb05, HL5⟩
      case measure => simp [intOf]
    · by_cases hx : s + T ≤ 1073741824
      · have h0 := HL.out
        rw [if_pos ⟨by omega, hx⟩] at h0
        obtain ⟨g, c, rfl, _, _, _, _⟩ := own_form h0 (by omega)
        have SO := Lib.hid (Sort_one g c w0.heap.size (s + T) [100] 0 wr h0)
        have HX := Lib.hid hx
        clear HL h0 hx
        go_wp2_with (go_at_call 21; refine SO.out.mono ?_; rintro e w8 ⟨g', c', rfl, ho8, hb8⟩)
        go_ret
        refine ⟨below_then hbw hb8 hbw.size, ?_⟩
        rw [if_pos HX.out]
        exact ⟨g', c', rfl, World.ownsRow.mono ho8 hbw.size⟩
      · have h0 := HL.out
        rw [if_neg (fun h => hx h.2)] at h0
        subst h0
        have HX := Lib.hid hx
        have SO := Lib.hid (Sort_none 0 wr)
        clear HL hx
        go_wp2_with (go_at_call 21; refine SO.out.mono ?_; rintro e w8 ⟨⟨c', rfl⟩, hb8⟩)
        go_ret
        refine ⟨below_then hbw hb8 hbw.size, ?_⟩
        rw [if_neg (by have := HX.out; omega)]
        exact ⟨c', rfl⟩
end Go.Proofs.Ytbacdllokgcohaa
