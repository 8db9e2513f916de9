/-
  Package step: Take, of a transition that is enabled: the walk.
-/
import Derived.Test.YtaoinedndnleoaaGreatSt10
import Derived.Deep.RegionHeld3
namespace Go.Proofs.YtaoinedndnleoaaGreat
set_option maxRecDepth 100000
open Go.ChangeShapes Go.WideShapes Go.ChangeAt Go.RowKit

set_option maxHeartbeats 8000000 in
theorem takeT_any (c : Ch) (n : Nat) (AN AK AP AT A7 A8 : Option Addr) (cN cK cP cT c7 c8 : Nat) (x : Cf) (i : Nat) (now : Int) (w : World) (h : ChW w c n AK AP AT cK cP cT) (hx : CfOk n x) (hU : U32sAt w (.slice A7 n c7) x.past) (hS : IntsAt w (.slice A8 n c8) x.since)
    (hi : i < c.trans.length) (hin : x.set.testBit (frT c i) = true) (hw : (Lit.int .i64 now).wf = true) (hp : PastOk c.kinds c.parents n (pfun (rememL c.kinds c.parents n x.set x.past (leaveL c.parents n x.set (domL c.kinds c.parents n (frT c i) (toT c i)))))) :
    Calls Tryz.prog 12 #[chV AN AK AP AT c.names.length cN n cK n cP c.trans.length cT, .agg #[.int .u32 (x.set : Nat), .slice A7 n c7, .slice A8 n c8], .int .i64 i, .int .i64 now] w (TakTo n (movC c.kinds c.parents n x (frT c i) (toT c i) now) w) := by
  obtain ⟨f, t, ef, hfn, et, htn⟩ := h.ft _ (List.getElem_mem hi)
  rw [frT_at hi ef] at hin hp ⊢
  rw [toT_at hi et] at hp ⊢
  obtain ⟨RC, RX, RR, hB0'⟩ := rows3 w (.cells #[.slice AN c.names.length cN, .slice AK n cK, .slice AP n cP, .slice AT c.trans.length cT] 30) (.cells #[.int .u32 (x.set : Nat), .slice A7 n c7, .slice A8 n c8] 40) (.cells #[.int .u32 0, .slice none 0 0, .slice none 0 0] 40)
  have hB0 : Below w.heap.size w (((w.alloc (.cells #[.slice AN c.names.length cN, .slice AK n cK, .slice AP n cP, .slice AT c.trans.length cT] 30)).alloc (.cells #[.int .u32 (x.set : Nat), .slice A7 n c7, .slice A8 n c8] 40)).alloc (.cells #[.int .u32 0, .slice none 0 0, .slice none 0 0] 40)) := ((((Below.refl _ _).alloc (Nat.le_refl _) _).alloc (by simp) _).alloc (by simp; omega) _)
  have RC : (((w.alloc (.cells #[.slice AN c.names.length cN, .slice AK n cK, .slice AP n cP, .slice AT c.trans.length cT] 30)).alloc (.cells #[.int .u32 (x.set : Nat), .slice A7 n c7, .slice A8 n c8] 40)).alloc (.cells #[.int .u32 0, .slice none 0 0, .slice none 0 0] 40)).heap[w.heap.size]? = _ := RC
  have RX : (((w.alloc (.cells #[.slice AN c.names.length cN, .slice AK n cK, .slice AP n cP, .slice AT c.trans.length cT] 30)).alloc (.cells #[.int .u32 (x.set : Nat), .slice A7 n c7, .slice A8 n c8] 40)).alloc (.cells #[.int .u32 0, .slice none 0 0, .slice none 0 0] 40)).heap[w.heap.size + 1]? = _ := RX
  have RR : (((w.alloc (.cells #[.slice AN c.names.length cN, .slice AK n cK, .slice AP n cP, .slice AT c.trans.length cT] 30)).alloc (.cells #[.int .u32 (x.set : Nat), .slice A7 n c7, .slice A8 n c8] 40)).alloc (.cells #[.int .u32 0, .slice none 0 0, .slice none 0 0] 40)).heap[w.heap.size + 2]? = _ := RR
  obtain ⟨gT, rfl, hgT, hc⟩ := h.tr i hi
  have hs32 : x.set < 4294967296 := Nat.lt_of_lt_of_le hx.st (Nat.pow_le_pow_right (n := 2) (by omega) (show n ≤ 32 by have := h.nn; omega))
  have q := fun j u hj hu => (hB0.cell (p := ⟨gT, i * 7 + j, none⟩) hgT).trans (hc j u hj hu)
  have htc := h.tc
  have hnn := h.nn
  have hg0 : gT < w.heap.size := hgT
  generalize c.trans[i] = tr at *
  obtain ⟨tk, tf, tt, te, tp, ta, ti⟩ := tr
  simp only at ef et
  subst ef
  subst et
  have r0 := q 0 _ (by omega) rfl; have r1 := q 1 _ (by omega) rfl; have r2 := q 2 _ (by omega) rfl; have r3 := q 3 _ (by omega) rfl; have r4 := q 4 _ (by omega) rfl; have r5 := q 5 _ (by omega) rfl; have r6 := q 6 _ (by omega) rfl
  simp only [Nat.add_zero] at r0
  have IN := Lib.hid (fun W => in_any AN AK AP (some ⟨gT, 0, none⟩) c.names.length cN n cK n cP c.trans.length cT x.set f (.slice A7 n c7) (.slice A8 n c8) W hs32 hfn hnn)
  rw [hin] at IN
  have MV := Lib.hid (fun W (hW : Below w.heap.size w W) => moved_any AN AK AP (some ⟨gT, 0, none⟩) c.names.length cN cK cP c.trans.length cT x A7 A8 c7 c8 tk ti now f t (bs te) (bs tp) (bs ta) W ⟨h.kp.1.below hW, h.kp.2.below hW⟩ h.sh h.n0 h.nn hx (hU.below hW) (hS.below hW) hfn htn hw hp)
  have HB0 := Lib.hid hB0
  have hii : (i : Int) < c.trans.length := by omega
  have hi0 : ¬ (i : Int) < 0 := by omega
  have hi1 : (0 : Int) ≤ i := by omega
  clear hB0 hB0' q hc hin hp h hU hS hx hgT
  generalize movC c.kinds c.parents n x f t now = y at *
  go_enter Tryz.func12, Tryz.ntmps12
  go_upto_region 1 with fail
  generalize ((w.alloc (.cells #[.slice AN c.names.length cN, .slice AK n cK, .slice AP n cP, .slice (some ⟨gT, 0, none⟩) c.trans.length cT] 30)).alloc (.cells #[.int .u32 (x.set : Nat), .slice A7 n c7, .slice A8 n c8] 40)).alloc (.cells #[.int .u32 0, .slice none 0 0, .slice none 0 0] 40) = w0 at *
  have hL2 : w.heap.size + 2 < w0.heap.size := (Array.getElem?_eq_some_iff.1 RR).1
  have hL0 : w.heap.size < w0.heap.size := by omega
  have hL1 : w.heap.size + 1 < w0.heap.size := by omega
  have hLT : gT < w0.heap.size := by omega
  have c0 := cell_of_row _ _ 0 _ _ _ RC; have c1 := cell_of_row _ _ 1 _ _ _ RC; have c2 := cell_of_row _ _ 2 _ _ _ RC; have c3 := cell_of_row _ _ 3 _ _ _ RC
  have x0 := cell_of_row _ _ 0 _ _ _ RX; have x1 := cell_of_row _ _ 1 _ _ _ RX; have x2 := cell_of_row _ _ 2 _ _ _ RX
  have HRR := Lib.hid RR
  clear RC RX RR
  have hm0 : w.heap.size ≠ w.heap.size + 1 + 1 := by omega
  have hm1 : w.heap.size + 1 ≠ w.heap.size + 1 + 1 := by omega
  have hmT : gT ≠ w.heap.size + 1 + 1 := by omega
  go_upto_region 3 with fail
  go_region_held3 (fun w' => w'.cell? ⟨w.heap.size, 0, none⟩ = some (.slice AN c.names.length cN) ∧ w'.cell? ⟨w.heap.size, 1, none⟩ = some (.slice AK n cK) ∧ w'.cell? ⟨w.heap.size, 2, none⟩ = some (.slice AP n cP) ∧ w'.cell? ⟨w.heap.size, 3, none⟩ = some (.slice (some ⟨gT, 0, none⟩) c.trans.length cT) ∧ w'.cell? ⟨w.heap.size + 1, 0, none⟩ = some (.int .u32 (x.set : Nat)) ∧ w'.cell? ⟨w.heap.size + 1, 1, none⟩ = some (.slice A7 n c7) ∧ w'.cell? ⟨w.heap.size + 1, 2, none⟩ = some (.slice A8 n c8) ∧ w'.cell? ⟨gT, i * 7, none⟩ = some (.int .i64 tk) ∧ w'.cell? ⟨gT, i * 7 + 1, none⟩ = some (.int .i64 f) ∧ w'.cell? ⟨gT, i * 7 + 2, none⟩ = some (.int .i64 t) ∧ w'.cell? ⟨gT, i * 7 + 3, none⟩ = some (.string (bs te)) ∧ w'.cell? ⟨gT, i * 7 + 4, none⟩ = some (.string (bs tp)) ∧ w'.cell? ⟨gT, i * 7 + 5, none⟩ = some (.string (bs ta)) ∧ w'.cell? ⟨gT, i * 7 + 6, none⟩ = some (.int .i64 ti))
    (first | exact ⟨c0, c1, c2, c3, x0, x1, x2, r0, r1, r2, r3, r4, r5, r6⟩ | exact ⟨(hb5.cell (p := ⟨w.heap.size, 0, none⟩) hL0).trans c0, (hb5.cell (p := ⟨w.heap.size, 1, none⟩) hL0).trans c1, (hb5.cell (p := ⟨w.heap.size, 2, none⟩) hL0).trans c2, (hb5.cell (p := ⟨w.heap.size, 3, none⟩) hL0).trans c3, (hb5.cell (p := ⟨w.heap.size + 1, 0, none⟩) hL1).trans x0, (hb5.cell (p := ⟨w.heap.size + 1, 1, none⟩) hL1).trans x1, (hb5.cell (p := ⟨w.heap.size + 1, 2, none⟩) hL1).trans x2, (hb5.cell (p := ⟨gT, i * 7, none⟩) hLT).trans r0, (hb5.cell (p := ⟨gT, i * 7 + 1, none⟩) hLT).trans r1, (hb5.cell (p := ⟨gT, i * 7 + 2, none⟩) hLT).trans r2, (hb5.cell (p := ⟨gT, i * 7 + 3, none⟩) hLT).trans r3, (hb5.cell (p := ⟨gT, i * 7 + 4, none⟩) hLT).trans r4, (hb5.cell (p := ⟨gT, i * 7 + 5, none⟩) hLT).trans r5, (hb5.cell (p := ⟨gT, i * 7 + 6, none⟩) hLT).trans r6⟩ | go_keep)
    (first | (go_at_call 38; refine (IN.out _).mono ?_; rintro e w5 ⟨rfl, hb5'⟩; have hb5 : Below w0.heap.size w0 w5 := (by first | exact hb5' | exact below_then (below_drew (Below.refl _ _)) hb5' (Nat.le_refl _))))
  replace c0 := (hb5.cell (p := ⟨w.heap.size, 0, none⟩) hL0).trans c0
  replace c1 := (hb5.cell (p := ⟨w.heap.size, 1, none⟩) hL0).trans c1
  replace c2 := (hb5.cell (p := ⟨w.heap.size, 2, none⟩) hL0).trans c2
  replace c3 := (hb5.cell (p := ⟨w.heap.size, 3, none⟩) hL0).trans c3
  replace x0 := (hb5.cell (p := ⟨w.heap.size + 1, 0, none⟩) hL1).trans x0
  replace x1 := (hb5.cell (p := ⟨w.heap.size + 1, 1, none⟩) hL1).trans x1
  replace x2 := (hb5.cell (p := ⟨w.heap.size + 1, 2, none⟩) hL1).trans x2
  replace r0 := (hb5.cell (p := ⟨gT, i * 7, none⟩) hLT).trans r0
  replace r1 := (hb5.cell (p := ⟨gT, i * 7 + 1, none⟩) hLT).trans r1
  replace r2 := (hb5.cell (p := ⟨gT, i * 7 + 2, none⟩) hLT).trans r2
  replace r3 := (hb5.cell (p := ⟨gT, i * 7 + 3, none⟩) hLT).trans r3
  replace r4 := (hb5.cell (p := ⟨gT, i * 7 + 4, none⟩) hLT).trans r4
  replace r5 := (hb5.cell (p := ⟨gT, i * 7 + 5, none⟩) hLT).trans r5
  replace r6 := (hb5.cell (p := ⟨gT, i * 7 + 6, none⟩) hLT).trans r6
  have hbw5 := below_then HB0.out hb5 HB0.out.size
  have rR5 := (hb5.block _ hL2).trans HRR.out
  have hs5 := hb5.size
  have MV5 := Lib.hid (fun W (hW : Below w5.heap.size w5 W) => MV.out W (below_then hbw5 hW hbw5.size))
  have HR5 := Lib.hid rR5
  replace hL2 : w.heap.size + 2 < w5.heap.size := by omega
  replace hL0 : w.heap.size < w5.heap.size := by omega
  replace hL1 : w.heap.size + 1 < w5.heap.size := by omega
  replace hLT : gT < w5.heap.size := by omega
  clear hb5' hb5 rR5 HRR MV IN
  go_upto_region 5 with fail
  go_region_held3 (fun w' => w'.cell? ⟨w.heap.size, 0, none⟩ = some (.slice AN c.names.length cN) ∧ w'.cell? ⟨w.heap.size, 1, none⟩ = some (.slice AK n cK) ∧ w'.cell? ⟨w.heap.size, 2, none⟩ = some (.slice AP n cP) ∧ w'.cell? ⟨w.heap.size, 3, none⟩ = some (.slice (some ⟨gT, 0, none⟩) c.trans.length cT) ∧ w'.cell? ⟨w.heap.size + 1, 0, none⟩ = some (.int .u32 (x.set : Nat)) ∧ w'.cell? ⟨w.heap.size + 1, 1, none⟩ = some (.slice A7 n c7) ∧ w'.cell? ⟨w.heap.size + 1, 2, none⟩ = some (.slice A8 n c8) ∧ w'.cell? ⟨gT, i * 7, none⟩ = some (.int .i64 tk) ∧ w'.cell? ⟨gT, i * 7 + 1, none⟩ = some (.int .i64 f) ∧ w'.cell? ⟨gT, i * 7 + 2, none⟩ = some (.int .i64 t) ∧ w'.cell? ⟨gT, i * 7 + 3, none⟩ = some (.string (bs te)) ∧ w'.cell? ⟨gT, i * 7 + 4, none⟩ = some (.string (bs tp)) ∧ w'.cell? ⟨gT, i * 7 + 5, none⟩ = some (.string (bs ta)) ∧ w'.cell? ⟨gT, i * 7 + 6, none⟩ = some (.int .i64 ti))
    (first | exact ⟨c0, c1, c2, c3, x0, x1, x2, r0, r1, r2, r3, r4, r5, r6⟩ | exact ⟨(hb7.cell (p := ⟨w.heap.size, 0, none⟩) hL0).trans c0, (hb7.cell (p := ⟨w.heap.size, 1, none⟩) hL0).trans c1, (hb7.cell (p := ⟨w.heap.size, 2, none⟩) hL0).trans c2, (hb7.cell (p := ⟨w.heap.size, 3, none⟩) hL0).trans c3, (hb7.cell (p := ⟨w.heap.size + 1, 0, none⟩) hL1).trans x0, (hb7.cell (p := ⟨w.heap.size + 1, 1, none⟩) hL1).trans x1, (hb7.cell (p := ⟨w.heap.size + 1, 2, none⟩) hL1).trans x2, (hb7.cell (p := ⟨gT, i * 7, none⟩) hLT).trans r0, (hb7.cell (p := ⟨gT, i * 7 + 1, none⟩) hLT).trans r1, (hb7.cell (p := ⟨gT, i * 7 + 2, none⟩) hLT).trans r2, (hb7.cell (p := ⟨gT, i * 7 + 3, none⟩) hLT).trans r3, (hb7.cell (p := ⟨gT, i * 7 + 4, none⟩) hLT).trans r4, (hb7.cell (p := ⟨gT, i * 7 + 5, none⟩) hLT).trans r5, (hb7.cell (p := ⟨gT, i * 7 + 6, none⟩) hLT).trans r6⟩ | exact ⟨(sets3_cell w7 _ _ _ _ _ _ hz0 hm0).trans ((hb7.cell (p := ⟨w.heap.size, 0, none⟩) hL0).trans c0), (sets3_cell w7 _ _ _ _ _ _ hz0 hm0).trans ((hb7.cell (p := ⟨w.heap.size, 1, none⟩) hL0).trans c1), (sets3_cell w7 _ _ _ _ _ _ hz0 hm0).trans ((hb7.cell (p := ⟨w.heap.size, 2, none⟩) hL0).trans c2), (sets3_cell w7 _ _ _ _ _ _ hz0 hm0).trans ((hb7.cell (p := ⟨w.heap.size, 3, none⟩) hL0).trans c3), (sets3_cell w7 _ _ _ _ _ _ hz1 hm1).trans ((hb7.cell (p := ⟨w.heap.size + 1, 0, none⟩) hL1).trans x0), (sets3_cell w7 _ _ _ _ _ _ hz1 hm1).trans ((hb7.cell (p := ⟨w.heap.size + 1, 1, none⟩) hL1).trans x1), (sets3_cell w7 _ _ _ _ _ _ hz1 hm1).trans ((hb7.cell (p := ⟨w.heap.size + 1, 2, none⟩) hL1).trans x2), (sets3_cell w7 _ _ _ _ _ _ hzT hmT).trans ((hb7.cell (p := ⟨gT, i * 7, none⟩) hLT).trans r0), (sets3_cell w7 _ _ _ _ _ _ hzT hmT).trans ((hb7.cell (p := ⟨gT, i * 7 + 1, none⟩) hLT).trans r1), (sets3_cell w7 _ _ _ _ _ _ hzT hmT).trans ((hb7.cell (p := ⟨gT, i * 7 + 2, none⟩) hLT).trans r2), (sets3_cell w7 _ _ _ _ _ _ hzT hmT).trans ((hb7.cell (p := ⟨gT, i * 7 + 3, none⟩) hLT).trans r3), (sets3_cell w7 _ _ _ _ _ _ hzT hmT).trans ((hb7.cell (p := ⟨gT, i * 7 + 4, none⟩) hLT).trans r4), (sets3_cell w7 _ _ _ _ _ _ hzT hmT).trans ((hb7.cell (p := ⟨gT, i * 7 + 5, none⟩) hLT).trans r5), (sets3_cell w7 _ _ _ _ _ _ hzT hmT).trans ((hb7.cell (p := ⟨gT, i * 7 + 6, none⟩) hLT).trans r6)⟩ | go_keep)
    (first | (go_at_call 39; refine (MV5.out _ (by first | exact Below.refl _ _ | exact below_drew (Below.refl _ _))).mono ?_; rintro e w7 ⟨hb7', g3, gS, rfl, hg3', hR7⟩; have hg3 : w5.heap.size ≤ g3 := hg3'; have hgS : w5.heap.size ≤ gS := hR7.lo; have hb7 : Below w5.heap.size w5 w7 := (by first | exact hb7' | exact below_then (below_drew (Below.refl _ _)) hb7' (Nat.le_refl _)); have rr7 := (hb7.block _ hL2).trans HR5.out; have d0 := cell_of_row _ _ 0 _ _ _ rr7; have d1 := cell_of_row _ _ 1 _ _ _ rr7; have d2 := cell_of_row _ _ 2 _ _ _ rr7; have f0 := fzc_of rr7 0; have f1 := fzc_of rr7 1; have f2 := fzc_of rr7 2; have hz3 := (Array.getElem?_eq_some_iff.1 rr7).1; have hz0 : w.heap.size < w7.heap.size := (by omega); have hz1 : w.heap.size + 1 < w7.heap.size := (by omega); have hzT : gT < w7.heap.size := (by omega)))
  go_wp2
  have e := heap_set (j := 2) (heap_set (j := 1) (heap_set (j := 0) rr7 (.int .u32 (y.set : Nat))) (.slice (some ⟨g3, 0, none⟩) n n)) (.slice (some ⟨gS, 0, none⟩) n n)
  have ho : ∀ g, g < w7.heap.size → g ≠ w.heap.size + 2 → (((w7.setCell ⟨w.heap.size + 2, 0, none⟩ (.int .u32 (y.set : Nat))).setCell ⟨w.heap.size + 2, 1, none⟩ (.slice (some ⟨g3, 0, none⟩) n n)).setCell ⟨w.heap.size + 2, 2, none⟩ (.slice (some ⟨gS, 0, none⟩) n n)).heap[g]? = w7.heap[g]? := fun g hg hne => by
    rw [(grown_setCell _ _ _ _).block g (by simpa [World.setCell] using hg) (by simpa using hne), (grown_setCell _ _ _ _).block g (by simpa [World.setCell] using hg) (by simpa using hne), (grown_setCell _ _ _ _).block g hg (by simpa using hne)]
  have hss : (((w7.setCell ⟨w.heap.size + 2, 0, none⟩ (.int .u32 (y.set : Nat))).setCell ⟨w.heap.size + 2, 1, none⟩ (.slice (some ⟨g3, 0, none⟩) n n)).setCell ⟨w.heap.size + 2, 2, none⟩ (.slice (some ⟨gS, 0, none⟩) n n)).heap.size = w7.heap.size := by simp [World.setCell]
  have hb67 : Below w.heap.size w w7 := below_then hbw5 hb7 hbw5.size
  (try simp only [Exit.inBlock, Exit.then])
  refine bodyPost_ret (run_cellU rfl _ _ (w.heap.size + 2) _ _ _ _ rfl (by simpa using e) Tryz.underlying40 rfl (by kernel_rfl)) rfl ?_
  refine ⟨set_below (set_below (set_below hb67 hb67.size (by omega)) (by simpa [World.setCell] using hb67.size) (by omega)) (by simpa [World.setCell] using hb67.size) (by omega), g3, gS, rfl, by omega, hR7.ok, ?_, by omega, ?_⟩
  · obtain ⟨A, c9, e9, hl, hc⟩ := hR7.uP
    refine ⟨A, c9, e9, hl, fun k hk => ?_⟩
    obtain ⟨b, off, e2, hb, hx9, hwf⟩ := hc k hk
    injection e9 with e1
    have hbg : b = g3 := by rw [e2] at e1; injection e1 with e1; injection e1 with e1; exact e1.symm
    exact ⟨b, off, e2, Nat.lt_of_lt_of_eq hb hss.symm, (World.cell?_of_block (a := ⟨b, off + k, none⟩) (ho b hb (by omega))).trans hx9, hwf⟩
  · exact (ho gS (Array.getElem?_eq_some_iff.1 hR7.rS).1 (by omega)).trans hR7.rS
end Go.Proofs.YtaoinedndnleoaaGreat
