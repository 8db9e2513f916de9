/-
  Package clock: the first of any Dues (MinFunc), and Next.
-/
import Derived.Test.YtiodjjnohbjhlaaCk5
import Derived.Test.YtiodjjnohbjhlaaCkO
namespace Go.Proofs.Ytiodjjnohbjhlaa
set_option maxRecDepth 100000
open Go.ChangeShapes Go.WideShapes Go.ChangeAt Go.RowKit

theorem below_growN (w : World) (q : Nat) (os : Array Obj) : Below w.heap.size w (Go.Sort.grow (w.drewN q) os) := by
  refine ⟨rfl, rfl, rfl, by simp [World.drewN], fun j hj => ?_⟩
  show (w.heap ++ os)[j]? = w.heap[j]?
  rw [Array.getElem?_append_left hj]
theorem bsL (a : List UInt8) : (bs a).toList = a := by rw [Lib.toList_data, list_bs]
abbrev dueV (x : DueT) : Value := .agg #[.int .i64 x.1, .string (bs x.2.1), .int .i64 x.2.2]
theorem cmpD_any (x y : DueT) (w : World) : Calls Try.prog 16 #[dueV x, dueV y] w fun e w' => e = .returned (.int .i64 (cfD x y)) ∧ Below w.heap.size w w' :=
  (compare_any x.1 y.1 x.2.2 y.2.2 (bs x.2.1) (bs y.2.1) w).mono fun e w' ⟨he, q, os, hw⟩ => ⟨by rw [he, bsL, bsL]; rfl, by rw [hw]; exact below_growN w q os⟩
/-- Dues in a block -/
def DAt (W : World) (g : Nat) (l : List DueT) : Prop := g < W.heap.size ∧ ∀ k (h : k < l.length), W.cell? ⟨g, k * 3, none⟩ = some (.int .i64 l[k].1) ∧ W.cell? ⟨g, k * 3 + 1, none⟩ = some (.string (bs l[k].2.1)) ∧ W.cell? ⟨g, k * 3 + 2, none⟩ = some (.int .i64 l[k].2.2)
theorem DAt.below {W W' : World} {g : Nat} {l : List DueT} (h : DAt W g l) (hb : Below W.heap.size W W') : DAt W' g l :=
  ⟨Nat.lt_of_lt_of_le h.1 hb.size, fun k hk => ⟨(hb.cell (p := ⟨g, k * 3, none⟩) h.1).trans (h.2 k hk).1, (hb.cell (p := ⟨g, k * 3 + 1, none⟩) h.1).trans (h.2 k hk).2.1, (hb.cell (p := ⟨g, k * 3 + 2, none⟩) h.1).trans (h.2 k hk).2.2⟩⟩
/-- the first of the first so many -/
def minK (l : List DueT) : Nat → DueT
  | 0 => l.getD 0 (0, [], 0)
  | k + 1 => if ltB (l.getD (k + 1) (0, [], 0)) (minK l k) = true then l.getD (k + 1) (0, [], 0) else minK l k
set_option maxHeartbeats 4000000 in
theorem MinD_any (g cap : Nat) (l : List DueT) (w : World) (hl : 0 < l.length) (hm : l.length ≤ 1000) (h : DAt w g l) :
    Calls Try.prog 17 #[.slice (some ⟨g, 0, none⟩) l.length cap, .func (.func 16) #[] #[]] w fun e w' => e = .returned (dueV (minK l (l.length - 1))) ∧ Below w.heap.size w w' := by
  have CM := Lib.hid (fun x y W => cmpD_any x y W)
  have HD := Lib.hid h
  obtain ⟨x0, x1, x2⟩ := h.2 0 hl
  have hg := h.1
  have hz : (w.alloc (.cells #[.int .i64 0, .string ⟨#[]⟩, .int .i64 0] 27)).cell? ⟨g, 0, none⟩ = _ := (World.cell?_alloc_lt _ _ _ hg).trans x0
  have hz1 : (w.alloc (.cells #[.int .i64 0, .string ⟨#[]⟩, .int .i64 0] 27)).cell? ⟨g, 1, none⟩ = _ := (World.cell?_alloc_lt _ _ _ hg).trans x1
  have hz2 : (w.alloc (.cells #[.int .i64 0, .string ⟨#[]⟩, .int .i64 0] 27)).cell? ⟨g, 2, none⟩ = _ := (World.cell?_alloc_lt _ _ _ hg).trans x2
  have hli : ¬ ((l.length : Int) < 1) := by omega
  have hl0 : (0 : Int) < l.length := by omega
  go_enter Try.func17, Try.ntmps17
  go_upto_region 4 with fail
  have e0 : l[0] = minK l 0 := by
    show _ = l.getD 0 (0, [], 0)
    rw [List.getD_eq_getElem?_getD, List.getElem?_eq_getElem hl]; rfl
  rw [e0] at x0 x1 x2 hz hz1 hz2
  go_must (rw [e0])
  clear e0
  have R0 : ((w.alloc (.cells #[.int .i64 0, .string ⟨#[]⟩, .int .i64 0] 27)).alloc (.cells #[.int .i64 (minK l 0).1, .string (bs (minK l 0).2.1), .int .i64 (minK l 0).2.2] 27)).heap[w.heap.size]? = _ := (heap_alloc_old _ _ (by simp)).trans (heap_alloc_new _ _)
  have R1 : ((w.alloc (.cells #[.int .i64 0, .string ⟨#[]⟩, .int .i64 0] 27)).alloc (.cells #[.int .i64 (minK l 0).1, .string (bs (minK l 0).2.1), .int .i64 (minK l 0).2.2] 27)).heap[w.heap.size + 1]? = some (.cells #[.int .i64 (minK l 0).1, .string (bs (minK l 0).2.1), .int .i64 (minK l 0).2.2] 27 (0, 0)) := by
    have := heap_alloc_new (w.alloc (.cells #[.int .i64 0, .string ⟨#[]⟩, .int .i64 0] 27)) (.cells #[.int .i64 (minK l 0).1, .string (bs (minK l 0).2.1), .int .i64 (minK l 0).2.2] 27)
    simpa using this
  have HB0 : Hid (Below w.heap.size w ((w.alloc (.cells #[.int .i64 0, .string ⟨#[]⟩, .int .i64 0] 27)).alloc (.cells #[.int .i64 (minK l 0).1, .string (bs (minK l 0).2.1), .int .i64 (minK l 0).2.2] 27))) := ((Below.refl _ _).alloc (Nat.le_refl _) _).alloc (by simp) _
  clear x0 x1 x2 hz hz1 hz2 h
  generalize (w.alloc (.cells #[.int .i64 0, .string ⟨#[]⟩, .int .i64 0] 27)).alloc (.cells #[.int .i64 (minK l 0).1, .string (bs (minK l 0).2.1), .int .i64 (minK l 0).2.2] 27) = w1 at *
  have HR0 := Lib.hid R0
  have HR1 := Lib.hid R1
  clear R0 R1
  go_upto_region 5 with fail
  go_loopw [6] (fun i wr => ∃ k : Nat, k + 1 ≤ l.length ∧ i = .int .i64 ((k : Int) + 1) ∧ Hid (wr.heap[w.heap.size]? = some (.cells #[.int .i64 0, .string ⟨#[]⟩, .int .i64 0] 27 (0, 0))) ∧ Hid (wr.heap[w.heap.size + 1]? = some (.cells #[.int .i64 (minK l k).1, .string (bs (minK l k).2.1), .int .i64 (minK l k).2.2] 27 (0, 0))) ∧ Hid (Below w.heap.size w wr)) (fun i _ => l.length - (intOf i).toNat)
  case atStart => exact ⟨0, hl, rfl, HR0, HR1, HB0⟩
  case round =>
    clear HR0 HR1 HB0
    obtain ⟨k, hk, rfl, HR0, HR1, HB⟩ := hrel
    have hbz := HB.out.size
    have z0 := cell_of_row _ _ 0 _ _ _ HR1.out; have z1 := cell_of_row _ _ 1 _ _ _ HR1.out; have z2 := cell_of_row _ _ 2 _ _ _ HR1.out
    by_cases hlt : k + 1 < l.length
    · obtain ⟨y0, y1, y2⟩ := (HD.out.below HB.out).2 (k + 1) hlt
      have hki : (k : Int) + 1 < l.length := by omega
      have hk0 : (0 : Int) ≤ (k : Int) + 1 := by omega
      have ek : ((k : Int) + 1).toNat = k + 1 := by omega
      have ekm : IntKind.i64.wrap ((k : Int) + 1 + 1) = ((k + 1 : Nat) : Int) + 1 := by rw [IntKind.wrap_i64]; omega
      have hms : minK l (k + 1) = if ltB l[k + 1] (minK l k) = true then l[k + 1] else minK l k := by
        show (if ltB (l.getD (k + 1) (0, [], 0)) (minK l k) = true then l.getD (k + 1) (0, [], 0) else minK l k) = _
        rw [List.getD_eq_getElem?_getD, List.getElem?_eq_getElem hlt]; rfl
      have hcm : ltB l[k + 1] (minK l k) = decide (cfD l[k + 1] (minK l k) < 0) := rfl
      rw [hcm] at hms
      have CMx := Lib.hid (CM.out l[k + 1] (minK l k))
      generalize l[k + 1] = y at *
      generalize minK l k = m at *
      have HMS := Lib.hid hms
      clear hms hcm CM
      generalize cfD y m = r at *
      have hL1 : w.heap.size + 1 < wr.heap.size := (Array.getElem?_eq_some_iff.1 HR1.out).1
      have hgl := Nat.lt_of_lt_of_le hg hbz
      go_upto_region 7 with fail
      go_region_held3 (fun w' => w'.cell? ⟨g, (k + 1) * 3, none⟩ = some (.int .i64 y.1) ∧ w'.cell? ⟨g, (k + 1) * 3 + 1, none⟩ = some (.string (bs y.2.1)) ∧ w'.cell? ⟨g, (k + 1) * 3 + 2, none⟩ = some (.int .i64 y.2.2) ∧ w'.cell? ⟨w.heap.size + 1, 0, none⟩ = some (.int .i64 m.1) ∧ w'.cell? ⟨w.heap.size + 1, 1, none⟩ = some (.string (bs m.2.1)) ∧ w'.cell? ⟨w.heap.size + 1, 2, none⟩ = some (.int .i64 m.2.2))
        (first | exact ⟨y0, y1, y2, z0, z1, z2⟩ | exact ⟨(hb5.cell (p := ⟨g, (k + 1) * 3, none⟩) hgl).trans y0, (hb5.cell (p := ⟨g, (k + 1) * 3 + 1, none⟩) hgl).trans y1, (hb5.cell (p := ⟨g, (k + 1) * 3 + 2, none⟩) hgl).trans y2, (hb5.cell (p := ⟨w.heap.size + 1, 0, none⟩) hL1).trans z0, (hb5.cell (p := ⟨w.heap.size + 1, 1, none⟩) hL1).trans z1, (hb5.cell (p := ⟨w.heap.size + 1, 2, none⟩) hL1).trans z2⟩ | go_keep)
        (first | (go_at_call 16; refine (CMx.out _).mono ?_; rintro e w5 ⟨rfl, hb5'⟩; have hb5 : Below wr.heap.size wr w5 := (by first | exact hb5' | exact below_then (below_drew (Below.refl _ _)) hb5' (Nat.le_refl _))))
      have HB5 := Lib.hid (below_then HB.out hb5 hbz)
      have hR0 := (hb5.block _ (Array.getElem?_eq_some_iff.1 HR0.out).1).trans HR0.out
      have hR1 := (hb5.block _ hL1).trans HR1.out
      have HR05 := Lib.hid hR0
      have HR15 := Lib.hid hR1
      have u0 := (hb5.cell (p := ⟨g, (k + 1) * 3, none⟩) hgl).trans y0
      have u1 := (hb5.cell (p := ⟨g, (k + 1) * 3 + 1, none⟩) hgl).trans y1
      have u2 := (hb5.cell (p := ⟨g, (k + 1) * 3 + 2, none⟩) hgl).trans y2
      have f0 := fzc_of hR1 0; have f1 := fzc_of hR1 1; have f2 := fzc_of hR1 2
      have z0 := cell_of_row _ _ 0 _ _ _ hR1; have z1 := cell_of_row _ _ 1 _ _ _ hR1; have z2 := cell_of_row _ _ 2 _ _ _ hR1
      have h0s : w.heap.size < w5.heap.size := (Array.getElem?_eq_some_iff.1 hR0).1
      clear hR0 hR1 HR0 HR1 HB y0 y1 y2
      by_cases hr : r < 0
      · have HM : Hid (minK l (k + 1) = y) := by show _ = _; rw [HMS.out, if_pos (by simpa using hr)]
        go_wp2
        go_roundw
        case rel =>
          refine ⟨k + 1, by omega, by go_num, (sets3_block w5 (w.heap.size + 1) _ _ _ h0s (by omega)).trans HR05.out, ?_, sets3_below HB5.out (Nat.le_refl _) (by omega) _ _ _⟩
          rw [HM.out]
          exact sets3_row HR15.out _ _ _
        case measure => simp [intOf]; omega
      · have HM : Hid (minK l (k + 1) = m) := by show _ = _; rw [HMS.out, if_neg (by simpa using hr)]
        go_wp2
        go_roundw
        case rel => exact ⟨k + 1, by omega, by go_num, HR05, by rw [HM.out]; exact HR15, HB5⟩
        case measure => simp [intOf]; omega
    · have hki : ¬ ((k : Int) + 1 < l.length) := by omega
      have ek : l.length - 1 = k := by omega
      have f0 := fzc_of HR0.out 0; have f1 := fzc_of HR0.out 1; have f2 := fzc_of HR0.out 2
      have q0 := cell_of_row _ _ 0 _ _ _ HR0.out; have q1 := cell_of_row _ _ 1 _ _ _ HR0.out; have q2 := cell_of_row _ _ 2 _ _ _ HR0.out
      have hmk : minK l (l.length - 1) = minK l k := by rw [ek]
      clear ek
      generalize minK l k = m at *
      have HMK := Lib.hid hmk
      clear hmk
      go_wp2
      (try simp only [Exit.inBlock, Exit.then])
      refine bodyPost_ret (results_cell_row rfl _ _ w.heap.size _ _ _ _ rfl (sets3_row HR0.out _ _ _) Try.underlying27 rfl (by kernel_rfl)) rfl ?_
      exact ⟨by rw [HMK.out], sets3_below HB.out (Nat.le_refl _) (Nat.le_refl _) _ _ _⟩
end Go.Proofs.Ytiodjjnohbjhlaa
