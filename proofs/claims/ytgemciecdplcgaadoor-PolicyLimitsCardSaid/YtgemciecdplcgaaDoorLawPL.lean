/-
  PolicyLimits: as many rules, as many bytes, as may be, and no more; the first line that is wrong is told: the walk.
-/
import Derived.Test.YtgemciecdplcgaaDoorPolM
import Derived.Test.YtgemciecdplcgaaDoorWithin
namespace Go.Proofs.YtgemciecdplcgaaDoor
set_option maxRecDepth 100000
open Go.ChangeShapes Go.WideShapes Go.ChangeAt Go.RowKit

set_option maxHeartbeats 8000000 in
theorem limits_walk (w : World) (a b c : Int) (ha : (Lit.int .i64 a).wf = true) (hb : (Lit.int .i64 b).wf = true) (hc : (Lit.int .i64 c).wf = true) (hg : HandleAt w) :
    Calls Tryd.prog 3 #[.int .i64 a, .int .i64 b, .int .i64 c] w (TrueOn w) := by
  have hwa := fun W => Within_any a 5 W ha (by omega) (by omega)
  have hwb := fun W => Within_any b 5 W hb (by omega) (by omega)
  have hwc := fun W => Within_any c 20 W hc (by omega) (by omega)
  have h1 := within_bd a 5 (by omega)
  have h2 := within_bd b 5 (by omega)
  have h3 := within_bd c 20 (by omega)
  obtain ⟨n, hn⟩ : ∃ n : Nat, within a 5 = (n : Int) - 158 := ⟨(158 + within a 5).toNat, by omega⟩
  obtain ⟨m, hm⟩ : ∃ m : Nat, within b 5 = (m : Int) - 4094 := ⟨(4094 + within b 5).toNat, by omega⟩
  obtain ⟨z, hz⟩ : ∃ z : Nat, within c 20 = z := ⟨(within c 20).toNat, by omega⟩
  rw [hn] at hwa h1
  rw [hm] at hwb h2
  rw [hz] at hwc h3
  have HWA := Lib.hid hwa
  have HWB := Lib.hid hwb
  have HWC := Lib.hid hwc
  clear hwa hwb hwc hn hm hz
  have hz20 : z < 20 := by omega
  have P1 := fun W => Pol_any (bs (usersT n)) W
  have P2 := fun W => Pol_any (bs (blanks m)) W
  have P3 := fun W => Pol_any (bs (tailT z 20)) W
  rw [list_bs] at P1 P2 P3
  rw [polT_tail hz20] at P3
  have H1 := Lib.hid P1
  have H2 := Lib.hid P2
  have H3 := Lib.hid P3
  clear P1 P2 P3
  have ena : IntKind.i64.wrap (158 + ((n : Int) - 158)) = n := by rw [IntKind.wrap_i64]; omega
  have emb : IntKind.i64.wrap (4094 + ((m : Int) - 4094)) = m := by rw [IntKind.wrap_i64]; omega
  go_enter Tryd.func3, Tryd.ntmps3
  go_upto_region 4 with (go_at_call 6; refine (HWA.out _).mono ?_; rintro e w1 ⟨rfl, rfl⟩)
  clear ena HWA
  go_loop [7, 8] (fun t i => ∃ k : Nat, k ≤ n ∧ i = .int .i64 k ∧ t = .string (bs (usersT k))) (fun _ i => n - (intOf i).toNat)
  case atStart => exact ⟨0, Nat.zero_le _, rfl, rfl⟩
  case round =>
    obtain ⟨k, hk, rfl, rfl⟩ := hrel
    have hlen := users_len k
    by_cases hlt : k < n
    · have hbk : bs (usersT k) ++ ⟨#[117, 115, 101, 114, 32, 117, 10]⟩ = bs (usersT (k + 1)) := congrArg bs (users_snoc k)
      have hbz : (bs (usersT k)).size ≤ 2000 := by rw [size_bs]; omega
      clear hlen
      go_wp2
      go_round
      case rel => exact ⟨k + 1, by omega, by go_num, rfl⟩
      case measure => simp [intOf]; omega
    · obtain rfl : k = n := by omega
      clear hlen hlt hk
      by_cases hbig : 160 < k
      · rw [polT_more hbig (by omega)] at H1
        have hbi : (160 : Int) < k := by omega
        go_upto_region 9 with (go_at_call 7; refine (H1.out _).mono ?_; rintro e w1 ⟨hb1, fb, rfl, hf1, hf2, hF⟩)
        have KA := keepAt fb _ _ _ w1 hF (hg.below' hb1)
        go_upto_region 10 with (go_at_call 8; refine KA.mono ?_; rintro e w2 ⟨rfl, hb2⟩)
        have KC : Calls Tryd.prog 9 #[.iface 51 (.pointer (some ⟨fb, 0, none⟩)), .int .i64 5] w2 _ := keepIs _ 5 5 w2 (.inr ⟨fb, 0, rfl, (fault_below hF hf2 hb2).2.2⟩) (by omega) (by omega)
        have hgh : 0 ≠ w2.heap.size := handle_ne (hg.below' (below_then hb1 hb2 hb1.size))
        have HB0 : Hid (Below w.heap.size w w2) := below_then hb1 hb2 hb1.size
        have HH0 : Hid (HandleAt w2) := hg.below' HB0.out
        clear hb1 hb2 hF KA H1
        go_upto_region 14 with (go_at_call 9; refine KC.mono ?_; rintro e w3 ⟨rfl, rfl⟩)
        clear KC hbi hbig hf1 hf2
        go_upto_region 15 with (go_at_call 6; refine (HWB.out _).mono ?_; rintro e wx ⟨rfl, rfl⟩)
        clear emb HWB
        have hmk := run_make_row' (P := Tryd.prog) 32 5 (.int .u8 0) 1 Tryd.underlying32 (by kernel_rfl) rfl .i64 .i64 m (by omega) (by omega)
        go_upto_region 17 with fail
        have RB : (w2.alloc (.cells (madeCells #[.int .u8 0] m) 5)).heap[w2.heap.size]? = some (.cells (blkA m 0) 5 (0, 0)) := by rw [← made_blk]; exact heap_alloc_new _ _
        have HB1 : Hid (Below w.heap.size w (w2.alloc (.cells (madeCells #[.int .u8 0] m) 5))) := HB0.out.alloc HB0.out.size _
        have HH1 : Hid (HandleAt (w2.alloc (.cells (madeCells #[.int .u8 0] m) 5))) := HH0.out.below' ((Below.refl _ _).alloc (Nat.le_refl _) _)
        have hgb : w.heap.size ≤ w2.heap.size := HB0.out.size
        generalize hgg : w2.heap.size = g at *
        generalize hw1 : w2.alloc (.cells (madeCells #[.int .u8 0] m) 5) = w1 at *
        clear hw1 hgg HB0 HH0 hmk
        go_loopw [74] (fun i wr => ∃ k : Nat, k ≤ m ∧ i = .int .i64 k ∧ wr.heap[g]? = some (.cells (blkA m k) 5 (0, 0)) ∧ w1.grownBy wr (some g)) (fun i _ => m - (intOf i).toNat)
        case atStart => exact ⟨0, Nat.zero_le _, rfl, RB, World.grownBy.refl _ _⟩
        case round =>
          obtain ⟨k2, hk2, rfl, R2, hg2⟩ := hrel
          by_cases hk2l : k2 < m
          · have q0 : wr.cell? ⟨g, k2, none⟩ = some (.int .u8 0) := blk_cell R2 hk2l
            have q1 : wr.frozen? ⟨g, k2, none⟩ = false := blk_fz R2 _
            clear RB
            go_wp2
            go_roundw
            case rel => exact ⟨k2 + 1, by omega, by go_num, blk_set R2 hk2l, hg2.trans (grown_setCell _ _ _ _)⟩
            case measure => simp [intOf]; omega
          · obtain rfl : k2 = m := by omega
            clear hk2l hk2 RB
            have hcv := blk_conv R2
            have HB2 : Hid (Below w.heap.size w wr) := HB1.out.grown hg2 HB1.out.size (fun j hj => by cases hj; exact hgb)
            have HH2 : Hid (HandleAt wr) := handle_grown HH1.out hg2 hgh
            clear HB1 HH1 R2 hg2
            by_cases hm4 : 4096 < k2
            · rw [polT_limit hm4] at H2
              have hm4i : (4096 : Int) < k2 := by omega
              go_upto_region 22 with (go_at_call 7; refine (H2.out _).mono ?_; rintro e w3 ⟨hb3, rfl⟩)
              have HB3 : Hid (Below w.heap.size w w3) := below_then HB2.out hb3 HB2.out.size
              have HH3 : Hid (HandleAt w3) := HH2.out.below' hb3
              obtain ⟨w4, hm1, hm2, hb4⟩ := one_map w3
              have hm0 := makeMap_none w3
              have hm3 := hm2 true
              clear hm2 hb3 HB2 HH2 H2 hcv
              have KD : Calls Tryd.prog 9 #[.iface 31 (.int .i64 5), .int .i64 5] w4 _ := keepIs _ 5 5 w4 (.inl rfl) (by omega) (by omega)
              have HB : Hid (Below w.heap.size w w4) := below_then HB3.out hb4 HB3.out.size
              have HH : Hid (HandleAt w4) := HH3.out.below' hb4
              clear HB3 HH3 hb4
              go_upto_region 24 with (go_at_call 9; refine KD.mono ?_; rintro e w5 ⟨rfl, rfl⟩)
              clear KD hm0 hm1 hm3 hm4 hm4i
              go_upto_region 27 with (go_at_call 6; refine (HWC.out _).mono ?_; rintro e wx ⟨rfl, rfl⟩)
              go_loop [16, 17] (fun t i => ∃ k : Nat, k ≤ 20 ∧ i = .int .i64 k ∧ t = .string (bs (tailT z k))) (fun _ i => 20 - (intOf i).toNat)
              case atStart => exact ⟨0, Nat.zero_le _, rfl, rfl⟩
              case round =>
                obtain ⟨j, hj, rfl, rfl⟩ := hrel
                have hlen := tail_len z j
                by_cases hjl : j < 20
                · have hbz : (bs (tailT z j)).size ≤ 200 := by rw [size_bs]; omega
                  clear hlen
                  by_cases hzj : z ≤ j
                  · have hbk : bs (tailT z j) ++ ⟨#[119, 114, 111, 110, 103, 10]⟩ = bs (tailT z (j + 1)) := tail_wrong hzj
                    have hzi : (z : Int) ≤ j := by omega
                    go_wp2
                    go_round
                    case rel => exact ⟨j + 1, by omega, by go_num, rfl⟩
                    case measure => simp [intOf]; omega
                  · have hbk : bs (tailT z j) ++ ⟨#[10]⟩ = bs (tailT z (j + 1)) := tail_end hzj
                    have hzi : ¬ (z : Int) ≤ j := by omega
                    go_wp2
                    go_round
                    case rel => exact ⟨j + 1, by omega, by go_num, rfl⟩
                    case measure => simp [intOf]; omega
                · obtain rfl : j = 20 := by omega
                  clear hlen hjl hj
                  go_upto_region 33 with (go_at_call 7; refine (H3.out _).mono ?_; rintro e w5 ⟨hb5, gb, rfl, hg1, hg2, hG⟩)
                  have hB5 := below_then HB.out hb5 HB.out.size
                  have KA := keepAt gb _ _ _ w5 hG (HH.out.below' hb5)
                  go_upto_region 34 with (go_at_call 8; refine KA.mono ?_; rintro e w6 ⟨rfl, hb6⟩)
                  have hB6 := below_then hB5 hb6 hB5.size
                  have KC : Calls Tryd.prog 9 #[.iface 51 (.pointer (some ⟨gb, 0, none⟩)), .int .i64 2] w6 _ := keepIs _ 2 2 w6 (.inr ⟨gb, 0, rfl, (fault_below hG hg2 hb6).2.2⟩) (by omega) (by omega)
                  have ez : IntKind.i64.wrap ((z : Int) + 1) = ((z + 1 : Nat) : Int) := by rw [IntKind.wrap_i64]; omega
                  clear KA hB5 hG hb5 hb6
                  go_wp2_with (first
                    | (go_at_call 9; refine KC.mono ?_; rintro e w7 ⟨rfl, rfl⟩)
                    | (go_at_call 10; refine (wakes03 _).mono ?_; rintro e w9 ⟨rfl, hb9⟩))
                  go_ret
                  exact ⟨rfl, below_then hB6 hb9 hB6.size⟩
            · rw [polT_blanks (by omega)] at H2
              have hm4i : decide ((4096 : Int) < k2) = false := by simp; omega
              go_upto_region 22 with (go_at_call 7; refine (H2.out _).mono ?_; rintro e w3 ⟨hb3, v3, acc3, rfl, -, -⟩)
              have HB3 : Hid (Below w.heap.size w w3) := below_then HB2.out hb3 HB2.out.size
              have HH3 : Hid (HandleAt w3) := HH2.out.below' hb3
              obtain ⟨w4, hm1, hm2, hb4⟩ := one_map w3
              have hm0 := makeMap_none w3
              have hm3 := hm2 false
              clear hm2 hb3 HB2 HH2 H2 hcv
              have HB : Hid (Below w.heap.size w w4) := below_then HB3.out hb4 HB3.out.size
              have HH : Hid (HandleAt w4) := HH3.out.below' hb4
              clear HB3 HH3 hb4
              go_upto_region 24 with (go_at_call 9; refine (keepIs0 _).mono ?_; rintro e w5 ⟨rfl, rfl⟩)
              clear hm0 hm1 hm3 hm4 hm4i
              go_upto_region 27 with (go_at_call 6; refine (HWC.out _).mono ?_; rintro e wx ⟨rfl, rfl⟩)
              go_loop [16, 17] (fun t i => ∃ k : Nat, k ≤ 20 ∧ i = .int .i64 k ∧ t = .string (bs (tailT z k))) (fun _ i => 20 - (intOf i).toNat)
              case atStart => exact ⟨0, Nat.zero_le _, rfl, rfl⟩
              case round =>
                obtain ⟨j, hj, rfl, rfl⟩ := hrel
                have hlen := tail_len z j
                by_cases hjl : j < 20
                · have hbz : (bs (tailT z j)).size ≤ 200 := by rw [size_bs]; omega
                  clear hlen
                  by_cases hzj : z ≤ j
                  · have hbk : bs (tailT z j) ++ ⟨#[119, 114, 111, 110, 103, 10]⟩ = bs (tailT z (j + 1)) := tail_wrong hzj
                    have hzi : (z : Int) ≤ j := by omega
                    go_wp2
                    go_round
                    case rel => exact ⟨j + 1, by omega, by go_num, rfl⟩
                    case measure => simp [intOf]; omega
                  · have hbk : bs (tailT z j) ++ ⟨#[10]⟩ = bs (tailT z (j + 1)) := tail_end hzj
                    have hzi : ¬ (z : Int) ≤ j := by omega
                    go_wp2
                    go_round
                    case rel => exact ⟨j + 1, by omega, by go_num, rfl⟩
                    case measure => simp [intOf]; omega
                · obtain rfl : j = 20 := by omega
                  clear hlen hjl hj
                  go_upto_region 33 with (go_at_call 7; refine (H3.out _).mono ?_; rintro e w5 ⟨hb5, gb, rfl, hg1, hg2, hG⟩)
                  have hB5 := below_then HB.out hb5 HB.out.size
                  have KA := keepAt gb _ _ _ w5 hG (HH.out.below' hb5)
                  go_upto_region 34 with (go_at_call 8; refine KA.mono ?_; rintro e w6 ⟨rfl, hb6⟩)
                  have hB6 := below_then hB5 hb6 hB5.size
                  have KC : Calls Tryd.prog 9 #[.iface 51 (.pointer (some ⟨gb, 0, none⟩)), .int .i64 2] w6 _ := keepIs _ 2 2 w6 (.inr ⟨gb, 0, rfl, (fault_below hG hg2 hb6).2.2⟩) (by omega) (by omega)
                  have ez : IntKind.i64.wrap ((z : Int) + 1) = ((z + 1 : Nat) : Int) := by rw [IntKind.wrap_i64]; omega
                  clear KA hB5 hG hb5 hb6
                  go_wp2_with (first
                    | (go_at_call 9; refine KC.mono ?_; rintro e w7 ⟨rfl, rfl⟩)
                    | (go_at_call 10; refine (wakes03 _).mono ?_; rintro e w9 ⟨rfl, hb9⟩))
                  go_ret
                  exact ⟨rfl, below_then hB6 hb9 hB6.size⟩
      · obtain ⟨l, hl1, hl2⟩ := polT_some (n := k) (by omega)
        rw [hl1] at H1
        have hbi : ¬ (160 : Int) < k := by omega
        go_upto_region 12 with (go_at_call 7; refine (H1.out _).mono ?_; rintro e w2 ⟨hb1, v, acc, rfl, hacc, hR⟩; obtain ⟨A, cap, rfl⟩ := own_slice hR.1; have hl : acc.length = k := by have h := congrArg List.length hacc; rw [List.length_map, hl2] at h; exact h)
        have hgh : 0 ≠ w2.heap.size := handle_ne (hg.below' hb1)
        have HB0 : Hid (Below w.heap.size w w2) := hb1
        have HH0 : Hid (HandleAt w2) := hg.below' HB0.out
        try rw [hl]
        clear hR hacc hb1 H1 hl hl1 hl2
        go_upto_region 14 with fail
        clear hbi hbig
        go_upto_region 15 with (go_at_call 6; refine (HWB.out _).mono ?_; rintro e wx ⟨rfl, rfl⟩)
        clear emb HWB
        have hmk := run_make_row' (P := Tryd.prog) 32 5 (.int .u8 0) 1 Tryd.underlying32 (by kernel_rfl) rfl .i64 .i64 m (by omega) (by omega)
        go_upto_region 17 with fail
        have RB : (w2.alloc (.cells (madeCells #[.int .u8 0] m) 5)).heap[w2.heap.size]? = some (.cells (blkA m 0) 5 (0, 0)) := by rw [← made_blk]; exact heap_alloc_new _ _
        have HB1 : Hid (Below w.heap.size w (w2.alloc (.cells (madeCells #[.int .u8 0] m) 5))) := HB0.out.alloc HB0.out.size _
        have HH1 : Hid (HandleAt (w2.alloc (.cells (madeCells #[.int .u8 0] m) 5))) := HH0.out.below' ((Below.refl _ _).alloc (Nat.le_refl _) _)
        have hgb : w.heap.size ≤ w2.heap.size := HB0.out.size
        generalize hgg : w2.heap.size = g at *
        generalize hw1 : w2.alloc (.cells (madeCells #[.int .u8 0] m) 5) = w1 at *
        clear hw1 hgg HB0 HH0 hmk
        go_loopw [74] (fun i wr => ∃ k : Nat, k ≤ m ∧ i = .int .i64 k ∧ wr.heap[g]? = some (.cells (blkA m k) 5 (0, 0)) ∧ w1.grownBy wr (some g)) (fun i _ => m - (intOf i).toNat)
        case atStart => exact ⟨0, Nat.zero_le _, rfl, RB, World.grownBy.refl _ _⟩
        case round =>
          obtain ⟨k2, hk2, rfl, R2, hg2⟩ := hrel
          by_cases hk2l : k2 < m
          · have q0 : wr.cell? ⟨g, k2, none⟩ = some (.int .u8 0) := blk_cell R2 hk2l
            have q1 : wr.frozen? ⟨g, k2, none⟩ = false := blk_fz R2 _
            clear RB
            go_wp2
            go_roundw
            case rel => exact ⟨k2 + 1, by omega, by go_num, blk_set R2 hk2l, hg2.trans (grown_setCell _ _ _ _)⟩
            case measure => simp [intOf]; omega
          · obtain rfl : k2 = m := by omega
            clear hk2l hk2 RB
            have hcv := blk_conv R2
            have HB2 : Hid (Below w.heap.size w wr) := HB1.out.grown hg2 HB1.out.size (fun j hj => by cases hj; exact hgb)
            have HH2 : Hid (HandleAt wr) := handle_grown HH1.out hg2 hgh
            clear HB1 HH1 R2 hg2
            by_cases hm4 : 4096 < k2
            · rw [polT_limit hm4] at H2
              have hm4i : (4096 : Int) < k2 := by omega
              go_upto_region 22 with (go_at_call 7; refine (H2.out _).mono ?_; rintro e w3 ⟨hb3, rfl⟩)
              have HB3 : Hid (Below w.heap.size w w3) := below_then HB2.out hb3 HB2.out.size
              have HH3 : Hid (HandleAt w3) := HH2.out.below' hb3
              obtain ⟨w4, hm1, hm2, hb4⟩ := one_map w3
              have hm0 := makeMap_none w3
              have hm3 := hm2 true
              clear hm2 hb3 HB2 HH2 H2 hcv
              have KD : Calls Tryd.prog 9 #[.iface 31 (.int .i64 5), .int .i64 5] w4 _ := keepIs _ 5 5 w4 (.inl rfl) (by omega) (by omega)
              have HB : Hid (Below w.heap.size w w4) := below_then HB3.out hb4 HB3.out.size
              have HH : Hid (HandleAt w4) := HH3.out.below' hb4
              clear HB3 HH3 hb4
              go_upto_region 24 with (go_at_call 9; refine KD.mono ?_; rintro e w5 ⟨rfl, rfl⟩)
              clear KD hm0 hm1 hm3 hm4 hm4i
              go_upto_region 27 with (go_at_call 6; refine (HWC.out _).mono ?_; rintro e wx ⟨rfl, rfl⟩)
              go_loop [16, 17] (fun t i => ∃ k : Nat, k ≤ 20 ∧ i = .int .i64 k ∧ t = .string (bs (tailT z k))) (fun _ i => 20 - (intOf i).toNat)
              case atStart => exact ⟨0, Nat.zero_le _, rfl, rfl⟩
              case round =>
                obtain ⟨j, hj, rfl, rfl⟩ := hrel
                have hlen := tail_len z j
                by_cases hjl : j < 20
                · have hbz : (bs (tailT z j)).size ≤ 200 := by rw [size_bs]; omega
                  clear hlen
                  by_cases hzj : z ≤ j
                  · have hbk : bs (tailT z j) ++ ⟨#[119, 114, 111, 110, 103, 10]⟩ = bs (tailT z (j + 1)) := tail_wrong hzj
                    have hzi : (z : Int) ≤ j := by omega
                    go_wp2
                    go_round
                    case rel => exact ⟨j + 1, by omega, by go_num, rfl⟩
                    case measure => simp [intOf]; omega
                  · have hbk : bs (tailT z j) ++ ⟨#[10]⟩ = bs (tailT z (j + 1)) := tail_end hzj
                    have hzi : ¬ (z : Int) ≤ j := by omega
                    go_wp2
                    go_round
                    case rel => exact ⟨j + 1, by omega, by go_num, rfl⟩
                    case measure => simp [intOf]; omega
                · obtain rfl : j = 20 := by omega
                  clear hlen hjl hj
                  go_upto_region 33 with (go_at_call 7; refine (H3.out _).mono ?_; rintro e w5 ⟨hb5, gb, rfl, hg1, hg2, hG⟩)
                  have hB5 := below_then HB.out hb5 HB.out.size
                  have KA := keepAt gb _ _ _ w5 hG (HH.out.below' hb5)
                  go_upto_region 34 with (go_at_call 8; refine KA.mono ?_; rintro e w6 ⟨rfl, hb6⟩)
                  have hB6 := below_then hB5 hb6 hB5.size
                  have KC : Calls Tryd.prog 9 #[.iface 51 (.pointer (some ⟨gb, 0, none⟩)), .int .i64 2] w6 _ := keepIs _ 2 2 w6 (.inr ⟨gb, 0, rfl, (fault_below hG hg2 hb6).2.2⟩) (by omega) (by omega)
                  have ez : IntKind.i64.wrap ((z : Int) + 1) = ((z + 1 : Nat) : Int) := by rw [IntKind.wrap_i64]; omega
                  clear KA hB5 hG hb5 hb6
                  go_wp2_with (first
                    | (go_at_call 9; refine KC.mono ?_; rintro e w7 ⟨rfl, rfl⟩)
                    | (go_at_call 10; refine (wakes03 _).mono ?_; rintro e w9 ⟨rfl, hb9⟩))
                  go_ret
                  exact ⟨rfl, below_then hB6 hb9 hB6.size⟩
            · rw [polT_blanks (by omega)] at H2
              have hm4i : decide ((4096 : Int) < k2) = false := by simp; omega
              go_upto_region 22 with (go_at_call 7; refine (H2.out _).mono ?_; rintro e w3 ⟨hb3, v3, acc3, rfl, -, -⟩)
              have HB3 : Hid (Below w.heap.size w w3) := below_then HB2.out hb3 HB2.out.size
              have HH3 : Hid (HandleAt w3) := HH2.out.below' hb3
              obtain ⟨w4, hm1, hm2, hb4⟩ := one_map w3
              have hm0 := makeMap_none w3
              have hm3 := hm2 false
              clear hm2 hb3 HB2 HH2 H2 hcv
              have HB : Hid (Below w.heap.size w w4) := below_then HB3.out hb4 HB3.out.size
              have HH : Hid (HandleAt w4) := HH3.out.below' hb4
              clear HB3 HH3 hb4
              go_upto_region 24 with (go_at_call 9; refine (keepIs0 _).mono ?_; rintro e w5 ⟨rfl, rfl⟩)
              clear hm0 hm1 hm3 hm4 hm4i
              go_upto_region 27 with (go_at_call 6; refine (HWC.out _).mono ?_; rintro e wx ⟨rfl, rfl⟩)
              go_loop [16, 17] (fun t i => ∃ k : Nat, k ≤ 20 ∧ i = .int .i64 k ∧ t = .string (bs (tailT z k))) (fun _ i => 20 - (intOf i).toNat)
              case atStart => exact ⟨0, Nat.zero_le _, rfl, rfl⟩
              case round =>
                obtain ⟨j, hj, rfl, rfl⟩ := hrel
                have hlen := tail_len z j
                by_cases hjl : j < 20
                · have hbz : (bs (tailT z j)).size ≤ 200 := by rw [size_bs]; omega
                  clear hlen
                  by_cases hzj : z ≤ j
                  · have hbk : bs (tailT z j) ++ ⟨#[119, 114, 111, 110, 103, 10]⟩ = bs (tailT z (j + 1)) := tail_wrong hzj
                    have hzi : (z : Int) ≤ j := by omega
                    go_wp2
                    go_round
                    case rel => exact ⟨j + 1, by omega, by go_num, rfl⟩
                    case measure => simp [intOf]; omega
                  · have hbk : bs (tailT z j) ++ ⟨#[10]⟩ = bs (tailT z (j + 1)) := tail_end hzj
                    have hzi : ¬ (z : Int) ≤ j := by omega
                    go_wp2
                    go_round
                    case rel => exact ⟨j + 1, by omega, by go_num, rfl⟩
                    case measure => simp [intOf]; omega
                · obtain rfl : j = 20 := by omega
                  clear hlen hjl hj
                  go_upto_region 33 with (go_at_call 7; refine (H3.out _).mono ?_; rintro e w5 ⟨hb5, gb, rfl, hg1, hg2, hG⟩)
                  have hB5 := below_then HB.out hb5 HB.out.size
                  have KA := keepAt gb _ _ _ w5 hG (HH.out.below' hb5)
                  go_upto_region 34 with (go_at_call 8; refine KA.mono ?_; rintro e w6 ⟨rfl, hb6⟩)
                  have hB6 := below_then hB5 hb6 hB5.size
                  have KC : Calls Tryd.prog 9 #[.iface 51 (.pointer (some ⟨gb, 0, none⟩)), .int .i64 2] w6 _ := keepIs _ 2 2 w6 (.inr ⟨gb, 0, rfl, (fault_below hG hg2 hb6).2.2⟩) (by omega) (by omega)
                  have ez : IntKind.i64.wrap ((z : Int) + 1) = ((z + 1 : Nat) : Int) := by rw [IntKind.wrap_i64]; omega
                  clear KA hB5 hG hb5 hb6
                  go_wp2_with (first
                    | (go_at_call 9; refine KC.mono ?_; rintro e w7 ⟨rfl, rfl⟩)
                    | (go_at_call 10; refine (wakes03 _).mono ?_; rintro e w9 ⟨rfl, hb9⟩))
                  go_ret
                  exact ⟨rfl, below_then hB6 hb9 hB6.size⟩
end Go.Proofs.YtgemciecdplcgaaDoor
