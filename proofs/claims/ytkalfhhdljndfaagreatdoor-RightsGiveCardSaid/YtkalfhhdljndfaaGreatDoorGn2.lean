/-
  The maker's people: some text of some lines, without the letters h and y.
-/
import Derived.Test.YtkalfhhdljndfaaGreatDoorGn1
import Derived.Test.YtkalfhhdljndfaaGreatDoorDuty1
import Derived.Deep.RegionWith
import Derived.Deep.DeepCutAuto
namespace Go.Proofs.YtkalfhhdljndfaaGreatDoor
set_option maxRecDepth 100000
open Go.ChangeShapes Go.WideShapes Go.ChangeAt Go.RowKit

theorem duW_facts (j : Nat) (h : j < duT.length) : (bs duT[j]).size = 3 ∧ nw (bs duT[j]) = 0 := by
  obtain rfl | rfl : j = 0 ∨ j = 1 := by simp [duT] at h; omega
  · exact ⟨rfl, rfl⟩
  · exact ⟨rfl, rfl⟩
set_option maxHeartbeats 8000000 in
theorem peopleW_any (W0 : World) (v : Value) (zs : List Int) (hz : IntsAt W0 v zs) (b : Nat) (w : World) (h : Mk W0 v b 0 w) :
    Calls Tryz.prog 50 #[.pointer (some ⟨b, 0, none⟩)] w (TxToW W0 v b 900 40 400 w) := by
  have NA := fun (k : Nat) (of : Int) (w : World) (h : Mk W0 v b k w) (hk : k ≤ 1000000) (h1 : 1 ≤ of) (h2 : of ≤ 1000) => n_any W0 v zs hz b k of w h hk h1 h2
  have NH := Lib.hid NA
  have HR := Lib.hid (fun (n : Nat) (hn : n ≤ 6) w => nmw_any ⟨#[114]⟩ rfl (by decide) n hn w)
  have HU := Lib.hid (fun (n : Nat) (hn : n ≤ 6) w => nmw_any ⟨#[117]⟩ rfl (by decide) n hn w)
  have HPN := Lib.hid (fun (n : Nat) (hn : n ≤ 6) w => nmw_any ⟨#[112]⟩ rfl (by decide) n hn w)
  have HV := Lib.hid (fun (n : Nat) (hn : n ≤ 1000000) w => (nmv_any ⟨#[114]⟩ rfl n hn w).mono fun _ _ h => And.intro h.1 h.2.symm)
  have DG := Lib.hid (fun (n : Nat) (hn : n ≤ 1000000) (w : World) => (show Calls Tryz.prog 104 #[.int .i64 (1 + (n : Int))] w (StrNew (digs (1 + n)) w) from Digits_any (1 + n) w (by omega)))
  clear NA hz
  go_enter Tryz.func50, Tryz.ntmps50
  go_upto_region 4 with (go_at_call 102; refine (NH.out 0 4 _ h (by omega) (by omega) (by omega)).mono ?_; rintro e w1 ⟨r, rfl, hr, h1, -⟩)
  obtain ⟨q, hq⟩ : ∃ q : Nat, (2 : Int) + r = q := ⟨2 + r, by omega⟩
  have hq2 : 2 ≤ q ∧ q ≤ 5 := by omega
  try rw [hq]
  clear h hq hr
  go_loopw [3, 5] (fun s i wr => ∃ (j : Nat) (t : ByteArray) (k : Nat), j ≤ q ∧ i = .int .i64 j ∧ s = .string t ∧ t.size ≤ 30 * j ∧ Hid (nw t ≤ j) ∧ k ≤ 1 + 10 * j ∧ Mk W0 v b k wr) (fun _ i _ => q - (intOf i).toNat)
  case atStart => exact ⟨0, ⟨#[]⟩, 1, by omega, rfl, rfl, by decide, Nat.zero_le _, by omega, h1⟩
  case round =>
    obtain ⟨j, t, k, hj, rfl, rfl, hts, HTN, hk, hM⟩ := hrel
    clear h1
    by_cases hlt : j < q
    · go_upto_region 9 with (go_at_call 103; refine (HR.out j (by omega) _).mono ?_; rintro e w2 ⟨c, rfl, hc, hcn, rfl⟩)
      have HCN := Lib.hid hcn
      clear hcn
      go_loopw [6, 7] (fun s i wx => ∃ (j2 : Nat) (t2 : ByteArray) (k2 : Nat), j2 ≤ q ∧ i = .int .i64 j2 ∧ s = .string t2 ∧ t2.size ≤ 3 * j2 ∧ Hid (nw t2 = 0) ∧ k2 ≤ k + j2 ∧ Mk W0 v b k2 wx) (fun _ i _ => q - (intOf i).toNat)
      case atStart => exact ⟨j + 1, ⟨#[]⟩, k, by omega, by go_num, rfl, by simp [sz_lit], rfl, by omega, hM⟩
      case round =>
        obtain ⟨j2, t2, k2, hj2, rfl, rfl, ht2, HT2, hk2, hM2⟩ := hrel
        clear hM
        by_cases hl2 : j2 < q
        · go_wp2_with (first
            | (go_at_call 102; refine (NH.out k2 3 _ hM2 (by omega) (by omega) (by omega)).mono ?_; rintro e w3 ⟨r3, rfl, hr3, hM3, -⟩)
            | (go_at_call 103; refine (HR.out j2 (by omega) _).mono ?_; rintro e w2 ⟨c2, rfl, hc2, hcn2, rfl⟩))
          · go_roundw
            case rel => exact ⟨j2 + 1, _, k2 + 1, by omega, by go_num, rfl, by simp [ByteArray.size_append, sz_lit]; omega, by show _ = _; simp [nw_app, nw_lit, HT2.out, hcn2], by omega, hM3⟩
            case measure => simp [intOf]; omega
          · go_roundw
            case rel => exact ⟨j2 + 1, _, k2 + 1, by omega, by go_num, rfl, by omega, HT2, by omega, hM3⟩
            case measure => simp [intOf]; omega
        · go_wp2_with (go_at_call 102; refine (NH.out k2 40 _ hM2 (by omega) (by omega) (by omega)).mono ?_; rintro e w3 ⟨r3, rfl, hr3, hM3, -⟩)
          all_goals
            go_roundw
            case rel => exact ⟨j + 1, _, k2 + 1, by omega, by go_num, rfl, by simp [ByteArray.size_append, sz_lit]; omega, by show _ ≤ _; have := HTN.out; simp [nw_app, nw_lit, HT2.out, HCN.out]; omega, by omega, hM3⟩
            case measure => simp [intOf]; omega
    · have hjq : j = q := by omega
      clear hj hlt
      go_upto_region 20 with (go_at_call 102; refine (NH.out k 3 _ hM (by omega) (by omega) (by omega)).mono ?_; rintro e w9 ⟨r3, rfl, hr3, hM3, -⟩)
      obtain ⟨u, hu⟩ : ∃ u : Nat, (2 : Int) + r3 = u := ⟨2 + r3, by omega⟩
      have hu4 : u ≤ 4 := by omega
      try rw [hu]
      clear hu hr3 hM
      go_loopw [3, 9] (fun s i wr => ∃ (j3 : Nat) (t3 : ByteArray) (k3 : Nat), j3 ≤ u ∧ i = .int .i64 j3 ∧ s = .string t3 ∧ t3.size ≤ 150 + 25 * j3 ∧ Hid (nw t3 ≤ 5 + j3) ∧ k3 ≤ 52 + 10 * j3 ∧ Mk W0 v b k3 wr) (fun _ i _ => u - (intOf i).toNat)
      case atStart => exact ⟨0, t, k + 1, by omega, rfl, rfl, by omega, by show _ ≤ _; have := HTN.out; omega, by omega, hM3⟩
      case round =>
        clear hM3 hts HTN hk
        obtain ⟨j3, t3, k3, hj3, rfl, rfl, ht3, HT3, hk3, hM⟩ := hrel
        by_cases hlt : j3 < u
        · go_upto_region 24 with (go_at_call 103; refine (HU.out j3 (by omega) _).mono ?_; rintro e w9 ⟨c, rfl, hzc, hnc, rfl⟩)
          have HCN : Hid (nw c = 0) := hnc
          clear hnc
          go_loopw [3, 10] (fun s i wr => ∃ (j4 : Nat) (t4 : ByteArray) (k4 : Nat), j4 ≤ q ∧ i = .int .i64 j4 ∧ s = .string t4 ∧ t4.size ≤ 157 + 25 * j3 + 3 * j4 ∧ Hid (nw t4 ≤ 5 + j3) ∧ k4 ≤ 52 + 10 * j3 + 2 * j4 ∧ Mk W0 v b k4 wr) (fun _ i _ => q - (intOf i).toNat)
          case atStart => exact ⟨0, _, k3, by omega, rfl, rfl, by simp [ByteArray.size_append, sz_lit]; omega, by show _ ≤ _; have := HT3.out; simp [nw_app, nw_lit, HCN.out]; omega, by omega, hM⟩
          case round =>
            clear ht3 HT3 hk3 hM
            obtain ⟨j4, t4, k4, hj4, rfl, rfl, ht4, HT4, hk4, hM4⟩ := hrel
            by_cases hl4 : j4 < q
            · have tok1 : True := trivial
              have hq0 : ((q : Int) == 0) = false := by simp; omega
              have hq1 : ¬ (q : Int) = 0 := by omega
              have hrm : (j3 : Int).tmod q = ((j3 % q : Nat) : Int) := by rw [Int.tmod_eq_emod_of_nonneg (by omega)]; omega
              generalize j3 % q = m at hrm
              rcases bor_cases (a := ((j4 : Int) == (m : Int))) with gm | gm
              all_goals
                go_wp2_with (first
                  | (have _t := tok1; go_at_call 102; refine (NH.out k4 3 _ hM4 (by omega) (by omega) (by omega)).mono ?_; rintro e w9 ⟨r5, rfl, hr5, hM5, -⟩; clear tok1 _t; rcases bor_cases (a := ((r5 : Int) == 0)) with g5 | g5)
                  | (go_at_call 102; refine (NH.out (k4 + 1) 4 _ hM5 (by omega) (by omega) (by omega)).mono ?_; rintro e w9 ⟨r6, rfl, hr6, hM6, -⟩; rcases bor_cases (a := decide ((0 : Int) < r6)) with g6 | g6)
                  | (go_at_call 103; refine (HR.out j4 (by omega) _).mono ?_; rintro e w9 ⟨c4, rfl, hzc4, hnc4, rfl⟩))
                all_goals
                  go_roundw
                  case rel => first
                    | exact ⟨j4 + 1, _, _, by omega, by go_num, rfl, (by first | omega | (simp [ByteArray.size_append, sz_lit]; omega)), (by show _ ≤ _; have := HT4.out; first | omega | (simp [nw_app, nw_lit, hnc4]; omega)), by omega, hM6⟩
                    | exact ⟨j4 + 1, _, _, by omega, by go_num, rfl, (by first | omega | (simp [ByteArray.size_append, sz_lit]; omega)), (by show _ ≤ _; have := HT4.out; first | omega | (simp [nw_app, nw_lit, hnc4]; omega)), by omega, hM5⟩
                  case measure => simp [intOf]; omega
            · go_wp2
              go_roundw
              case rel => exact ⟨j3 + 1, _, k4, by omega, by go_num, rfl, by simp [ByteArray.size_append, sz_lit]; omega, by show _ ≤ _; have := HT4.out; simp [nw_app, nw_lit]; omega, by omega, hM4⟩
              case measure => simp [intOf]; omega
        · have hju : j3 = u := by omega
          clear hj3 hlt
          go_upto_region 30 with fail
          go_loopw [3, 11] (fun s i wr => ∃ (j5 : Nat) (t5 : ByteArray) (k5 : Nat), j5 ≤ 3 ∧ i = .int .i64 j5 ∧ s = .string t5 ∧ t5.size ≤ 250 + 25 * j5 ∧ Hid (nw t5 ≤ 9 + j5) ∧ k5 ≤ 92 + 10 * j5 ∧ Mk W0 v b k5 wr) (fun _ i _ => 3 - (intOf i).toNat)
          case atStart => exact ⟨0, t3, k3, by omega, rfl, rfl, by omega, by show _ ≤ _; have := HT3.out; omega, by omega, hM⟩
          case round =>
            clear ht3 HT3 hk3 hM hju
            obtain ⟨j5, t5, k5, hj5, rfl, rfl, ht5, HT5, hk5, hM⟩ := hrel
            by_cases hlt : j5 < 3
            · go_upto_region 34 with (go_at_call 103; refine (HPN.out j5 (by omega) _).mono ?_; rintro e w9 ⟨c, rfl, hzc, hnc, rfl⟩)
              have HCN : Hid (nw c = 0) := hnc
              clear hnc
              go_loopw [3, 12] (fun s i wr => ∃ (j4 : Nat) (t4 : ByteArray) (k4 : Nat), j4 ≤ q ∧ i = .int .i64 j4 ∧ s = .string t4 ∧ t4.size ≤ 257 + 25 * j5 + 3 * j4 ∧ Hid (nw t4 ≤ 9 + j5) ∧ k4 ≤ 92 + 10 * j5 + 2 * j4 ∧ Mk W0 v b k4 wr) (fun _ i _ => q - (intOf i).toNat)
              case atStart => exact ⟨0, _, k5, by omega, rfl, rfl, by simp [ByteArray.size_append, sz_lit]; omega, by show _ ≤ _; have := HT5.out; simp [nw_app, nw_lit, HCN.out]; omega, by omega, hM⟩
              case round =>
                clear ht5 HT5 hk5 hM
                obtain ⟨j4, t4, k4, hj4, rfl, rfl, ht4, HT4, hk4, hM4⟩ := hrel
                by_cases hl4 : j4 < q
                · have tok1 : True := trivial
                  have hq0 : ((q : Int) == 0) = false := by simp; omega
                  have hq1 : ¬ (q : Int) = 0 := by omega
                  have hrm : ((j5 : Int) + q - 1).tmod q = (((j5 + q - 1) % q : Nat) : Int) := by rw [show (j5 : Int) + q - 1 = ((j5 + q - 1 : Nat) : Int) by omega]; exact (Int.ofNat_tmod _ _).symm
                  generalize (j5 + q - 1) % q = m at hrm
                  rcases bor_cases (a := ((j4 : Int) == (m : Int))) with gm | gm
                  all_goals
                    go_wp2_with (first
                      | (have _t := tok1; go_at_call 102; refine (NH.out k4 3 _ hM4 (by omega) (by omega) (by omega)).mono ?_; rintro e w9 ⟨r5, rfl, hr5, hM5, hhM5g⟩; clear tok1 _t; rcases bor_cases (a := ((r5 : Int) == 0)) with g5 | g5)
                      | (go_at_call 102; refine (NH.out (k4 + 1) 3 _ hM5 (by omega) (by omega) (by omega)).mono ?_; rintro e w9 ⟨r6, rfl, hr6, hM6, hhM6g⟩; rcases bor_cases (a := decide ((0 : Int) < r6)) with g6 | g6)
                      | (go_at_call 103; refine (HR.out j4 (by omega) _).mono ?_; rintro e w9 ⟨c4, rfl, hzc4, hnc4, rfl⟩))
                    all_goals
                      go_roundw
                      case rel => first
                        | exact ⟨j4 + 1, _, _, by omega, by go_num, rfl, (by first | omega | (simp [ByteArray.size_append, sz_lit]; omega)), (by show _ ≤ _; have := HT4.out; first | omega | (simp [nw_app, nw_lit, hnc4]; omega)), by omega, hM6⟩
                        | exact ⟨j4 + 1, _, _, by omega, by go_num, rfl, (by first | omega | (simp [ByteArray.size_append, sz_lit]; omega)), (by show _ ≤ _; have := HT4.out; first | omega | (simp [nw_app, nw_lit, hnc4]; omega)), by omega, hM5⟩
                      case measure => simp [intOf]; omega
                · go_wp2
                  go_roundw
                  case rel => exact ⟨j5 + 1, _, k4, by omega, by go_num, rfl, by simp [ByteArray.size_append, sz_lit]; omega, by show _ ≤ _; have := HT4.out; simp [nw_app, nw_lit]; omega, by omega, hM4⟩
                  case measure => simp [intOf]; omega
            · go_upto_region 40 with fail
              clear hlt
              have hS0 : StrAt (wr.alloc (.cells #[.string ⟨#[115, 115, 100]⟩, .string ⟨#[100, 115, 100]⟩] 9)) wr.heap.size duT := strAt_alloc wr duT _
              have hM0 := hM.alloc (.cells #[.string ⟨#[115, 115, 100]⟩, .string ⟨#[100, 115, 100]⟩] 9)
              have hgb : some wr.heap.size ≠ some b := by have := (Array.getElem?_eq_some_iff.1 hM.2.2).1; simp; omega
              generalize hwg : wr.heap.size = g at *
              generalize hwa : wr.alloc (.cells #[.string ⟨#[115, 115, 100]⟩, .string ⟨#[100, 115, 100]⟩] 9) = wa at *
              clear hwa hwg hM
              go_loopw [3, 139] (fun s i wx => ∃ (j7 : Nat) (t7 : ByteArray) (k7 : Nat), j7 ≤ 2 ∧ i = .int .i64 j7 ∧ s = .string t7 ∧ t7.size ≤ 325 + 20 * j7 ∧ Hid (nw t7 ≤ 12 + j7) ∧ k7 ≤ 122 + 3 * j7 ∧ Mk W0 v b k7 wx ∧ Hid (StrAt wx g duT)) (fun _ i _ => 2 - (intOf i).toNat)
              case atStart => exact ⟨0, t5, k5, by omega, rfl, rfl, by omega, by show _ ≤ _; have := HT5.out; omega, by omega, hM0, hS0⟩
              case round =>
                clear ht5 HT5 hk5 hM0 hS0 hj5
                obtain ⟨j7, t7, k7, hj7, rfl, rfl, ht7, HT7, hk7, hM7, HS⟩ := hrel
                by_cases hl7 : j7 < 2
                · have hx := HS.out j7 hl7
                  obtain ⟨hw1, hw2⟩ := duW_facts j7 hl7
                  generalize bs duT[j7] = wd at *
                  have HWN := Lib.hid hw2
                  clear hw2
                  have hq0 : ((q : Int) == 0) = false := by simp; omega
                  have hq1 : ¬ (q : Int) = 0 := by omega
                  rcases bor_cases (a := decide ((2 : Int) < q)) with gq | gq
                  · have tok1 : True := trivial
                    go_upto_if 149 with (go_at_call 102; refine (NH.out k7 3 _ hM7 (by omega) (by omega) (by omega)).mono ?_; rintro e w9 ⟨r7, rfl, hr7, hM8, hhM8g⟩; rcases bor_cases (a := ((r7 : Int) == 0)) with g7 | g7)
                    · have tok2 : True := trivial
                      go_upto_region 44 with (go_at_call 102; refine (NH.out (k7 + 1) q _ hM8 (by omega) (by omega) (by omega)).mono ?_; rintro e w9 ⟨r8, rfl, hr8, hM9, hhM9g⟩)
                      have e1 : ((r8 : Int) + 1).tmod q = (((r8 + 1) % q : Nat) : Int) := by rw [show (r8 : Int) + 1 = ((r8 + 1 : Nat) : Int) by omega]; exact (Int.ofNat_tmod _ _).symm
                      have e2 : ((r8 : Int) + 2).tmod q = (((r8 + 2) % q : Nat) : Int) := by rw [show (r8 : Int) + 2 = ((r8 + 2 : Nat) : Int) by omega]; exact (Int.ofNat_tmod _ _).symm
                      have l1 : (r8 + 1) % q < q := Nat.mod_lt _ (by omega)
                      have l2 : (r8 + 2) % q < q := Nat.mod_lt _ (by omega)
                      generalize (r8 + 1) % q = m1 at e1 l1
                      generalize (r8 + 2) % q = m2 at e2 l2
                      have w1 : IntKind.i64.wrap ((r8 : Int) + 1) = (r8 : Int) + 1 := by rw [IntKind.wrap_i64]; omega
                      have a1 := abc_sz r8
                      have b1 := Lib.hid (abc_nw r8 (by omega))
                      have b2 := Lib.hid (abc_nw m1 (by omega))
                      have a2 := abc_sz m1
                      go_quiet (first
                        | (go_at_call_of 103 (Value.int .i64 (r8 : Int)); exact Calls.quiet_of_same (HV.out r8 (by omega) _))
                        | (go_at_call_of 103 (Value.int .i64 (m1 : Int)); exact Calls.quiet_of_same (HV.out m1 (by omega) _)))
                      have hM9' := hM9.drewN nq
                      go_wp2_with (first
                        | (go_at_call 102; refine (NH.out (k7 + 2) 3 _ hM9' (by omega) (by omega) (by omega)).mono ?_; rintro e w9 ⟨r10, rfl, hr10, hM10, hhM10g⟩; rcases bor_cases (a := ((r10 : Int) == 0)) with g10 | g10)
                        | (go_at_call 103; refine (HR.out m2 (by omega) _).mono ?_; rintro e w9 ⟨c10, rfl, hzc10, hnc10, rfl⟩))
                      all_goals
                        go_roundw
                        case rel => exact ⟨j7 + 1, _, k7 + 3, by omega, by go_num, rfl, by simp [ByteArray.size_append, sz_lit, abc_sz]; omega, (by show _ ≤ _; have := HT7.out; first | (simp [nw_app, nw_lit, b1.out, b2.out, HWN.out, hnc10]; omega) | (simp [nw_app, nw_lit, b1.out, b2.out, HWN.out]; omega)), by omega, hM10, StrAt.kept (StrAt.drewN (StrAt.kept (StrAt.kept HS.out hhM8g hgb) hhM9g hgb) nq) hhM10g hgb⟩
                        case measure => simp [intOf]; omega
                    · go_wp2
                      go_roundw
                      case rel => exact ⟨j7 + 1, _, k7 + 1, by omega, by go_num, rfl, by omega, by show _ ≤ _; have := HT7.out; omega, by omega, hM8, StrAt.kept HS.out hhM8g hgb⟩
                      case measure => simp [intOf]; omega
                  · go_wp2
                    go_roundw
                    case rel => exact ⟨j7 + 1, _, k7, by omega, by go_num, rfl, by omega, by show _ ≤ _; have := HT7.out; omega, by omega, hM7, HS⟩
                    case measure => simp [intOf]; omega
                · go_upto_if 183 with (go_at_call 102; refine (NH.out k7 2 _ hM7 (by omega) (by omega) (by omega)).mono ?_; rintro e w9 ⟨r7, rfl, hr7, hM8, hhM8g⟩)
                  clear hl7 HS hM7
                  go_cut [3] (fun s wx => wx = w9 ∧ ∃ t : ByteArray, s = .string t ∧ t.size ≤ 381 ∧ Hid (nw t ≤ 15))
                  case first =>
                    go_wp2
                    all_goals
                      go_meet
                      exact ⟨rfl, _, rfl, by first | omega | (simp [ByteArray.size_append, sz_lit]; omega), by show _ ≤ _; have := HT7.out; first | omega | (simp [nw_app, nw_lit]; omega)⟩
                  case rest =>
                    obtain ⟨rfl, t8, rfl, ht8, HT8⟩ := hcut
                    clear ht7 HT7
                    go_upto_if 188 with (go_at_call 102; refine (NH.out (k7 + 1) 4 _ hM8 (by omega) (by omega) (by omega)).mono ?_; rintro e w9 ⟨r8, rfl, hr8, hM9, hhM9g⟩)
                    clear hM8
                    go_cut [3] (fun s wx => wx = w9 ∧ ∃ t : ByteArray, s = .string t ∧ t.size ≤ 397 ∧ Hid (nw t ≤ 16))
                    case first =>
                      go_wp2
                      all_goals
                        go_meet
                        exact ⟨rfl, _, rfl, by first | omega | (simp [ByteArray.size_append, sz_lit]; omega), by show _ ≤ _; have := HT8.out; first | omega | (simp [nw_app, nw_lit]; omega)⟩
                    case rest =>
                      obtain ⟨rfl, t9, rfl, ht9, HT9⟩ := hcut
                      clear ht8 HT8
                      go_upto_region 54 with fail
                      go_loopw [3, 16] (fun s i wx => ∃ (jl : Nat) (t : ByteArray) (kl : Nat), jl ≤ q ∧ i = .int .i64 jl ∧ s = .string t ∧ t.size ≤ 397 + 70 * jl ∧ Hid (nw t ≤ 16 + jl) ∧ kl ≤ 130 + 3 * jl ∧ Mk W0 v b kl wx) (fun _ i _ => q - (intOf i).toNat)
                      case atStart => exact ⟨0, t9, k7 + 2, by omega, rfl, rfl, by omega, by show _ ≤ _; have := HT9.out; omega, by omega, hM9⟩
                      case round =>
                        clear ht9 HT9 hM9 hk7 hj7
                        obtain ⟨jl, t, kl, hjl, rfl, rfl, ht, HT, hkl, hM⟩ := hrel
                        by_cases hll : jl < q
                        · have tok1 : True := trivial
                          have tok2 : True := trivial
                          have tok3 : True := trivial
                          go_wp2_with (first
                            | (have _t := tok1; go_at_call 102; refine (NH.out kl 2 _ hM (by omega) (by omega) (by omega)).mono ?_; rintro e w9 ⟨ra, rfl, hra, hMa, hhMag⟩; clear tok1 _t)
                            | (have _t := tok2; go_at_call 102; refine (NH.out (kl + 1) 3 _ hMa (by omega) (by omega) (by omega)).mono ?_; rintro e w9 ⟨rb, rfl, hrb, hMb, hhMbg⟩; clear tok2 _t)
                            | (go_at_call 102; refine (NH.out (kl + 2) 40 _ hMc (by omega) (by omega) (by omega)).mono ?_; rintro e w9 ⟨rc, rfl, hrc, hMd, hhMdg⟩)
                            | (go_at_call 103; refine (HR.out jl (by omega) _).mono ?_; rintro e w9 ⟨cl, rfl, hzcl, hncl, rfl⟩)
                            | (have _t := tok3; go_at_call 104; refine (DG.out rb (by omega) _).mono ?_; rintro e w9 ⟨rfl, hbd⟩; have hMc := hMb.below hbd; have dl1 : (bs (digs (1 + rb))).size ≤ 1 + rb + 1 := digs_le (1 + rb); clear tok3 _t)
                            | (go_at_call 104; refine (DG.out rc (by omega) _).mono ?_; rintro e w9 ⟨rfl, hbd2⟩; have hMe := hMd.below hbd2; have dl2 : (bs (digs (1 + rc))).size ≤ 1 + rc + 1 := digs_le (1 + rc)))
                          · go_roundw
                            case rel => exact ⟨jl + 1, _, kl + 3, by omega, by go_num, rfl, by simp [ByteArray.size_append, sz_lit]; omega, by show _ ≤ _; have := HT.out; simp [nw_app, nw_lit, hncl, nw_digs]; omega, by omega, hMe⟩
                            case measure => simp [intOf]; omega
                          · go_roundw
                            case rel => exact ⟨jl + 1, _, kl + 1, by omega, by go_num, rfl, by omega, by show _ ≤ _; have := HT.out; omega, by omega, hMa⟩
                            case measure => simp [intOf]; omega
                        · go_wp2
                          go_ret
                          exact txToW_mk (by omega) (by have := HT.out; omega) (by omega) hM
end Go.Proofs.YtkalfhhdljndfaaGreatDoor
