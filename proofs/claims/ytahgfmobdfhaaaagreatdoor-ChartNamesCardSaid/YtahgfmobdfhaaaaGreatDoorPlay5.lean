/-
  The maker's chart: some text of some lines.
-/
import Derived.Test.YtahgfmobdfhaaaaGreatDoorPlay2
import Derived.Deep.OwnRows
import Derived.Deep.RegionLaw
import Derived.Test.YtahgfmobdfhaaaaGreatDoorPrint2
import Derived.Test.YtahgfmobdfhaaaaGreatDoorAs
namespace Go.Proofs.YtahgfmobdfhaaaaGreatDoor
set_option maxRecDepth 100000
open Go.ChangeShapes Go.WideShapes Go.ChangeAt Go.RowKit

/-- integers in the cells of a block -/
def KR (w : World) (g : Nat) (cs : List Int) : Prop := w.heap[g]? = some (.cells (cs.map (Value.int .i64)).toArray 3 (0, 0))
section
variable {w w' : World} {g b : Nat} {cs : List Int}
theorem KR.cell (h : KR w g cs) (j : Nat) (hj : j < cs.length) : w.cell? ⟨g, j, none⟩ = some (.int .i64 cs[j]) := by rw [cell_of_row _ _ _ _ _ _ h]; simp [hj]
theorem KR.fz (h : KR w g cs) (j : Nat) : w.frozen? ⟨g, j, none⟩ = false := by simp only [KR] at h; simp [World.frozen?, h]
theorem KR.kept (h : KR w g cs) (hg : w.grownBy w' (some b)) (hne : g ≠ b) : KR w' g cs := (hg.block g (Array.getElem?_eq_some_iff.1 h).1 (by simpa using hne)).trans h
theorem KR.below (h : KR w g cs) (hb : Below w.heap.size w w') : KR w' g cs := (hb.block g (Array.getElem?_eq_some_iff.1 h).1).trans h
theorem KR.set (h : KR w g cs) (j : Nat) (x : Int) : KR (w.setCell ⟨g, j, none⟩ (.int .i64 x)) g (cs.set j x) := by
  have := heap_set (j := j) h (.int .i64 x)
  unfold KR
  rw [this]
  simp [List.map_set]
theorem Mk.other {W0 : World} {v x : Value} {k : Nat} (h : Mk W0 v b k w) (hne : g ≠ b) (hg : W0.heap.size ≤ g) (j : Nat) : Mk W0 v b k (w.setCell ⟨g, j, none⟩ x) :=
  ⟨h.1.grown (grown_setCell _ _ _ _) h.1.size (fun j hj => by cases hj; exact hg), h.2.1, ((grown_setCell w g j x).block b (Array.getElem?_eq_some_iff.1 h.2.2).1 (by simpa using fun e : b = g => hne e.symm)).trans h.2.2⟩
end
theorem KR.dalloc {w : World} {g : Nat} {cs : List Int} (h : KR w g cs) (O : Obj) : KR (w.drew.alloc O) g cs := (heap_alloc_old w.drew O (Array.getElem?_eq_some_iff.1 h).1).trans h
theorem Mk.dalloc {W0 : World} {v : Value} {b k : Nat} {w : World} (h : Mk W0 v b k w) (O : Obj) : Mk W0 v b k (w.drew.alloc O) :=
  Mk.alloc (w := w.drew) ⟨⟨h.1.os, h.1.tape, h.1.output, h.1.size, h.1.block⟩, h.2.1, h.2.2⟩ O
theorem kw_at (m : Nat) (h : m < 4) : ∃ kw : ByteArray, (#[.string ⟨#[112, 108, 97, 105, 110]⟩, .string ⟨#[97, 108, 108]⟩, .string ⟨#[112, 97, 115, 116]⟩, .string ⟨#[100, 101, 101, 112]⟩] : Array Value)[m]? = some (.string kw) ∧ kw.size ≤ 5 ∧ nl kw = 0 := by
  obtain rfl | rfl | rfl | rfl : m = 0 ∨ m = 1 ∨ m = 2 ∨ m = 3 := by omega
  all_goals exact ⟨_, rfl, by decide, by decide⟩
theorem made_int (m : Nat) : madeCells #[.int .i64 0] m = ((List.replicate m (0 : Int)).map (Value.int .i64)).toArray := by
  apply Array.ext
  · simp [madeCells]
  · intro j h1 h2
    simp [madeCells, Nat.mod_one]
set_option maxHeartbeats 8000000 in
theorem chart_any (W0 : World) (v : Value) (zs : List Int) (hz : IntsAt W0 v zs) (b k0 : Nat) (hk0 : k0 ≤ 1000) (w : World) (h : Mk W0 v b k0 w) :
    Calls Tryz.prog 10 #[.pointer (some ⟨b, 0, none⟩)] w (TxTo W0 v b 900 16 2000 w) := by
  have NA := fun (k : Nat) (of : Int) (w : World) (h : Mk W0 v b k w) (hk : k ≤ 1000000) (h1 : 1 ≤ of) (h2 : of ≤ 1000) => n_any W0 v zs hz b k of w h hk h1 h2
  have NH := Lib.hid NA
  have HS := Lib.hid (fun (n : Nat) (hn : n ≤ 1000000) w => nm_any ⟨#[115]⟩ rfl (by decide) n hn w)
  have HE := Lib.hid (fun (n : Nat) (hn : n ≤ 1000000) w => nm_any ⟨#[101]⟩ rfl (by decide) n hn w)
  have HPN := Lib.hid (fun (n : Nat) (hn : n ≤ 1000000) w => nm_any ⟨#[112]⟩ rfl (by decide) n hn w)
  have HT := Lib.hid (fun (n : Nat) (hn : n ≤ 1000000) w => nm_any ⟨#[116]⟩ rfl (by decide) n hn w)
  have DG := Lib.hid (fun (n : Nat) (hn : n ≤ 1000000) (w : World) => (show Calls Tryz.prog 22 #[.int .i64 (1 + (n : Int))] w (StrNew (digs (1 + n)) w) from Digits_any (1 + n) w (by omega)))
  clear NA hz
  go_enter Tryz.func10, Tryz.ntmps10
  go_upto_region 3 with (go_at_call 20; refine (NH.out k0 8 _ h (by omega) (by omega) (by omega)).mono ?_; rintro e w1 ⟨r, rfl, hr, h1, -⟩)
  obtain ⟨q, hq⟩ : ∃ q : Nat, (1 : Int) + r = q := ⟨1 + r, by omega⟩
  have hq2 : 1 ≤ q ∧ q ≤ 8 := by omega
  try rw [hq]
  clear h hq hr
  have hmk := run_make_row' (P := Tryz.prog) 22 3 (.int .i64 0) 8 Tryz.underlying22 (by kernel_rfl) rfl .i64 .i64 q (by omega) (by omega)
  go_upto_region 5 with fail
  have hM0 := h1.alloc (.cells (madeCells #[.int .i64 0] q) 3)
  have hK0 : Hid (KR (w1.alloc (.cells (madeCells #[.int .i64 0] q) 3)) w1.heap.size (List.replicate q 0)) := by
    show _ = _
    rw [← made_int]; exact heap_alloc_new _ _
  have hgb : w1.heap.size ≠ b := by have := (Array.getElem?_eq_some_iff.1 h1.2.2).1; omega
  have hgW : W0.heap.size ≤ w1.heap.size := h1.1.size
  generalize hgg : w1.heap.size = g at *
  generalize hww : w1.alloc (.cells (madeCells #[.int .i64 0] q) 3) = wa at *
  clear hgg hww hmk h1
  go_loopw [3, 6] (fun s i wr => ∃ (j : Nat) (t : ByteArray) (k : Nat) (cs : List Int), j ≤ q ∧ i = .int .i64 j ∧ s = .string t ∧ t.size ≤ 30 * j ∧ Hid (nl t ≤ j) ∧ k ≤ k0 + 1 + 3 * j ∧ Mk W0 v b k wr ∧ cs.length = q ∧ Hid (KR wr g cs)) (fun _ i _ => q - (intOf i).toNat)
  case atStart => exact ⟨0, ⟨#[]⟩, k0 + 1, _, by omega, rfl, rfl, by decide, Nat.zero_le _, by omega, hM0, by simp, hK0⟩
  case round =>
    clear hM0 hK0
    obtain ⟨j, t, k, cs, hj, rfl, rfl, hts, HTN, hk, hM, hcl, HK⟩ := hrel
    by_cases hlt : j < q
    · have c1 := HK.out.cell j (by omega)
      have f1 := HK.out.fz j
      go_upto_region 9 with fail
      have HK1 : Hid (KR (wr.setCell ⟨g, j, none⟩ (.int .i64 1)) g (cs.set j 1)) := HK.out.set j 1
      have hM1 : Mk W0 v b k (wr.setCell ⟨g, j, none⟩ (.int .i64 1)) := hM.other hgb hgW j
      generalize hwx : wr.setCell ⟨g, j, none⟩ (.int .i64 1) = w1 at *
      have hcl1 : (cs.set j 1).length = q := by simp [hcl]
      have hcj : Hid (∀ hj : j < (cs.set j 1).length, (cs.set j 1)[j] = 1) := by intro hj; simp
      generalize cs.set j 1 = cs1 at *
      clear c1 f1 hwx HK hM hcl
      rename_i K11 hK11 K9 hK9
      go_cut [33] (fun v' wx => ∃ (bv : Bool) (k1 : Nat), v' = .bool bv ∧ (bv = true → 0 < j) ∧ k1 ≤ k + 1 ∧ Mk W0 v b k1 wx ∧ Hid (KR wx g cs1))
      case first =>
        rcases bor_cases (a := decide (0 < j)) with g0 | g0
        · have hj0 : 0 < j := by simpa using g0
          go_wp2_with (go_at_call 20; refine (NH.out k 3 _ hM1 (by omega) (by omega) (by omega)).mono ?_; rintro e w2 ⟨r2, rfl, hr2, hM2, hg2⟩)
          go_meet
          exact ⟨_, k + 1, rfl, fun _ => hj0, by omega, hM2, HK1.out.kept hg2 hgb⟩
        · go_wp2
          go_meet
          exact ⟨_, k, rfl, fun h => by simp at h, by omega, hM1, HK1⟩
      case rest =>
        clear hM1 HK1
        obtain ⟨bv, k1, rfl, hbv, hk1, hM1, HK1⟩ := hcut
        refine hK9 _ _ ?_
        clear hK9
        refine wp_end (fun K10 hK10 => ?_)
        go_cut [7] (fun v' wx => ∃ (k2 : Nat), (v' = .int .i64 (-1) ∨ ∃ p : Nat, v' = .int .i64 p ∧ p < j) ∧ k2 ≤ k + 2 ∧ Mk W0 v b k2 wx ∧ Hid (KR wx g cs1))
        case first =>
          cases bv
          · go_wp2
            go_meet
            exact ⟨k1, .inl rfl, by omega, hM1, HK1⟩
          · have hj0 := hbv rfl
            go_upto_region 11 with (go_at_call 20; refine (NH.out k1 j _ hM1 (by omega) (by omega) (by omega)).mono ?_; rintro e w3 ⟨r3, rfl, hr3, hM3, hg3⟩)
            have HK3 := HK1.out.kept hg3 hgb
            have c3 := HK3.cell r3 (by omega)
            generalize cs1[r3] = x at c3
            have HK3 := Lib.hid HK3
            go_wp2
            · go_meet
              exact ⟨k1 + 1, .inl rfl, by omega, hM3, HK3⟩
            · go_meet
              exact ⟨k1 + 1, .inr ⟨r3, rfl, by omega⟩, by omega, hM3, HK3⟩
        case rest =>
          subst hK10
          clear hM1 HK1
          obtain ⟨k2, hp, hk2, hM2, HK2⟩ := hcut
          refine hK11 _ _ ?_
          clear hK11
          refine wp_seq_k (fun K13 hK13 => ?_)
          go_cut [8] (fun v8 wx => ∃ (cs2 : List Int) (m : Nat), m < 4 ∧ cs2.length = q ∧ Mk W0 v b (k2 + 1) wx ∧ Hid (KR wx g cs2) ∧ Hid (∀ hj : j < cs2.length, cs2[j] = ((m + 1 : Nat) : Int)))
          case first =>
            rcases hp with rfl | ⟨p, rfl, hpj⟩
            · go_upto_region 14 with (go_at_call 20; refine (NH.out k2 9 _ hM2 (by omega) (by omega) (by omega)).mono ?_; rintro e w9 ⟨r8, rfl, hr8, hM3, hhM3g⟩)
              have HK3 := Lib.hid (HK2.out.kept hhM3g hgb)
              have q1 := HK3.out.cell j (by omega)
              have q2 := HK3.out.fz j
              clear HK2 hM2
              obtain rfl | rfl | rfl | rfl | h4 : r8 = 0 ∨ r8 = 1 ∨ r8 = 2 ∨ r8 = 3 ∨ 4 ≤ r8 := by omega
              · go_wp2
                go_meet
                exact ⟨cs1.set j 2, 1, by omega, by simp [hcl1], hM3.other hgb hgW j, HK3.out.set j 2, fun hj => by simp⟩
              · go_wp2
                go_meet
                exact ⟨cs1.set j 2, 1, by omega, by simp [hcl1], hM3.other hgb hgW j, HK3.out.set j 2, fun hj => by simp⟩
              · go_wp2
                go_meet
                exact ⟨cs1, 0, by omega, hcl1, hM3, HK3, fun hj => hcj.out hj⟩
              · go_wp2
                go_meet
                exact ⟨cs1, 0, by omega, hcl1, hM3, HK3, fun hj => hcj.out hj⟩
              · have g0 : ((r8 : Int) == 0) = false := by simp; omega
                have g1 : ((r8 : Int) == 1) = false := by simp; omega
                have g2 : ((r8 : Int) == 2) = false := by simp; omega
                have g3 : ((r8 : Int) == 3) = false := by simp; omega
                go_wp2
                go_meet
                exact ⟨cs1, 0, by omega, hcl1, hM3, HK3, fun hj => hcj.out hj⟩
            · go_upto_region 14 with (go_at_call 20; refine (NH.out k2 9 _ hM2 (by omega) (by omega) (by omega)).mono ?_; rintro e w9 ⟨r8, rfl, hr8, hM3, hhM3g⟩)
              have HK3 := Lib.hid (HK2.out.kept hhM3g hgb)
              have q1 := HK3.out.cell j (by omega)
              have q2 := HK3.out.fz j
              have q3 := HK3.out.cell p (by omega)
              generalize cs1[p] = x at q3
              clear HK2 hM2
              obtain rfl | rfl | rfl | rfl | h4 : r8 = 0 ∨ r8 = 1 ∨ r8 = 2 ∨ r8 = 3 ∨ 4 ≤ r8 := by omega
              · go_wp2
                go_meet
                exact ⟨cs1.set j 2, 1, by omega, by simp [hcl1], hM3.other hgb hgW j, HK3.out.set j 2, fun hj => by simp⟩
              · go_wp2
                go_meet
                exact ⟨cs1.set j 2, 1, by omega, by simp [hcl1], hM3.other hgb hgW j, HK3.out.set j 2, fun hj => by simp⟩
              · rcases bor_cases (a := (x == 1)) with gx | gx
                · by_cases hpi : (p : Int) + 1 < j
                  · have gi : decide ((p : Int) + 1 < j) = true := by simp; omega
                    go_wp2
                    go_meet
                    exact ⟨cs1.set j 3, 2, by omega, by simp [hcl1], hM3.other hgb hgW j, HK3.out.set j 3, fun hj => by simp⟩
                  · have gi : decide ((p : Int) + 1 < j) = false := by simp; omega
                    go_wp2
                    go_meet
                    exact ⟨cs1, 0, by omega, hcl1, hM3, HK3, fun hj => hcj.out hj⟩
                · go_wp2
                  go_meet
                  exact ⟨cs1, 0, by omega, hcl1, hM3, HK3, fun hj => hcj.out hj⟩
              · rcases bor_cases (a := (x == 1)) with gx | gx
                · by_cases hpi : (p : Int) + 1 < j
                  · have gi : decide ((p : Int) + 1 < j) = true := by simp; omega
                    go_wp2
                    go_meet
                    exact ⟨cs1.set j 4, 3, by omega, by simp [hcl1], hM3.other hgb hgW j, HK3.out.set j 4, fun hj => by simp⟩
                  · have gi : decide ((p : Int) + 1 < j) = false := by simp; omega
                    go_wp2
                    go_meet
                    exact ⟨cs1, 0, by omega, hcl1, hM3, HK3, fun hj => hcj.out hj⟩
                · go_wp2
                  go_meet
                  exact ⟨cs1, 0, by omega, hcl1, hM3, HK3, fun hj => hcj.out hj⟩
              · have g0 : ((r8 : Int) == 0) = false := by simp; omega
                have g1 : ((r8 : Int) == 1) = false := by simp; omega
                have g2 : ((r8 : Int) == 2) = false := by simp; omega
                have g3 : ((r8 : Int) == 3) = false := by simp; omega
                go_wp2
                go_meet
                exact ⟨cs1, 0, by omega, hcl1, hM3, HK3, fun hj => hcj.out hj⟩
          case rest =>
            clear HK2 hM2 hcj hcl1
            refine hK13 _ _ ?_
            clear hK13
            obtain ⟨cs2, m, hm4, hcl2, hM3, HK3, hcm⟩ := hcut
            go_upto_region 18 with fail
            have c6 : wc.cell? ⟨g, j, none⟩ = some (.int .i64 ((m : Int) + 1)) := by
              have h := KR.cell HK3.out j (by omega)
              rw [hcm.out (by omega)] at h
              exact h
            have c4 : wc.drew.cell? ⟨g, j, none⟩ = some (.int .i64 ((m : Int) + 1)) := c6
            have c7 : ∀ O, (wc.alloc O).cell? ⟨g, j, none⟩ = some (.int .i64 ((m : Int) + 1)) := fun O => (World.cell?_alloc_lt _ _ _ (World.block_lt_of_cell? _ _ c6)).trans c6
            have c5 : ∀ O, (wc.drew.alloc O).cell? ⟨g, j, none⟩ = some (.int .i64 ((m : Int) + 1)) := c7
            have c8 : ∀ O, (wc.alloc O).drew.cell? ⟨g, j, none⟩ = some (.int .i64 ((m : Int) + 1)) := c7
            obtain ⟨kw, hkw, hkz, hkn⟩ := kw_at m hm4
            have d1 : (wc.alloc (.cells #[.string ⟨#[112, 108, 97, 105, 110]⟩, .string ⟨#[97, 108, 108]⟩, .string ⟨#[112, 97, 115, 116]⟩, .string ⟨#[100, 101, 101, 112]⟩] 9)).cell? ⟨wc.heap.size, m, none⟩ = some (.string kw) := by rw [cell_of_row _ _ _ _ _ _ (heap_alloc_new wc _)]; exact hkw
            have d2 : (wc.alloc (.cells #[.string ⟨#[112, 108, 97, 105, 110]⟩, .string ⟨#[97, 108, 108]⟩, .string ⟨#[112, 97, 115, 116]⟩, .string ⟨#[100, 101, 101, 112]⟩] 9)).drew.cell? ⟨wc.heap.size, m, none⟩ = some (.string kw) := d1
            have d3 : (wc.drew.alloc (.cells #[.string ⟨#[112, 108, 97, 105, 110]⟩, .string ⟨#[97, 108, 108]⟩, .string ⟨#[112, 97, 115, 116]⟩, .string ⟨#[100, 101, 101, 112]⟩] 9)).cell? ⟨wc.heap.size, m, none⟩ = some (.string kw) := d1
            have HKN := Lib.hid hkn
            have HKZ := Lib.hid hkz
            have hmi : (m : Int) < 4 := by omega
            have ew : IntKind.i64.wrap ((m : Int) + 1 - 1) = (m : Int) := by rw [IntKind.wrap_i64]; omega
            have ew2 : IntKind.i64.wrap (m : Int) = (m : Int) := by rw [IntKind.wrap_i64]; omega
            have hlim : (9223372036854775807 < t.size + (9 + kw.size)) = False := eq_false (by omega)
            have hlim3 : (9223372036854775807 < 9 + kw.size) = False := eq_false (by omega)
            clear hkw hkn hkz
            rename_i K18 hK18
            go_cut [3] (fun s wx => ∃ t' : ByteArray, s = .string t' ∧ t'.size ≤ 30 * j + 14 ∧ Hid (nl t' ≤ j) ∧ Mk W0 v b (k2 + 1) wx ∧ Hid (KR wx g cs2))
            case first =>
              go_region_law (go_simp; (go_at_call 21; refine (HS.out j (by omega) _).mono ?_; rintro e w9 ⟨c, rfl, hzc, hnc, rfl⟩))
              all_goals
                go_wp2
                go_meet
                exact ⟨_, rfl, by have := HKZ.out; simp [ByteArray.size_append, sz_lit]; omega, by show _ ≤ _; have := HTN.out; simp [nl_app, nl_lit, hnc, HKN.out]; omega, by first | exact hM3.dalloc _ | exact hM3.alloc _, by first | exact KR.dalloc HK3.out _ | exact KR.below HK3.out ((Below.refl _ _).alloc (Nat.le_refl _) _)⟩
            case rest =>
              refine hK18 _ _ ?_
              clear hK18 hM3 HK3 c4 c5 c6 c7 c8 d1 d2 d3 ew ew2 hlim hlim3
              obtain ⟨t', rfl, ht', HT', hM4, HK4⟩ := hcut
              rcases hp with rfl | ⟨p, rfl, hpj⟩
              · go_wp2
                go_roundw
                case rel => exact ⟨j + 1, _, k2 + 1, cs2, by omega, by go_num, rfl, by simp [ByteArray.size_append, sz_lit]; omega, by show _ ≤ _; have := HT'.out; simp [nl_app, nl_lit]; omega, by omega, hM4, hcl2, HK4⟩
                case measure => simp [intOf]; omega
              · go_wp2_with (go_at_call 21; refine (HS.out p (by omega) _).mono ?_; rintro e w9 ⟨c6, rfl, hzc6, hnc6, rfl⟩)
                go_roundw
                case rel => exact ⟨j + 1, _, k2 + 1, cs2, by omega, by go_num, rfl, by simp [ByteArray.size_append, sz_lit]; omega, by show _ ≤ _; have := HT'.out; simp [nl_app, nl_lit, hnc6]; omega, by omega, hM4, hcl2, HK4⟩
                case measure => simp [intOf]; omega
    · go_upto_region 24 with (go_at_call 20; refine (NH.out k 9 _ hM (by omega) (by omega) (by omega)).mono ?_; rintro e w9 ⟨r3, rfl, hr3, hM3, hhM3g⟩)
      have HK0 := HK.out.kept hhM3g hgb
      have hjq : j ≤ 8 := by omega
      clear hlt hj HK hM
      go_loopw [3, 10] (fun s i wx => ∃ (j2 : Nat) (t2 : ByteArray) (k2 : Nat), j2 ≤ r3 ∧ i = .int .i64 j2 ∧ s = .string t2 ∧ t2.size ≤ 240 + 70 * j2 ∧ Hid (nl t2 ≤ 8 + j2) ∧ k2 ≤ k0 + 26 + 8 * j2 ∧ Mk W0 v b k2 wx ∧ Hid (KR wx g cs)) (fun _ i _ => r3 - (intOf i).toNat)
      case atStart => exact ⟨0, t, k + 1, by omega, rfl, rfl, by omega, by show _ ≤ _; have := HTN.out; omega, by omega, hM3, HK0⟩
      case round =>
        clear hts HTN hk hM3 HK0 hjq
        obtain ⟨j2, t2, k2, hj2, rfl, rfl, ht2, HT2, hk2, hM, HK⟩ := hrel
        by_cases hlt : j2 < r3
        · have tok1 : True := trivial
          go_upto_region 27 with (first
            | (have _t := tok1; go_at_call 20; refine (NH.out k2 q _ hM (by omega) (by omega) (by omega)).mono ?_; rintro e w9 ⟨r5, rfl, hr5, hM5, hhM5g⟩; clear tok1 _t)
            | (go_at_call 20; refine (NH.out (k2 + 1) q _ hM5 (by omega) (by omega) (by omega)).mono ?_; rintro e w9 ⟨r6, rfl, hr6, hM6, hhM6g⟩))
          have HK5 := Lib.hid ((HK.out.kept hhM5g hgb).kept hhM6g hgb)
          have c3 := HK5.out.cell r5 (by omega)
          generalize cs[r5] = x at c3
          clear HK hM hM5
          go_upto_if 124 with fail
          go_cut [11] (fun v' wx => wx = w9 ∧ ∃ f : Nat, v' = .int .i64 f ∧ f ≤ 10)
          case first =>
            go_wp2
            · go_meet
              exact ⟨rfl, 0, rfl, by omega⟩
            · go_meet
              exact ⟨rfl, r5, rfl, by omega⟩
          case rest =>
            obtain ⟨rfl, f, rfl, hf⟩ := hcut
            clear c3
            have tok2 : True := trivial
            go_upto_region 30 with (first
              | (have _t := tok2; go_at_call 21; refine (HS.out f (by omega) _).mono ?_; rintro e w9 ⟨ca, rfl, hzca, hnca, rfl⟩; clear tok2 _t)
              | (go_at_call 21; refine (HS.out r6 (by omega) _).mono ?_; rintro e w9 ⟨cb, rfl, hzcb, hncb, rfl⟩))
            have HWN := Lib.hid hnca
            have HWM := Lib.hid hncb
            clear hnca hncb
            go_upto_region 37 with (go_at_call 20; refine (NH.out (k2 + 2) 9 _ hM6 (by omega) (by omega) (by omega)).mono ?_; rintro e w9 ⟨r7, rfl, hr7, hM7, hhM7g⟩)
            have HK7 := Lib.hid (HK5.out.kept hhM7g hgb)
            clear HK5 hM6
            obtain rfl | h12 | h3 : r7 = 0 ∨ (r7 = 1 ∨ r7 = 2) ∨ 3 ≤ r7 := by omega
            · go_wp2
              go_roundw
              case rel => exact ⟨j2 + 1, _, k2 + 3, by omega, by go_num, rfl, by simp [ByteArray.size_append, sz_lit]; omega, by show _ ≤ _; have := HT2.out; simp [nl_app, nl_lit, HWN.out, HWM.out]; omega, by omega, hM7, HK7⟩
              case measure => simp [intOf]; omega
            · rcases h12 with rfl | rfl
              all_goals
                go_wp2_with (first
                  | (go_at_call 20; refine (NH.out (k2 + 3) 12 _ hM7 (by omega) (by omega) (by omega)).mono ?_; rintro e w9 ⟨r8, rfl, hr8, hM8, hhM8g⟩)
                  | (go_at_call 22; refine (DG.out r8 (by omega) _).mono ?_; rintro e w9 ⟨rfl, hbd⟩; have hM9 := hM8.below hbd; have HK9 := Lib.hid ((HK7.out.kept hhM8g hgb).below hbd); have dl1 : (bs (digs (1 + r8))).size ≤ 1 + r8 + 1 := digs_le (1 + r8)))
                go_roundw
                case rel => exact ⟨j2 + 1, _, k2 + 4, by omega, by go_num, rfl, by simp [ByteArray.size_append, sz_lit]; omega, by show _ ≤ _; have := HT2.out; simp [nl_app, nl_lit, HWN.out, HWM.out, nl_digs]; omega, by omega, hM9, HK9⟩
                case measure => simp [intOf]; omega
            · have g0 : ((r7 : Int) == 0) = false := by simp; omega
              have g1 : ((r7 : Int) == 1) = false := by simp; omega
              have g2 : ((r7 : Int) == 2) = false := by simp; omega
              go_upto_region 32 with (first
                | (go_at_call 20; refine (NH.out (k2 + 3) 3 _ hM7 (by omega) (by omega) (by omega)).mono ?_; rintro e w9 ⟨r8, rfl, hr8, hM8, hhM8g⟩)
                | (go_at_call 21; refine (HE.out r8 (by omega) _).mono ?_; rintro e w9 ⟨ce, rfl, hzce, hnce, rfl⟩))
              have HWE := Lib.hid hnce
              have HK8 := Lib.hid (HK7.out.kept hhM8g hgb)
              clear hnce HK7 hM7
              go_upto_if 144 with (go_at_call 20; refine (NH.out (k2 + 4) 3 _ hM8 (by omega) (by omega) (by omega)).mono ?_; rintro e w9 ⟨r9, rfl, hr9, hM9, hhM9g⟩)
              have HK9 := Lib.hid (HK8.out.kept hhM9g hgb)
              clear HK8 hM8
              go_cut [3] (fun s wx => ∃ (t' : ByteArray) (k' : Nat), s = .string t' ∧ t'.size ≤ 240 + 70 * j2 + 50 ∧ Hid (nl t' ≤ 8 + j2) ∧ k' ≤ k2 + 6 ∧ Mk W0 v b k' wx ∧ Hid (KR wx g cs))
              case first =>
                go_wp2_with (first
                  | (go_at_call 20; refine (NH.out (k2 + 5) 3 _ hM9 (by omega) (by omega) (by omega)).mono ?_; rintro e w9 ⟨r10, rfl, hr10, hM10, hhM10g⟩)
                  | (go_at_call 21; refine (HPN.out r10 (by omega) _).mono ?_; rintro e w9 ⟨cp, rfl, hzcp, hncp, rfl⟩))
                · go_meet
                  exact ⟨_, k2 + 6, rfl, by simp [ByteArray.size_append, sz_lit]; omega, by show _ ≤ _; have := HT2.out; simp [nl_app, nl_lit, HWN.out, HWM.out, HWE.out, hncp]; omega, by omega, hM10, HK9.out.kept hhM10g hgb⟩
                · go_meet
                  exact ⟨_, k2 + 5, rfl, by simp [ByteArray.size_append, sz_lit]; omega, by show _ ≤ _; have := HT2.out; simp [nl_app, nl_lit, HWN.out, HWM.out, HWE.out]; omega, by omega, hM9, HK9⟩
              case rest =>
                clear hM9 HK9 HT2 ht2
                obtain ⟨t', k', rfl, ht', HT', hk', hM9, HK9⟩ := hcut
                go_upto_if 153 with (go_at_call 20; refine (NH.out k' 2 _ hM9 (by omega) (by omega) (by omega)).mono ?_; rintro e w9 ⟨rd, rfl, hrd, hMd, hhMdg⟩)
                have HKd := Lib.hid (HK9.out.kept hhMdg hgb)
                clear HK9 hM9
                go_cut [3] (fun s wx => ∃ (t'' : ByteArray) (k'' : Nat), s = .string t'' ∧ t''.size ≤ 240 + 70 * j2 + 60 ∧ Hid (nl t'' ≤ 8 + j2) ∧ k'' ≤ k2 + 8 ∧ Mk W0 v b k'' wx ∧ Hid (KR wx g cs))
                case first =>
                  go_wp2_with (first
                    | (go_at_call 20; refine (NH.out (k' + 1) 3 _ hMd (by omega) (by omega) (by omega)).mono ?_; rintro e w9 ⟨re, rfl, hre, hMe, hhMeg⟩)
                    | (go_at_call 21; refine (HT.out re (by omega) _).mono ?_; rintro e w9 ⟨ct, rfl, hzct, hnct, rfl⟩))
                  · go_meet
                    exact ⟨_, k' + 2, rfl, by simp [ByteArray.size_append, sz_lit]; omega, by show _ ≤ _; have := HT'.out; simp [nl_app, nl_lit, hnct]; omega, by omega, hMe, HKd.out.kept hhMeg hgb⟩
                  · go_meet
                    exact ⟨_, k' + 1, rfl, by omega, HT', by omega, hMd, HKd⟩
                case rest =>
                  clear hMd HKd HT' ht'
                  obtain ⟨t'', k'', rfl, ht'', HT'', hk'', hM9, HK9⟩ := hcut
                  go_wp2
                  go_roundw
                  case rel => exact ⟨j2 + 1, _, k'', by omega, by go_num, rfl, by simp [ByteArray.size_append, sz_lit]; omega, by show _ ≤ _; have := HT''.out; simp [nl_app, nl_lit]; omega, by omega, hM9, HK9⟩
                  case measure => simp [intOf]; omega
        · go_wp2
          go_ret
          exact txTo_mk (by omega) (by have := HT2.out; omega) (by omega) hM
end Go.Proofs.YtahgfmobdfhaaaaGreatDoor
/-
  The text of a plan's people.
-/
namespace Go.Proofs.YtahgfmobdfhaaaaGreatDoor
set_option maxRecDepth 100000
open Go.ChangeShapes Go.WideShapes Go.ChangeAt Go.RowKit

theorem ints_slice {w : World} {v : Value} {zs : List Int} (h : IntsAt w v zs) : ∃ A n cap, v = .slice A n cap := by
  obtain ⟨A, cap, h1, _⟩ := h
  exact ⟨A, _, cap, h1⟩
end Go.Proofs.YtahgfmobdfhaaaaGreatDoor
/-
  The text of a plan: some text of some lines.
-/
namespace Go.Proofs.YtahgfmobdfhaaaaGreatDoor
set_option maxRecDepth 100000
open Go.ChangeShapes Go.WideShapes Go.ChangeAt Go.RowKit

def TxOut (L R : Nat) (w : World) (e : Ending) (w' : World) : Prop := ∃ t : ByteArray, e = .returned (.string t) ∧ t.size ≤ L ∧ nl t ≤ R ∧ Below w.heap.size w w'
end Go.Proofs.YtahgfmobdfhaaaaGreatDoor
/-
  The texts of a plan's people, and of its chart, alone.
-/
namespace Go.Proofs.YtahgfmobdfhaaaaGreatDoor
set_option maxRecDepth 100000
open Go.ChangeShapes Go.WideShapes Go.ChangeAt Go.RowKit

set_option maxHeartbeats 2000000 in
theorem chartTx_any (v : Value) (zs : List Int) (w : World) (hz : IntsAt w v zs) : Calls Tryz.prog 5 #[.agg #[v]] w (TxOut 1000 30 w) := by
  have hM : Mk w v (w.heap.size + 1) 0 ((w.alloc (.cells #[v] 24)).alloc (.cells #[v, .int .i64 0] 52)) :=
    ⟨((Below.refl _ _).alloc (Nat.le_refl _) _).alloc (by simp) _, by omega, alloc_at (by simp) _⟩
  have HC := Lib.hid (chart_any w v zs hz (w.heap.size + 1) 0 (by omega))
  obtain ⟨A, n, cap, rfl⟩ := ints_slice hz
  clear hz
  go_enter Tryz.func5, Tryz.ntmps5
  go_wp2_with (go_at_call 10; refine (HC.out _ hM).mono ?_; rintro e w2 ⟨t2, k2, rfl, ht2, hn2, hk2, hM2, hb2⟩; have HN2 := Lib.hid hn2; clear hn2)
  go_ret
  exact ⟨_, rfl, by simp [ByteArray.size_append, sz_lit]; omega, by have h2 := HN2.out; simp [nl_app, nl_lit]; omega, hb2⟩
end Go.Proofs.YtahgfmobdfhaaaaGreatDoor
