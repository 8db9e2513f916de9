/-
  The statements' Past of numbers: parts of configurations.
-/
import Derived.Test.YtaolebdcmdmnjaaEl1
namespace Go.Proofs.Ytaolebdcmdmnjaa
set_option maxRecDepth 100000
open Go.ChangeShapes Go.WideShapes Go.ChangeAt Go.RowKit

theorem bit_step (ps : List Int) (c i k : Nat) : partN ps c i (k + 1) = if (decide ((k : Int) ≠ i) && undB ps k i && c.testBit i) = true then partN ps c i k ||| (c &&& 2 ^ k) else partN ps c i k := rfl
def PastTo (ks ps : List Int) (n : Nat) (w : World) (e : Ending) (w' : World) : Prop := ∃ v rs, e = .returned v ∧ U32sAt w' v rs ∧ PartOf ks ps n rs ∧ Below w.heap.size w w'
set_option maxHeartbeats 8000000 in
theorem Past_any (ks ps : List Int) (A B : Option Addr) (n c d : Nat) (u : Value) (Z : List (List Int)) (w : World) (h : IntsAt w (.slice A n c) ks ∧ IntsAt w (.slice B n d) ps) (hok : ShOk ks ps) (hf : ShF ks ps n) (h0 : 0 < n) (hn : n ≤ 24) (hu : RowsAt2 w u Z) :
    Calls Try.prog 21 #[.agg #[.slice A n c, .slice B n d], u] w (PastTo ks ps n w) := by
  obtain ⟨i0, hi, hz0, hz1, hz2⟩ := info_parts Try.infoU5
  obtain ⟨AZ, cZ, rfl, hZl, hZc⟩ := hu
  have hZl2 := hZl
  unfold maxLen at hZl2
  have x0 := box_0 w 25 (.slice A n c) (.slice B n d)
  have x1 := box_1 w 25 (.slice A n c) (.slice B n d)
  have hz := box_b w (.cells #[.slice A n c, .slice B n d] 25)
  have hlt0 : w.heap.size < (w.alloc (.cells #[.slice A n c, .slice B n d] 25)).heap.size := by simp
  have S1 := Lib.hid (shp_below h hz)
  have HU : Hid (RowsAt2 (w.alloc (.cells #[.slice A n c, .slice B n d] 25)) (.slice AZ Z.length cZ) Z) := RowsAt2.below ⟨AZ, cZ, rfl, hZl, hZc⟩ hz
  have HZ := Lib.hid hz
  have HF := Lib.hid hf
  have HOK := Lib.hid hok
  clear h hz hf hok hZl hZc
  go_enter Try.func21, Try.ntmps21
  go_upto_region 1 with (fail)
  generalize w.alloc (.cells #[.slice A n c, .slice B n d] 25) = w0 at *
  have CF := Lib.hid (fun W (hW : Below w0.heap.size w0 W) u l hu => Config_any ks ps A B n c d u l W (shp_below S1.out hW) HOK.out HF.out.kl.symm h0 hn hu)
  have UN := Lib.hid (fun W (hW : Below w0.heap.size w0 W) (k i : Nat) (hk : k < n) (hi : i < n) => RUnder_any k (i : Int) W (shp_below S1.out hW) HF.out hk (by omega))
  go_wp2
  go_loopw [5, 6] (fun v i wr => ∃ rs : List Nat, rs.length ≤ min n Z.length ∧ i = .int .i64 rs.length ∧ Hid (OwnU wr w0.heap.size v rs) ∧ Hid (PartOf ks ps n rs) ∧ Hid (Below w0.heap.size w0 wr)) (fun _ i _ => min n Z.length - (intOf i).toNat)
  case atStart => exact ⟨[], Nat.zero_le _, rfl, OwnU.nil _ _, PartOf.nil _ _ _, Below.refl _ _⟩
  case round =>
    obtain ⟨rs, hrl, rfl, HO, HP, HB⟩ := hrel
    have z0 := (HB.out.cell (p := ⟨w.heap.size, 0, none⟩) hlt0).trans x0
    have z1 := (HB.out.cell (p := ⟨w.heap.size, 1, none⟩) hlt0).trans x1
    have hbz := HB.out.size
    have hrn : rs.length ≤ n := by omega
    by_cases hin : rs.length < n
    · have hini : (rs.length : Int) < n := by omega
      by_cases hiz : rs.length < Z.length
      · have hizi : (rs.length : Int) < Z.length := by omega
        obtain ⟨AZ', cZ', eZ, _, hZc⟩ := RowsAt2.below HU.out HB.out
        injection eZ with eZ1 _ eZ2
        subst eZ1; subst eZ2
        obtain ⟨bZ, offZ, uZ, rfl, hbZ, hcZ, hiZ⟩ := hZc rs.length hiz
        obtain ⟨A3, c3, rfl⟩ := ints_form hiZ
        have HIZ := Lib.hid hiZ
        have hl3 : (Z[rs.length]).length ≤ 9223372036854775807 := by obtain ⟨_, _, _, hl, _⟩ := hiZ; unfold maxLen at hl; omega
        have CFr := Lib.hid (fun W (hW : Below wr.heap.size wr W) => CF.out W (below_then HB.out hW hbz) _ _ (HIZ.out.below hW))
        have hZ0 : Hid (∀ (_ : 0 < (Z[rs.length]).length), (Z[rs.length]).getD 0 0 = (Z[rs.length])[0]) := fun h => by simp [List.getD_eq_getElem?_getD, h]
        clear hiZ hZc
        generalize Z[rs.length] = row at *
        have HP0 : Hid ((0 : Nat) < 2 ^ n) := Nat.two_pow_pos n
        go_upto_region 6 with (fail)
        go_cut [38] (fun x wx => wx = wr ∧ ∃ b : Bool, x = .bool b)
        case first =>
          by_cases h9 : 0 < row.length
          · obtain ⟨b9, off9, rfl, hb9, hx9, hwf9⟩ := ints_cell HIZ.out (k := 0) h9
            have h9i : (0 : Int) < row.length := by omega
            rw [Nat.add_zero] at hx9
            generalize row.getD 0 0 = z at *
            go_wp2
            go_meet
            exact ⟨rfl, _, rfl⟩
          · have h9i : ¬ (0 : Int) < row.length := by omega
            go_wp2
            go_meet
            exact ⟨rfl, _, rfl⟩
        case rest =>
          obtain ⟨hw9, bb, rfl⟩ := hcut
          subst hw9
          obtain ⟨wr, rfl⟩ : ∃ w1 : World, w1 = wc := ⟨_, rfl⟩
          go_upto_if 38 with fail
          go_cut [7] (fun x wx => ∃ s : Nat, x = .int .u32 s ∧ Hid (s < 2 ^ n) ∧ Hid ((∀ k, k < n → s.testBit k = false) ∨ ∃ cf, prop ks ps cf = true ∧ ∀ k, k < n → s.testBit k = (cf.testBit rs.length && (cf.testBit k && (decide (k ≠ rs.length) && undB ps k rs.length)))) ∧ Hid (Below wr.heap.size wr wx))
          case first =>
            cases bb
            · go_wp2
              go_meet
              exact ⟨0, rfl, HP0, Lib.hid (.inl fun k _ => Nat.zero_testBit k), Lib.hid (Below.refl _ _)⟩
            · have hcZ2 := hcZ
              go_upto_region 7 with (fail)
              go_region_held3 (fun w' => w'.cell? ⟨w.heap.size, 0, none⟩ = some (.slice A n c) ∧ w'.cell? ⟨w.heap.size, 1, none⟩ = some (.slice B n d) ∧ w'.cell? ⟨bZ, offZ + rs.length, none⟩ = some (.slice A3 row.length c3))
                (first | exact ⟨z0, z1, hcZ⟩ | exact ⟨z02, z12, hcZ3⟩ | go_keep)
                (first
                  | (go_at_call 16; refine (CFr.out _ (by first | exact Below.refl _ _ | exact below_drew (Below.refl _ _))).mono ?_; rintro e w4 ⟨cf, hcf, rfl, hpcf, hb4⟩; have hb4' : Below wr.heap.size wr w4 := (by first | exact hb4 | exact below_then (below_drew (Below.refl _ _)) hb4 (Nat.le_refl _)); have HB4 := Lib.hid (below_then HB.out hb4' hbz); have z02 := (HB4.out.cell (p := ⟨w.heap.size, 0, none⟩) hlt0).trans x0; have z12 := (HB4.out.cell (p := ⟨w.heap.size, 1, none⟩) hlt0).trans x1; have hcZ3 := (hb4'.cell (p := ⟨bZ, offZ + rs.length, none⟩) hbZ).trans hcZ))
              have HB4r := Lib.hid hb4'
              have HPC := Lib.hid hpcf
              have HCF := Lib.hid hcf
              have hcf32 : cf < 4294967296 := Nat.lt_of_lt_of_le hcf (Nat.pow_le_pow_right (n := 2) (by omega) (show n ≤ 32 by omega))
              have BT := Lib.hid (fun k (hk : k < 32) => bit01 cf k hcf32 hk)
              clear hb4 hb4' hpcf hcf hcZ3 hcZ2 hcZ z02 z12
              go_wp2
              go_loopw [7, 48] (fun x i wx => ∃ k : Nat, k ≤ n ∧ i = .int .i64 k ∧ x = .int .u32 (partN ps cf rs.length k : Nat) ∧ Hid (Below w4.heap.size w4 wx)) (fun _ i _ => n - (intOf i).toNat)
              case atStart => exact ⟨0, Nat.zero_le _, rfl, rfl, Below.refl _ _⟩
              case round =>
                obtain ⟨k, hk, rfl, rfl, HB5⟩ := hrel
                have HB5w := Lib.hid (below_then HB4.out HB5.out HB4.out.size)
                have z0 := (HB5w.out.cell (p := ⟨w.heap.size, 0, none⟩) hlt0).trans x0
                have z1 := (HB5w.out.cell (p := ⟨w.heap.size, 1, none⟩) hlt0).trans x1
                by_cases hkn : k < n
                · have hkni : (k : Int) < n := by omega
                  have hsp := bit_step ps cf rs.length k
                  have hS0 : partN ps cf rs.length k < 4294967296 := Nat.lt_of_lt_of_le (partN_lt HCF.out k) (Nat.pow_le_pow_right (n := 2) (by omega) (show n ≤ 32 by omega))
                  have h2 := two_lt (k := k) (by omega)
                  have hand := u32_and_nat cf (2 ^ k) hcf32 h2
                  have hor := u32_or_nat (partN ps cf rs.length k) (cf &&& 2 ^ k) hS0 (Nat.lt_of_le_of_lt Nat.and_le_left hcf32)
                  have hsh := two_val (i := k) (by omega)
                  have hk32 : (k : Int) < 32 := by omega
                  have hr32 : (rs.length : Int) < 32 := by omega
                  have hbt := BT.out rs.length (by omega)
                  have UK := Lib.hid (UN.out _ HB5w.out k rs.length hkn hin)
                  by_cases hki : (k : Int) = rs.length
                  · have g1 : ((k : Int) != rs.length) = false := by simp [hki]
                    rw [if_neg (by rw [decide_eq_false (fun h => h hki)]; simp)] at hsp
                    have HSP := Lib.hid hsp
                    clear hsp hand hor hsh
                    go_wp2
                    go_roundw
                    case rel => exact ⟨k + 1, by omega, by go_num, by rw [HSP.out], HB5⟩
                    case measure => simp [intOf]; omega
                  · have g1 : ((k : Int) != rs.length) = true := by simpa using hki
                    rw [decide_eq_true hki, Bool.true_and] at hsp
                    cases hun : undB ps k rs.length
                    · rw [hun] at UK
                      rw [hun, if_neg (by simp)] at hsp
                      have HSP := Lib.hid hsp
                      clear hsp hand hor hsh hun
                      go_wp2_with (go_at_call 48; refine UK.out.mono ?_; rintro e w6 ⟨rfl, hb6⟩)
                      go_roundw
                      case rel => exact ⟨k + 1, by omega, by go_num, by rw [HSP.out], below_then HB5.out hb6 HB5.out.size⟩
                      case measure => simp [intOf]; omega
                    · rw [hun] at UK
                      rw [hun, Bool.true_and] at hsp
                      cases hcb : cf.testBit rs.length
                      · rw [hcb, if_neg (by simp)] at hsp hbt
                        have HSP := Lib.hid hsp
                        clear hsp hand hor hsh hun hcb
                        go_wp2_with (go_at_call 48; refine UK.out.mono ?_; rintro e w6 ⟨rfl, hb6⟩)
                        go_roundw
                        case rel => exact ⟨k + 1, by omega, by go_num, by rw [HSP.out], below_then HB5.out hb6 HB5.out.size⟩
                        case measure => simp [intOf]; omega
                      · rw [hcb, if_pos rfl] at hsp hbt
                        have HSP := Lib.hid hsp
                        clear hsp hun hcb
                        generalize 2 ^ k = p at *
                        go_wp2_with (go_at_call 48; refine UK.out.mono ?_; rintro e w6 ⟨rfl, hb6⟩)
                        go_roundw
                        case rel => exact ⟨k + 1, by omega, by go_num, by rw [HSP.out], below_then HB5.out hb6 HB5.out.size⟩
                        case measure => simp [intOf]; omega
                · have e : k = n := by omega
                  subst e
                  go_wp2
                  go_meet
                  exact ⟨_, rfl, Lib.hid (partN_lt HCF.out _), Lib.hid (.inr ⟨cf, HPC.out, fun j hj => by rw [partN_bit, decide_eq_true hj, Bool.true_and]⟩), Lib.hid (below_then HB4r.out HB5.out HB4r.out.size)⟩
          case rest =>
            obtain ⟨s, rfl, HS, HSP, HBc⟩ := hcut
            have hs32 : s < 4294967296 := Nat.lt_of_lt_of_le HS.out (Nat.pow_le_pow_right (n := 2) (by omega) (show n ≤ 32 by omega))
            have HBC := Lib.hid (below_then HB.out HBc.out hbz)
            have HOc : Hid (OwnU wc w0.heap.size _ rs) := own_below HO.out HBc.out hbz
            have hcz := HBC.out.size
            obtain ⟨A5, c5, rfl⟩ := own_slice HOc.out
            go_wp2_with (at_builtin; go_must (refine wpList_append_own _ rfl (.tmp 76) (.tmp 78) 43 rfl w0.heap.size 29 i0 _ 1 4 Try.underlying43 hi hz0 hz1 hz2 rfl (by decide) _ _ _ rfl (HOc.out.alloc _) ⟨wc.heap.size, 0, none⟩ 1 1 [.int .u32 s] rfl rfl (cells_new _ _ _) (by intro u hu; simp at hu; subst hu; rfl) (by unfold maxLen; omega) (by omega) (by simp; omega) ?_); intro v' w7 hown' hg' _)
            have hg2 : wc.grownBy w7 (Value.slice A5 rs.length c5).ownBlock := (World.grownBy_alloc _ _ _).andThen hg' (fun j e => .inr e)
            have HNw : Hid (OwnU w7 w0.heap.size v' (rs ++ [s])) := OwnU.snoc hown'
            have HB7 := Lib.hid (HBC.out.grown hg2 hcz (fun j e => (HOc.out.lt j e).1))
            have HPN := Lib.hid (PartOf.snoc HP.out hin HS.out HSP.out)
            have hlen : (rs ++ [s]).length = rs.length + 1 := by rw [List.length_append]; rfl
            clear hown' hg' hg2
            go_roundw
            case rel => exact ⟨rs ++ [s], by rw [hlen]; omega, by rw [hlen]; go_num, HNw, HPN, HB7⟩
            case measure => simp [intOf]; omega
      · have hizi : ¬ (rs.length : Int) < Z.length := by omega
        have HUA := Lib.hid (OwnU.at HO.out (fun x hx => Nat.lt_of_lt_of_le (HP.out.2.1 x hx) (Nat.pow_le_pow_right (n := 2) (by omega) (show n ≤ 32 by omega))) (by omega))
        go_wp2
        go_ret
        exact ⟨_, rs, rfl, HUA.out, HP.out, below_then HZ.out HB.out HZ.out.size⟩
    · have hini : ¬ (rs.length : Int) < n := by omega
      have HUA := Lib.hid (OwnU.at HO.out (fun x hx => Nat.lt_of_lt_of_le (HP.out.2.1 x hx) (Nat.pow_le_pow_right (n := 2) (by omega) (show n ≤ 32 by omega))) (by omega))
      go_wp2
      go_ret
      exact ⟨_, rs, rfl, HUA.out, HP.out, below_then HZ.out HB.out HZ.out.size⟩
end Go.Proofs.Ytaolebdcmdmnjaa
