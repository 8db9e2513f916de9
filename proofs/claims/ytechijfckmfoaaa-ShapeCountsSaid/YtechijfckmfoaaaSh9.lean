/-
  A help of the statements: in how many ways the states of one can be in.
-/
import Derived.Test.YtechijfckmfoaaaSh7
import Derived.Test.YtechijfckmfoaaaCnt3
namespace Go.Proofs.Ytechijfckmfoaaa
set_option maxRecDepth 100000
open Go.ChangeShapes Go.WideShapes Go.ChangeAt Go.RowKit

def wz (x : Int) : Int := wrap64 x
theorem wz_eq {x y : Int} (h : x % 18446744073709551616 = y % 18446744073709551616) : wz x = wz y := by
  unfold wz wrap64; omega
theorem wz_mod (x : Int) : wz x % 18446744073709551616 = x % 18446744073709551616 := by
  unfold wz wrap64; omega
theorem wz_add (x y : Int) : wz (wz x + wz y) = wz (x + y) := by
  apply wz_eq
  rw [Int.add_emod, wz_mod, wz_mod, ← Int.add_emod]
theorem wz_mul (x y : Int) : wz (wz x * wz y) = wz (x * y) := by
  apply wz_eq
  rw [Int.mul_emod, wz_mod, wz_mod, ← Int.mul_emod]
theorem wz_small {x : Int} (h0 : -1000000000 ≤ x) (h1 : x ≤ 1000000000) : wz x = x := by
  unfold wz wrap64; omega
theorem any_snoc (f : Nat → Bool) (k : Nat) : (List.range (k + 1)).any f = ((List.range k).any f || f k) := by
  rw [List.range_succ, List.any_append]; simp

section
variable (ks ps : List Int) (A B : Option Addr) (n c d : Nat) (w0 : World)
set_option maxHeartbeats 4000000 in
theorem ways_any (h : IntsAt w0 (.slice A n c) ks ∧ IntsAt w0 (.slice B n d) ps) (hn : n = ks.length) (hm : n = ps.length) (hn2 : n ≤ 100) (hks : ∀ k, k < n → 1 ≤ ks.getD k 0) (hps : ∀ k, k < n → ps.getD k 0 < k) :
    ∀ (f : Nat) (a : Int) (w : World), Below w0.heap.size w0 w → -1 ≤ a → a < n → (n : Int) - a ≤ f →
    Calls Try.prog 13 #[.agg #[.slice A n c, .slice B n d], .int .i64 a] w fun e w' => e = .returned (.int .i64 (wz (wy ks ps n a : Nat))) ∧ Below w.heap.size w w'
  | 0, a, w, _, h1, h2, h3 => by omega
  | f + 1, a, w, hbw, h1, h2, h3 => by
    have IH := Lib.hid (fun a w hb => ways_any h hn hm hn2 hks hps f a w hb)
    have x0 := box_0 w 25 (.slice A n c) (.slice B n d)
    have x1 := box_1 w 25 (.slice A n c) (.slice B n d)
    have hz := box_b w (.cells #[.slice A n c, .slice B n d] 25)
    have S0 := Lib.hid (shp_below h (below_then hbw hz hbw.size))
    have HB0 := Lib.hid (below_then hbw hz hbw.size)
    have HZ := Lib.hid hz
    have hlt : w.heap.size < (w.alloc (.cells #[.slice A n c, .slice B n d] 25)).heap.size := by simp
    have H1 := Lib.hid hn
    have H2 := Lib.hid hm
    have HKS := Lib.hid hks
    have HPS := Lib.hid hps
    have HWY := Lib.hid (wy_eq (ks := ks) hps h2)
    clear h hz hn hm hks hps hbw
    go_enter Try.func13, Try.ntmps13
    go_wp2
    generalize w.alloc (.cells #[.slice A n c, .slice B n d] 25) = w1 at *
    go_loopw [5, 6, 7, 13] (fun s p b i wr => ∃ k : Nat, k ≤ n ∧ i = .int .i64 k ∧ Hid (s = .int .i64 (wz (sumTo (fun k => if isKid ks ps a k then wy ks ps n k else 0) k : Nat)) ∧ p = .int .i64 (wz (prdTo (fun k => if isKid ks ps a k then wy ks ps n k else 1) k : Nat)) ∧ b = .bool ((List.range k).any (isKid ks ps a))) ∧ Hid (Below w1.heap.size w1 wr)) (fun _ _ _ i _ => n - (intOf i).toNat)
    case atStart => exact ⟨0, Nat.zero_le _, rfl, ⟨congrArg (Value.int .i64) (wz_small (x := ((0 : Nat) : Int)) (by decide) (by decide)).symm, congrArg (Value.int .i64) (wz_small (x := ((1 : Nat) : Int)) (by decide) (by decide)).symm, rfl⟩, Below.refl _ _⟩
    case round =>
      obtain ⟨k, hk, rfl, HR, HB⟩ := hrel
      obtain ⟨hs, hp, hb⟩ := HR.out
      subst hs; subst hp; subst hb
      clear HR
      have z0 := (HB.out.cell (p := ⟨w.heap.size, 0, none⟩) hlt).trans x0
      have z1 := (HB.out.cell (p := ⟨w.heap.size, 1, none⟩) hlt).trans x1
      by_cases hlk : k < n
      · have hki : (k : Int) < n := by omega
        obtain ⟨b1, off1, rfl, hb1, hx1, _⟩ := ints_cell (shp_below S0.out HB.out).1 (k := k) (by have := H1.out; omega)
        obtain ⟨b2, off2, rfl, hb2, hx2, _⟩ := ints_cell (shp_below S0.out HB.out).2 (k := k) (by have := H2.out; omega)
        have HS : Hid (sumTo (fun k => if isKid ks ps a k then wy ks ps n k else 0) (k + 1) = sumTo (fun k => if isKid ks ps a k then wy ks ps n k else 0) k + if isKid ks ps a k then wy ks ps n k else 0) := rfl
        have HP : Hid (prdTo (fun k => if isKid ks ps a k then wy ks ps n k else 1) (k + 1) = prdTo (fun k => if isKid ks ps a k then wy ks ps n k else 1) k * if isKid ks ps a k then wy ks ps n k else 1) := rfl
        have HA := Lib.hid (any_snoc (isKid ks ps a) k)
        have HKD : Hid (isKid ks ps a k = (ps.getD k 0 == a && decide (ks.getD k 0 ≤ 2))) := by show _ = _; unfold isKid; rw [hl_of ks k (HKS.out k hlk)]
        have HAK : Hid (isKid ks ps a k = true → a < k) := fun h => kid_gt HPS.out hlk h
        have IHk := Lib.hid (fun (h : a < (k : Int)) => IH.out k wr (below_then HB0.out HB.out HB0.out.size) (by omega) (by omega) (by omega))
        clear IH
        generalize hs1 : sumTo (fun k => if isKid ks ps a k then wy ks ps n k else 0) (k + 1) = s1 at *
        have HS1 := Lib.hid hs1
        clear hs1
        generalize hp1 : prdTo (fun k => if isKid ks ps a k then wy ks ps n k else 1) (k + 1) = p1 at *
        have HP1 := Lib.hid hp1
        clear hp1
        generalize ha1 : (List.range (k + 1)).any (isKid ks ps a) = a1 at *
        have HA1 := Lib.hid ha1
        clear ha1
        generalize sumTo (fun k => if isKid ks ps a k then wy ks ps n k else 0) k = s0 at *
        generalize prdTo (fun k => if isKid ks ps a k then wy ks ps n k else 1) k = p0 at *
        generalize (List.range k).any (isKid ks ps a) = a0 at *
        generalize isKid ks ps a k = kk at *
        generalize ps.getD k 0 = p at *
        generalize ks.getD k 0 = z at *
        generalize wy ks ps n k = y at *
        by_cases hpa : p = a
        · have g : (p != a) = false := by simp [hpa]
          by_cases hz2 : z ≤ 2
          · have hkk : kk = true := by rw [HKD.out, hpa, decide_eq_true hz2]; simp
            subst hkk
            have IHc := Lib.hid (IHk.out (HAK.out rfl))
            have E1 : Hid (s1 = s0 + y) := HS.out
            have E2 : Hid (p1 = p0 * y) := HP.out
            have E3 : Hid (a1 = true) := by show _ = _; rw [HA.out, Bool.or_true]
            have F1 : Hid (wrap64 (wz s0 + wz y) = wz s1) := by show wz (wz s0 + wz y) = _; rw [wz_add, E1.out]; rfl
            have F2 : Hid (wrap64 (wz p0 * wz y) = wz p1) := by show wz (wz p0 * wz y) = _; rw [wz_mul, E2.out, Int.natCast_mul]
            have hne : ¬ (3 : Int) ≤ z := by omega
            clear HS HP HA HKD HAK IHk
            go_upto_region 7 with (go_at_call 13; refine IHc.out.mono ?_; rintro e w2 ⟨rfl, hb2⟩)
            go_wp2
            go_roundw
            case rel => exact ⟨k + 1, by omega, by go_num, ⟨congrArg (Value.int .i64) (Eq.trans F1.out (by rw [HS1.out])), congrArg (Value.int .i64) (Eq.trans F2.out (by rw [HP1.out])), by rw [HA1.out, E3.out]⟩, below_then HB.out hb2 HB.out.size⟩
            case measure => simp [intOf]; omega
          · have hkk : kk = false := by rw [HKD.out, decide_eq_false hz2, Bool.and_false]
            subst hkk
            have E1 : Hid (s1 = s0) := HS.out
            have E2 : Hid (p1 = p0) := HP.out.trans (Nat.mul_one _)
            have E3 : Hid (a1 = a0) := by show _ = _; rw [HA.out, Bool.or_false]
            have hne : (3 : Int) ≤ z := by omega
            clear HS HP HA HKD HAK IHk
            go_wp2
            go_roundw
            case rel => exact ⟨k + 1, by omega, by go_num, ⟨by rw [HS1.out, E1.out], by rw [HP1.out, E2.out], by rw [HA1.out, E3.out]⟩, HB⟩
            case measure => simp [intOf]; omega
        · have g : (p != a) = true := by simpa using hpa
          have hkk : kk = false := by rw [HKD.out, beq_eq_false_iff_ne.2 hpa]; rfl
          subst hkk
          have E1 : Hid (s1 = s0) := HS.out
          have E2 : Hid (p1 = p0) := HP.out.trans (Nat.mul_one _)
          have E3 : Hid (a1 = a0) := by show _ = _; rw [HA.out, Bool.or_false]
          clear HS HP HA HKD HAK IHk
          go_wp2
          go_roundw
          case rel => exact ⟨k + 1, by omega, by go_num, ⟨by rw [HS1.out, E1.out], by rw [HP1.out, E2.out], by rw [HA1.out, E3.out]⟩, HB⟩
          case measure => simp [intOf]; omega
      · have e : k = n := by omega
        subst e
        clear IH HKS HPS
        have hwy := HWY.out
        generalize hy : wy ks ps k a = y at *
        have HY := Lib.hid hy
        clear hy
        generalize sumTo (fun j => if isKid ks ps a j then wy ks ps k j else 0) k = s0 at *
        generalize prdTo (fun j => if isKid ks ps a j then wy ks ps k j else 1) k = p0 at *
        generalize (List.range k).any (isKid ks ps a) = a0 at *
        cases a0
        · have E : Hid (y = 1) := by rw [if_pos rfl] at hwy; exact hwy
          have W1 : Hid (wz (1 : Nat) = 1) := wz_small (by decide) (by decide)
          clear hwy HWY
          go_wp2
          go_ret
          exact ⟨ret_int (by rw [HY.out, E.out, W1.out]), below_then HZ.out HB.out HZ.out.size⟩
        · rw [if_neg (by simp)] at hwy
          by_cases ha : a < 0
          · have E : Hid (y = s0) := by rw [if_neg (fun h => by omega)] at hwy; exact hwy
            clear hwy HWY
            go_wp2
            go_ret
            exact ⟨ret_int (by rw [HY.out, E.out]), below_then HZ.out HB.out HZ.out.size⟩
          · obtain ⟨q, rfl⟩ : ∃ q : Nat, a = q := ⟨a.toNat, by omega⟩
            rw [Int.toNat_natCast] at hwy
            obtain ⟨b1, off1, rfl, hb1, hx1, _⟩ := ints_cell (shp_below S0.out HB.out).1 (k := q) (by have := H1.out; omega)
            generalize ks.getD q 0 = z at *
            by_cases hz2 : z = 2
            · have E : Hid (y = p0) := by rw [if_pos ⟨by omega, hz2⟩] at hwy; exact hwy
              subst hz2
              clear hwy HWY
              go_wp2
              go_ret
              exact ⟨ret_int (by rw [HY.out, E.out]), below_then HZ.out HB.out HZ.out.size⟩
            · have E : Hid (y = s0) := by rw [if_neg (fun h => hz2 h.2)] at hwy; exact hwy
              have g : (z == 2) = false := beq_eq_false_iff_ne.2 hz2
              clear hwy HWY
              go_wp2
              go_ret
              exact ⟨ret_int (by rw [HY.out, E.out]), below_then HZ.out HB.out HZ.out.size⟩
end
end Go.Proofs.Ytechijfckmfoaaa
