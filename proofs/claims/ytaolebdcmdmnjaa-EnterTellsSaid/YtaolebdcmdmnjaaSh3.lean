/-
  Package shape: open, settled, Proper.
-/
import Derived.Test.YtaolebdcmdmnjaaSh1
namespace Go.Proofs.Ytaolebdcmdmnjaa
set_option maxRecDepth 100000
open Go.ChangeShapes Go.WideShapes Go.ChangeAt Go.RowKit

theorem shp_below {w w' : World} {u v : Value} {ks ps : List Int} (h : IntsAt w u ks ∧ IntsAt w v ps) (hb : Below w.heap.size w w') : IntsAt w' u ks ∧ IntsAt w' v ps := ⟨h.1.below hb, h.2.below hb⟩
theorem two_lt {k : Nat} (h : k < 32) : 2 ^ k < 4294967296 := Nat.pow_lt_pow_right (a := 2) (by omega) h
theorem two_val {i : Nat} (h : i < 32) : (2 : Int) ^ i % 4294967296 = ((2 ^ i : Nat) : Int) := by
  have := two_lt h
  have e : (2 : Int) ^ i = ((2 ^ i : Nat) : Int) := by norm_cast
  rw [e]; exact Int.emod_eq_of_lt (Int.natCast_nonneg _) (Int.ofNat_lt.2 this)
theorem opn_32 (ks ps : List Int) (a : Int) {n : Nat} (h : n ≤ 32) : opn ks ps a n < 4294967296 :=
  Nat.lt_of_lt_of_le (opn_lt ks ps a n) (Nat.pow_le_pow_right (n := 2) (by omega) h)

section
variable (ks ps : List Int) (A B : Option Addr) (n c m d : Nat) (w : World)
set_option maxHeartbeats 1000000 in
theorem open_any (a : Int) (h : IntsAt w (.slice A n c) ks ∧ IntsAt w (.slice B m d) ps) (hn : n = ks.length) (hm : m = ps.length) (hn2 : n ≤ 24) (hm2 : m ≤ 24) :
    Calls Try.prog 38 #[.agg #[.slice A n c, .slice B m d], .int .i64 a] w fun e w' => e = .returned (.int .u32 (opn ks ps a (szN ks ps) : Nat)) ∧ Below w.heap.size w w' := by
  have x0 := box_0 w 24 (.slice A n c) (.slice B m d)
  have x1 := box_1 w 24 (.slice A n c) (.slice B m d)
  have hz := box_b w (.cells #[.slice A n c, .slice B m d] 24)
  have S1 := Lib.hid (shp_below h hz)
  have HZ := Lib.hid hz
  have hlt : w.heap.size < (w.alloc (.cells #[.slice A n c, .slice B m d] 24)).heap.size := by simp
  have SZ := Lib.hid (fun W => size_any 24 A B n c m d W (by omega) (by omega))
  have HN : Hid (szN ks ps = min n m) := by show _ = _; rw [hn, hm]; rfl
  have H1 := Lib.hid hn
  have H2 := Lib.hid hm
  clear h hz hn hm
  go_enter Try.func38, Try.ntmps38
  go_wp2_with (go_at_call 36; refine (SZ.out _).mono ?_; rintro e w1 ⟨rfl, hb1⟩)
  have y0 := (hb1.cell (p := ⟨w.heap.size, 0, none⟩) hlt).trans x0
  have y1 := (hb1.cell (p := ⟨w.heap.size, 1, none⟩) hlt).trans x1
  have S2 := Lib.hid (shp_below S1.out hb1)
  have HZ2 := Lib.hid (below_then HZ.out hb1 HZ.out.size)
  have hlt2 : w.heap.size < w1.heap.size := Nat.lt_of_lt_of_le hlt hb1.size
  clear S1 HZ x0 x1 hb1 hlt SZ
  have hqm : min n m ≤ m := Nat.min_le_right _ _
  have hqn : min n m ≤ n := Nat.min_le_left _ _
  generalize min n m = q at *
  go_loopw [5, 9] (fun v i wr => ∃ k : Nat, k ≤ q ∧ i = .int .i64 k ∧ Hid (v = .int .u32 (opn ks ps a k : Nat)) ∧ Hid (Below w1.heap.size w1 wr)) (fun _ i _ => q - (intOf i).toNat)
  case atStart => exact ⟨0, Nat.zero_le _, rfl, rfl, Below.refl _ _⟩
  case round =>
    obtain ⟨k, hk, rfl, HV, HB⟩ := hrel
    have hv := HV.out
    subst hv
    clear HV
    have z0 := (HB.out.cell (p := ⟨w.heap.size, 0, none⟩) hlt2).trans y0
    have z1 := (HB.out.cell (p := ⟨w.heap.size, 1, none⟩) hlt2).trans y1
    by_cases hlt : k < q
    · have hkm : (k : Int) < m := by omega
      obtain ⟨b, off, rfl, hb, hx, hw⟩ := ints_cell (HB.out |> shp_below S2.out).2 (k := k) (by have := H2.out; omega)
      have HO := Lib.hid (holds_any ks A (some ⟨b, off, none⟩) n c m d k wr (shp_below S2.out HB.out).1 H1.out (by omega) (by omega))
      have hsn : opn ks ps a (k + 1) = if isKid ks ps a k then opn ks ps a k ||| 2 ^ k else opn ks ps a k := rfl
      have HD : Hid (isKid ks ps a k = (ps.getD k 0 == a && hl ks k)) := rfl
      have hos := opn_32 ks ps a (n := k) (by omega)
      have h2 := two_lt (k := k) (by omega)
      have hor := u32_or_nat (opn ks ps a k) (2 ^ k) hos h2
      have hsh := two_val (i := k) (by omega)
      have hki : (k : Int) < 32 := by omega
      clear hw
      generalize ps.getD k 0 = z at *
      generalize hl ks k = hb2 at *
      rcases bor_cases (a := z == a) with g | g
      · cases hb2
        · rw [HD.out, g] at hsn
          have HS : Hid (opn ks ps a (k + 1) = opn ks ps a k) := hsn
          clear hsn HD hor hsh
          go_wp2_with (go_at_call 41; refine HO.out.mono ?_; rintro e w2 ⟨rfl, hb2⟩)
          go_roundw
          case rel => exact ⟨k + 1, by omega, by go_num, by show _ = _; rw [HS.out], below_then HB.out hb2 HB.out.size⟩
          case measure => simp [intOf]; omega
        · rw [HD.out, g] at hsn
          have HS : Hid (opn ks ps a (k + 1) = opn ks ps a k ||| 2 ^ k) := hsn
          clear hsn HD
          generalize opn ks ps a k = y at *
          generalize 2 ^ k = p at *
          go_wp2_with (go_at_call 41; refine HO.out.mono ?_; rintro e w2 ⟨rfl, hb2⟩)
          go_roundw
          case rel => exact ⟨k + 1, by omega, by go_num, by show _ = _; rw [HS.out], below_then HB.out hb2 HB.out.size⟩
          case measure => simp [intOf]; omega
      · rw [HD.out, g] at hsn
        have HS : Hid (opn ks ps a (k + 1) = opn ks ps a k) := hsn
        clear hsn HD HO hor hsh
        go_wp2
        go_roundw
        case rel => exact ⟨k + 1, by omega, by go_num, by show _ = _; rw [HS.out], HB⟩
        case measure => simp [intOf]; omega
    · have HE : Hid (opn ks ps a k = opn ks ps a (szN ks ps)) := by show _ = _; rw [HN.out]; congr 1; omega
      go_wp2
      go_ret
      exact ⟨ret_int (by rw [HE.out]), below_then HZ2.out HB.out HZ2.out.size⟩
end
end Go.Proofs.Ytaolebdcmdmnjaa
