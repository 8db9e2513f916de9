/-
  Package shape: settled, Proper.
-/
import Derived.Test.YtaolebdcmdmnjaaSh3
namespace Go.Proofs.Ytaolebdcmdmnjaa
set_option maxRecDepth 100000
open Go.ChangeShapes Go.WideShapes Go.ChangeAt Go.RowKit

theorem nat_beq (a b : Nat) : ((a : Int) == (b : Int)) = (a == b) := by rw [Bool.eq_iff_iff]; simp; exact Int.ofNat_inj
theorem par_lt (ps : List Int) (k : Nat) : par ps k < k := by unfold par; omega
section
variable (ks ps : List Int) (A B : Option Addr) (n c m d : Nat) (w : World)
set_option maxHeartbeats 2000000 in
theorem settled_any (s k : Nat) (hs : s < 4294967296) (h : IntsAt w (.slice A n c) ks ∧ IntsAt w (.slice B m d) ps) (hn : n = ks.length) (hm : m = ps.length) (hn2 : n ≤ 24) (hm2 : m ≤ 24) (hk : k < szN ks ps) :
    Calls Try.prog 40 #[.agg #[.slice A n c, .slice B m d], .int .u32 s, .int .i64 k] w fun e w' => e = .returned (.bool (settl ks ps s k)) ∧ Below w.heap.size w w' := by
  have hkn : k < n := by unfold szN at hk; omega
  have hkm : k < m := by unfold szN at hk; omega
  obtain ⟨b, off, rfl, hb, hx, hw⟩ := ints_cell h.1 (k := k) (by omega)
  have x0 := box_0 w 24 (.slice (some ⟨b, off, none⟩) n c) (.slice B m d)
  have x1 := box_1 w 24 (.slice (some ⟨b, off, none⟩) n c) (.slice B m d)
  have xk := box_x (.cells #[.slice (some ⟨b, off, none⟩) n c, .slice B m d] 24) hb hx
  have hz := box_b w (.cells #[.slice (some ⟨b, off, none⟩) n c, .slice B m d] 24)
  have hlt : w.heap.size < (w.alloc (.cells #[.slice (some ⟨b, off, none⟩) n c, .slice B m d] 24)).heap.size := by simp
  have S0 := Lib.hid (shp_below h hz)
  have HZ := Lib.hid hz
  have H1 := Lib.hid hn
  have H2 := Lib.hid hm
  clear hx hw h hz hn hm
  go_enter Try.func40, Try.ntmps40
  go_upto_region 1 with (fail)
  generalize w.alloc (.cells #[.slice (some ⟨b, off, none⟩) n c, .slice B m d] 24) = w0 at *
  have HO := Lib.hid (fun W (hW : Below w0.heap.size w0 W) => holds_any ks (some ⟨b, off, none⟩) B n c m d k W (shp_below S0.out hW).1 H1.out hkn (by omega))
  have HP := Lib.hid (fun W (hW : Below w0.heap.size w0 W) => parent_any ps (some ⟨b, off, none⟩) B n c m d k W (shp_below S0.out hW).2 H2.out hkm (by omega))
  have HK := Lib.hid (fun W (hW : Below w0.heap.size w0 W) => open_any ks ps (some ⟨b, off, none⟩) B n c m d W k (shp_below S0.out hW) H1.out H2.out hn2 hm2)
  have h00 : Below w0.heap.size w0 w0 := Below.refl _ _
  have hbw : b < w0.heap.size := Nat.lt_of_lt_of_le hb HZ.out.size
  have HV : Hid (settl ks ps s k = (hl ks k && !(decide (0 ≤ par ps k) && !s.testBit (par ps k).toNat) && (if ks.getD k 0 = 2 then s &&& opn ks ps k (szN ks ps) == opn ks ps k (szN ks ps) else opn ks ps k (szN ks ps) == 0 || cnt (s &&& opn ks ps k (szN ks ps)) == 1))) := rfl
  have hpk := par_lt ps k
  have ho := opn_32 ks ps k (n := szN ks ps) (by unfold szN; have := H1.out; omega)
  have hki : (k : Int) < n := by omega
  clear S0 hb hk
  generalize hl ks k = b1 at *
  generalize par ps k = p at *
  generalize opn ks ps k (szN ks ps) = y at *
  generalize ks.getD k 0 = z at *
  cases b1
  · have HV2 : Hid (settl ks ps s k = false) := HV.out
    clear HV
    go_wp2_with (go_at_call 41; refine (HO.out _ h00).mono ?_; rintro e w1 ⟨rfl, hb1⟩)
    go_ret
    exact ⟨ret_bool HV2.out.symm, below_then HZ.out hb1 HZ.out.size⟩
  · have hways : (p < 0 ∧ (decide (0 ≤ p) && !s.testBit p.toNat) = false) ∨ (0 ≤ p ∧ s.testBit p.toNat = false) ∨ (0 ≤ p ∧ s.testBit p.toNat = true ∧ (decide (0 ≤ p) && !s.testBit p.toNat) = false) := by
      by_cases hp : p < 0
      · left; refine ⟨hp, ?_⟩
        have : decide (0 ≤ p) = false := by simp; omega
        rw [this]; rfl
      · right
        cases ht : s.testBit p.toNat
        · exact .inl ⟨by omega, rfl⟩
        · exact .inr ⟨by omega, rfl, by simp⟩
    go_upto_region 3 with (go_at_call 41; refine (HO.out _ h00).mono ?_; rintro e w1 ⟨rfl, hb1⟩)
    have z0 := (hb1.cell (p := ⟨w.heap.size, 0, none⟩) hlt).trans x0
    have z1 := (hb1.cell (p := ⟨w.heap.size, 1, none⟩) hlt).trans x1
    go_upto_region 4 with (go_at_call 44; refine (HP.out _ hb1).mono ?_; rintro e w2 ⟨rfl, hb2⟩)
    have h2 := below_then hb1 hb2 hb1.size
    clear z0 z1 hb1 hb2 h00 HO HP
    have z0 := (h2.cell (p := ⟨w.heap.size, 0, none⟩) hlt).trans x0
    have z1 := (h2.cell (p := ⟨w.heap.size, 1, none⟩) hlt).trans x1
    have han := u32_and_nat s y hs ho
    have ha32 : s &&& y < 4294967296 := Nat.and_lt_two_pow (n := 32) s ho
    have ON := Lib.hid (fun W => Ones_any (s &&& y) W ha32)
    have HB1 : Hid ((((s &&& y : Nat) : Int) == (y : Int)) = (s &&& y == y)) := nat_beq _ _
    have HB2 : Hid ((((cnt (s &&& y) : Nat) : Int) == 1) = (cnt (s &&& y) == 1)) := nat_beq _ 1
    have HB3 : Hid (((y : Int) == 0) = (y == 0)) := nat_beq _ 0
    rcases hways with ⟨hp, hq⟩ | ⟨hp, ht⟩ | ⟨hp, ht, hq⟩
    · have HV2 : Hid (settl ks ps s k = if z = 2 then s &&& y == y else y == 0 || cnt (s &&& y) == 1) := by
        show _ = _
        rw [HV.out, hq]; rfl
      clear HV hq
      go_upto_region 7 with (go_at_call 38; refine (HK.out _ h2).mono ?_; rintro e w3 ⟨rfl, hb3⟩)
      have h3 := below_then h2 hb3 h2.size
      clear z0 z1 hb3 h2 HK
      have z0 := (h3.cell (p := ⟨w.heap.size, 0, none⟩) hlt).trans x0
      have z1 := (h3.cell (p := ⟨w.heap.size, 1, none⟩) hlt).trans x1
      have zk := (h3.cell (p := ⟨b, off + k, none⟩) hbw).trans xk
      have HZ3 := Lib.hid (below_then HZ.out h3 HZ.out.size)
      clear x0 x1 xk HZ h3
      generalize s &&& y = r at *
      rcases bor_cases (a := z == 2) with g | g
      · have HV3 : Hid (settl ks ps s k = (r == y)) := by
          have e : z = 2 := by simpa using g
          show _ = _
          rw [HV2.out, if_pos e]
        clear HV2
        go_wp2
        go_ret
        exact ⟨ret_bool (by rw [HV3.out, HB1.out]), HZ3.out⟩
      · have HV3 : Hid (settl ks ps s k = (y == 0 || cnt r == 1)) := by
          have e : ¬ z = 2 := by simpa using g
          show _ = _
          rw [HV2.out, if_neg e]
        clear HV2
        rcases bor_cases (a := (y : Int) == 0) with g0 | g0
        · have HV4 : Hid (settl ks ps s k = true) := by
            show _ = _
            rw [HV3.out, ← HB3.out, g0]; rfl
          clear HV3
          go_wp2
          go_ret
          exact ⟨ret_bool HV4.out.symm, HZ3.out⟩
        · have HV4 : Hid (settl ks ps s k = (((cnt r : Nat) : Int) == 1)) := by
            show _ = _
            rw [HV3.out, ← HB3.out, g0, HB2.out]; rfl
          clear HV3
          go_wp2_with (go_at_call 37; refine (ON.out _).mono ?_; rintro e w4 ⟨rfl, u, rfl⟩)
          go_ret
          exact ⟨ret_bool HV4.out.symm, below_drewN HZ3.out u⟩
    · obtain ⟨q, rfl⟩ : ∃ q : Nat, p = q := ⟨p.toNat, by omega⟩
      have HV2 : Hid (settl ks ps s k = false) := by
        show _ = _
        rw [HV.out, ht]
        have : decide ((0 : Int) ≤ q) = true := by simp
        rw [this]; rfl
      have HA := Lib.hid (hasb_any s q w2 hs (by omega))
      rw [show s.testBit q = false from ht] at HA
      clear HV ht HB1 HB2 HB3 ON
      go_wp2_with (go_at_call 39; refine HA.out.mono ?_; rintro e w3 ⟨rfl, rfl⟩)
      go_ret
      exact ⟨ret_bool HV2.out.symm, below_then HZ.out h2 HZ.out.size⟩
    · obtain ⟨q, rfl⟩ : ∃ q : Nat, p = q := ⟨p.toNat, by omega⟩
      have HV2 : Hid (settl ks ps s k = if z = 2 then s &&& y == y else y == 0 || cnt (s &&& y) == 1) := by
        show _ = _
        rw [HV.out, hq]; rfl
      have HA := Lib.hid (hasb_any s q w2 hs (by omega))
      rw [show s.testBit q = true from ht] at HA
      clear HV ht hq
      go_upto_region 7 with (first
        | (go_at_call 39; refine HA.out.mono ?_; rintro e w3 ⟨rfl, rfl⟩)
        | (go_at_call 38; refine (HK.out _ h2).mono ?_; rintro e w3 ⟨rfl, hb3⟩))
      have h3 := below_then h2 hb3 h2.size
      clear z0 z1 hb3 h2 HK HA
      have z0 := (h3.cell (p := ⟨w.heap.size, 0, none⟩) hlt).trans x0
      have z1 := (h3.cell (p := ⟨w.heap.size, 1, none⟩) hlt).trans x1
      have zk := (h3.cell (p := ⟨b, off + k, none⟩) hbw).trans xk
      have HZ3 := Lib.hid (below_then HZ.out h3 HZ.out.size)
      clear x0 x1 xk HZ h3
      generalize s &&& y = r at *
      rcases bor_cases (a := z == 2) with g | g
      · have HV3 : Hid (settl ks ps s k = (r == y)) := by
          have e : z = 2 := by simpa using g
          show _ = _
          rw [HV2.out, if_pos e]
        clear HV2
        go_wp2
        go_ret
        exact ⟨ret_bool (by rw [HV3.out, HB1.out]), HZ3.out⟩
      · have HV3 : Hid (settl ks ps s k = (y == 0 || cnt r == 1)) := by
          have e : ¬ z = 2 := by simpa using g
          show _ = _
          rw [HV2.out, if_neg e]
        clear HV2
        rcases bor_cases (a := (y : Int) == 0) with g0 | g0
        · have HV4 : Hid (settl ks ps s k = true) := by
            show _ = _
            rw [HV3.out, ← HB3.out, g0]; rfl
          clear HV3
          go_wp2
          go_ret
          exact ⟨ret_bool HV4.out.symm, HZ3.out⟩
        · have HV4 : Hid (settl ks ps s k = (((cnt r : Nat) : Int) == 1)) := by
            show _ = _
            rw [HV3.out, ← HB3.out, g0, HB2.out]; rfl
          clear HV3
          go_wp2_with (go_at_call 37; refine (ON.out _).mono ?_; rintro e w4 ⟨rfl, u, rfl⟩)
          go_ret
          exact ⟨ret_bool HV4.out.symm, below_drewN HZ3.out u⟩
set_option maxHeartbeats 2000000 in
theorem Proper_any (s : Nat) (hs : s < 4294967296) (h : IntsAt w (.slice A n c) ks ∧ IntsAt w (.slice B m d) ps) (hn : n = ks.length) (hm : m = ps.length) (hn2 : n ≤ 24) (hm2 : m ≤ 24) :
    Calls Try.prog 12 #[.agg #[.slice A n c, .slice B m d], .int .u32 s] w fun e w' => e = .returned (.bool (prop ks ps s)) ∧ Below w.heap.size w w' := by
  have x0 := box_0 w 24 (.slice A n c) (.slice B m d)
  have x1 := box_1 w 24 (.slice A n c) (.slice B m d)
  have hz := box_b w (.cells #[.slice A n c, .slice B m d] 24)
  have S0 := Lib.hid (shp_below h hz)
  have HZ := Lib.hid hz
  have hlt : w.heap.size < (w.alloc (.cells #[.slice A n c, .slice B m d] 24)).heap.size := by simp
  have HN : Hid (szN ks ps = min n m) := by show _ = _; rw [hn, hm]; rfl
  have H1 := Lib.hid hn
  have H2 := Lib.hid hm
  clear h hz hn hm
  go_enter Try.func12, Try.ntmps12
  go_upto_region 1 with (fail)
  generalize w.alloc (.cells #[.slice A n c, .slice B m d] 24) = w0 at *
  have SZ : Hid (∀ W, Calls Try.prog 36 #[.agg #[.slice A n c, .slice B m d]] W fun e w' => e = .returned (.int .i64 (szN ks ps : Nat)) ∧ Below W.heap.size W w') := fun W => by
    rw [HN.out]; exact size_any 24 A B n c m d W (by omega) (by omega)
  have HK := Lib.hid (fun W (hW : Below w0.heap.size w0 W) => open_any ks ps A B n c m d W (-1) (shp_below S0.out hW) H1.out H2.out hn2 hm2)
  have HS := Lib.hid (fun W (hW : Below w0.heap.size w0 W) k hk => settled_any ks ps A B n c m d W s k hs (shp_below S0.out hW) H1.out H2.out hn2 hm2 hk)
  have h00 : Below w0.heap.size w0 w0 := Below.refl _ _
  have HV : Hid (prop ks ps s = (decide (s / 2 ^ szN ks ps = 0) && cnt (s &&& opn ks ps (-1) (szN ks ps)) == 1 && (List.range (szN ks ps)).all fun k => !s.testBit k || settl ks ps s k)) := rfl
  have hqb : szN ks ps ≤ 24 := by have := HN.out; omega
  have ho := opn_32 ks ps (-1) (n := szN ks ps) (by omega)
  clear S0 HN
  generalize szN ks ps = q at *
  generalize opn ks ps (-1) q = y at *
  have hqi : q < 32 := by omega
  have han := u32_and_nat s y hs ho
  have ha32 : s &&& y < 4294967296 := Nat.and_lt_two_pow (n := 32) s ho
  have ON := Lib.hid (fun W => Ones_any (s &&& y) W ha32)
  have HD : Hid (((s : Int) / 2 ^ q == 0) = decide (s / 2 ^ q = 0)) := by
    show _ = _
    have e : (s : Int) / 2 ^ q = ((s / 2 ^ q : Nat) : Int) := by norm_cast
    rw [e, show (0 : Int) = ((0 : Nat) : Int) from rfl, nat_beq]
    rfl
  have HC : Hid ((((cnt (s &&& y) : Nat) : Int) == 1) = (cnt (s &&& y) == 1)) := nat_beq _ 1
  generalize s &&& y = r at *
  rcases bor_cases (a := (s : Int) / 2 ^ q == 0) with g | g
  · rw [show decide (s / 2 ^ q = 0) = true from HD.out.symm.trans g] at HV
    have g' : ((s : Int) / 2 ^ q != 0) = false := by rw [bne, g]; rfl
    rcases bor_cases (a := ((cnt r : Nat) : Int) == 1) with g1 | g1
    · have g1' : (((cnt r : Nat) : Int) != 1) = false := by rw [bne, g1]; rfl
      have HV2 : Hid (prop ks ps s = (List.range q).all fun k => !s.testBit k || settl ks ps s k) := by
        show _ = _
        rw [HV.out, ← HC.out, g1]; rfl
      clear HV HC HD
      go_upto_region 3 with (first
        | (go_at_call 36; refine (SZ.out _).mono ?_; rintro e w1 ⟨rfl, hb1⟩; have z0 := (hb1.cell (p := ⟨w.heap.size, 0, none⟩) hlt).trans x0; have z1 := (hb1.cell (p := ⟨w.heap.size, 1, none⟩) hlt).trans x1)
        | (go_at_call 38; refine (HK.out _ hb1).mono ?_; rintro e w2 ⟨rfl, hb2⟩)
        | (go_at_call 37; refine (ON.out _).mono ?_; rintro e w4 ⟨rfl, u, rfl⟩))
      have h2 := below_drewN (below_then hb1 hb2 hb1.size) u
      clear z0 z1 hb1 hb2 HK ON g g1 g' g1' han
      generalize w2.drewN u = w3 at *
      have z0 := (h2.cell (p := ⟨w.heap.size, 0, none⟩) hlt).trans x0
      have z1 := (h2.cell (p := ⟨w.heap.size, 1, none⟩) hlt).trans x1
      go_wp2_with (go_at_call 36; refine (SZ.out _).mono ?_; rintro e w4 ⟨rfl, hb4⟩)
      have h4 := below_then h2 hb4 h2.size
      clear z0 z1 hb4 h2 SZ
      go_loopw [21] (fun i wr => ∃ k : Nat, k ≤ q ∧ i = .int .i64 k ∧ Hid (Below w0.heap.size w0 wr) ∧ Hid (∀ j, j < k → (!s.testBit j || settl ks ps s j) = true)) (fun i _ => q - (intOf i).toNat)
      case atStart => exact ⟨0, Nat.zero_le _, rfl, h4, fun j hj => by omega⟩
      case round =>
        obtain ⟨k, hk, rfl, HB, HI⟩ := hrel
        have z0 := (HB.out.cell (p := ⟨w.heap.size, 0, none⟩) hlt).trans x0
        have z1 := (HB.out.cell (p := ⟨w.heap.size, 1, none⟩) hlt).trans x1
        by_cases hlk : k < q
        · have HH := Lib.hid (fun W => hasb_any s k W hs (by omega))
          have HT := Lib.hid (HS.out wr HB.out k hlk)
          have HX : Hid ((!s.testBit k || settl ks ps s k) = true → ∀ j, j < k + 1 → (!s.testBit j || settl ks ps s j) = true) := fun hh j hj => by
            by_cases e : j = k
            · subst e; exact hh
            · exact HI.out j (by omega)
          have HY : Hid ((!s.testBit k || settl ks ps s k) = false → prop ks ps s = false) := fun hh => by
            rw [HV2.out, List.all_eq_false]
            exact ⟨k, List.mem_range.2 hlk, by simp [hh]⟩
          clear HI
          generalize s.testBit k = b1 at *
          generalize settl ks ps s k = b2 at *
          cases b1
          · have HX2 := Lib.hid (HX.out rfl)
            clear HX HY HT
            go_wp2_with (go_at_call 39; refine (HH.out _).mono ?_; rintro e w5 ⟨rfl, rfl⟩)
            go_roundw
            case rel => exact ⟨k + 1, by omega, by go_num, HB, HX2⟩
            case measure => simp [intOf]; omega
          · cases b2
            · have HY2 := Lib.hid (HY.out rfl)
              clear HX HY
              go_wp2_with (first
                | (go_at_call 39; refine (HH.out _).mono ?_; rintro e w5 ⟨rfl, rfl⟩)
                | (go_at_call 40; refine HT.out.mono ?_; rintro e w6 ⟨rfl, hb6⟩))
              go_ret
              exact ⟨ret_bool HY2.out.symm, below_then HZ.out (below_then HB.out hb6 HB.out.size) HZ.out.size⟩
            · have HX2 := Lib.hid (HX.out rfl)
              clear HX HY
              go_wp2_with (first
                | (go_at_call 39; refine (HH.out _).mono ?_; rintro e w5 ⟨rfl, rfl⟩)
                | (go_at_call 40; refine HT.out.mono ?_; rintro e w6 ⟨rfl, hb6⟩))
              go_roundw
              case rel => exact ⟨k + 1, by omega, by go_num, below_then HB.out hb6 HB.out.size, HX2⟩
              case measure => simp [intOf]; omega
        · have HE : Hid (prop ks ps s = true) := by
            show _ = _
            rw [HV2.out, List.all_eq_true]
            intro j hj
            exact HI.out j (by have := List.mem_range.1 hj; omega)
          clear HI
          go_wp2
          go_ret
          exact ⟨ret_bool HE.out.symm, below_then HZ.out HB.out HZ.out.size⟩
    · have g1' : (((cnt r : Nat) : Int) != 1) = true := by rw [bne, g1]; rfl
      have HV2 : Hid (prop ks ps s = false) := by
        show _ = _
        rw [HV.out, ← HC.out, g1]; rfl
      clear HV HC HD HS
      go_wp2_with (first
        | (go_at_call 36; refine (SZ.out _).mono ?_; rintro e w1 ⟨rfl, hb1⟩; have z0 := (hb1.cell (p := ⟨w.heap.size, 0, none⟩) hlt).trans x0; have z1 := (hb1.cell (p := ⟨w.heap.size, 1, none⟩) hlt).trans x1)
        | (go_at_call 38; refine (HK.out _ hb1).mono ?_; rintro e w2 ⟨rfl, hb2⟩)
        | (go_at_call 37; refine (ON.out _).mono ?_; rintro e w4 ⟨rfl, u, rfl⟩))
      go_ret
      exact ⟨ret_bool HV2.out.symm, below_then HZ.out (below_drewN (below_then hb1 hb2 hb1.size) u) HZ.out.size⟩
  · have g' : ((s : Int) / 2 ^ q != 0) = true := by rw [bne, g]; rfl
    have HV2 : Hid (prop ks ps s = false) := by
      show _ = _
      rw [HV.out, ← HD.out, g]; rfl
    clear HV HC HD HS
    go_wp2_with (go_at_call 36; refine (SZ.out _).mono ?_; rintro e w1 ⟨rfl, hb1⟩)
    go_ret
    exact ⟨ret_bool HV2.out.symm, below_then HZ.out hb1 HZ.out.size⟩
end
end Go.Proofs.Ytaolebdcmdmnjaa
