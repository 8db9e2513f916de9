/-
  Package shape: fits, Valid.
-/
import Derived.Test.YtahgfmobdfhaaaaGreatDoorSh2
import Derived.BigQuiet
import Derived.Test.YtahgfmobdfhaaaaGreatDoorPol5
import Derived.Test.YtahgfmobdfhaaaaGreatDoorAs
namespace Go.Proofs.YtahgfmobdfhaaaaGreatDoor
set_option maxRecDepth 100000
open Go.ChangeShapes Go.WideShapes Go.ChangeAt Go.RowKit

section
variable (ks ps : List Int) (A B : Option Addr) (n c m d : Nat) (w : World)
set_option maxHeartbeats 2000000 in
theorem fits_any (k : Nat) (h : IntsAt w (.slice A n c) ks ∧ IntsAt w (.slice B m d) ps) (hn : n = ks.length) (hm : m = ps.length) (hn2 : n ≤ 24) (hk : k < n) (hk2 : k < m) :
    Calls Tryz.prog 32 #[.agg #[.slice A n c, .slice B m d], .int .i64 k] w fun e w' => e = .returned (.bool (fitS ks ps k)) ∧ Below w.heap.size w w' := by
  obtain ⟨b, off, rfl, hb, hx, hw⟩ := ints_cell h.1 (k := k) (by omega)
  obtain ⟨b2, off2, rfl, hb2, hx2, hw2⟩ := ints_cell h.2 (k := k) (by omega)
  have x0 := box_0 w 30 (.slice (some ⟨b, off, none⟩) n c) (.slice (some ⟨b2, off2, none⟩) m d)
  have x1 := box_1 w 30 (.slice (some ⟨b, off, none⟩) n c) (.slice (some ⟨b2, off2, none⟩) m d)
  have xk := box_x (.cells #[.slice (some ⟨b, off, none⟩) n c, .slice (some ⟨b2, off2, none⟩) m d] 30) hb hx
  have xp := box_x (.cells #[.slice (some ⟨b, off, none⟩) n c, .slice (some ⟨b2, off2, none⟩) m d] 30) hb2 hx2
  have hz := box_b w (.cells #[.slice (some ⟨b, off, none⟩) n c, .slice (some ⟨b2, off2, none⟩) m d] 30)
  have hlt : w.heap.size < (w.alloc (.cells #[.slice (some ⟨b, off, none⟩) n c, .slice (some ⟨b2, off2, none⟩) m d] 30)).heap.size := by simp
  have S0 := Lib.hid (shp_below h hz)
  have HZ := Lib.hid hz
  have H1 := Lib.hid hn
  have H2 := Lib.hid hm
  have hki : (k : Int) < n := by omega
  have hkj : (k : Int) < m := by omega
  have HV : Hid (fitS ks ps k = (!(decide (ks.getD k 0 < 1) || decide (4 < ks.getD k 0) || decide (ps.getD k 0 < -1) || decide ((k : Int) ≤ ps.getD k 0)) &&
    (if hl ks k then decide (ps.getD k 0 < 0) || hl ks (ps.getD k 0).toNat else decide (0 ≤ ps.getD k 0) && ks.getD (ps.getD k 0).toNat 0 == 1))) := rfl
  clear hx hw hx2 hw2 h hz hn hm
  generalize hz : ks.getD k 0 = z at *
  generalize hp : ps.getD k 0 = p at *
  clear hz hp
  go_enter Tryz.func32, Tryz.ntmps32
  go_upto_region 1 with (fail)
  generalize w.alloc (.cells #[.slice (some ⟨b, off, none⟩) n c, .slice (some ⟨b2, off2, none⟩) m d] 30) = w0 at *
  have hbw : b < w0.heap.size := Nat.lt_of_lt_of_le hb HZ.out.size
  clear hb hb2
  go_quiet (fail)
  have HO := Lib.hid (fun W (hW : Below w0.heap.size w0 W) (k : Nat) (hk : k < n) => holds_any ks (some ⟨b, off, none⟩) (some ⟨b2, off2, none⟩) n c m d k W (shp_below S0.out hW).1 H1.out hk (by omega))
  have hZ2 : Below w0.heap.size w0 (w0.drewN nq) := below_drewN (Below.refl _ _) nq
  have z0 := (hZ2.cell (p := ⟨w.heap.size, 0, none⟩) hlt).trans x0
  have z1 := (hZ2.cell (p := ⟨w.heap.size, 1, none⟩) hlt).trans x1
  generalize w0.drewN nq = w1 at *
  have HC : Hid (∀ j : Nat, j < n → ∃ W0 : Nat, W0 = 0 ∧ w1.cell? ⟨b, off + j, none⟩ = some (.int .i64 (ks.getD j 0))) := fun j hj => by
    obtain ⟨b', off', e, hb', hx', _⟩ := ints_cell S0.out.1 (k := j) (by have := H1.out; omega)
    injection e with e
    injection e with e1 e2
    subst e1; subst e2
    exact ⟨0, rfl, (hZ2.cell (p := ⟨b, off + j, none⟩) hb').trans hx'⟩
  clear x0 x1 xk xp S0
  by_cases c1 : z < 1
  · have HV2 : Hid (fitS ks ps k = false) := by show _ = _; rw [HV.out]; simp [c1]
    clear HV
    go_wp2
    go_ret
    exact ⟨ret_bool HV2.out.symm, below_then HZ.out hZ2 HZ.out.size⟩
  by_cases c2 : 4 < z
  · have HV2 : Hid (fitS ks ps k = false) := by show _ = _; rw [HV.out]; simp [c2]
    clear HV
    go_wp2
    go_ret
    exact ⟨ret_bool HV2.out.symm, below_then HZ.out hZ2 HZ.out.size⟩
  by_cases c3 : p < -1
  · have HV2 : Hid (fitS ks ps k = false) := by show _ = _; rw [HV.out]; simp [c3]
    clear HV
    go_wp2
    go_ret
    exact ⟨ret_bool HV2.out.symm, below_then HZ.out hZ2 HZ.out.size⟩
  by_cases c4 : (k : Int) ≤ p
  · have HV2 : Hid (fitS ks ps k = false) := by show _ = _; rw [HV.out]; simp [c4]
    clear HV
    go_wp2
    go_ret
    exact ⟨ret_bool HV2.out.symm, below_then HZ.out hZ2 HZ.out.size⟩
  have HV2 : Hid (fitS ks ps k = if hl ks k then decide (p < 0) || hl ks p.toNat else decide (0 ≤ p) && ks.getD p.toNat 0 == 1) := by
    show _ = _
    rw [HV.out]
    have e1 : decide (z < 1) = false := by simpa using c1
    have e2 : decide (4 < z) = false := by simpa using c2
    have e3 : decide (p < -1) = false := by simpa using c3
    have e4 : decide ((k : Int) ≤ p) = false := by simpa using c4
    rw [e1, e2, e3, e4]; rfl
  clear HV
  have HH := Lib.hid (HO.out w1 hZ2 k hk)
  generalize hl ks k = t at *
  go_upto_region 4 with (fail)
  cases t
  · by_cases c5 : p < 0
    · have HV3 : Hid (fitS ks ps k = false) := by
        show _ = _
        rw [HV2.out]
        have : decide (0 ≤ p) = false := by simp; omega
        simp [this]
      clear HV2
      go_wp2_with (go_at_call 75; refine HH.out.mono ?_; rintro e w2 ⟨rfl, hb2⟩)
      go_ret
      exact ⟨ret_bool HV3.out.symm, below_then HZ.out (below_then hZ2 hb2 hZ2.size) HZ.out.size⟩
    · obtain ⟨q, rfl⟩ : ∃ q : Nat, p = q := ⟨p.toNat, by omega⟩
      have hq : q < n := by omega
      have HV3 : Hid (fitS ks ps k = (ks.getD q 0 == 1)) := by
        show _ = _
        rw [HV2.out]
        simp
      have hqi : (q : Int) < n := by omega
      obtain ⟨_, _, xq⟩ := HC.out q hq
      clear HV2 HC
      generalize ks.getD q 0 = y at *
      go_upto_region 5 with (go_at_call 75; refine HH.out.mono ?_; rintro e w2 ⟨rfl, hb2⟩)
      have y0 := (hb2.cell (p := ⟨w.heap.size, 0, none⟩) (Nat.lt_of_lt_of_le hlt hZ2.size)).trans z0
      have y1 := (hb2.cell (p := ⟨w.heap.size, 1, none⟩) (Nat.lt_of_lt_of_le hlt hZ2.size)).trans z1
      have yq := (hb2.cell (p := ⟨b, off + q, none⟩) (Nat.lt_of_lt_of_le hbw hZ2.size)).trans xq
      go_wp2
      go_ret
      exact ⟨ret_bool HV3.out.symm, below_then HZ.out (below_then hZ2 hb2 hZ2.size) HZ.out.size⟩
  · by_cases c5 : p < 0
    · have HV3 : Hid (fitS ks ps k = true) := by
        show _ = _
        rw [HV2.out]
        simp [c5]
      clear HV2
      go_wp2_with (go_at_call 75; refine HH.out.mono ?_; rintro e w2 ⟨rfl, hb2⟩)
      go_ret
      exact ⟨ret_bool HV3.out.symm, below_then HZ.out (below_then hZ2 hb2 hZ2.size) HZ.out.size⟩
    · obtain ⟨q, rfl⟩ : ∃ q : Nat, p = q := ⟨p.toNat, by omega⟩
      have hq : q < n := by omega
      have HV3 : Hid (fitS ks ps k = hl ks q) := by
        show _ = _
        rw [HV2.out]
        have : decide ((q : Int) < 0) = false := by simp
        rw [this]; rfl
      clear HV2 HC
      have HQ := Lib.hid (fun W hW => HO.out W hW q hq)
      clear HO
      generalize hl ks q = y at *
      go_upto_region 6 with (go_at_call 75; refine HH.out.mono ?_; rintro e w2 ⟨rfl, hb2⟩)
      have h2 := below_then hZ2 hb2 hZ2.size
      have y0 := (hb2.cell (p := ⟨w.heap.size, 0, none⟩) (Nat.lt_of_lt_of_le hlt hZ2.size)).trans z0
      have y1 := (hb2.cell (p := ⟨w.heap.size, 1, none⟩) (Nat.lt_of_lt_of_le hlt hZ2.size)).trans z1
      go_wp2_with (go_at_call 75; refine (HQ.out _ h2).mono ?_; rintro e w3 ⟨rfl, hb3⟩)
      go_ret
      exact ⟨ret_bool HV3.out.symm, below_then HZ.out (below_then h2 hb3 h2.size) HZ.out.size⟩
theorem valB_def (ks ps : List Int) : valB ks ps = (ks.length == ps.length && decide (1 ≤ ks.length) && decide (ks.length ≤ 24) && (List.range ks.length).all (fitS ks ps) && (List.range (ks.length + 1)).all fun i => iniB ks ps ((i : Int) - 1)) := rfl
set_option maxHeartbeats 2000000 in
theorem Valid_any (h : IntsAt w (.slice A n c) ks ∧ IntsAt w (.slice B m d) ps) (hn : n = ks.length) (hm : m = ps.length) (hn2 : n ≤ 100) (hm2 : m ≤ 100) :
    Calls Tryz.prog 14 #[.agg #[.slice A n c, .slice B m d]] w fun e w' => e = .returned (.bool (valB ks ps)) ∧ Below w.heap.size w w' := by
  have x0 := box_0 w 30 (.slice A n c) (.slice B m d)
  have x1 := box_1 w 30 (.slice A n c) (.slice B m d)
  have hz := box_b w (.cells #[.slice A n c, .slice B m d] 30)
  have hlt : w.heap.size < (w.alloc (.cells #[.slice A n c, .slice B m d] 30)).heap.size := by simp
  have S0 := Lib.hid (shp_below h hz)
  have HZ := Lib.hid hz
  have H1 := Lib.hid hn
  have H2 := Lib.hid hm
  have HV := Lib.hid (valB_def ks ps)
  rw [← hn, ← hm] at HV
  clear h hz hn hm
  by_cases hnm : n = m
  · subst hnm
    have HN : Hid (szN ks ps = n) := by show _ = _; unfold szN; have := H1.out; have := H2.out; omega
    by_cases h1 : 1 ≤ n
    · by_cases h24 : n ≤ 24
      · have HV2 : Hid (valB ks ps = ((List.range n).all (fitS ks ps) && (List.range (n + 1)).all fun i => iniB ks ps ((i : Int) - 1))) := by
          show _ = _
          rw [HV.out]
          have e1 : decide (1 ≤ n) = true := by simpa using h1
          have e2 : decide (n ≤ 24) = true := by simpa using h24
          rw [e1, e2]; simp
        clear HV
        go_enter Tryz.func14, Tryz.ntmps14
        go_upto_region 4 with (fail)
        generalize w.alloc (.cells #[.slice A n c, .slice B n d] 30) = w0 at *
        have FT := Lib.hid (fun W (hW : Below w0.heap.size w0 W) k hk => fits_any ks ps A B n c n d W k (shp_below S0.out hW) H1.out H2.out h24 hk hk)
        have KD : Hid (∀ W, Below w0.heap.size w0 W → ∀ a, Calls Tryz.prog 33 #[.agg #[.slice A n c, .slice B n d], .int .i64 a] W (KidsTo (kidsTo ps a n) W)) := fun W hW a => by
          have := Kids_any ks ps A B n c n d W a (shp_below S0.out hW) H1.out H2.out hn2 hm2
          rwa [HN.out] at this
        have IN : Hid (∀ W, Below w0.heap.size w0 W → ∀ a, Calls Tryz.prog 34 #[.agg #[.slice A n c, .slice B n d], .int .i64 a] W fun e w' => e = .returned (.int .i64 (iniTo ks ps a n)) ∧ Below W.heap.size W w') := fun W hW a => by
          have := Initial_any ks ps A B n c n d W a (shp_below S0.out hW) H1.out H2.out hn2 hm2
          rwa [HN.out] at this
        clear S0
        go_upto_region 5 with (fail)
        go_loopw [23] (fun i wr => ∃ k : Nat, k ≤ n ∧ i = .int .i64 k ∧ Hid (Below w0.heap.size w0 wr) ∧ Hid (∀ j, j < k → fitS ks ps j = true)) (fun i _ => n - (intOf i).toNat)
        case atStart => exact ⟨0, Nat.zero_le _, rfl, Below.refl _ _, fun j hj => by omega⟩
        case round =>
          obtain ⟨k, hk, rfl, HB, HI⟩ := hrel
          have z0 := (HB.out.cell (p := ⟨w.heap.size, 0, none⟩) hlt).trans x0
          have z1 := (HB.out.cell (p := ⟨w.heap.size, 1, none⟩) hlt).trans x1
          by_cases hlk : k < n
          · have HF := Lib.hid (FT.out wr HB.out k hlk)
            have HX : Hid (fitS ks ps k = true → ∀ j, j < k + 1 → fitS ks ps j = true) := fun hh j hj => by
              by_cases e : j = k
              · subst e; exact hh
              · exact HI.out j (by omega)
            have HY : Hid (fitS ks ps k = false → valB ks ps = false) := fun hh => by
              rw [HV2.out]
              have : (List.range n).all (fitS ks ps) = false := by
                rw [List.all_eq_false]
                exact ⟨k, List.mem_range.2 hlk, by simp [hh]⟩
              rw [this]; rfl
            clear HI FT KD IN
            generalize fitS ks ps k = b1 at *
            cases b1
            · have HY2 := Lib.hid (HY.out rfl)
              clear HX HY
              go_wp2_with (go_at_call 32; refine HF.out.mono ?_; rintro e w5 ⟨rfl, hb5⟩)
              go_ret
              exact ⟨ret_bool HY2.out.symm, below_then HZ.out (below_then HB.out hb5 HB.out.size) HZ.out.size⟩
            · have HX2 := Lib.hid (HX.out rfl)
              clear HX HY
              go_wp2_with (go_at_call 32; refine HF.out.mono ?_; rintro e w5 ⟨rfl, hb5⟩)
              go_roundw
              case rel => exact ⟨k + 1, by omega, by go_num, below_then HB.out hb5 HB.out.size, HX2⟩
              case measure => simp [intOf]; omega
          · have HE : Hid (valB ks ps = (List.range (n + 1)).all fun i => iniB ks ps ((i : Int) - 1)) := by
              show _ = _
              have : (List.range n).all (fitS ks ps) = true := by
                rw [List.all_eq_true]
                intro j hj
                exact HI.out j (by have := List.mem_range.1 hj; omega)
              rw [HV2.out, this]; rfl
            clear HI FT HV2
            obtain ⟨w2, rfl⟩ : ∃ w2 : World, w2 = wr := ⟨_, rfl⟩
            go_wp2
            go_loopw [5] (fun i wr => ∃ k : Nat, k ≤ n + 1 ∧ i = .int .i64 ((k : Int) - 1) ∧ Hid (Below w0.heap.size w0 wr) ∧ Hid (∀ j : Nat, j < k → iniB ks ps ((j : Int) - 1) = true)) (fun i _ => ((n : Int) - intOf i).toNat)
            case atStart => exact ⟨0, Nat.zero_le _, rfl, HB, fun j hj => by omega⟩
            case round =>
              obtain ⟨i, hi, rfl, HB2, HI⟩ := hrel
              have y0 := (HB2.out.cell (p := ⟨w.heap.size, 0, none⟩) hlt).trans x0
              have y1 := (HB2.out.cell (p := ⟨w.heap.size, 1, none⟩) hlt).trans x1
              by_cases hli : i < n + 1
              · have HX : Hid (iniB ks ps ((i : Int) - 1) = true → ∀ j : Nat, j < i + 1 → iniB ks ps ((j : Int) - 1) = true) := fun hh j hj => by
                  by_cases e : j = i
                  · subst e; exact hh
                  · exact HI.out j (by omega)
                have HY : Hid (iniB ks ps ((i : Int) - 1) = false → valB ks ps = false) := fun hh => by
                  rw [HE.out, List.all_eq_false]
                  exact ⟨i, List.mem_range.2 hli, by simp [hh]⟩
                have HD : Hid (iniB ks ps ((i : Int) - 1) = !(decide (0 < (kidsTo ps ((i : Int) - 1) n).length) && decide (iniTo ks ps ((i : Int) - 1) n < 0))) := by show _ = _; unfold iniB; rw [HN.out]
                have K1 := Lib.hid (KD.out wr HB2.out ((i : Int) - 1))
                have I1 := Lib.hid (fun W hW => IN.out W hW ((i : Int) - 1))
                have hln := kidsTo_len ps ((i : Int) - 1) n
                clear HI KD IN
                generalize ha : (i : Int) - 1 = a at *
                have hai : a < (n : Int) := by omega
                have HA := Lib.hid ha
                clear ha
                generalize iniTo ks ps a n = r at *
                have hll : ((kidsTo ps a n).map fun k : Nat => (k : Int)).length = (kidsTo ps a n).length := List.length_map ..
                have hw24 : IntKind.i64.wrap (a + 1) = a + 1 := by rw [IntKind.wrap_i64]; have := HA.out; omega
                by_cases hz0 : (kidsTo ps a n).length = 0
                · have HX2 := Lib.hid (HX.out (by rw [HD.out, hz0]; rfl))
                  rw [hz0] at hll
                  have HLL := Lib.hid hll
                  clear HX HY HD hz0 hll hln I1
                  go_wp2_with (go_at_call 33; refine K1.out.mono ?_; rintro e w5 ⟨v, rfl, ho, hb5⟩; obtain ⟨A5, c5, rfl⟩ := own_slice ho; rw [HLL.out])
                  go_roundw
                  case rel => exact ⟨i + 1, by omega, by have := HA.out; go_num, below_then HB2.out hb5 HB2.out.size, HX2⟩
                  case measure => show ((n : Int) - (a + 1)).toNat < ((n : Int) - a).toNat; omega
                · have hpos : (0 : Int) < (kidsTo ps a n).length := by omega
                  have hpn : 0 < (kidsTo ps a n).length := by omega
                  have HD2 : Hid (iniB ks ps a = !decide (r < 0)) := by
                    show _ = _
                    rw [HD.out, decide_eq_true hpn]; rfl
                  have HLL := Lib.hid hll
                  clear HD hz0 hll
                  generalize (kidsTo ps a n).length = l at *
                  by_cases hr : r < 0
                  · have HY2 := Lib.hid (HY.out (by rw [HD2.out, decide_eq_true hr]; rfl))
                    clear HX HY HD2
                    go_wp2_with (first
                      | (go_at_call 33; refine K1.out.mono ?_; rintro e w5 ⟨v, rfl, ho, hb5⟩; obtain ⟨A5, c5, rfl⟩ := own_slice ho; rw [HLL.out]; have h5 := below_then HB2.out hb5 HB2.out.size; have t0 := (h5.cell (p := ⟨w.heap.size, 0, none⟩) hlt).trans x0; have t1 := (h5.cell (p := ⟨w.heap.size, 1, none⟩) hlt).trans x1)
                      | (go_at_call 34; refine (I1.out _ h5).mono ?_; rintro e w6 ⟨rfl, hb6⟩))
                    go_ret
                    exact ⟨ret_bool HY2.out.symm, below_then HZ.out (below_then h5 hb6 h5.size) HZ.out.size⟩
                  · have HX2 := Lib.hid (HX.out (by rw [HD2.out, decide_eq_false hr]; rfl))
                    clear HX HY HD2
                    go_wp2_with (first
                      | (go_at_call 33; refine K1.out.mono ?_; rintro e w5 ⟨v, rfl, ho, hb5⟩; obtain ⟨A5, c5, rfl⟩ := own_slice ho; rw [HLL.out]; have h5 := below_then HB2.out hb5 HB2.out.size; have t0 := (h5.cell (p := ⟨w.heap.size, 0, none⟩) hlt).trans x0; have t1 := (h5.cell (p := ⟨w.heap.size, 1, none⟩) hlt).trans x1)
                      | (go_at_call 34; refine (I1.out _ h5).mono ?_; rintro e w6 ⟨rfl, hb6⟩))
                    go_roundw
                    case rel => exact ⟨i + 1, by omega, by have := HA.out; go_num, below_then h5 hb6 h5.size, HX2⟩
                    case measure => show ((n : Int) - (a + 1)).toNat < ((n : Int) - a).toNat; omega
              · have HE2 : Hid (valB ks ps = true) := by
                  show _ = _
                  rw [HE.out, List.all_eq_true]
                  intro j hj
                  exact HI.out j (by have := List.mem_range.1 hj; omega)
                clear HI
                have hge : decide ((i : Int) - 1 < n) = false := by simp; omega
                go_wp2
                go_ret
                exact ⟨ret_bool HE2.out.symm, below_then HZ.out HB2.out HZ.out.size⟩
      · have HV2 : Hid (valB ks ps = false) := by
          show _ = _
          rw [HV.out]
          have e2 : decide (n ≤ 24) = false := by simpa using h24
          rw [e2]; simp
        clear HV
        go_enter Tryz.func14, Tryz.ntmps14
        go_wp2
        go_ret
        exact ⟨ret_bool HV2.out.symm, HZ.out⟩
    · have HV2 : Hid (valB ks ps = false) := by
        show _ = _
        rw [HV.out]
        have e2 : decide (1 ≤ n) = false := by simpa using h1
        rw [e2]; simp
      clear HV
      go_enter Tryz.func14, Tryz.ntmps14
      go_wp2
      go_ret
      exact ⟨ret_bool HV2.out.symm, HZ.out⟩
  · have HV2 : Hid (valB ks ps = false) := by
      show _ = _
      rw [HV.out]
      have e2 : (n == m) = false := by simpa using hnm
      rw [e2]; rfl
    clear HV
    have hnm' : ((n : Int) != m) = true := by simp; omega
    go_enter Tryz.func14, Tryz.ntmps14
    go_wp2
    go_ret
    exact ⟨ret_bool HV2.out.symm, HZ.out⟩
end
end Go.Proofs.YtahgfmobdfhaaaaGreatDoor
/-
  Package chart, its small parts: stays, mayStand, find.
-/
namespace Go.Proofs.YtahgfmobdfhaaaaGreatDoor
set_option maxRecDepth 100000
open Go.ChangeShapes Go.WideShapes Go.ChangeAt Go.RowKit

theorem stays_any (k : Int) (w : World) : Calls Tryz.prog 39 #[.int .i64 k] w fun e w' => e = .returned (.bool (stayB k)) ∧ w = w' := by
  by_cases h1 : k = 1
  · subst h1
    go_enter Tryz.func39, Tryz.ntmps39
    go_wp2
    go_ret
    exact ⟨rfl, rfl⟩
  · have g1 : (k == 1) = false := beq_eq_false_iff_ne.2 h1
    have HE : Hid (stayB k = (k == 2)) := by show _ = _; unfold stayB; rw [g1]; rfl
    clear h1
    go_enter Tryz.func39, Tryz.ntmps39
    go_wp2
    go_ret
    exact ⟨ret_bool HE.out.symm, rfl⟩
set_option maxHeartbeats 1000000 in
theorem mayStand_any (ks : List Int) (A B : Option Addr) (n c m d : Nat) (kind p : Int) (w : World) (h : IntsAt w (.slice A n c) ks) (hn : n = ks.length) (hn2 : n ≤ 24) (hp : -1 ≤ p ∧ p < n) :
    Calls Tryz.prog 73 #[.agg #[.slice A n c, .slice B m d], .int .i64 kind, .int .i64 p] w fun e w' => e = .returned (.bool (standB ks kind p)) ∧ Below w.heap.size w w' := by
  have x0 := box_0 w 30 (.slice A n c) (.slice B m d)
  have hz := box_b w (.cells #[.slice A n c, .slice B m d] 30)
  have hi := h.below hz
  have HZ := Lib.hid hz
  have ST := Lib.hid (fun k W => stays_any k W)
  have HD : Hid (standB ks kind p = if stayB kind then p == -1 || stayB (ks.getD p.toNat 0) else p != -1 && ks.getD p.toNat 0 == 1) := rfl
  clear h hz
  by_cases hp1 : p = -1
  · subst hp1
    cases hk : stayB kind
    · have HE : Hid (standB ks kind (-1) = false) := by show _ = _; rw [HD.out, hk]; rfl
      have SK := Lib.hid (fun W => stays_any kind W)
      rw [hk] at SK
      clear hk HD hi ST hn hp
      go_enter Tryz.func73, Tryz.ntmps73
      go_wp2_with (go_at_call 39; refine (SK.out _).mono ?_; rintro e w2 ⟨rfl, rfl⟩)
      go_ret
      exact ⟨ret_bool HE.out.symm, HZ.out⟩
    · have HE : Hid (standB ks kind (-1) = true) := by show _ = _; rw [HD.out, hk]; rfl
      have SK := Lib.hid (fun W => stays_any kind W)
      rw [hk] at SK
      clear hk HD hi ST hn hp
      go_enter Tryz.func73, Tryz.ntmps73
      go_wp2_with (go_at_call 39; refine (SK.out _).mono ?_; rintro e w2 ⟨rfl, rfl⟩)
      go_ret
      exact ⟨ret_bool HE.out.symm, HZ.out⟩
  · obtain ⟨q, rfl⟩ : ∃ q : Nat, p = q := ⟨p.toNat, by omega⟩
    have hq : q < ks.length := by omega
    have hqn : (q : Int) < n := by omega
    obtain ⟨b, off, rfl, hb, hx, _⟩ := ints_cell hi (k := q) hq
    rw [Int.toNat_natCast] at HD
    generalize ks.getD q 0 = x at *
    have g1 : ((q : Int) == -1) = false := beq_eq_false_iff_ne.2 hp1
    have g2 : ((q : Int) != -1) = true := by simp [bne, g1]
    have hq0 : (0 : Int) ≤ q := by omega
    clear hn
    cases hk : stayB kind
    · have HE : Hid (standB ks kind q = (x == 1)) := by show _ = _; rw [HD.out, hk, g2]; rfl
      have SK := Lib.hid (fun W => stays_any kind W)
      rw [hk] at SK
      clear hk HD hi ST hp hq
      go_enter Tryz.func73, Tryz.ntmps73
      go_wp2_with (go_at_call 39; refine (SK.out _).mono ?_; rintro e w2 ⟨rfl, rfl⟩)
      go_ret
      exact ⟨ret_bool HE.out.symm, HZ.out⟩
    · have HE : Hid (standB ks kind q = stayB x) := by show _ = _; rw [HD.out, hk, g1]; rfl
      have SK := Lib.hid (fun W => stays_any kind W)
      rw [hk] at SK
      have SX := Lib.hid (fun W => stays_any x W)
      clear hk HD hi ST hp hq
      go_enter Tryz.func73, Tryz.ntmps73
      go_wp2_with (first
        | (go_at_call_of 39 (Value.int .i64 kind); refine (SK.out _).mono ?_; rintro e w2 ⟨rfl, rfl⟩)
        | (go_at_call 39; refine (SX.out _).mono ?_; rintro e w2 ⟨rfl, rfl⟩))
      go_ret
      exact ⟨ret_bool HE.out.symm, HZ.out⟩

/-! ### the place of a state's rule -/
theorem cloF_any (kd : Int) (nm : Tx) (L : Value) (rn rm : Int) (rf rt rb ra ri : Tx) (ln : Int) (y : Tx) (b : Nat) (w : World) (hb : b < w.heap.size) (hc : w.cell? ⟨b, 0, none⟩ = some (.string (bs y))) (hL : ∃ A n c, L = .slice A n c) :
    Calls Tryz.prog 101 #[.agg #[.int .i64 kd, .string (bs nm), L, .int .i64 rn, .int .i64 rm, .string (bs rf), .string (bs rt), .string (bs rb), .string (bs ra), .string (bs ri), .int .i64 ln], .pointer (some ⟨b, 0, none⟩)] w fun e w' => e = .returned (.bool (nm == y)) ∧ Below w.heap.size w w' := by
  obtain ⟨A, n, c, rfl⟩ := hL
  have HE := Lib.hid (beq_tx nm y)
  have R := heap_alloc_new w (.cells #[.int .i64 kd, .string (bs nm), .slice A n c, .int .i64 rn, .int .i64 rm, .string (bs rf), .string (bs rt), .string (bs rb), .string (bs ra), .string (bs ri), .int .i64 ln] 41)
  have x0 : (w.alloc (.cells #[.int .i64 kd, .string (bs nm), .slice A n c, .int .i64 rn, .int .i64 rm, .string (bs rf), .string (bs rt), .string (bs rb), .string (bs ra), .string (bs ri), .int .i64 ln] 41)).cell? ⟨b, 0, none⟩ = some (.string (bs y)) := (World.cell?_alloc_lt _ _ _ hb).trans hc
  have x1 := row_q1 R
  have HZ := Lib.hid (box_b w (.cells #[.int .i64 kd, .string (bs nm), .slice A n c, .int .i64 rn, .int .i64 rm, .string (bs rf), .string (bs rt), .string (bs rb), .string (bs ra), .string (bs ri), .int .i64 ln] 41))
  clear R hc
  go_enter Tryz.func101, Tryz.ntmps101
  go_wp2
  go_ret
  exact ⟨ret_bool HE.out, HZ.out⟩
def nmR (acc : List RL) : List Tx := acc.map (·.1.name)
theorem nmR_er (acc : List RL) : nmR acc = nmS (acc.map er) := by simp [nmR, nmS, er]
/-- rules in a block's cells, whatever their lists -/
def RI2 (w : World) (A : Option Addr) (acc : List RL) : Prop := ∀ j (h : j < acc.length), ∃ g, A = some ⟨g, 0, none⟩ ∧ g < w.heap.size ∧ (∀ f u, f < 11 → (rcell acc[j])[f]? = some u → w.cell? ⟨g, j * 11 + f, none⟩ = some u) ∧ ∃ B n c, acc[j].2.2 = .slice B n c
theorem RI2.below {w w' : World} {A : Option Addr} {acc : List RL} (h : RI2 w A acc) (hb : Below w.heap.size w w') : RI2 w' A acc := fun j hj =>
  let ⟨g, e, hl, hc, q⟩ := h j hj
  ⟨g, e, Nat.lt_of_lt_of_le hl hb.size, fun f u hf hu => (hb.cell (p := ⟨g, j * 11 + f, none⟩) hl).trans (hc f u hf hu), q⟩
theorem rI2_of {w : World} {base cap : Nat} {A : Option Addr} {acc : List RL} (h : w.ownsRow base 41 11 (.slice A acc.length cap) acc.length (rcells acc)) (hs : ∀ x ∈ acc, ∃ B n c, x.2.2 = .slice B n c) : RI2 w A acc := fun j hj => by
  obtain ⟨g, cap', e, _, hl, _, hc⟩ := own_form h (by omega)
  have eA : A = some ⟨g, 0, none⟩ := by injection e
  exact ⟨g, eA, hl, fun f u hf hu => hc _ _ (by rw [rcells_at acc j f hj hf]; exact hu), hs _ (List.getElem_mem hj)⟩
set_option maxHeartbeats 2000000 in
theorem IdxRule_any (acc : List RL) (y : Tx) (A : Option Addr) (c b : Nat) (w : World) (hR : RI2 w A acc) (ha : acc.length ≤ 1000) (hac : acc.length ≤ c) (hb : b < w.heap.size) (hc : w.cell? ⟨b, 0, none⟩ = some (.string (bs y))) :
    Calls Tryz.prog 100 #[.slice A acc.length c, .func (.func 101) #[] #[.pointer (some ⟨b, 0, none⟩)]] w fun e w' => e = .returned (.int .i64 (idxI (nmR acc) y)) ∧ Below w.heap.size w w' := by
  have HR := Lib.hid hR
  have hnl : (nmR acc).length = acc.length := by simp [nmR]
  clear hR
  go_enter Tryz.func100, Tryz.ntmps100
  go_wp2
  go_loopw [5, 8] (fun _ i wr => ∃ k : Nat, k ≤ acc.length ∧ i = .int .i64 k ∧ Hid (Below w.heap.size w wr) ∧ Hid (y ∉ (nmR acc).take k)) (fun _ i _ => acc.length - (intOf i).toNat)
  case atStart => exact ⟨0, Nat.zero_le _, rfl, Below.refl _ _, by show ¬ _; simp⟩
  case round =>
    obtain ⟨k, hk, rfl, HB, HI⟩ := hrel
    by_cases hlt : k < acc.length
    · obtain ⟨g, rfl, hgl, hcs, B, n2, c2, e2⟩ := (HR.out.below HB.out) k hlt
      have hb2 : b < wr.heap.size := Nat.lt_of_lt_of_le hb HB.out.size
      have hc2 := (HB.out.cell (p := ⟨b, 0, none⟩) hb).trans hc
      have hgk : (nmR acc)[k]'(by omega) = acc[k].1.name := by simp [nmR]
      have HH : Hid (acc[k].1.name = y → idxI (nmR acc) y = k) := fun e => by
        have hm : y ∈ nmR acc := by rw [← e, ← hgk]; exact List.getElem_mem _
        unfold idxI
        rw [if_pos hm, idxOf_at (by omega) (by rw [hgk]; exact e.symm) HI.out]
      have HT : Hid (acc[k].1.name ≠ y → y ∉ (nmR acc).take (k + 1)) := fun e hm => by
        rw [List.take_succ_eq_append_getElem (by omega : k < (nmR acc).length), List.mem_append, List.mem_singleton, hgk] at hm
        rcases hm with h | h
        · exact HI.out h
        · exact e h.symm
      have q := fun f u hf hu => hcs f u hf hu
      clear hcs hgk HI
      generalize acc[k] = x at *
      obtain ⟨⟨kd, nm, l, rn, rm, rf, rt, rb, ra, ri⟩, ln, L⟩ := x
      obtain rfl : L = .slice B n2 c2 := e2
      have q0 := q 0 _ (by omega) rfl; have q1 := q 1 _ (by omega) rfl; have q2 := q 2 _ (by omega) rfl; have q3 := q 3 _ (by omega) rfl; have q4 := q 4 _ (by omega) rfl; have q5 := q 5 _ (by omega) rfl; have q6 := q 6 _ (by omega) rfl; have q7 := q 7 _ (by omega) rfl; have q8 := q 8 _ (by omega) rfl; have q9 := q 9 _ (by omega) rfl; have q10 := q 10 _ (by omega) rfl
      simp only [Nat.add_zero] at q0
      have CL := Lib.hid (cloF_any kd nm (.slice B n2 c2) rn rm rf rt rb ra ri ln y b wr hb2 hc2 ⟨_, _, _, rfl⟩)
      clear q hc2 hb2
      simp only at HH HT
      by_cases hq : nm = y
      · have HE := Lib.hid (HH.out hq)
        rw [beq_iff_eq.2 hq] at CL
        clear hq HH HT
        go_wp2_with (go_at_call 101; refine CL.out.mono ?_; rintro e w2 ⟨rfl, hb2⟩)
        go_ret
        exact ⟨ret_int HE.out.symm, below_then HB.out hb2 HB.out.size⟩
      · have HT2 := Lib.hid (HT.out hq)
        rw [beq_eq_false_iff_ne.2 hq] at CL
        clear hq HH HT
        go_wp2_with (go_at_call 101; refine CL.out.mono ?_; rintro e w2 ⟨rfl, hb2⟩)
        have HB2 := Lib.hid (below_then HB.out hb2 HB.out.size)
        go_roundw
        case rel => exact ⟨k + 1, by omega, by go_num, HB2, HT2⟩
        case measure => simp [intOf]; omega
    · have HE : Hid (idxI (nmR acc) y = -1) := by
        have := HI.out
        rw [List.take_of_length_le (by omega)] at this
        show _ = _
        unfold idxI; rw [if_neg this]
      clear HI
      go_wp2
      go_ret
      exact ⟨ret_int HE.out.symm, HB.out⟩
theorem find_any (acc : List RL) (y : Tx) (A : Option Addr) (c b : Nat) (w : World) (hR : RI2 w A acc) (ha : acc.length ≤ 1000) (hac : acc.length ≤ c) (hb : b < w.heap.size) (hc : w.cell? ⟨b, 4, none⟩ = some (.slice A acc.length c)) :
    Calls Tryz.prog 74 #[.pointer (some ⟨b, 0, none⟩), .string (bs y)] w fun e w' => e = .returned (.int .i64 (idxI (nmS (acc.map er)) y)) ∧ Below w.heap.size w w' := by
  have R := heap_alloc_new w (.cells #[.string (bs y)] 9)
  have hbz := box_b w (.cells #[.string (bs y)] 9)
  have IX := Lib.hid (IdxRule_any acc y A c w.heap.size (w.alloc (.cells #[.string (bs y)] 9)) (hR.below hbz) ha hac (by simp) (by rw [cell_of_row _ _ _ _ _ _ R]; rfl))
  rw [nmR_er] at IX
  have HB := Lib.hid hbz
  have x4 := (World.cell?_alloc_lt w (.cells #[.string (bs y)] 9) ⟨b, 4, none⟩ hb).trans hc
  have hmf : ∀ (fn : Fn) (first cap : Array Value) (w : World), (Instr.makeFunc fn first cap).run Tryz.prog w = .ok (.func fn first cap) w := fun _ _ _ _ => rfl
  clear hR R hbz hc
  go_enter Tryz.func74, Tryz.ntmps74
  go_wp2_with (go_at_call 100; refine IX.out.mono ?_; rintro e w2 ⟨rfl, hb2⟩)
  go_ret
  exact ⟨rfl, below_then HB.out hb2 HB.out.size⟩
end Go.Proofs.YtahgfmobdfhaaaaGreatDoor
/-
  Lists of integers of the call's own; the help Copy, of integers.
-/
namespace Go.Proofs.YtahgfmobdfhaaaaGreatDoor
set_option maxRecDepth 100000
open Go.ChangeShapes Go.WideShapes Go.ChangeAt Go.RowKit

def okI (l : List Int) : Prop := ∀ x ∈ l, (Lit.int .i64 x).wf = true
theorem icells_at (l : List Int) (j : Nat) (h : j < l.length) : (icells l)[j]? = some (.int .i64 l[j]) := by simp [icells, h]
theorem icells_one (l : List Int) : ∀ u ∈ icells l, u.oneCell' = true := by
  intro u hu
  simp only [icells, List.mem_map] at hu
  obtain ⟨p, _, rfl⟩ := hu
  rfl
theorem ints_of_own {w : World} {base c : Nat} {A : Option Addr} {l : List Int} (h : OwnI w base (.slice A l.length c) l) (ho : okI l) (hl : l.length ≤ 1000) : IntsAt w (.slice A l.length c) l := by
  refine ⟨A, c, rfl, by unfold maxLen; omega, fun k hk => ?_⟩
  obtain ⟨g, cap', e, _, hg, _, hc⟩ := own_form h (by omega)
  have eA : A = some ⟨g, 0, none⟩ := by injection e
  exact ⟨g, 0, eA, hg, by rw [Nat.zero_add]; exact hc _ _ (icells_at l k hk), ho _ (List.getElem_mem hk)⟩
end Go.Proofs.YtahgfmobdfhaaaaGreatDoor
