/-
  The document's shapes: Valid.
-/
import Derived.Test.YtechijfckmfoaaaSh6
import Derived.Test.YtechijfckmfoaaaSh5
namespace Go.Proofs.Ytechijfckmfoaaa
set_option maxRecDepth 100000
open Go.ChangeShapes Go.WideShapes Go.ChangeAt Go.RowKit

theorem fitB_def (ks ps : List Int) (k : Nat) : fitB ks ps k = (!(decide (ks.getD k 0 < 1) || decide (4 < ks.getD k 0) || decide (ps.getD k 0 < -1) || decide ((k : Int) ≤ ps.getD k 0)) &&
    (if hl ks k then decide (ps.getD k 0 < 0) || hl ks (ps.getD k 0).toNat else decide (0 ≤ ps.getD k 0) && ks.getD (ps.getD k 0).toNat 0 == 1)) := rfl
theorem fitB_bds {ks ps : List Int} {k : Nat} (h : fitB ks ps k = true) : 1 ≤ ks.getD k 0 ∧ ks.getD k 0 ≤ 4 ∧ -1 ≤ ps.getD k 0 ∧ ps.getD k 0 < k := by
  rw [fitB_def] at h
  generalize ks.getD k 0 = z at *
  generalize ps.getD k 0 = p at *
  rw [Bool.and_eq_true, Bool.not_eq_true', Bool.or_eq_false_iff, Bool.or_eq_false_iff, Bool.or_eq_false_iff] at h
  obtain ⟨⟨⟨⟨h1, h2⟩, h3⟩, h4⟩, _⟩ := h
  have h1 := of_decide_eq_false h1
  have h2 := of_decide_eq_false h2
  have h3 := of_decide_eq_false h3
  have h4 := of_decide_eq_false h4
  omega
theorem hl_of (ks : List Int) (k : Nat) (h1 : 1 ≤ ks.getD k 0) : hl ks k = decide (ks.getD k 0 ≤ 2) := by
  unfold hl
  generalize ks.getD k 0 = z at *
  by_cases e : z ≤ 2
  · have : z = 1 ∨ z = 2 := by omega
    rcases this with e | e <;> rw [e] <;> rfl
  · have e1 : (z == 1) = false := beq_eq_false_iff_ne.2 (by omega)
    have e2 : (z == 2) = false := beq_eq_false_iff_ne.2 (by omega)
    rw [e1, e2]; simpa using e

section
variable (ks ps : List Int) (A B : Option Addr) (n c m d : Nat) (w : World)
set_option maxHeartbeats 4000000 in
theorem RValid_any (h : IntsAt w (.slice A n c) ks ∧ IntsAt w (.slice B m d) ps) (hn : n = ks.length) (hm : m = ps.length) (hn2 : n ≤ 100) (hm2 : m ≤ 100) :
    Calls Try.prog 14 #[.agg #[.slice A n c, .slice B m d]] w fun e w' => e = .returned (.bool (valB ks ps)) ∧ Below w.heap.size w w' := by
  have x0 := box_0 w 30 (.slice A n c) (.slice B m d)
  have x1 := box_1 w 30 (.slice A n c) (.slice B m d)
  have hz := box_b w (.cells #[.slice A n c, .slice B m d] 30)
  have hlt : w.heap.size < (w.alloc (.cells #[.slice A n c, .slice B m d] 30)).heap.size := by simp
  have S0 := Lib.hid (shp_below h hz)
  have HZ := Lib.hid hz
  have H1 := Lib.hid hn
  have H2 := Lib.hid hm
  have HV := Lib.hid (valB_def ks ps)
  rw [← hn, ← hm] at HV
  clear h hz hn hm
  by_cases h1 : 1 ≤ n
  · by_cases h24 : n ≤ 24
    · by_cases hnm : n = m
      · subst hnm
        have HN : Hid (szN ks ps = n) := by show _ = _; unfold szN; have := H1.out; have := H2.out; omega
        have HV2 : Hid (valB ks ps = ((List.range n).all (fitB ks ps) && (List.range (n + 1)).all fun i => iniB ks ps ((i : Int) - 1))) := by
          show _ = _
          rw [HV.out]
          have e1 : decide (1 ≤ n) = true := by simpa using h1
          have e2 : decide (n ≤ 24) = true := by simpa using h24
          rw [e1, e2]; simp
        clear HV
        go_enter Try.func14, Try.ntmps14
        go_upto_region 4 with (fail)
        generalize w.alloc (.cells #[.slice A n c, .slice B n d] 30) = w0 at *
        have KD := Lib.hid (fun W (hW : Below w0.heap.size w0 W) a => RKids_any ks ps A B n c n d W a (shp_below S0.out hW) H2.out hm2)
        have IN := Lib.hid (fun W (hW : Below w0.heap.size w0 W) a => RIni_any ks ps A B n c n d W a (shp_below S0.out hW) H1.out H2.out (Nat.le_refl _) hm2)
        go_upto_region 5 with (fail)
        go_loopw [4] (fun i wr => ∃ k : Nat, k ≤ n ∧ i = .int .i64 k ∧ Hid (Below w0.heap.size w0 wr) ∧ Hid (∀ j, j < k → fitB ks ps j = true)) (fun i _ => n - (intOf i).toNat)
        case atStart => exact ⟨0, Nat.zero_le _, rfl, Below.refl _ _, fun j hj => by omega⟩
        case round =>
          obtain ⟨k, hk, rfl, HB, HI⟩ := hrel
          have z0 := (HB.out.cell (p := ⟨w.heap.size, 0, none⟩) hlt).trans x0
          have z1 := (HB.out.cell (p := ⟨w.heap.size, 1, none⟩) hlt).trans x1
          by_cases hlk : k < n
          · have hX : fitB ks ps k = true → ∀ j, j < k + 1 → fitB ks ps j = true := fun hh j hj => by
              by_cases e : j = k
              · subst e; exact hh
              · exact HI.out j (by omega)
            have hY : fitB ks ps k = false → valB ks ps = false := fun hh => by
              rw [HV2.out]
              have : (List.range n).all (fitB ks ps) = false := by
                rw [List.all_eq_false]
                exact ⟨k, List.mem_range.2 hlk, by simp [hh]⟩
              rw [this]; rfl
            have hFD := fitB_def ks ps k
            obtain ⟨b, off, rfl, hb, hx, hw⟩ := ints_cell (shp_below S0.out HB.out).1 (k := k) (by have := H1.out; omega)
            obtain ⟨b2, off2, rfl, hb2, hx2, hw2⟩ := ints_cell (shp_below S0.out HB.out).2 (k := k) (by have := H2.out; omega)
            have hHC : ∀ j : Nat, j < k → 1 ≤ ks.getD j 0 ∧ wr.cell? ⟨b, off + j, none⟩ = some (.int .i64 (ks.getD j 0)) := fun j hj => by
              obtain ⟨b', off', e, hb', hx', _⟩ := ints_cell (shp_below S0.out HB.out).1 (k := j) (by have := H1.out; omega)
              injection e with e
              injection e with e1 e2
              subst e1; subst e2
              exact ⟨(fitB_bds (HI.out j hj)).1, hx'⟩
            have hhl := hl_of ks k
            have HHL := Lib.hid (fun j => hl_of ks j)
            have hki : (k : Int) < n := by omega
            clear HI KD IN hw hw2
            generalize ks.getD k 0 = z at *
            generalize ps.getD k 0 = p at *
            have HX := Lib.hid hX
            have HY := Lib.hid hY
            have HFD := Lib.hid hFD
            have HHC := Lib.hid hHC
            have HHK := Lib.hid hhl
            clear hX hY hFD hHC hhl
            go_upto_region 7 with (fail)
            go_quiet (fail)
            have HB3 := Lib.hid (below_drewN HB.out nq)
            have HHC3 : Hid (∀ j : Nat, j < k → 1 ≤ ks.getD j 0 ∧ (wr.drewN nq).cell? ⟨b, off + j, none⟩ = some (.int .i64 (ks.getD j 0))) := HHC.out
            have y0 : (wr.drewN nq).cell? ⟨w.heap.size, 0, none⟩ = some (.slice (some ⟨b, off, none⟩) n c) := z0
            have y1 : (wr.drewN nq).cell? ⟨w.heap.size, 1, none⟩ = some (.slice (some ⟨b2, off2, none⟩) n d) := z1
            generalize wr.drewN nq = w1 at *
            clear HB HHC z0 z1
            by_cases c1 : z < 1
            · have HE := Lib.hid (HY.out (by rw [HFD.out]; simp [c1]))
              go_wp2
              go_ret
              exact ⟨ret_bool HE.out.symm, below_then HZ.out HB3.out HZ.out.size⟩
            by_cases c2 : 4 < z
            · have HE := Lib.hid (HY.out (by rw [HFD.out]; simp [c2]))
              go_wp2
              go_ret
              exact ⟨ret_bool HE.out.symm, below_then HZ.out HB3.out HZ.out.size⟩
            by_cases c3 : p < -1
            · have HE := Lib.hid (HY.out (by rw [HFD.out]; simp [c3]))
              go_wp2
              go_ret
              exact ⟨ret_bool HE.out.symm, below_then HZ.out HB3.out HZ.out.size⟩
            by_cases c4 : (k : Int) ≤ p
            · have HE := Lib.hid (HY.out (by rw [HFD.out]; simp [c4]))
              go_wp2
              go_ret
              exact ⟨ret_bool HE.out.symm, below_then HZ.out HB3.out HZ.out.size⟩
            have HF2 : Hid (fitB ks ps k = if decide (z ≤ 2) then decide (p < 0) || hl ks p.toNat else decide (0 ≤ p) && ks.getD p.toNat 0 == 1) := by
              show _ = _
              have e1 : decide (z < 1) = false := by simpa using c1
              have e2 : decide (4 < z) = false := by simpa using c2
              have e3 : decide (p < -1) = false := by simpa using c3
              have e4 : decide ((k : Int) ≤ p) = false := by simpa using c4
              rw [HFD.out, e1, e2, e3, e4, HHK.out (by omega)]; rfl
            clear HFD HHK
            by_cases c5 : p < 0
            · by_cases c6 : z ≤ 2
              · have HX2 := Lib.hid (HX.out (by rw [HF2.out]; simp [c5, c6]))
                clear HX HY HF2
                go_wp2
                go_roundw
                case rel => exact ⟨k + 1, by omega, by go_num, HB3, HX2⟩
                case measure => simp [intOf]; omega
              · have HE := Lib.hid (HY.out (by rw [HF2.out]; simp [c6]; omega))
                clear HX HY HF2
                go_wp2
                go_ret
                exact ⟨ret_bool HE.out.symm, below_then HZ.out HB3.out HZ.out.size⟩
            · obtain ⟨q, rfl⟩ : ∃ q : Nat, p = q := ⟨p.toNat, by omega⟩
              have hqk : q < k := by omega
              obtain ⟨hy1, xq⟩ := HHC3.out q hqk
              have HF3 : Hid (fitB ks ps k = if decide (z ≤ 2) then decide (ks.getD q 0 ≤ 2) else ks.getD q 0 == 1) := by
                show _ = _
                rw [HF2.out, Int.toNat_natCast, HHL.out q hy1]
                have e1 : decide ((q : Int) < 0) = false := by simp
                have e2 : decide (0 ≤ (q : Int)) = true := by simp
                rw [e1, e2, Bool.false_or, Bool.true_and]
              have hqi : (q : Int) < n := by omega
              clear HF2 HHC3 HHL
              generalize ks.getD q 0 = y at *
              by_cases d1 : y = 1
              · subst d1
                have HX2 := Lib.hid (HX.out (by rw [HF3.out]; simp))
                clear HX HY HF3
                by_cases c6 : z ≤ 2
                · go_wp2
                  go_roundw
                  case rel => exact ⟨k + 1, by omega, by go_num, HB3, HX2⟩
                  case measure => simp [intOf]; omega
                · go_wp2
                  go_roundw
                  case rel => exact ⟨k + 1, by omega, by go_num, HB3, HX2⟩
                  case measure => simp [intOf]; omega
              · by_cases d2 : y = 2
                · subst d2
                  by_cases c6 : z ≤ 2
                  · have HX2 := Lib.hid (HX.out (by rw [HF3.out]; simp [c6]))
                    clear HX HY HF3
                    go_wp2
                    go_roundw
                    case rel => exact ⟨k + 1, by omega, by go_num, HB3, HX2⟩
                    case measure => simp [intOf]; omega
                  · have HE := Lib.hid (HY.out (by rw [HF3.out]; simp [c6]))
                    clear HX HY HF3
                    go_wp2
                    go_ret
                    exact ⟨ret_bool HE.out.symm, below_then HZ.out HB3.out HZ.out.size⟩
                · have HE := Lib.hid (HY.out (by
                    rw [HF3.out]
                    have e1 : decide (y ≤ 2) = false := by simp; omega
                    have e2 : (y == 1) = false := beq_eq_false_iff_ne.2 d1
                    rw [e1, e2]; simp))
                  have g1 : (y != 1) = true := by simpa using d1
                  have g2 : (y != 2) = true := by simpa using d2
                  clear HX HY HF3
                  go_wp2
                  go_ret
                  exact ⟨ret_bool HE.out.symm, below_then HZ.out HB3.out HZ.out.size⟩
          · have HI2 : Hid (∀ j, j < n → fitB ks ps j = true) := fun j hj => HI.out j (by omega)
            have HE : Hid (valB ks ps = (List.range (n + 1)).all fun i => iniB ks ps ((i : Int) - 1)) := by
              show _ = _
              have : (List.range n).all (fitB ks ps) = true := by
                rw [List.all_eq_true]
                intro j hj
                exact HI2.out j (List.mem_range.1 hj)
              rw [HV2.out, this]; rfl
            have HR : Hid (∀ a, riniL ks (kidsTo ps a n) = iniTo ks ps a n) := fun a => rini_ini fun j hj => (fitB_bds (HI2.out j hj)).1
            have H0 : Hid (0 < (kidsTo ps (-1) n).length) := by
              show 0 < _
              have hb := fitB_bds (HI2.out 0 (by omega))
              have : 0 ∈ kidsTo ps (-1) n := mem_kidsTo.2 ⟨by omega, by omega⟩
              exact List.length_pos_of_mem this
            clear HI HI2 HV2
            obtain ⟨w2, rfl⟩ : ∃ w2 : World, w2 = wr := ⟨_, rfl⟩
            go_wp2
            go_loopw [7] (fun i wr => ∃ k : Nat, k ≤ n + 1 ∧ i = .int .i64 ((k : Int) - 1) ∧ Hid (Below w0.heap.size w0 wr) ∧ Hid (∀ j : Nat, j < k → iniB ks ps ((j : Int) - 1) = true)) (fun i _ => ((n : Int) - intOf i).toNat)
            case atStart => exact ⟨0, Nat.zero_le _, rfl, HB, fun j hj => by omega⟩
            case round =>
              obtain ⟨i, hi, rfl, HB2, HI⟩ := hrel
              have y0 := (HB2.out.cell (p := ⟨w.heap.size, 0, none⟩) hlt).trans x0
              have y1 := (HB2.out.cell (p := ⟨w.heap.size, 1, none⟩) hlt).trans x1
              by_cases hli : i < n + 1
              · have HX : Hid (iniB ks ps ((i : Int) - 1) = true → ∀ j : Nat, j < i + 1 → iniB ks ps ((j : Int) - 1) = true) := fun hh j hj => by
                  by_cases e : j = i
                  · subst e; exact hh
                  · exact HI.out j (by omega)
                have HY : Hid (iniB ks ps ((i : Int) - 1) = false → valB ks ps = false) := fun hh => by
                  rw [HE.out, List.all_eq_false]
                  exact ⟨i, List.mem_range.2 hli, by simp [hh]⟩
                have HD : Hid (iniB ks ps ((i : Int) - 1) = !(decide (0 < (kidsTo ps ((i : Int) - 1) n).length) && decide (iniTo ks ps ((i : Int) - 1) n < 0))) := by show _ = _; unfold iniB; rw [HN.out]
                have K1 := Lib.hid (KD.out wr HB2.out ((i : Int) - 1))
                have I1 : Hid (∀ W, Below w0.heap.size w0 W → Calls Try.prog 26 #[.agg #[.slice A n c, .slice B n d], .int .i64 ((i : Int) - 1)] W fun e w' => e = .returned (.int .i64 (iniTo ks ps ((i : Int) - 1) n)) ∧ Below W.heap.size W w') := fun W hW => by
                  have := IN.out W hW ((i : Int) - 1)
                  rwa [HR.out] at this
                have hln := kidsTo_len ps ((i : Int) - 1) n
                have H00 : Hid ((i : Int) - 1 < 0 → 0 < (kidsTo ps ((i : Int) - 1) n).length) := fun h => by
                  have : (i : Int) - 1 = -1 := by omega
                  rw [this]; exact H0.out
                clear HI KD IN H0
                generalize ha : (i : Int) - 1 = a at *
                have hai : a < (n : Int) := by omega
                have HA := Lib.hid ha
                have ha1 : -1 ≤ a := by omega
                clear ha
                generalize iniTo ks ps a n = r at *
                have hll : ((kidsTo ps a n).map fun k : Nat => (k : Int)).length = (kidsTo ps a n).length := List.length_map ..
                have HLL := Lib.hid hll
                clear hll
                generalize (kidsTo ps a n).length = l at *
                have hways : (a < 0 ∧ 0 < l) ∨ (0 ≤ a ∧ l = 0) ∨ (0 ≤ a ∧ 0 < l) := by
                  by_cases h : a < 0
                  · exact .inl ⟨h, H00.out h⟩
                  · omega
                clear H00
                rcases hways with ⟨ha0, hl0⟩ | ⟨ha0, hl0⟩ | ⟨ha0, hl0⟩
                · have HD2 : Hid (iniB ks ps a = !decide (r < 0)) := by
                    show _ = _
                    rw [HD.out, decide_eq_true hl0]; rfl
                  clear HD K1
                  by_cases hr : r < 0
                  · have HY2 := Lib.hid (HY.out (by rw [HD2.out, decide_eq_true hr]; rfl))
                    clear HX HY HD2
                    go_wp2_with (go_at_call 26; refine (I1.out _ HB2.out).mono ?_; rintro e w6 ⟨rfl, hb6⟩)
                    go_ret
                    exact ⟨ret_bool HY2.out.symm, below_then HZ.out (below_then HB2.out hb6 HB2.out.size) HZ.out.size⟩
                  · have HX2 := Lib.hid (HX.out (by rw [HD2.out, decide_eq_false hr]; rfl))
                    clear HX HY HD2
                    go_wp2_with (go_at_call 26; refine (I1.out _ HB2.out).mono ?_; rintro e w6 ⟨rfl, hb6⟩)
                    go_roundw
                    case rel => exact ⟨i + 1, by omega, by have := HA.out; go_num, below_then HB2.out hb6 HB2.out.size, HX2⟩
                    case measure => show ((n : Int) - (a + 1)).toNat < ((n : Int) - a).toNat; omega
                · subst hl0
                  have HX2 := Lib.hid (HX.out (by rw [HD.out]; rfl))
                  clear HX HY HD I1
                  go_wp2_with (go_at_call 25; refine K1.out.mono ?_; rintro e w5 ⟨v, rfl, ho, hb5⟩; obtain ⟨A5, c5, rfl⟩ := own_slice ho; rw [HLL.out])
                  go_roundw
                  case rel => exact ⟨i + 1, by omega, by have := HA.out; go_num, below_then HB2.out hb5 HB2.out.size, HX2⟩
                  case measure => show ((n : Int) - (a + 1)).toNat < ((n : Int) - a).toNat; omega
                · have hpos : (0 : Int) < l := by omega
                  have HD2 : Hid (iniB ks ps a = !decide (r < 0)) := by
                    show _ = _
                    rw [HD.out, decide_eq_true hl0]; rfl
                  clear HD
                  by_cases hr : r < 0
                  · have HY2 := Lib.hid (HY.out (by rw [HD2.out, decide_eq_true hr]; rfl))
                    clear HX HY HD2
                    go_wp2_with (first
                      | (go_at_call 25; refine K1.out.mono ?_; rintro e w5 ⟨v, rfl, ho, hb5⟩; obtain ⟨A5, c5, rfl⟩ := own_slice ho; rw [HLL.out]; have h5 := below_then HB2.out hb5 HB2.out.size; have t0 := (h5.cell (p := ⟨w.heap.size, 0, none⟩) hlt).trans x0; have t1 := (h5.cell (p := ⟨w.heap.size, 1, none⟩) hlt).trans x1)
                      | (go_at_call 26; refine (I1.out _ h5).mono ?_; rintro e w6 ⟨rfl, hb6⟩))
                    go_ret
                    exact ⟨ret_bool HY2.out.symm, below_then HZ.out (below_then h5 hb6 h5.size) HZ.out.size⟩
                  · have HX2 := Lib.hid (HX.out (by rw [HD2.out, decide_eq_false hr]; rfl))
                    clear HX HY HD2
                    go_wp2_with (first
                      | (go_at_call 25; refine K1.out.mono ?_; rintro e w5 ⟨v, rfl, ho, hb5⟩; obtain ⟨A5, c5, rfl⟩ := own_slice ho; rw [HLL.out]; have h5 := below_then HB2.out hb5 HB2.out.size; have t0 := (h5.cell (p := ⟨w.heap.size, 0, none⟩) hlt).trans x0; have t1 := (h5.cell (p := ⟨w.heap.size, 1, none⟩) hlt).trans x1)
                      | (go_at_call 26; refine (I1.out _ h5).mono ?_; rintro e w6 ⟨rfl, hb6⟩))
                    go_roundw
                    case rel => exact ⟨i + 1, by omega, by have := HA.out; go_num, below_then h5 hb6 h5.size, HX2⟩
                    case measure => show ((n : Int) - (a + 1)).toNat < ((n : Int) - a).toNat; omega
              · have HE2 : Hid (valB ks ps = true) := by
                  show _ = _
                  rw [HE.out, List.all_eq_true]
                  intro j hj
                  exact HI.out j (by have := List.mem_range.1 hj; omega)
                clear HI
                have hge : decide ((i : Int) - 1 < n) = false := by simp; omega
                go_wp2
                go_ret
                exact ⟨ret_bool HE2.out.symm, below_then HZ.out HB2.out HZ.out.size⟩
      · have HV2 : Hid (valB ks ps = false) := by
          show _ = _
          rw [HV.out]
          have e2 : (n == m) = false := by simpa using hnm
          rw [e2]; rfl
        clear HV
        have hnm' : ((m : Int) != n) = true := by simp; omega
        go_enter Try.func14, Try.ntmps14
        go_wp2
        go_ret
        exact ⟨ret_bool HV2.out.symm, HZ.out⟩
    · have HV2 : Hid (valB ks ps = false) := by
        show _ = _
        rw [HV.out]
        have e2 : decide (n ≤ 24) = false := by simpa using h24
        rw [e2]; simp
      clear HV
      go_enter Try.func14, Try.ntmps14
      go_wp2
      go_ret
      exact ⟨ret_bool HV2.out.symm, HZ.out⟩
  · have HV2 : Hid (valB ks ps = false) := by
      show _ = _
      rw [HV.out]
      have e2 : decide (1 ≤ n) = false := by simpa using h1
      rw [e2]; simp
    clear HV
    go_enter Try.func14, Try.ntmps14
    go_wp2
    go_ret
    exact ⟨ret_bool HV2.out.symm, HZ.out⟩
end
end Go.Proofs.Ytechijfckmfoaaa
