/-
  The document's answers of chapter 7.
-/
import Derived.Test.YtaolebdcmdmnjaaEl5
import Derived.Deep.AppendLies
import Derived.Deep.RegionHeld3
import Derived.Test.YtaolebdcmdmnjaaEn9
namespace Go.Proofs.Ytaolebdcmdmnjaa
set_option maxRecDepth 100000
open Go.ChangeShapes Go.WideShapes Go.ChangeAt Go.RowKit

theorem RpastOf_any (v : Value) (rs : List Nat) (k : Nat) (w : World) (hu : U32sAt w v rs) :
    Calls Try.prog 57 #[v, .int .i64 k] w fun e w' => e = .returned (.int .u32 (rs.getD k 0 : Nat)) ∧ w = w' := by
  obtain ⟨A, c, rfl⟩ := u32s_form hu
  by_cases hk : k < rs.length
  · obtain ⟨b, off, rfl, hb, hx, _⟩ := u32s_cell hu hk
    have hki : (k : Int) < rs.length := by omega
    clear hu
    generalize rs.length = m at *
    generalize rs.getD k 0 = x at *
    go_enter Try.func57, Try.ntmps57
    go_wp2
    go_ret
    exact ⟨rfl, rfl⟩
  · have HE : Hid (rs.getD k 0 = 0) := by show _ = _; rw [List.getD_eq_getElem?_getD, List.getElem?_eq_none (by omega)]; rfl
    have hki : ¬ (k : Int) < rs.length := by omega
    clear hu
    generalize rs.length = m at *
    generalize rs.getD k 0 = x at *
    go_enter Try.func57, Try.ntmps57
    go_wp2
    go_ret
    exact ⟨ret_int (by rw [HE.out]; rfl), rfl⟩
/-- what is left, from a place on -/
def downL (ps : List Int) (n s : Nat) (d : Int) (m : Nat) : List Nat := (((List.range n).drop m).reverse).filter fun k : Nat => s.testBit k && (decide ((k : Int) ≠ d) && undB ps k d)
theorem downL_top (ps : List Int) (n s : Nat) (d : Int) : downL ps n s d n = [] := by
  unfold downL
  rw [List.drop_of_length_le (by rw [List.length_range]; exact Nat.le_refl _)]; rfl
theorem downL_all (ps : List Int) (n s : Nat) (d : Int) : downL ps n s d 0 = leaveL ps n s d := rfl
theorem downL_step (ps : List Int) (n s : Nat) (d : Int) {m : Nat} (hm : m < n) : downL ps n s d m = if (s.testBit m && (decide ((m : Int) ≠ d) && undB ps m d)) = true then downL ps n s d (m + 1) ++ [m] else downL ps n s d (m + 1) := by
  unfold downL
  have : (List.range n).drop m = m :: (List.range n).drop (m + 1) := by
    rw [List.drop_eq_getElem_cons (by rw [List.length_range]; exact hm), List.getElem_range]
  rw [this, List.reverse_cons, List.filter_append, List.filter_cons, List.filter_nil]
  split
  · rfl
  · rw [List.append_nil]
theorem downL_len (ps : List Int) (n s : Nat) (d : Int) (m : Nat) : (downL ps n s d m).length ≤ n := by
  unfold downL
  have := List.length_filter_le (fun k : Nat => s.testBit k && (decide ((k : Int) ≠ d) && undB ps k d)) (((List.range n).drop m).reverse)
  rw [List.length_reverse, List.length_drop, List.length_range] at this
  omega
section
variable {ks ps : List Int} {A B : Option Addr} {n c d : Nat}
set_option maxHeartbeats 4000000 in
theorem RLeave_any (s : Nat) (t : Int) (w : World) (h : IntsAt w (.slice A n c) ks ∧ IntsAt w (.slice B n d) ps) (hf : ShF ks ps n) (hn : n ≤ 24) (hs : s < 4294967296) (ht : -1 ≤ t ∧ t < n) :
    Calls Try.prog 26 #[.agg #[.slice A n c, .slice B n d], .int .u32 s, .int .i64 t] w (KidsTo (leaveL ps n s t) w) := by
  have x0 := box_0 w 25 (.slice A n c) (.slice B n d)
  have x1 := box_1 w 25 (.slice A n c) (.slice B n d)
  have hz := box_b w (.cells #[.slice A n c, .slice B n d] 25)
  have hlt0 : w.heap.size < (w.alloc (.cells #[.slice A n c, .slice B n d] 25)).heap.size := by simp
  have S1 := Lib.hid (shp_below h hz)
  have HZ := Lib.hid hz
  have HF := Lib.hid hf
  have hwn : IntKind.i64.wrap ((n : Int) - 1) = (n : Int) - 1 := by rw [IntKind.wrap_i64]; omega
  have HT := Lib.hid (downL_top ps n s t)
  clear h hz hf
  go_enter Try.func26, Try.ntmps26
  go_upto_region 1 with (fail)
  generalize w.alloc (.cells #[.slice A n c, .slice B n d] 25) = w0 at *
  have UN := Lib.hid (fun W (hW : Below w0.heap.size w0 W) (k : Nat) (hk : k < n) => RUnder_any k t W (shp_below S1.out hW) HF.out hk ht)
  have BT := Lib.hid (fun k (hk : k < 32) => bit01 s k hs hk)
  go_wp2
  go_loopw [7, 8] (fun v i wr => ∃ m : Nat, m ≤ n ∧ i = .int .i64 ((m : Int) - 1) ∧ Hid (OwnN wr w0.heap.size v (downL ps n s t m)) ∧ Hid (Below w0.heap.size w0 wr)) (fun _ i _ => (intOf i + 1).toNat)
  case atStart => exact ⟨n, Nat.le_refl _, rfl, (show OwnN _ _ _ _ by rw [HT.out]; exact OwnN.nil _ _), Below.refl _ _⟩
  case round =>
    obtain ⟨m, hm, rfl, HO, HB⟩ := hrel
    have hbz := HB.out.size
    obtain ⟨A5, c5, rfl⟩ := own_slice HO.out
    by_cases h0 : 0 < m
    · obtain ⟨k, rfl⟩ : ∃ k, m = k + 1 := ⟨m - 1, by omega⟩
      have ek : ((k + 1 : Nat) : Int) - 1 = (k : Int) := by omega
      rw [ek]
      have hkn : k < n := by omega
      have hki : (k : Int) < n := by omega
      have hk32 : (k : Int) < 32 := by omega
      have z0 := (HB.out.cell (p := ⟨w.heap.size, 0, none⟩) hlt0).trans x0
      have z1 := (HB.out.cell (p := ⟨w.heap.size, 1, none⟩) hlt0).trans x1
      have hsn := downL_step ps n s t hkn
      have hdl := downL_len ps n s t (k + 1)
      have hbt := BT.out k (by omega)
      have hwk : IntKind.i64.wrap ((k : Int) - 1) = (k : Int) - 1 := by rw [IntKind.wrap_i64]; omega
      have UK := Lib.hid (UN.out _ HB.out k hkn)
      clear ek
      cases hb : s.testBit k
      · rw [hb, if_neg (by simp)] at hbt
        rw [hb, Bool.false_and, if_neg (by simp)] at hsn
        have HNw : Hid (OwnN wr w0.heap.size (.slice A5 (downL ps n s t (k + 1)).length c5) (downL ps n s t k)) := by show OwnN _ _ _ _; rw [hsn]; exact HO.out
        clear hsn hb
        go_wp2
        go_roundw
        case rel => exact ⟨k, by omega, by go_num, HNw, HB⟩
        case measure => simp [intOf]
      · rw [hb, if_pos rfl] at hbt
        rw [hb, Bool.true_and] at hsn
        clear hb
        by_cases hkt : (k : Int) = t
        · have g1 : ((k : Int) != t) = false := by simp [hkt]
          rw [decide_eq_false (fun h => h hkt), Bool.false_and, if_neg (by simp)] at hsn
          have HNw : Hid (OwnN wr w0.heap.size (.slice A5 (downL ps n s t (k + 1)).length c5) (downL ps n s t k)) := by show OwnN _ _ _ _; rw [hsn]; exact HO.out
          clear hsn hkt
          go_wp2
          go_roundw
          case rel => exact ⟨k, by omega, by go_num, HNw, HB⟩
          case measure => simp [intOf]
        · have g1 : ((k : Int) != t) = true := by simpa using hkt
          rw [decide_eq_true hkt, Bool.true_and] at hsn
          clear hkt
          cases hun : undB ps k t
          · rw [hun] at UK
            rw [hun, if_neg (by simp)] at hsn
            have HNw : Hid (∀ W, Below wr.heap.size wr W → OwnN W w0.heap.size (.slice A5 (downL ps n s t (k + 1)).length c5) (downL ps n s t k)) := fun W hW => by rw [hsn]; exact own_below HO.out hW hbz
            clear hsn hun
            go_wp2_with (go_at_call 48; refine UK.out.mono ?_; rintro e w3 ⟨rfl, hb3⟩)
            go_roundw
            case rel => exact ⟨k, by omega, by go_num, HNw.out _ hb3, below_then HB.out hb3 hbz⟩
            case measure => simp [intOf]
          · rw [hun] at UK
            rw [hun, if_pos rfl] at hsn
            have HS := Lib.hid hsn
            clear hsn hun
            go_wp2_with (first
              | (go_at_call 48; refine UK.out.mono ?_; rintro e w3 ⟨rfl, hb3⟩; have HO3 := Lib.hid (own_below HO.out hb3 hbz); have HB3 := Lib.hid (below_then HB.out hb3 hbz); have hbz3 := HB3.out.size; clear hb3)
              | (at_builtin; go_must (refine wpList_append_nn rfl (.tmp 34) (.tmp 36) rfl rfl (HO3.out.alloc _) rfl (one_own w3 w0.heap.size k hbz3) (by simp; omega) (by simp; omega) ?_; intro v' w7 hown' hg')))
            have HNw : Hid (OwnN w7 w0.heap.size v' (downL ps n s t k)) := by show OwnN _ _ _ _; rw [HS.out]; exact hown'
            have HB7 := Lib.hid ((HB3.out.alloc hbz3 _).grown hg' (by simp; omega) (fun j e => (HO3.out.lt j e).1))
            clear hown' hg'
            go_roundw
            case rel => exact ⟨k, by omega, by go_num, HNw, HB7⟩
            case measure => simp [intOf]
    · have e : m = 0 := by omega
      subst e
      have e2 : ((0 : Nat) : Int) - 1 = -1 := rfl
      rw [e2]
      go_wp2
      go_ret
      exact kidsTo_mk (downL_all ps n s t) (OwnN.ints (own_mono2 HO.out (by have := HZ.out.size; omega))) (below_then HZ.out HB.out HZ.out.size)
set_option maxHeartbeats 2000000 in
theorem RDomain_any (k t : Nat) (w : World) (h : IntsAt w (.slice A n c) ks ∧ IntsAt w (.slice B n d) ps) (hf : ShF ks ps n) (hn : n ≤ 100) (hk : k < n) (ht : t < n) :
    Calls Try.prog 25 #[.agg #[.slice A n c, .slice B n d], .int .i64 k, .int .i64 t] w fun e w' => e = .returned (.int .i64 (domL ks ps n k t)) ∧ Below w.heap.size w w' := by
  have x0 := box_0 w 25 (.slice A n c) (.slice B n d)
  have x1 := box_1 w 25 (.slice A n c) (.slice B n d)
  have hz := box_b w (.cells #[.slice A n c, .slice B n d] 25)
  have hlt : w.heap.size < (w.alloc (.cells #[.slice A n c, .slice B n d] 25)).heap.size := by simp
  have S1 := Lib.hid (shp_below h hz)
  have HZ := Lib.hid hz
  have HF := Lib.hid hf
  have HD := Lib.hid (domU_dom hf t hk)
  have hpk := hf.pa k hk
  have hki : (k : Int) < n := by omega
  clear h hz hf
  go_enter Try.func25, Try.ntmps25
  go_upto_region 1 with (fail)
  generalize w.alloc (.cells #[.slice A n c, .slice B n d] 25) = w0 at *
  have TH := Lib.hid (fun W => RIn_any (A := A) (B := B) (c := c) (d := d) k W hk)
  have TH2 := Lib.hid (fun W => RIn_any (A := A) (B := B) (c := c) (d := d) t W ht)
  have PC := Lib.hid (fun W (hW : Below w0.heap.size w0 W) (q : Nat) (hq : q < n) => ints_cell (shp_below S1.out hW).2 (k := q) (by rw [HF.out.pl]; exact hq))
  have UN := Lib.hid (fun W (hW : Below w0.heap.size w0 W) (a : Nat) (ha : a < n) => RUnder_any t (a : Int) W (shp_below S1.out hW) HF.out ht (by omega))
  have HPK := Lib.hid hpk
  clear hpk
  have tok : True := trivial
  go_upto_region 3 with (first
    | (have _t := tok; go_at_call 53; refine (TH.out _).mono ?_; rintro e w1 ⟨rfl, hb1⟩; have y0 := (hb1.cell (p := ⟨w.heap.size, 0, none⟩) hlt).trans x0; have y1 := (hb1.cell (p := ⟨w.heap.size, 1, none⟩) hlt).trans x1; clear tok _t)
    | (go_at_call 53; refine (TH2.out _).mono ?_; rintro e w2 ⟨rfl, hb2⟩))
  have HB2 := Lib.hid (below_then hb1 hb2 hb1.size)
  have y20 := (HB2.out.cell (p := ⟨w.heap.size, 0, none⟩) hlt).trans x0
  have y21 := (HB2.out.cell (p := ⟨w.heap.size, 1, none⟩) hlt).trans x1
  obtain ⟨bp, offp, eP, hbp, hcp, _⟩ := PC.out _ HB2.out k hk
  subst eP
  clear hb1 hb2 y0 y1
  generalize ps.getD k 0 = p0 at *
  go_wp2
  go_loopw [7] (fun i wr => ∃ a : Int, i = .int .i64 a ∧ Hid (-1 ≤ a ∧ a < n ∧ domU ks ps t a = domL ks ps n k t) ∧ Hid (Below w0.heap.size w0 wr)) (fun i _ => (intOf i + 1).toNat)
  case atStart => exact ⟨p0, rfl, ⟨HPK.out.1, by have := HPK.out.2; omega, HD.out⟩, HB2.out⟩
  case round =>
    obtain ⟨a, rfl, HA, HB⟩ := hrel
    have z0 := (HB.out.cell (p := ⟨w.heap.size, 0, none⟩) hlt).trans x0
    have z1 := (HB.out.cell (p := ⟨w.heap.size, 1, none⟩) hlt).trans x1
    by_cases h0 : 0 ≤ a
    · obtain ⟨q, rfl⟩ : ∃ q : Nat, a = q := ⟨a.toNat, by omega⟩
      have hq : q < n := by have := HA.out.2.1; omega
      have hqi : (q : Int) < n := by omega
      obtain ⟨b, off, rfl, hb, hx, _⟩ := ints_cell (shp_below S1.out HB.out).1 (k := q) (by rw [HF.out.kl]; exact hq)
      have PQ := Lib.hid (fun W (hW : Below w0.heap.size w0 W) => PC.out W hW q hq)
      obtain ⟨bq, offq, eQ, hbq, hcq, _⟩ := PQ.out _ HB.out
      injection eQ with eQ
      injection eQ with eQ1 eQ2
      subst eQ1; subst eQ2
      have hpq := HF.out.pa q hq
      have HPQ := Lib.hid hpq
      have HMS : Hid (¬ (ks.getD q 0 = 1 ∧ q ≠ t ∧ undB ps t q = true) → domU ks ps t (ps.getD q 0) = domL ks ps n k t) := fun hc => by rw [domU_miss HF.out hq hc]; exact HA.out.2.2
      have HHT : Hid (ks.getD q 0 = 1 ∧ q ≠ t ∧ undB ps t q = true → (q : Int) = domL ks ps n k t) := fun hc => by
        rw [← HA.out.2.2, domU_hit h0 (by rw [Int.toNat_natCast]; exact hc)]
      have UQ := Lib.hid (UN.out wr HB.out q hq)
      have PCQ : Hid (∀ W, Below w0.heap.size w0 W → W.cell? ⟨bp, offp + q, none⟩ = some (.int .i64 (ps.getD q 0))) := fun W hW => by
        obtain ⟨b7, o7, e7, _, h7, _⟩ := PQ.out W hW
        injection e7 with e7
        injection e7 with e71 e72
        subst e71; subst e72
        exact h7
      clear HA hpq PQ
      generalize ps.getD q 0 = p at *
      generalize ks.getD q 0 = z at *
      generalize undB ps t q = un at *
      by_cases hz1 : z = 1
      · subst hz1
        by_cases hqt2 : (q : Int) = t
        · have g2 : ((q : Int) != t) = false := by simp [hqt2]
          have HS := Lib.hid (HMS.out (fun hc => hc.2.1 (by omega)))
          clear HMS HHT hqt2
          go_wp2
          go_roundw
          case rel => exact ⟨p, rfl, ⟨HPQ.out.1, by have := HPQ.out.2; omega, HS.out⟩, HB⟩
          case measure => have := HPQ.out; simp [intOf]; omega
        · have g2 : ((q : Int) != t) = true := by simpa using hqt2
          cases un
          · have HS := Lib.hid (HMS.out (fun hc => by simp at hc))
            clear HMS HHT
            go_wp2_with (go_at_call 48; refine UQ.out.mono ?_; rintro e w4 ⟨rfl, hb4⟩; have HB4 := Lib.hid (below_then HB.out hb4 HB.out.size); have y40 := (HB4.out.cell (p := ⟨w.heap.size, 0, none⟩) hlt).trans x0; have y41 := (HB4.out.cell (p := ⟨w.heap.size, 1, none⟩) hlt).trans x1; have y42 := PCQ.out _ HB4.out)
            go_roundw
            case rel => exact ⟨p, rfl, ⟨HPQ.out.1, by have := HPQ.out.2; omega, HS.out⟩, HB4⟩
            case measure => have := HPQ.out; simp [intOf]; omega
          · have HS := Lib.hid (HHT.out ⟨rfl, by omega, rfl⟩)
            clear HMS HHT
            go_wp2_with (go_at_call 48; refine UQ.out.mono ?_; rintro e w4 ⟨rfl, hb4⟩)
            go_ret
            exact ⟨ret_int HS.out, below_then HZ.out (below_then HB.out hb4 HB.out.size) HZ.out.size⟩
      · have g1 : (z == 1) = false := by simpa using hz1
        have HS := Lib.hid (HMS.out (fun hc => hz1 hc.1))
        clear HMS HHT
        go_wp2
        go_roundw
        case rel => exact ⟨p, rfl, ⟨HPQ.out.1, by have := HPQ.out.2; omega, HS.out⟩, HB⟩
        case measure => have := HPQ.out; simp [intOf]; omega
    · have HS : Hid ((-1 : Int) = domL ks ps n k t) := by
        show _ = _
        rw [← HA.out.2.2]
        unfold domU
        rw [if_neg h0]
      clear HA
      go_wp2
      go_ret
      exact ⟨ret_int HS.out, below_then HZ.out HB.out HZ.out.size⟩
end
set_option maxHeartbeats 1000000 in
theorem same_u32 (l : List Nat) (A B : Option Addr) (ca cb : Nat) (w : World) (hl : l.length ≤ 1000) (h1 : U32sAt w (.slice A l.length ca) l) (h2 : U32sAt w (.slice B l.length cb) l) :
    Calls Try.prog 30 #[.slice A l.length ca, .slice B l.length cb] w fun e w' => e = .returned (.bool true) ∧ Below w.heap.size w w' := by
  have H1 := Lib.hid h1
  have H2 := Lib.hid h2
  clear h1 h2
  go_enter Try.func30, Try.ntmps30
  go_wp2
  go_loopw [5] (fun i wr => ∃ k : Nat, k ≤ l.length ∧ i = .int .i64 k ∧ ∃ n, wr = w.drewN n) (fun i _ => l.length - (intOf i).toNat)
  case atStart => exact ⟨0, Nat.zero_le _, rfl, 0, rfl⟩
  case round =>
    obtain ⟨k, hk, rfl, n, rfl⟩ := hrel
    by_cases hlt : k < l.length
    · have hki : (k : Int) < l.length := by omega
      obtain ⟨g, o, rfl, _, x1, _⟩ := u32s_cell H1.out hlt
      obtain ⟨g', o', rfl, _, x2, _⟩ := u32s_cell H2.out hlt
      generalize l.getD k 0 = X at *
      have hb1 : ((X : Int) != X) = false := by simp
      go_wp2
      go_quiet (fail)
      go_wp2
      go_roundw
      case rel => exact ⟨k + 1, by omega, by go_num, _, rfl⟩
      case measure => simp [intOf]; omega
    · have hki : ¬ (k : Int) < l.length := by omega
      go_wp2
      go_ret
      exact ⟨rfl, below_drewN (Below.refl _ _) _⟩
def U32To (l : List Nat) (w : World) (e : Ending) (w' : World) : Prop := ∃ A c, e = .returned (.slice A l.length c) ∧ U32sAt w' (.slice A l.length c) l ∧ Below w.heap.size w w'
set_option maxHeartbeats 1000000 in
theorem copy_u32 (l : List Nat) (v : Value) (w : World) (h : U32sAt w v l) (hl : l.length ≤ 1000) :
    Calls Try.prog 27 #[v] w (U32To l w) := by
  obtain ⟨i0, hi, hz0, hz1, hz2⟩ := info_parts Try.infoU5
  have hlt := Lib.hid (fun k hk => by
    have := u32s_lt h k
    exact this : Hid (∀ k, k < l.length → l.getD k 0 < 4294967296))
  obtain ⟨A, c, rfl⟩ := u32s_form h
  have HC := Lib.hid h
  cases A with
  | none =>
    have e0 : l = [] := by
      cases l with
      | nil => rfl
      | cons x r =>
        obtain ⟨b, off, e, _⟩ := u32s_cell h (k := 0) (by simp)
        cases e
    subst e0
    clear h
    go_enter Try.func27, Try.ntmps27
    go_wp2
    go_ret
    exact ⟨none, 0, rfl, ⟨none, 0, rfl, Nat.zero_le _, fun k hk => by simp at hk⟩, Below.refl _ _⟩
  | some a =>
    have HCC : Hid (∀ j u, (ucl l)[j]? = some u → w.cell? (a.add j) = some u) := fun j u hu => by
      have hj : j < l.length := by
        have := (List.getElem?_eq_some_iff.1 hu).1
        rwa [ucl_len] at this
      obtain ⟨b, off, e, _, hx, _⟩ := u32s_cell HC.out hj
      injection e with e
      subst e
      rw [ucl_at l j hj] at hu
      rw [Go.WideShapes.add_plain, hx, ← hu]
      simp [List.getD_eq_getElem?_getD, hj]
    have HO := Lib.hid (ucl_one l)
    have HL := Lib.hid (ucl_len l)
    have HE : Hid (∀ v W, W.ownsRow w.heap.size 29 1 v l.length (ucl l) → OwnU W w.heap.size v l) := fun v W h => h
    have HM : Hid (∀ k ∈ l, k < 4294967296) := fun k hk => by
      obtain ⟨j, hj, rfl⟩ := List.getElem_of_mem hk
      have := u32s_lt HC.out j
      simpa [List.getD_eq_getElem?_getD, hj] using this
    clear h
    generalize ucl l = xs at *
    go_enter Try.func27, Try.ntmps27
    go_wp2_with (at_builtin; go_must (refine wpList_append_own _ rfl (.const (.slice none 0 0)) (.tmp 3) 43 rfl w.heap.size 29 i0 _ 1 4 Try.underlying43 hi hz0 hz1 hz2 rfl (by decide) (.slice none 0 0) 0 [] rfl (World.ownsRow_nil _ _ _ _) a l.length c xs rfl (by have := HL.out; omega) HCC.out HO.out (by unfold maxLen; omega) (by omega) (by simp) ?_); intro v' w4 hown' hg' _)
    have hg2 : w.grownBy w4 none := hg'
    have HOU := Lib.hid (HE.out v' w4 (by simpa using hown'))
    obtain ⟨A9, c9, rfl⟩ := own_slice HOU.out
    go_ret
    exact ⟨A9, c9, rfl, OwnU.at HOU.out HM.out hl, hg2.os, hg2.tape, hg2.output, hg2.size, fun j hj => hg2.block j hj (by simp)⟩
end Go.Proofs.Ytaolebdcmdmnjaa
namespace Go.Proofs.Ytaolebdcmdmnjaa
set_option maxRecDepth 100000
open Go.ChangeShapes Go.WideShapes Go.ChangeAt Go.RowKit

/-- two lists that lie in blocks of their own -/
def Apt (k u : Value) : Prop := ∀ g, k.ownBlock = some g → u.ownBlock = some g → False
theorem Apt.symm {k u : Value} (h : Apt k u) : Apt u k := fun g a b => h g b a
theorem Apt.kept {w w' : World} {base : Nat} {k u : Value} {L : List Nat} (h : Apt k u) (hk : OwnN w base k L) (hg : w.grownBy w' u.ownBlock) : OwnN w' base k L := by
  refine World.ownsRow.kept hk hg ?_
  cases e : k.ownBlock with
  | none => exact .inl rfl
  | some g => exact .inr fun e2 => h g e e2.symm
theorem Apt.grow {w : World} {base : Nat} {k u u' : Value} {L : List Nat} (h : Apt k u) (hk : OwnN w base k L) (hu : u'.ownBlock = u.ownBlock ∨ u'.ownBlock = some w.heap.size) : Apt k u' := fun g a b => by
  rcases hu with e | e
  · exact h g a (by rw [← e]; exact b)
  · have := (World.ownsRow.lt hk g a).2
    rw [e] at b
    injection b with b
    omega
theorem Apt.fresh {w w' : World} {base : Nat} {k u : Value} {L M : List Nat} (hk : OwnN w base k L) (hu : OwnN w' w.heap.size u M) : Apt k u := fun g a b => by
  have := (World.ownsRow.lt hk g a).2
  have := (World.ownsRow.lt hu g b).1
  omega
theorem Apt.nil (k : Value) : Apt k (.slice none 0 0) := fun _ _ b => by cases b
theorem wpList_append_nn2 {w : World} {ops : Array Oper} {rest : List Oper} {o : Oper} {a : Act} {Q : Exit → Act → World → Prop} (hgd : o.guard = none) (s x : Operand)
    (ho : o.op = .call { callee := .builtin .append, args := #[s, x], argTypes := #[22, 22] })
    {base base' : Nat} {v u : Value} {L M : List Nat} (hs : a.eval s = v) (hown : OwnN w base v L) (hx : a.eval x = u) (hu : OwnN w base' u M)
    (hlen : L.length + M.length ≤ 1000) (hM : 0 < M.length) (hbase : base ≤ w.heap.size)
    (h : ∀ v' w', OwnN w' base v' (L ++ M) → w.grownBy w' v.ownBlock → (v'.ownBlock = v.ownBlock ∨ v'.ownBlock = some w.heap.size) → wpList Try.prog ops Q rest (a.put o.dst v') w') : wpList Try.prog ops Q (o :: rest) a w := by
  obtain ⟨i0, hi, hz0, hz1, hz2⟩ := info_parts Try.infoInt
  have hic : (icells (M.map fun k : Nat => (k : Int))).length = M.length := by rw [icells_length, List.length_map]
  obtain ⟨A9, c9, rfl⟩ := own_slice hu
  cases A9 with
  | none => have := (own_none hu).1; omega
  | some ad =>
    obtain ⟨g, rfl⟩ := own_some hu
    refine wpList_append_lies _ hgd s x 22 ho base 3 i0 _ 1 8 Try.underlying22 hi hz0 hz1 hz2 rfl (by decide) v L.length _ hs hown ⟨g, 0, none⟩ M.length c9 _ hx (by rw [hic, Nat.mul_one]) (own_cells hu) (icells_one _) hM (by unfold maxLen; omega) (by omega) hbase _ rfl ?_
    intro g' cap w' h1 h2 h3 _
    refine h _ w' ?_ h2 ?_
    · unfold OwnN
      rw [List.length_append, List.map_append]
      unfold icells at *
      rw [List.map_append]
      exact h1
    · rcases h3 with e | e
      · exact .inl (by rw [e]; rfl)
      · exact .inr (by rw [e]; rfl)
section
variable {ks ps : List Int} {n : Nat}
theorem inS_pos (h : ShF ks ps n) {x : Nat} (hx : x < n) : 0 < (inS ks ps n x).length := by
  have := inS_head h hx
  cases e : inS ks ps n x with
  | nil => rw [e] at this; cases this
  | cons a l => simp
end
section
variable {ks ps : List Int} {A B : Option Addr} {n c d : Nat}
theorem RInit_any (a : Int) (w : World) (h : IntsAt w (.slice A n c) ks ∧ IntsAt w (.slice B n d) ps) (hf : ShF ks ps n) (hn : n ≤ 24) :
    Calls Try.prog 56 #[.agg #[.slice A n c, .slice B n d], .int .i64 a] w fun e w' => e = .returned (.int .i64 (iniTo ks ps a n)) ∧ Below w.heap.size w w' := by
  have := RIni_any ks ps A B n c n d w a h hf.kl.symm hf.pl.symm (Nat.le_refl _) (by omega)
  rwa [rini_ini fun k hk => (hf.kd k hk).1] at this
theorem RKid_any (a : Int) (w : World) (h : IntsAt w (.slice A n c) ks ∧ IntsAt w (.slice B n d) ps) (hf : ShF ks ps n) (hn : n ≤ 24) :
    Calls Try.prog 42 #[.agg #[.slice A n c, .slice B n d], .int .i64 a] w (KidsTo (kidsTo ps a n) w) :=
  RKids_any ks ps A B n c n d w a h hf.pl.symm (by omega)
set_option maxHeartbeats 4000000 in
theorem RInto_any (v : Value) (rs : List Nat) (hf : ShF ks ps n) (hn : n ≤ 24) : ∀ (m x : Nat) (w : World), n - x ≤ m → x < n → hl ks x = true → IntsAt w (.slice A n c) ks ∧ IntsAt w (.slice B n d) ps → U32sAt w v rs →
    Calls Try.prog 55 #[.agg #[.slice A n c, .slice B n d], .int .i64 x, v] w (KidsTo (inS ks ps n x) w)
  | 0, x, w, hm, hx, _, _, _ => by omega
  | m + 1, x, w, hm, hx, hh, h, hu => by
    have IHm := RInto_any v rs hf hn m
    obtain ⟨A7, c7, rfl⟩ := u32s_form hu
    have x0 := box_0 w 25 (.slice A n c) (.slice B n d)
    have x1 := box_1 w 25 (.slice A n c) (.slice B n d)
    have hz := box_b w (.cells #[.slice A n c, .slice B n d] 25)
    have hlt0 : w.heap.size < (w.alloc (.cells #[.slice A n c, .slice B n d] 25)).heap.size := by simp
    have S1 := Lib.hid (shp_below h hz)
    have HU := Lib.hid (hu.below hz)
    have HZ := Lib.hid hz
    have HF := Lib.hid hf
    have hk12 : ks.getD x 0 = 1 ∨ ks.getD x 0 = 2 := by
      unfold hl at hh
      rw [Bool.or_eq_true] at hh
      rcases hh with e | e
      · exact .inl (by simpa using e)
      · exact .inr (by simpa using e)
    have hxi : (x : Int) < n := by omega
    obtain ⟨b, off, rfl, hb, hc, _⟩ := ints_cell S1.out.1 (k := x) (by rw [hf.kl]; exact hx)
    obtain ⟨b2, off2, rfl, hb2, hc2, _⟩ := ints_cell S1.out.2 (k := x) (by rw [hf.pl]; exact hx)
    generalize ps.getD x 0 = pz at *
    rcases hk12 with e1 | e2
    · have hpl := inS_plain hf hx (by omega)
      have IHh := Lib.hid IHm
      clear h hz hf hu IHm
      rw [e1] at hc
      rcases hpl with ⟨hi, hin⟩ | ⟨k, hi, hk1, hk2, hk3, hin⟩
      · have HIN := Lib.hid hin
        clear hin
        go_enter Try.func55, Try.ntmps55
        go_upto_region 1 with (fail)
        generalize w.alloc (.cells #[.slice (some ⟨b, off, none⟩) n c, .slice (some ⟨b2, off2, none⟩) n d] 25) = w0 at *
        have IN := Lib.hid (fun W (hW : Below w0.heap.size w0 W) => RInit_any x W (shp_below S1.out hW) HF.out hn)
        rw [hi] at IN
        have HW1 : Hid (∀ o, Below w0.heap.size w0 (w0.alloc o)) := fun o => (Below.refl _ _).alloc (Nat.le_refl _) _
        have y0 : ∀ o, (w0.alloc o).cell? ⟨w.heap.size, 0, none⟩ = some (.slice (some ⟨b, off, none⟩) n c) := fun o => box_x o hlt0 x0
        have y1 : ∀ o, (w0.alloc o).cell? ⟨w.heap.size, 1, none⟩ = some (.slice (some ⟨b2, off2, none⟩) n d) := fun o => box_x o hlt0 x1
        have y2 : ∀ o, (w0.alloc o).cell? ⟨b, off + x, none⟩ = some (.int .i64 1) := fun o => box_x o hb hc
        have y3 : ∀ o, (w0.alloc o).cell? ⟨b2, off2 + x, none⟩ = some (.int .i64 pz) := fun o => box_x o hb2 hc2
        go_wp2_with (go_at_call 56; refine (IN.out _ (HW1.out _)).mono ?_; rintro e w2 ⟨rfl, hb2⟩)
        go_ret
        exact kidsTo_mk HIN.out.symm (OwnN.ints (own_below (own_mono2 (one_own w0 w0.heap.size x (Nat.le_refl _)) (by omega)) hb2 (by simp; omega))) (below_then HZ.out (below_then (HW1.out _) hb2 (by simp)) HZ.out.size)
      · have HIN := Lib.hid hin
        have HLK := Lib.hid (inS_len HF.out hk2 hk3)
        clear hin
        go_enter Try.func55, Try.ntmps55
        go_upto_region 1 with (fail)
        generalize w.alloc (.cells #[.slice (some ⟨b, off, none⟩) n c, .slice (some ⟨b2, off2, none⟩) n d] 25) = w0 at *
        have IN := Lib.hid (fun W (hW : Below w0.heap.size w0 W) => RInit_any x W (shp_below S1.out hW) HF.out hn)
        rw [hi] at IN
        have CK := Lib.hid (fun W (hW : Below w0.heap.size w0 W) => IHh.out k W (by omega) hk2 hk3 (shp_below S1.out hW) (HU.out.below hW))
        have HW1 : Hid (∀ o, Below w0.heap.size w0 (w0.alloc o)) := fun o => (Below.refl _ _).alloc (Nat.le_refl _) _
        have y0 : ∀ o, (w0.alloc o).cell? ⟨w.heap.size, 0, none⟩ = some (.slice (some ⟨b, off, none⟩) n c) := fun o => box_x o hlt0 x0
        have y1 : ∀ o, (w0.alloc o).cell? ⟨w.heap.size, 1, none⟩ = some (.slice (some ⟨b2, off2, none⟩) n d) := fun o => box_x o hlt0 x1
        have y2 : ∀ o, (w0.alloc o).cell? ⟨b, off + x, none⟩ = some (.int .i64 1) := fun o => box_x o hb hc
        have y3 : ∀ o, (w0.alloc o).cell? ⟨b2, off2 + x, none⟩ = some (.int .i64 pz) := fun o => box_x o hb2 hc2
        have HO1 := Lib.hid (one_own w0 w0.heap.size x (Nat.le_refl _))
        have hk0 : (0 : Int) ≤ k := by omega
        go_wp2_with (first
          | (go_at_call 56; refine (IN.out _ (HW1.out _)).mono ?_; rintro e w2 ⟨rfl, hb2⟩; have HB2 := Lib.hid (below_then (HW1.out _) hb2 (by simp)); have HO2 := Lib.hid (own_below HO1.out hb2 (by simp)); have y20 := (HB2.out.cell (p := ⟨w.heap.size, 0, none⟩) hlt0).trans x0; have y21 := (HB2.out.cell (p := ⟨w.heap.size, 1, none⟩) hlt0).trans x1; clear hb2)
          | (go_at_call 55; refine (CK.out _ HB2.out).mono ?_; rintro e w3 ⟨v3, rfl, hO3, hb3⟩; have HO3 := Lib.hid (own_below HO2.out hb3 HB2.out.size); have HB3 := Lib.hid (below_then HB2.out hb3 HB2.out.size); clear hb3)
          | (at_builtin; go_must (refine wpList_append_nn rfl (.tmp 73) (.tmp 77) rfl rfl HO3.out rfl (OwnN.of hO3) (by have := HLK.out; simp; omega) HB3.out.size ?_; intro v' w4 hown' hg')))
        go_ret
        have HB4 := HB3.out.grown hg' HB3.out.size (fun q e => (HO3.out.lt q e).1)
        exact kidsTo_mk HIN.out.symm (OwnN.ints (own_mono2 hown' (by omega))) (below_then HZ.out HB4 HZ.out.size)
    · have HOLE : Hid (inS ks ps n x = [x] ++ othP ks ps n (kidsTo ps x n) (-1) (kidsTo ps x n).length) := by
        show _ = _
        rw [inS_all hf hx e2]
        unfold otherL othP
        rw [List.take_length]
      have HMX : Hid (∀ k ∈ kidsTo ps x n, x < k ∧ k < n ∧ hl ks k = true) := fun k hk => by
        obtain ⟨h3, h4⟩ := mem_kidsTo.1 hk
        exact ⟨hf.lt h3 h4, h3, all_kids hf e2 h3 h4⟩
      have hlen := kidsTo_len ps x n
      have IHh := Lib.hid IHm
      clear h hz hf hu IHm
      rw [e2] at hc
      go_enter Try.func55, Try.ntmps55
      go_upto_region 1 with (fail)
      generalize w.alloc (.cells #[.slice (some ⟨b, off, none⟩) n c, .slice (some ⟨b2, off2, none⟩) n d] 25) = w0 at *
      have KD := Lib.hid (fun W (hW : Below w0.heap.size w0 W) => RKid_any x W (shp_below S1.out hW) HF.out hn)
      have CP := Lib.hid (fun k W (hW : Below w0.heap.size w0 W) (h : x < k ∧ k < n ∧ hl ks k = true) => IHh.out k W (by omega) h.2.1 h.2.2 (shp_below S1.out hW) (HU.out.below hW))
      generalize kidsTo ps x n = l at *
      have HLS := Lib.hid (fun k (hk : k ∈ l) => (⟨inS_len HF.out (HMX.out k hk).2.1 (HMX.out k hk).2.2, inS_pos HF.out (HMX.out k hk).2.1⟩ : (inS ks ps n k).length ≤ n ∧ 0 < (inS ks ps n k).length))
      have HPL : Hid (∀ j, j ≤ l.length → (othP ks ps n l (-1) j).length ≤ 576) := fun j hj => by
        have h3 : (othP ks ps n l (-1) j).length ≤ _ := flat_len (m := 24) fun k hk => by
          have := (HLS.out k (List.mem_of_mem_take (List.mem_filter.1 hk).1)).1
          omega
        have h4 := List.length_filter_le (fun k : Nat => decide ((k : Int) ≠ -1)) (l.take j)
        rw [List.length_take] at h4
        have h6 : ((l.take j).filter fun k : Nat => decide ((k : Int) ≠ -1)).length * 24 ≤ 24 * 24 := Nat.mul_le_mul_right 24 (by omega)
        omega
      have HW1 : Hid (∀ o, Below w0.heap.size w0 (w0.alloc o)) := fun o => (Below.refl _ _).alloc (Nat.le_refl _) _
      have y0 : ∀ o, (w0.alloc o).cell? ⟨w.heap.size, 0, none⟩ = some (.slice (some ⟨b, off, none⟩) n c) := fun o => box_x o hlt0 x0
      have y1 : ∀ o, (w0.alloc o).cell? ⟨w.heap.size, 1, none⟩ = some (.slice (some ⟨b2, off2, none⟩) n d) := fun o => box_x o hlt0 x1
      have y2 : ∀ o, (w0.alloc o).cell? ⟨b, off + x, none⟩ = some (.int .i64 2) := fun o => box_x o hb hc
      have y3 : ∀ o, (w0.alloc o).cell? ⟨b2, off2 + x, none⟩ = some (.int .i64 pz) := fun o => box_x o hb2 hc2
      have HO1 := Lib.hid (one_own w0 w0.heap.size x (Nat.le_refl _))
      go_wp2_with (go_at_call 42; refine (KD.out _ (HW1.out _)).mono ?_; rintro e w2 ⟨v2, rfl, hO, hb2⟩; have HO2 := Lib.hid (own_below HO1.out hb2 (by simp)); have HAp := Lib.hid (Apt.fresh HO1.out (OwnN.of hO)).symm; obtain ⟨A9, c9, rfl⟩ := own_slice hO; rw [List.length_map]; rw [List.length_map] at hO; rw [List.length_map] at HAp)
      have HK2 : Hid (OwnN w2 w0.heap.size (.slice A9 l.length c9) l) := own_mono2 (OwnN.of hO) (by simp)
      have HB2 := Lib.hid (below_then (HW1.out _) hb2 (by simp))
      clear hO hb2 KD
      go_loopw [7, 85] (fun u i wr => ∃ j : Nat, j ≤ l.length ∧ i = .int .i64 j ∧ Hid (OwnN wr w0.heap.size u ([x] ++ othP ks ps n l (-1) j)) ∧ Hid (OwnN wr w0.heap.size (.slice A9 l.length c9) l) ∧ Hid (Apt (.slice A9 l.length c9) u) ∧ Hid (Below w0.heap.size w0 wr)) (fun _ i _ => l.length - (intOf i).toNat)
      case atStart => exact ⟨0, Nat.zero_le _, rfl, HO2.out, HK2.out, HAp.out, HB2.out⟩
      case round =>
        obtain ⟨j, hj, rfl, HO, HK, HA, HB⟩ := hrel
        have hbz := HB.out.size
        by_cases hlt : j < l.length
        · have z0 := (HB.out.cell (p := ⟨w.heap.size, 0, none⟩) hlt0).trans x0
          have z1 := (HB.out.cell (p := ⟨w.heap.size, 1, none⟩) hlt0).trans x1
          have hji : (j : Int) < l.length := by omega
          have I2 := Lib.hid (nat_ints HK.out (fun k hk => by have := (HMX.out k hk).2.1; omega) (by omega))
          obtain ⟨b9, off9, rfl, hb9, hx9⟩ := nat_cell I2.out hlt
          have hsn := othP_succ (ks := ks) (ps := ps) (n := n) l (-1) hlt
          rw [if_pos (by rw [decide_eq_true_eq]; omega)] at hsn
          have hM := HMX.out _ (List.getElem_mem hlt)
          have HL1 := Lib.hid (HLS.out _ (List.getElem_mem hlt))
          have HL2 := Lib.hid (HPL.out j hj)
          have CK := Lib.hid (CP.out l[j] wr HB.out hM)
          obtain ⟨A5, c5, rfl⟩ := own_slice HO.out
          have HS := Lib.hid hsn
          clear hM hsn
          generalize l[j] = k at *
          go_wp2_with (first
            | (go_at_call 55; refine CK.out.mono ?_; rintro e w3 ⟨v3, rfl, hO3, hb3⟩; have HO3 := Lib.hid (own_below HO.out hb3 HB.out.size); have HK3 := Lib.hid (own_below HK.out hb3 HB.out.size); have HB3 := Lib.hid (below_then HB.out hb3 HB.out.size); have hbz3 := HB3.out.size; clear hb3)
            | (at_builtin; go_must (refine wpList_append_nn2 rfl (.tmp 89) (.tmp 93) rfl rfl HO3.out rfl (OwnN.of hO3) (by have := HL1.out; have := HL2.out; simp; omega) HL1.out.2 HB3.out.size ?_; intro v' w4 hown' hg' hob)))
          have HNw : Hid (OwnN w4 w0.heap.size v' ([x] ++ othP ks ps n l (-1) (j + 1))) := by show OwnN _ _ _ _; rw [HS.out, ← List.append_assoc]; exact hown'
          have HB4 := Lib.hid (HB3.out.grown hg' (HB3.out.size) (fun q e => (HO3.out.lt q e).1))
          have HK4 := Lib.hid (HA.out.kept HK3.out hg')
          have HA4 := Lib.hid (HA.out.grow HK3.out hob)
          clear hown' hg' hob
          go_roundw
          case rel => exact ⟨j + 1, by omega, by go_num, HNw, HK4, HA4, HB4⟩
          case measure => simp [intOf]; omega
        · have e : j = l.length := by omega
          subst e
          go_wp2
          go_ret
          exact kidsTo_mk HOLE.out.symm (OwnN.ints (own_mono2 HO.out (by have := HZ.out.size; omega))) (below_then HZ.out HB.out HZ.out.size)
end
end Go.Proofs.Ytaolebdcmdmnjaa
namespace Go.Proofs.Ytaolebdcmdmnjaa
set_option maxRecDepth 100000
open Go.ChangeShapes Go.WideShapes Go.ChangeAt Go.RowKit

section
variable {ks ps : List Int} {n : Nat}
theorem intoH_find {past : Nat → Nat} {x q : Nat} (hh : hl ks x = false) (e : ps.getD x 0 = q) (h3 : ks.getD x 0 = 3) : intoH ks ps n past x = match (kidsTo ps q n).find? fun k => (past q).testBit k with
    | some k => inS ks ps n k
    | none => inS ks ps n (iniN ks ps n q) := by
  unfold intoH
  rw [hh, if_neg (by simp), if_pos h3, e, Int.toNat_natCast]
  rfl
theorem intoH_hit {past : Nat → Nat} {x q : Nat} {l : List Nat} (hh : hl ks x = false) (e : ps.getD x 0 = q) (h3 : ks.getD x 0 = 3) (el : kidsTo ps q n = l) {j : Nat} (hj : j < l.length) (hb : (past q).testBit l[j] = true) (hn : ∀ i (hi : i < l.length), i < j → (past q).testBit l[i] = false) : intoH ks ps n past x = inS ks ps n l[j] := by
  rw [intoH_find hh e h3]
  have : (kidsTo ps q n).find? (fun k => (past q).testBit k) = some l[j] := by
    subst el
    rw [List.find?_eq_some_iff_getElem]
    exact ⟨hb, j, hj, rfl, fun i hi => by simp [hn i (by omega) hi]⟩
  rw [this]
theorem intoH_miss {past : Nat → Nat} {x q : Nat} {l : List Nat} (hh : hl ks x = false) (e : ps.getD x 0 = q) (h3 : ks.getD x 0 = 3) (el : kidsTo ps q n = l) (hn : ∀ i (hi : i < l.length), (past q).testBit l[i] = false) : intoH ks ps n past x = inS ks ps n (iniN ks ps n q) := by
  rw [intoH_find hh e h3]
  have : (kidsTo ps q n).find? (fun k => (past q).testBit k) = none := by
    subst el
    rw [List.find?_eq_none]
    intro k hk
    obtain ⟨i, hi, rfl⟩ := List.getElem_of_mem hk
    rw [hn i hi]; simp
  rw [this]
end
section
variable {ks ps : List Int} {A B : Option Addr} {n c d : Nat}
set_option maxHeartbeats 4000000 in
theorem RInto3_any (v : Value) (rs : List Nat) (hf : ShF ks ps n) (hn : n ≤ 24) (hp : PastOk ks ps n (pfun rs)) (x : Nat) (w : World) (hx : x < n) (hh : hl ks x = false) (h3 : ks.getD x 0 = 3) (h : IntsAt w (.slice A n c) ks ∧ IntsAt w (.slice B n d) ps) (hu : U32sAt w v rs) :
    Calls Try.prog 55 #[.agg #[.slice A n c, .slice B n d], .int .i64 x, v] w (KidsTo (intoH ks ps n (pfun rs) x) w) := by
  obtain ⟨A7, c7, rfl⟩ := u32s_form hu
  have x0 := box_0 w 25 (.slice A n c) (.slice B n d)
  have x1 := box_1 w 25 (.slice A n c) (.slice B n d)
  have hz := box_b w (.cells #[.slice A n c, .slice B n d] 25)
  have hlt0 : w.heap.size < (w.alloc (.cells #[.slice A n c, .slice B n d] 25)).heap.size := by simp
  have S1 := Lib.hid (shp_below h hz)
  have HU := Lib.hid (hu.below hz)
  have HZ := Lib.hid hz
  have HF := Lib.hid hf
  obtain ⟨q, eq, hqn, h1, _⟩ := hist hf hx hh
  have hini := ini_nat hf hx hh eq
  have hxi : (x : Int) < n := by omega
  have hs32 := u32s_lt hu q
  obtain ⟨b, off, rfl, hb, hc, _⟩ := ints_cell S1.out.1 (k := x) (by rw [hf.kl]; exact hx)
  obtain ⟨b2, off2, rfl, hb2, hc2, _⟩ := ints_cell S1.out.2 (k := x) (by rw [hf.pl]; exact hx)
  rw [eq] at hc2
  rw [h3] at hc
  have LH := Lib.hid (fun l el j hj hb hn => intoH_hit (n := n) (past := pfun rs) (l := l) hh eq h3 el (j := j) hj hb hn)
  have LM := Lib.hid (fun l el hn => intoH_miss (n := n) (past := pfun rs) (l := l) hh eq h3 el hn)
  have KP := Lib.hid (fun k hk hb => kids_past hf hp hqn h1 (k := k) hk hb)
  have HM0 : Hid (∀ k ∈ kidsTo ps q n, k < n) := fun k hk => (mem_kidsTo.1 hk).1
  have hlen := kidsTo_len ps q n
  clear h hz hf hu hp h1 eq h3
  go_enter Try.func55, Try.ntmps55
  go_upto_region 1 with (fail)
  generalize w.alloc (.cells #[.slice (some ⟨b, off, none⟩) n c, .slice (some ⟨b2, off2, none⟩) n d] 25) = w0 at *
  have KD := Lib.hid (fun W (hW : Below w0.heap.size w0 W) => RKid_any q W (shp_below S1.out hW) HF.out hn)
  have IN := Lib.hid (fun W (hW : Below w0.heap.size w0 W) => RInit_any q W (shp_below S1.out hW) HF.out hn)
  rw [hini.1] at IN
  have PF := Lib.hid (fun W (hW : Below w0.heap.size w0 W) => RpastOf_any _ rs q W (HU.out.below hW))
  have CK := Lib.hid (fun k W (hW : Below w0.heap.size w0 W) (hk : k < n) (hkh : hl ks k = true) => RInto_any _ rs HF.out hn n k W (by omega) hk hkh (shp_below S1.out hW) (HU.out.below hW))
  have HPF : Hid (pfun rs q = rs.getD q 0) := rfl
  rw [HPF.out] at LH LM KP
  clear HPF
  generalize rs.getD q 0 = s at *
  generalize hl0 : kidsTo ps q n = l at *
  have HL0 := Lib.hid hl0
  clear hl0
  have BT := Lib.hid (fun k (hk : k < 32) => bit01 s k hs32 hk)
  have HW1 : Hid (∀ o, Below w0.heap.size w0 (w0.alloc o)) := fun o => (Below.refl _ _).alloc (Nat.le_refl _) _
  have y0 : ∀ o, (w0.alloc o).cell? ⟨w.heap.size, 0, none⟩ = some (.slice (some ⟨b, off, none⟩) n c) := fun o => box_x o hlt0 x0
  have y1 : ∀ o, (w0.alloc o).cell? ⟨w.heap.size, 1, none⟩ = some (.slice (some ⟨b2, off2, none⟩) n d) := fun o => box_x o hlt0 x1
  have y2 : ∀ o, (w0.alloc o).cell? ⟨b, off + x, none⟩ = some (.int .i64 3) := fun o => box_x o hb hc
  have y3 : ∀ o, (w0.alloc o).cell? ⟨b2, off2 + x, none⟩ = some (.int .i64 q) := fun o => box_x o hb2 hc2
  go_wp2_with (go_at_call 42; refine (KD.out _ (HW1.out _)).mono ?_; rintro e w2 ⟨v2, rfl, hO, hb2⟩; obtain ⟨A9, c9, rfl⟩ := own_slice hO; rw [List.length_map]; rw [List.length_map] at hO)
  have I2 := Lib.hid (nat_ints (OwnN.of hO) (fun k hk => by have := HM0.out k hk; omega) (by omega))
  have HB2 := Lib.hid (below_then (HW1.out _) hb2 (by simp))
  clear hO hb2 KD
  go_loopw [102] (fun i wr => ∃ j : Nat, j ≤ l.length ∧ i = .int .i64 j ∧ Hid (∀ i (hi : i < l.length), i < j → s.testBit l[i] = false) ∧ wr = w2) (fun i _ => l.length - (intOf i).toNat)
  case atStart => exact ⟨0, Nat.zero_le _, rfl, fun i hi h => by omega, rfl⟩
  case round =>
    obtain ⟨j, hj, rfl, HN, rfl⟩ := hrel
    have z0 := (HB2.out.cell (p := ⟨w.heap.size, 0, none⟩) hlt0).trans x0
    have z1 := (HB2.out.cell (p := ⟨w.heap.size, 1, none⟩) hlt0).trans x1
    by_cases hlt : j < l.length
    · have hji : (j : Int) < l.length := by omega
      obtain ⟨b9, off9, rfl, hb9, hx9⟩ := nat_cell I2.out hlt
      have hk := HM0.out _ (List.getElem_mem hlt)
      have hbt := BT.out l[j] (by omega)
      have hk32 : (l[j] : Int) < 32 := by omega
      have HNX : Hid (s.testBit l[j] = false → ∀ i (hi : i < l.length), i < j + 1 → s.testBit l[i] = false) := fun hh i hi hij => by
        by_cases e : i = j
        · subst e; exact hh
        · exact HN.out i hi (by omega)
      have HHT : Hid (s.testBit l[j] = true → intoH ks ps n (pfun rs) x = inS ks ps n l[j]) := fun hh => LH.out l rfl j hlt hh (fun i hi => HN.out i hi)
      have HKP : Hid (s.testBit l[j] = true → hl ks l[j] = true) := fun hh => KP.out l[j] hk hh
      clear HN LH LM
      generalize hs9 : s.testBit l[j] = bt at *
      clear hs9
      generalize l[j] = k at *
      cases bt
      · rw [if_neg (by simp)] at hbt
        have HX := Lib.hid (HNX.out rfl)
        clear HNX HHT HKP
        go_wp2_with (go_at_call 57; refine (PF.out _ HB2.out).mono ?_; rintro e w3 ⟨rfl, rfl⟩)
        go_roundw
        case rel => exact ⟨j + 1, by omega, by go_num, HX, trivial⟩
        case measure => simp [intOf]; omega
      · rw [if_pos rfl] at hbt
        have HX := Lib.hid (HHT.out rfl)
        have CKk := Lib.hid (CK.out k _ HB2.out hk (HKP.out rfl))
        clear HNX HHT HKP
        go_wp2_with (first
          | (go_at_call 57; refine (PF.out _ HB2.out).mono ?_; rintro e w3 ⟨rfl, rfl⟩)
          | (go_at_call 55; refine CKk.out.mono ?_; rintro e w4 ⟨v4, rfl, hO4, hb4⟩))
        go_ret
        exact kidsTo_mk HX.out.symm (own_mono2 hO4 (by have := HB2.out.size; have := HZ.out.size; omega)) (below_then HZ.out (below_then HB2.out hb4 HB2.out.size) HZ.out.size)
    · have HX := Lib.hid (LM.out l rfl (fun i hi => HN.out i hi (by omega)))
      have CKi := Lib.hid (fun W hW => CK.out (iniN ks ps n q) W hW hini.2.1 hini.2.2)
      clear HN LH LM
      generalize iniN ks ps n q = i9 at *
      go_upto_region 30 with (fail)
      go_region_held3 (fun w' => w'.cell? ⟨w.heap.size, 0, none⟩ = some (.slice (some ⟨b, off, none⟩) n c) ∧ w'.cell? ⟨w.heap.size, 1, none⟩ = some (.slice (some ⟨b2, off2, none⟩) n d))
        (first | exact ⟨z0, z1⟩ | exact ⟨x0'', x1''⟩ | exact ⟨x03, x13⟩ | go_keep)
        (first
          | (go_at_call 56; refine (IN.out _ (by first | exact HB2.out | exact below_drew HB2.out)).mono ?_; rintro e w3 ⟨rfl, hb3⟩; have hb3' : Below w0.heap.size w0 w3 := (by first | exact below_then HB2.out hb3 HB2.out.size | exact below_then (below_drew HB2.out) hb3 HB2.out.size); have x0'' := (hb3'.cell (p := ⟨w.heap.size, 0, none⟩) hlt0).trans x0; have x1'' := (hb3'.cell (p := ⟨w.heap.size, 1, none⟩) hlt0).trans x1)
          | (go_at_call 55; refine (CKi.out _ (by first | exact hb3' | exact below_drew hb3')).mono ?_; rintro e w4 ⟨v4, rfl, hO4, hb4⟩; have hb4' : Below w0.heap.size w0 w4 := (by first | exact below_then hb3' hb4 hb3'.size | exact below_then (below_drew hb3') hb4 hb3'.size); have hO4' : OwnI w4 w.heap.size _ _ := own_mono2 hO4 (by have := hb3'.size; have := HZ.out.size; first | omega | (show w.heap.size ≤ w3.heap.size; omega)); have x03 := (hb4'.cell (p := ⟨w.heap.size, 0, none⟩) hlt0).trans x0; have x13 := (hb4'.cell (p := ⟨w.heap.size, 1, none⟩) hlt0).trans x1))
      go_wp2
      go_ret
      exact kidsTo_mk HX.out.symm hO4' (below_then HZ.out hb4' HZ.out.size)
set_option maxHeartbeats 4000000 in
theorem RInto4_any (v : Value) (rs : List Nat) (hf : ShF ks ps n) (hn : n ≤ 24) (x : Nat) (w : World) (hx : x < n) (hh : hl ks x = false) (h3 : ks.getD x 0 ≠ 3) (h : IntsAt w (.slice A n c) ks ∧ IntsAt w (.slice B n d) ps) (hu : U32sAt w v rs) :
    Calls Try.prog 55 #[.agg #[.slice A n c, .slice B n d], .int .i64 x, v] w (KidsTo (intoH ks ps n (pfun rs) x) w) := by
  obtain ⟨A7, c7, rfl⟩ := u32s_form hu
  have x0 := box_0 w 25 (.slice A n c) (.slice B n d)
  have x1 := box_1 w 25 (.slice A n c) (.slice B n d)
  have hz := box_b w (.cells #[.slice A n c, .slice B n d] 25)
  have hlt0 : w.heap.size < (w.alloc (.cells #[.slice A n c, .slice B n d] 25)).heap.size := by simp
  have S1 := Lib.hid (shp_below h hz)
  have HU := Lib.hid (hu.below hz)
  have HZ := Lib.hid hz
  have HF := Lib.hid hf
  obtain ⟨q, eq, hqn, h1, _⟩ := hist hf hx hh
  have hini := ini_nat hf hx hh eq
  have hxi : (x : Int) < n := by omega
  have hs32 := u32s_lt hu q
  obtain ⟨b, off, rfl, hb, hc, _⟩ := ints_cell S1.out.1 (k := x) (by rw [hf.kl]; exact hx)
  obtain ⟨b2, off2, rfl, hb2, hc2, _⟩ := ints_cell S1.out.2 (k := x) (by rw [hf.pl]; exact hx)
  rw [eq] at hc2
  have hk4 : ks.getD x 0 = 4 := by
    have h5 := hf.kd x hx
    unfold hl at hh
    rw [Bool.or_eq_false_iff] at hh
    have h6 : ks.getD x 0 ≠ 1 := by simpa using hh.1
    have h7 : ks.getD x 0 ≠ 2 := by simpa using hh.2
    omega
  rw [hk4] at hc
  have HIN : Hid (intoH ks ps n (pfun rs) x = allL ks ps n (rs.getD q 0) q) := intoH_four hf (pfun rs) hh eq h3
  have HAL : Hid (allL ks ps n (rs.getD q 0) q = if insL ps (rs.getD q 0) q n = [] then inS ks ps n (iniN ks ps n q) else insL ps (rs.getD q 0) q n) := rfl
  clear h hz hf hu h1 eq h3 hk4
  go_enter Try.func55, Try.ntmps55
  go_upto_region 1 with (fail)
  generalize w.alloc (.cells #[.slice (some ⟨b, off, none⟩) n c, .slice (some ⟨b2, off2, none⟩) n d] 25) = w0 at *
  have IN := Lib.hid (fun W (hW : Below w0.heap.size w0 W) => RInit_any q W (shp_below S1.out hW) HF.out hn)
  rw [hini.1] at IN
  have PF := Lib.hid (fun W (hW : Below w0.heap.size w0 W) => RpastOf_any _ rs q W (HU.out.below hW))
  have UN := Lib.hid (fun W (hW : Below w0.heap.size w0 W) (k : Nat) (hk : k < n) => RUnder_any k (q : Int) W (shp_below S1.out hW) HF.out hk (by omega))
  have CKi := Lib.hid (fun W (hW : Below w0.heap.size w0 W) => RInto_any _ rs HF.out hn n (iniN ks ps n q) W (by omega) hini.2.1 hini.2.2 (shp_below S1.out hW) (HU.out.below hW))
  generalize rs.getD q 0 = s at *
  have BT := Lib.hid (fun k (hk : k < 32) => bit01 s k hs32 hk)
  have SN := Lib.hid (insL_succ ps s q)
  have HLEN := Lib.hid (insL_len ps s q)
  have HW1 : Hid (∀ o, Below w0.heap.size w0 (w0.alloc o)) := fun o => (Below.refl _ _).alloc (Nat.le_refl _) _
  have y0 : ∀ o, (w0.alloc o).cell? ⟨w.heap.size, 0, none⟩ = some (.slice (some ⟨b, off, none⟩) n c) := fun o => box_x o hlt0 x0
  have y1 : ∀ o, (w0.alloc o).cell? ⟨w.heap.size, 1, none⟩ = some (.slice (some ⟨b2, off2, none⟩) n d) := fun o => box_x o hlt0 x1
  have y2 : ∀ o, (w0.alloc o).cell? ⟨b, off + x, none⟩ = some (.int .i64 4) := fun o => box_x o hb hc
  have y3 : ∀ o, (w0.alloc o).cell? ⟨b2, off2 + x, none⟩ = some (.int .i64 q) := fun o => box_x o hb2 hc2
  go_wp2
  go_loopw [7, 30] (fun u i wr => ∃ k : Nat, k ≤ n ∧ i = .int .i64 k ∧ Hid (OwnN wr w0.heap.size u (insL ps s q k)) ∧ Hid (Below w0.heap.size w0 wr)) (fun _ i _ => n - (intOf i).toNat)
  case atStart => exact ⟨0, Nat.zero_le _, rfl, OwnN.nil _ _, HW1.out _⟩
  case round =>
    obtain ⟨k, hk, rfl, HO, HB⟩ := hrel
    have z0 := (HB.out.cell (p := ⟨w.heap.size, 0, none⟩) hlt0).trans x0
    have z1 := (HB.out.cell (p := ⟨w.heap.size, 1, none⟩) hlt0).trans x1
    have hbz := HB.out.size
    obtain ⟨A5, c5, rfl⟩ := own_slice HO.out
    by_cases hkn : k < n
    · have hki : (k : Int) < n := by omega
      have hk32 : (k : Int) < 32 := by omega
      have hsn := SN.out k
      have hln := HLEN.out k
      have hbt := BT.out k (by omega)
      have UK := Lib.hid (UN.out _ HB.out k hkn)
      by_cases hkt : (k : Int) = q
      · have g1 : ((k : Int) != q) = false := by simp [hkt]
        rw [decide_eq_false (fun h => h hkt), Bool.false_and, Bool.and_false, if_neg (by simp)] at hsn
        have HNw : Hid (OwnN wr w0.heap.size (.slice A5 (insL ps s q k).length c5) (insL ps s q (k + 1))) := by show OwnN _ _ _ _; rw [hsn]; exact HO.out
        clear hsn hkt hbt
        go_wp2
        go_roundw
        case rel => exact ⟨k + 1, by omega, by go_num, HNw, HB⟩
        case measure => simp [intOf]; omega
      · have g1 : ((k : Int) != q) = true := by simpa using hkt
        rw [decide_eq_true hkt, Bool.true_and] at hsn
        clear hkt
        cases hun : undB ps k q
        · rw [hun] at UK
          rw [hun, Bool.and_false, if_neg (by simp)] at hsn
          have HNw : Hid (∀ W, Below wr.heap.size wr W → OwnN W w0.heap.size (.slice A5 (insL ps s q k).length c5) (insL ps s q (k + 1))) := fun W hW => by rw [hsn]; exact own_below HO.out hW hbz
          clear hsn hun hbt
          go_wp2_with (go_at_call 48; refine UK.out.mono ?_; rintro e w3 ⟨rfl, hb3⟩)
          go_roundw
          case rel => exact ⟨k + 1, by omega, by go_num, HNw.out _ hb3, below_then HB.out hb3 hbz⟩
          case measure => simp [intOf]; omega
        · rw [hun] at UK
          rw [hun, Bool.and_true] at hsn
          clear hun
          cases hbk : s.testBit k
          · rw [hbk, if_neg (by simp)] at hsn hbt
            have HNw : Hid (∀ W, Below wr.heap.size wr W → OwnN W w0.heap.size (.slice A5 (insL ps s q k).length c5) (insL ps s q (k + 1))) := fun W hW => by rw [hsn]; exact own_below HO.out hW hbz
            clear hsn hbk
            go_wp2_with (first
              | (go_at_call 48; refine UK.out.mono ?_; rintro e w3 ⟨rfl, hb3⟩; have HB3 := Lib.hid (below_then HB.out hb3 hbz))
              | (go_at_call 57; refine (PF.out _ HB3.out).mono ?_; rintro e w4 ⟨rfl, rfl⟩))
            go_roundw
            case rel => exact ⟨k + 1, by omega, by go_num, HNw.out _ hb3, HB3⟩
            case measure => simp [intOf]; omega
          · rw [hbk, if_pos rfl] at hsn hbt
            have HS := Lib.hid hsn
            clear hsn hbk
            go_wp2_with (first
              | (go_at_call 48; refine UK.out.mono ?_; rintro e w3 ⟨rfl, hb3⟩; have HO3 := Lib.hid (own_below HO.out hb3 hbz); have HB3 := Lib.hid (below_then HB.out hb3 hbz); have hbz3 := HB3.out.size; clear hb3)
              | (go_at_call 57; refine (PF.out _ HB3.out).mono ?_; rintro e w4 ⟨rfl, rfl⟩)
              | (at_builtin; go_must (refine wpList_append_nn rfl (.tmp 52) (.tmp 54) rfl rfl (HO3.out.alloc _) rfl (one_own _ w0.heap.size k hbz3) (by simp; omega) (by simp; omega) ?_; intro v' w7 hown' hg')))
            have HNw : Hid (OwnN w7 w0.heap.size v' (insL ps s q (k + 1))) := by show OwnN _ _ _ _; rw [HS.out]; exact hown'
            have HB7 := Lib.hid ((HB3.out.alloc hbz3 _).grown hg' (by simp; omega) (fun j e => (HO3.out.lt j e).1))
            clear hown' hg'
            go_roundw
            case rel => exact ⟨k + 1, by omega, by go_num, HNw, HB7⟩
            case measure => simp [intOf]; omega
    · have e : k = n := by omega
      subst e
      generalize insL ps s q k = l at *
      by_cases he : l = []
      · subst he
        have HX : Hid (intoH ks ps k (pfun rs) x = inS ks ps k (iniN ks ps k q)) := by show _ = _; rw [HIN.out, HAL.out, if_pos rfl]
        clear HIN HAL
        generalize iniN ks ps k q = i9 at *
        have hz0 : ¬ (0 : Int) < ([] : List Nat).length := by simp
        go_upto_region 12 with (fail)
        go_region_held3 (fun w' => w'.cell? ⟨w.heap.size, 0, none⟩ = some (.slice (some ⟨b, off, none⟩) k c) ∧ w'.cell? ⟨w.heap.size, 1, none⟩ = some (.slice (some ⟨b2, off2, none⟩) k d))
          (first | exact ⟨z0, z1⟩ | exact ⟨x0'', x1''⟩ | exact ⟨x03, x13⟩ | go_keep)
          (first
            | (go_at_call 56; refine (IN.out _ (by first | exact HB.out | exact below_drew HB.out)).mono ?_; rintro e w3 ⟨rfl, hb3⟩; have hb3' : Below w0.heap.size w0 w3 := (by first | exact below_then HB.out hb3 HB.out.size | exact below_then (below_drew HB.out) hb3 HB.out.size); have x0'' := (hb3'.cell (p := ⟨w.heap.size, 0, none⟩) hlt0).trans x0; have x1'' := (hb3'.cell (p := ⟨w.heap.size, 1, none⟩) hlt0).trans x1)
            | (go_at_call 55; refine (CKi.out _ (by first | exact hb3' | exact below_drew hb3')).mono ?_; rintro e w4 ⟨v4, rfl, hO4, hb4⟩; have hb4' : Below w0.heap.size w0 w4 := (by first | exact below_then hb3' hb4 hb3'.size | exact below_then (below_drew hb3') hb4 hb3'.size); have hO4' : OwnI w4 w.heap.size _ _ := own_mono2 hO4 (by have := hb3'.size; have := HZ.out.size; first | omega | (show w.heap.size ≤ w3.heap.size; omega)); have x03 := (hb4'.cell (p := ⟨w.heap.size, 0, none⟩) hlt0).trans x0; have x13 := (hb4'.cell (p := ⟨w.heap.size, 1, none⟩) hlt0).trans x1))
        go_wp2
        go_ret
        exact kidsTo_mk HX.out.symm hO4' (below_then HZ.out hb4' HZ.out.size)
      · have HX : Hid (intoH ks ps k (pfun rs) x = l) := by show _ = _; rw [HIN.out, HAL.out, if_neg he]
        have hl0 : 0 < l.length := List.length_pos_iff.2 he
        have hz0 : (0 : Int) < l.length := by omega
        have hz1 : ((l.length : Int) == 0) = false := beq_eq_false_iff_ne.2 (by omega)
        clear HIN HAL
        go_wp2
        go_ret
        exact kidsTo_mk HX.out.symm (OwnN.ints (own_mono2 HO.out (by have := HZ.out.size; omega))) (below_then HZ.out HB.out HZ.out.size)
theorem RIntoH_any (v : Value) (rs : List Nat) (hf : ShF ks ps n) (hn : n ≤ 24) (hp : PastOk ks ps n (pfun rs)) (x : Nat) (w : World) (hx : x < n) (h : IntsAt w (.slice A n c) ks ∧ IntsAt w (.slice B n d) ps) (hu : U32sAt w v rs) :
    Calls Try.prog 55 #[.agg #[.slice A n c, .slice B n d], .int .i64 x, v] w (KidsTo (intoH ks ps n (pfun rs) x) w) := by
  cases hh : hl ks x
  · by_cases h3 : ks.getD x 0 = 3
    · exact RInto3_any v rs hf hn hp x w hx hh h3 h hu
    · exact RInto4_any v rs hf hn x w hx hh h3 h hu
  · rw [intoH_hl hh]
    exact RInto_any v rs hf hn n x w (by omega) hx hh h hu
end
end Go.Proofs.Ytaolebdcmdmnjaa
namespace Go.Proofs.Ytaolebdcmdmnjaa
set_option maxRecDepth 100000
open Go.ChangeShapes Go.WideShapes Go.ChangeAt Go.RowKit

section
variable {ks ps : List Int} {n : Nat}
/-- what stands on the way so far -/
def outP (a : Nat) (l W : List Nat) (k0 j : Nat) : List Nat := [a] ++ if k0 ∈ l.take j then W else []
def restP (ks ps : List Int) (n : Nat) (l : List Nat) (z : Int) (k0 j : Nat) : List Nat := if z = 2 then othP ks ps n l k0 j else []
theorem outP_hit {a : Nat} {l W : List Nat} {k0 j : Nat} (hn : l.Nodup) (hj : j < l.length) (e : l[j] = k0) : outP a l W k0 (j + 1) = outP a l W k0 j ++ W := by
  unfold outP
  have h1 : k0 ∉ l.take j := fun hm => by
    have h2 : (l.take (j + 1)).Nodup := hn.sublist (List.take_sublist _ _)
    rw [List.take_succ_eq_append_getElem hj, List.nodup_append] at h2
    exact h2.2.2 k0 hm k0 (by rw [e]; simp) rfl
  rw [if_neg h1, if_pos (by rw [List.take_succ_eq_append_getElem hj, e]; simp), List.append_nil]
theorem outP_miss {a : Nat} {l W : List Nat} {k0 j : Nat} (hj : j < l.length) (e : l[j] ≠ k0) : outP a l W k0 (j + 1) = outP a l W k0 j := by
  unfold outP
  have : (k0 ∈ l.take (j + 1)) ↔ (k0 ∈ l.take j) := by
    rw [List.take_succ_eq_append_getElem hj, List.mem_append]
    constructor
    · rintro (h | h)
      · exact h
      · exact absurd (List.mem_singleton.1 h).symm e
    · exact .inl
  by_cases h : k0 ∈ l.take j
  · rw [if_pos h, if_pos (this.2 h)]
  · rw [if_neg h, if_neg fun h9 => h (this.1 h9)]
theorem restP_hit {l : List Nat} {z : Int} {k0 j : Nat} (hj : j < l.length) (e : l[j] = k0) : restP ks ps n l z k0 (j + 1) = restP ks ps n l z k0 j := by
  unfold restP
  rw [othP_succ l k0 hj, if_neg (c := decide ((l[j] : Int) ≠ k0) = true) (by rw [e]; simp)]
theorem restP_miss {l : List Nat} {z : Int} {k0 j : Nat} (hj : j < l.length) (e : l[j] ≠ k0) (h2 : z = 2) : restP ks ps n l z k0 (j + 1) = restP ks ps n l z k0 j ++ inS ks ps n l[j] := by
  unfold restP
  rw [if_pos h2, if_pos h2, othP_succ l k0 hj, if_pos (by rw [decide_eq_true_eq]; omega)]
theorem restP_no {l : List Nat} {z : Int} {k0 j : Nat} (h2 : z ≠ 2) : restP ks ps n l z k0 j = [] := by unfold restP; rw [if_neg h2]
theorem out_len {a : Nat} {l W : List Nat} {k0 j : Nat} (hW : W.length ≤ 24) : (outP a l W k0 j).length ≤ 25 := by
  unfold outP
  split <;> simp <;> omega
theorem rest_len {l : List Nat} {z : Int} {k0 j : Nat} (hl : l.length ≤ 24) (hi : ∀ k ∈ l, z = 2 → (inS ks ps n k).length ≤ 24) : (restP ks ps n l z k0 j).length ≤ 576 := by
  unfold restP
  split
  case isTrue h2 =>
    have h3 : (othP ks ps n l k0 j).length ≤ _ := flat_len (m := 24) fun k hk => hi k (List.mem_of_mem_take (List.mem_filter.1 hk).1) h2
    have h4 := List.length_filter_le (fun k : Nat => decide ((k : Int) ≠ k0)) (l.take j)
    rw [List.length_take] at h4
    have h6 : ((l.take j).filter fun k : Nat => decide ((k : Int) ≠ k0)).length * 24 ≤ 24 * 24 := Nat.mul_le_mul_right 24 (by omega)
    omega
  case isFalse => simp
theorem way_whole (h : ShF ks ps n) (past : Nat → Nat) {t k0 a : Nat} (ht : t < n) (hk : k0 < n) (hu : Und ps t k0) (e : ps.getD k0 0 = a) : wayF ks ps n past (n - a) a t = outP a (kidsTo ps a n) (wayF ks ps n past (n - k0) k0 t) k0 (kidsTo ps a n).length ++ restP ks ps n (kidsTo ps a n) (ks.getD a 0) k0 (kidsTo ps a n).length := by
  rw [way_step h past ht hk hu e]
  unfold outP restP otherL othP
  rw [List.take_length, if_pos (mem_kidsTo.2 ⟨hk, e⟩)]
  simp
end
section
variable {ks ps : List Int} {A B : Option Addr} {n c d : Nat}
set_option maxHeartbeats 8000000 in
theorem RWay_any (t : Nat) (v : Value) (rs : List Nat) (hf : ShF ks ps n) (hn : n ≤ 24) (hp : PastOk ks ps n (pfun rs)) (ht : t < n) : ∀ (m a : Nat) (w : World), n - a ≤ m → a < n → Und ps t a → IntsAt w (.slice A n c) ks ∧ IntsAt w (.slice B n d) ps → U32sAt w v rs →
    Calls Try.prog 54 #[.agg #[.slice A n c, .slice B n d], .int .i64 a, .int .i64 t, v] w (KidsTo (wayF ks ps n (pfun rs) (n - a) a t) w)
  | 0, a, w, hm, ha, _, _, _ => by omega
  | m + 1, a, w, hm, ha, hu, h, hv => by
    have IHm := RWay_any t v rs hf hn hp ht m
    obtain ⟨A7, c7, rfl⟩ := u32s_form hv
    have x0 := box_0 w 25 (.slice A n c) (.slice B n d)
    have x1 := box_1 w 25 (.slice A n c) (.slice B n d)
    have hz := box_b w (.cells #[.slice A n c, .slice B n d] 25)
    have hlt0 : w.heap.size < (w.alloc (.cells #[.slice A n c, .slice B n d] 25)).heap.size := by simp
    have S1 := Lib.hid (shp_below h hz)
    have HU := Lib.hid (hv.below hz)
    have HZ := Lib.hid hz
    have HF := Lib.hid hf
    by_cases hat : a = t
    · subst hat
      have CK := Lib.hid (fun W hS hU => RIntoH_any (A := A) (B := B) (c := c) (d := d) (.slice A7 rs.length c7) rs hf hn hp a W ha hS hU)
      clear h hz hf hv IHm hp hu
      go_enter Try.func54, Try.ntmps54
      go_upto_region 1 with (fail)
      generalize w.alloc (.cells #[.slice A n c, .slice B n d] 25) = w0 at *
      go_wp2_with (go_at_call 55; refine (CK.out _ S1.out HU.out).mono ?_; rintro e w3 ⟨v3, rfl, hO3, hb3⟩)
      go_ret
      exact kidsTo_mk wayF_self.symm (own_mono2 hO3 HZ.out.size) (below_then HZ.out hb3 HZ.out.size)
    · have g0 : ((a : Int) == t) = false := beq_eq_false_iff_ne.2 (by omega)
      obtain ⟨k0, _, hk0, hpk0, huk0, huniq⟩ := lead hf ht hu (fun h => hat h.symm)
      have hak0 := hf.lt hk0 hpk0
      have HWH := Lib.hid (way_whole hf (pfun rs) ht hk0 huk0 hpk0)
      have HWL := Lib.hid (way_len hf hp ht hk0 huk0)
      have CW := Lib.hid (fun W hS hU => IHm k0 W (by omega) hk0 huk0 hS hU)
      have HUQ : Hid (∀ k ∈ kidsTo ps a n, undB ps t k = decide (k = k0)) := fun k hk => by
        obtain ⟨h3, h4⟩ := mem_kidsTo.1 hk
        rw [Bool.eq_iff_iff, undB_iff hf ht, decide_eq_true_eq]
        exact huniq k h3 h4
      have HMX : Hid (∀ k ∈ kidsTo ps a n, a < k ∧ k < n ∧ (ks.getD a 0 = 2 → hl ks k = true)) := fun k hk => by
        obtain ⟨h3, h4⟩ := mem_kidsTo.1 hk
        exact ⟨hf.lt h3 h4, h3, fun e2 => all_kids hf e2 h3 h4⟩
      have HND := Lib.hid (kids_nodup (ps := ps) (a : Int) n)
      have hlen := kidsTo_len ps a n
      have hai : (a : Int) < n := by omega
      clear h hz hf hv IHm hp hu huniq hpk0
      go_enter Try.func54, Try.ntmps54
      go_upto_region 1 with (fail)
      generalize w.alloc (.cells #[.slice A n c, .slice B n d] 25) = w0 at *
      have KD := Lib.hid (fun W (hW : Below w0.heap.size w0 W) => RKid_any a W (shp_below S1.out hW) HF.out hn)
      have UN := Lib.hid (fun W (hW : Below w0.heap.size w0 W) (k : Nat) (hk : k < n) => RUnder_any t (k : Int) W (shp_below S1.out hW) HF.out ht (by omega))
      have CWw := Lib.hid (fun W (hW : Below w0.heap.size w0 W) => CW.out W (shp_below S1.out hW) (HU.out.below hW))
      have CI := Lib.hid (fun W (hW : Below w0.heap.size w0 W) (k : Nat) (hk : k < n) (hkh : hl ks k = true) => RInto_any _ rs HF.out hn n k W (by omega) hk hkh (shp_below S1.out hW) (HU.out.below hW))
      have KC := Lib.hid (fun W (hW : Below w0.heap.size w0 W) => ints_cell (shp_below S1.out hW).1 (k := a) (by rw [HF.out.kl]; exact ha))
      have IL := Lib.hid (fun (k : Nat) (hk : k < n) (hkh : hl ks k = true) => (⟨inS_len HF.out hk hkh, inS_pos HF.out hk⟩ : (inS ks ps n k).length ≤ n ∧ 0 < (inS ks ps n k).length))
      generalize ks.getD a 0 = z at *
      generalize kidsTo ps a n = l at *
      generalize wayF ks ps n (pfun rs) (n - k0) k0 t = WL at *
      have HOL := Lib.hid (fun j => out_len (a := a) (l := l) (W := WL) (k0 := k0) (j := j) (by have := HWL.out; omega))
      have HRL := Lib.hid (fun j => rest_len (ks := ks) (ps := ps) (n := n) (l := l) (z := z) (k0 := k0) (j := j) (by omega) (fun k hk h2 => by have := (IL.out k (HMX.out k hk).2.1 ((HMX.out k hk).2.2 h2)).1; omega))
      have HW1 : Hid (∀ o, Below w0.heap.size w0 (w0.alloc o)) := fun o => (Below.refl _ _).alloc (Nat.le_refl _) _
      have y0 : ∀ o, (w0.alloc o).cell? ⟨w.heap.size, 0, none⟩ = some (.slice A n c) := fun o => box_x o hlt0 x0
      have y1 : ∀ o, (w0.alloc o).cell? ⟨w.heap.size, 1, none⟩ = some (.slice B n d) := fun o => box_x o hlt0 x1
      have HO1 := Lib.hid (one_own w0 w0.heap.size a (Nat.le_refl _))
      go_wp2_with (go_at_call 42; refine (KD.out _ (HW1.out _)).mono ?_; rintro e w2 ⟨v2, rfl, hO, hb2⟩; have HO2 := Lib.hid (own_below HO1.out hb2 (by simp)); have HAp := Lib.hid (Apt.fresh HO1.out (OwnN.of hO)).symm; obtain ⟨A9, c9, rfl⟩ := own_slice hO; rw [List.length_map]; rw [List.length_map] at hO; rw [List.length_map] at HAp)
      have HK2 : Hid (OwnN w2 w0.heap.size (.slice A9 l.length c9) l) := own_mono2 (OwnN.of hO) (by simp)
      have HB2 := Lib.hid (below_then (HW1.out _) hb2 (by simp))
      have H00 : Hid (outP a l WL k0 0 = [a]) := by show _ = _; unfold outP; rw [List.take_zero, if_neg (by simp)]; rfl
      have H01 : Hid (restP ks ps n l z k0 0 = []) := by show _ = _; unfold restP othP; split <;> rfl
      clear hO hb2 KD
      go_loopw [9, 10, 26] (fun u r i wr => ∃ j : Nat, j ≤ l.length ∧ i = .int .i64 j ∧ Hid (OwnN wr w0.heap.size u (outP a l WL k0 j)) ∧ Hid (OwnN wr w0.heap.size r (restP ks ps n l z k0 j)) ∧ Hid (OwnN wr w0.heap.size (.slice A9 l.length c9) l) ∧ Hid (Apt (.slice A9 l.length c9) u ∧ Apt (.slice A9 l.length c9) r ∧ Apt u r) ∧ Hid (Below w0.heap.size w0 wr)) (fun _ _ i _ => l.length - (intOf i).toNat)
      case atStart => exact ⟨0, Nat.zero_le _, rfl, (show OwnN _ _ _ _ by rw [H00.out]; exact HO2.out), (show OwnN _ _ _ _ by rw [H01.out]; exact OwnN.nil _ _), HK2.out, ⟨HAp.out, Apt.nil _, Apt.nil _⟩, HB2.out⟩
      case round =>
        obtain ⟨j, hj, rfl, HO, HR, HK, HA, HB⟩ := hrel
        have hbz := HB.out.size
        obtain ⟨A5, c5, rfl⟩ := own_slice HO.out
        obtain ⟨A6, c6, rfl⟩ := own_slice HR.out
        by_cases hlt : j < l.length
        · have z0 := (HB.out.cell (p := ⟨w.heap.size, 0, none⟩) hlt0).trans x0
          have z1 := (HB.out.cell (p := ⟨w.heap.size, 1, none⟩) hlt0).trans x1
          have hji : (j : Int) < l.length := by omega
          have I2 := Lib.hid (nat_ints HK.out (fun k hk => by have := (HMX.out k hk).2.1; omega) (by omega))
          obtain ⟨b9, off9, rfl, hb9, hx9⟩ := nat_cell I2.out hlt
          have hM := HMX.out _ (List.getElem_mem hlt)
          have UK := Lib.hid (UN.out wr HB.out l[j] hM.2.1)
          rw [HUQ.out _ (List.getElem_mem hlt)] at UK
          have HLo := Lib.hid (HOL.out j)
          have HLr := Lib.hid (HRL.out j)
          by_cases hjk : l[j] = k0
          · have HSo := Lib.hid (outP_hit (a := a) (W := WL) HND.out hlt hjk)
            have HSr := Lib.hid (restP_hit (ks := ks) (ps := ps) (n := n) (z := z) hlt hjk)
            rw [hjk] at hx9 UK
            rw [decide_eq_true rfl] at UK
            clear hM hjk
            generalize outP a l WL k0 j = OL at *
            generalize restP ks ps n l z k0 j = RL at *
            go_wp2_with (first
              | (go_at_call 48; refine UK.out.mono ?_; rintro e w3 ⟨rfl, hb3⟩; have HO3 := Lib.hid (own_below HO.out hb3 hbz); have HR3 := Lib.hid (own_below HR.out hb3 hbz); have HK3 := Lib.hid (own_below HK.out hb3 hbz); have HB3 := Lib.hid (below_then HB.out hb3 hbz); have y30 := (HB3.out.cell (p := ⟨w.heap.size, 0, none⟩) hlt0).trans x0; have y31 := (HB3.out.cell (p := ⟨w.heap.size, 1, none⟩) hlt0).trans x1; clear hb3)
              | (go_at_call 54; refine (CWw.out _ HB3.out).mono ?_; rintro e w4 ⟨v4, rfl, hO4, hb4⟩; have HO4 := Lib.hid (own_below HO3.out hb4 HB3.out.size); have HR4 := Lib.hid (own_below HR3.out hb4 HB3.out.size); have HK4 := Lib.hid (own_below HK3.out hb4 HB3.out.size); have HB4 := Lib.hid (below_then HB3.out hb4 HB3.out.size); have hbz4 := HB4.out.size; clear hb4)
              | (at_builtin; go_must (refine wpList_append_nn2 rfl (.tmp 34) (.tmp 39) rfl rfl HO4.out rfl (OwnN.of hO4) (by have := HWL.out; have := HLo.out; omega) HWL.out.2 HB4.out.size ?_; intro v' w5 hown' hg' hob)))
            have HNo : Hid (OwnN w5 w0.heap.size v' (outP a l WL k0 (j + 1))) := by show OwnN _ _ _ _; rw [HSo.out]; exact hown'
            have HNr : Hid (OwnN w5 w0.heap.size (.slice A6 RL.length c6) (restP ks ps n l z k0 (j + 1))) := by show OwnN _ _ _ _; rw [HSr.out]; exact HA.out.2.2.symm.kept HR4.out hg'
            have HB5 := Lib.hid (HB4.out.grown hg' (HB4.out.size) (fun q e => (HO4.out.lt q e).1))
            have HK5 := Lib.hid (HA.out.1.kept HK4.out hg')
            have HA5 : Hid (Apt (.slice (some ⟨b9, off9, none⟩) l.length c9) v' ∧ Apt (.slice (some ⟨b9, off9, none⟩) l.length c9) (.slice A6 RL.length c6) ∧ Apt v' (.slice A6 RL.length c6)) := ⟨HA.out.1.grow HK4.out hob, HA.out.2.1, (HA.out.2.2.symm.grow HR4.out hob).symm⟩
            clear hown' hg' hob
            go_roundw
            case rel => exact ⟨j + 1, by omega, by go_num, HNo, HNr, HK5, HA5, HB5⟩
            case measure => simp [intOf]; omega
          · have HSo := Lib.hid (outP_miss (a := a) (W := WL) hlt hjk)
            rw [decide_eq_false hjk] at UK
            have KCw := Lib.hid (fun W hW => KC.out W hW)
            by_cases h2 : z = 2
            · subst h2
              have HSr := Lib.hid (restP_miss (ks := ks) (ps := ps) (n := n) hlt hjk rfl)
              have CIk := Lib.hid (fun W hW => CI.out W hW l[j] hM.2.1 (hM.2.2 rfl))
              have HLI := Lib.hid (IL.out l[j] hM.2.1 (hM.2.2 rfl))
              clear hM hjk
              generalize l[j] = k at *
              generalize outP a l WL k0 j = OL at *
              generalize restP ks ps n l 2 k0 j = RL at *
              go_wp2_with (first
                | (go_at_call 48; refine UK.out.mono ?_; rintro e w3 ⟨rfl, hb3⟩; have HO3 := Lib.hid (own_below HO.out hb3 hbz); have HR3 := Lib.hid (own_below HR.out hb3 hbz); have HK3 := Lib.hid (own_below HK.out hb3 hbz); have HB3 := Lib.hid (below_then HB.out hb3 hbz); have y30 := (HB3.out.cell (p := ⟨w.heap.size, 0, none⟩) hlt0).trans x0; have y31 := (HB3.out.cell (p := ⟨w.heap.size, 1, none⟩) hlt0).trans x1; obtain ⟨bA, offA, rfl, hbA, hxA, _⟩ := KCw.out _ HB3.out; clear hb3)
                | (go_at_call 55; refine (CIk.out _ HB3.out).mono ?_; rintro e w4 ⟨v4, rfl, hO4, hb4⟩; have HO4 := Lib.hid (own_below HO3.out hb4 HB3.out.size); have HR4 := Lib.hid (own_below HR3.out hb4 HB3.out.size); have HK4 := Lib.hid (own_below HK3.out hb4 HB3.out.size); have HB4 := Lib.hid (below_then HB3.out hb4 HB3.out.size); have hbz4 := HB4.out.size; clear hb4)
                | (at_builtin; go_must (refine wpList_append_nn2 rfl (.tmp 47) (.tmp 51) rfl rfl HR4.out rfl (OwnN.of hO4) (by have := HLI.out; have := HLr.out; omega) HLI.out.2 HB4.out.size ?_; intro v' w5 hown' hg' hob)))
              have HNr : Hid (OwnN w5 w0.heap.size v' (restP ks ps n l 2 k0 (j + 1))) := by show OwnN _ _ _ _; rw [HSr.out]; exact hown'
              have HNo : Hid (OwnN w5 w0.heap.size (.slice A5 OL.length c5) (outP a l WL k0 (j + 1))) := by show OwnN _ _ _ _; rw [HSo.out]; exact HA.out.2.2.kept HO4.out hg'
              have HB5 := Lib.hid (HB4.out.grown hg' (HB4.out.size) (fun q e => (HR4.out.lt q e).1))
              have HK5 := Lib.hid (HA.out.2.1.kept HK4.out hg')
              have HA5 : Hid (Apt (.slice (some ⟨b9, off9, none⟩) l.length c9) (.slice A5 OL.length c5) ∧ Apt (.slice (some ⟨b9, off9, none⟩) l.length c9) v' ∧ Apt (.slice A5 OL.length c5) v') := ⟨HA.out.1, HA.out.2.1.grow HK4.out hob, HA.out.2.2.grow HO4.out hob⟩
              clear hown' hg' hob
              go_roundw
              case rel => exact ⟨j + 1, by omega, by go_num, HNo, HNr, HK5, HA5, HB5⟩
              case measure => simp [intOf]; omega
            · have g2 : (z == 2) = false := by simpa using h2
              have HSr : Hid (restP ks ps n l z k0 (j + 1) = restP ks ps n l z k0 j) := by show _ = _; rw [restP_no h2, restP_no h2]
              clear hM hjk
              generalize l[j] = k at *
              generalize outP a l WL k0 j = OL at *
              generalize restP ks ps n l z k0 j = RL at *
              have HNo : Hid (∀ W, Below wr.heap.size wr W → OwnN W w0.heap.size (.slice A5 OL.length c5) (outP a l WL k0 (j + 1))) := fun W hW => by rw [HSo.out]; exact own_below HO.out hW hbz
              have HNr : Hid (∀ W, Below wr.heap.size wr W → OwnN W w0.heap.size (.slice A6 RL.length c6) (restP ks ps n l z k0 (j + 1))) := fun W hW => by rw [HSr.out]; exact own_below HR.out hW hbz
              go_wp2_with (first
                | (go_at_call 48; refine UK.out.mono ?_; rintro e w3 ⟨rfl, hb3⟩; have HK3 := Lib.hid (own_below HK.out hb3 hbz); have HB3 := Lib.hid (below_then HB.out hb3 hbz); have y30 := (HB3.out.cell (p := ⟨w.heap.size, 0, none⟩) hlt0).trans x0; have y31 := (HB3.out.cell (p := ⟨w.heap.size, 1, none⟩) hlt0).trans x1; obtain ⟨bA, offA, rfl, hbA, hxA, _⟩ := KCw.out _ HB3.out))
              go_roundw
              case rel => exact ⟨j + 1, by omega, by go_num, HNo.out _ hb3, HNr.out _ hb3, HK3, HA, HB3⟩
              case measure => simp [intOf]; omega
        · have e : j = l.length := by omega
          subst e
          have HLo := Lib.hid (HOL.out l.length)
          have HLr := Lib.hid (HRL.out l.length)
          generalize outP a l WL k0 l.length = OL at *
          generalize restP ks ps n l z k0 l.length = RL at *
          go_wp2_with (at_builtin; go_must (refine wpList_append_nn rfl (.tmp 54) (.tmp 55) rfl rfl HO.out rfl HR.out (by have := HLo.out; have := HLr.out; omega) HB.out.size ?_; intro v' w4 hown' hg'))
          go_ret
          have HB4 := HB.out.grown hg' HB.out.size (fun q e => (HO.out.lt q e).1)
          exact kidsTo_mk HWH.out.symm (OwnN.ints (own_mono2 hown' (by have := HZ.out.size; omega))) (below_then HZ.out HB4 HZ.out.size)
set_option maxHeartbeats 4000000 in
theorem REnter_any (t : Nat) (dm : Int) (v : Value) (rs : List Nat) (w : World) (h : IntsAt w (.slice A n c) ks ∧ IntsAt w (.slice B n d) ps) (hf : ShF ks ps n) (hn : n ≤ 24) (hv : U32sAt w v rs) (hp : PastOk ks ps n (pfun rs))
    (ht : t < n) (htd : Und ps t dm) (hne : (t : Int) ≠ dm) :
    Calls Try.prog 28 #[.agg #[.slice A n c, .slice B n d], .int .i64 dm, .int .i64 t, v] w (KidsTo (enterL ks ps n (pfun rs) dm t) w) := by
  obtain ⟨A7, c7, rfl⟩ := u32s_form hv
  have x0 := box_0 w 25 (.slice A n c) (.slice B n d)
  have x1 := box_1 w 25 (.slice A n c) (.slice B n d)
  have hz := box_b w (.cells #[.slice A n c, .slice B n d] 25)
  have hlt0 : w.heap.size < (w.alloc (.cells #[.slice A n c, .slice B n d] 25)).heap.size := by simp
  have S1 := Lib.hid (shp_below h hz)
  have HU := Lib.hid (hv.below hz)
  have HZ := Lib.hid hz
  have HF := Lib.hid hf
  have HTD := Lib.hid htd
  have WT := Lib.hid (fun k hk hu he => way_top hf (pfun rs) ht (k := k) hk hu he htd hne)
  have RW := Lib.hid (fun k W hk hu hS hU => RWay_any (A := A) (B := B) (c := c) (d := d) t (.slice A7 rs.length c7) rs hf hn hp ht n k W (by omega) hk hu hS hU)
  clear h hz hf hv hp htd
  go_enter Try.func28, Try.ntmps28
  go_upto_region 1 with (fail)
  generalize w.alloc (.cells #[.slice A n c, .slice B n d] 25) = w0 at *
  have PC := Lib.hid (fun (k : Nat) (hk : k < n) => ints_cell S1.out.2 (k := k) (by rw [HF.out.pl]; exact hk))
  go_wp2
  go_loopw [9] (fun i wr => ∃ k : Nat, i = .int .i64 k ∧ Hid (k < n ∧ Und ps t k ∧ Und ps k dm ∧ (k : Int) ≠ dm) ∧ wr = w0) (fun i _ => (intOf i).toNat)
  case atStart => exact ⟨t, rfl, ⟨ht, .self t, HTD.out, hne⟩, rfl⟩
  case round =>
    obtain ⟨k, rfl, HK, rfl⟩ := hrel
    have hki : (k : Int) < n := by have := HK.out.1; omega
    obtain ⟨bp, offp, rfl, hbp, hcp, _⟩ := PC.out k HK.out.1
    have hpk := HF.out.pa k HK.out.1
    by_cases had : ps.getD k 0 = dm
    · have HX := Lib.hid (WT.out k HK.out.1 HK.out.2.1 had)
      have CW := Lib.hid (RW.out k wr HK.out.1 HK.out.2.1 S1.out HU.out)
      rw [had] at hcp
      have g1 : (dm != dm) = false := by simp
      clear HK had hpk WT RW
      go_wp2_with (go_at_call 54; refine CW.out.mono ?_; rintro e w3 ⟨v3, rfl, hO3, hb3⟩)
      go_ret
      exact kidsTo_mk HX.out (own_mono2 hO3 HZ.out.size) (below_then HZ.out hb3 HZ.out.size)
    · have hstep : ∃ q : Nat, ps.getD k 0 = q ∧ q < k ∧ Und ps t q ∧ Und ps q dm := by
        have hd := und_bd HK.out.2.2.1
        by_cases h0 : 0 ≤ ps.getD k 0
        · refine ⟨(ps.getD k 0).toNat, by omega, by omega, ?_, ?_⟩
          · exact und_trans HK.out.2.1 (und_kid (by omega))
          · by_cases hd0 : 0 ≤ dm
            · obtain ⟨q, e, hu⟩ := und_step HK.out.2.2.1 HK.out.2.2.2 hd0
              rw [e, Int.toNat_natCast]; exact hu
            · have : dm = -1 := by omega
              subst this
              exact .top _
        · exfalso
          by_cases hd0 : 0 ≤ dm
          · obtain ⟨q, e, hu⟩ := und_step HK.out.2.2.1 HK.out.2.2.2 hd0
            omega
          · exact had (by omega)
      obtain ⟨q, eq, hqk, hu1, hu2⟩ := hstep
      rw [eq] at hcp had
      have g1 : ((q : Int) != dm) = true := by simpa using had
      have HN : Hid (q < n ∧ Und ps t q ∧ Und ps q dm ∧ (q : Int) ≠ dm) := ⟨by have := HK.out.1; omega, hu1, hu2, had⟩
      clear HK had hpk hu1 hu2 eq
      go_wp2
      go_roundw
      case rel => exact ⟨q, rfl, HN, trivial⟩
      case measure => simp [intOf]; omega
set_option maxHeartbeats 4000000 in
theorem RStart_any (w : World) (h : IntsAt w (.slice A n c) ks ∧ IntsAt w (.slice B n d) ps) (hf : ShF ks ps n) (hn : n ≤ 24) :
    Calls Try.prog 29 #[.agg #[.slice A n c, .slice B n d]] w (KidsTo (inS ks ps n (iniN ks ps n (-1))) w) := by
  have x0 := box_0 w 25 (.slice A n c) (.slice B n d)
  have x1 := box_1 w 25 (.slice A n c) (.slice B n d)
  have hz := box_b w (.cells #[.slice A n c, .slice B n d] 25)
  have hlt0 : w.heap.size < (w.alloc (.cells #[.slice A n c, .slice B n d] 25)).heap.size := by simp
  have S1 := Lib.hid (shp_below h hz)
  have HZ := Lib.hid hz
  have HF := Lib.hid hf
  have hkid := iniN_kid hf.tp
  have hini := ini_iniN hf.tp
  clear h hz hf
  go_enter Try.func29, Try.ntmps29
  go_upto_region 1 with (fail)
  generalize w.alloc (.cells #[.slice A n c, .slice B n d] 25) = w0 at *
  have IN := Lib.hid (fun W (hW : Below w0.heap.size w0 W) => RInit_any (-1) W (shp_below S1.out hW) HF.out hn)
  rw [hini] at IN
  have CK := Lib.hid (fun W (hW : Below w0.heap.size w0 W) => RInto_any (.slice none 0 0) [] HF.out hn n (iniN ks ps n (-1)) W (by omega) hkid.1 (kid_hl hkid.2) (shp_below S1.out hW) (nil_u32 W))
  clear hini hkid
  generalize iniN ks ps n (-1) = i9 at *
  go_region_held3 (fun w' => w'.cell? ⟨w.heap.size, 0, none⟩ = some (.slice A n c) ∧ w'.cell? ⟨w.heap.size, 1, none⟩ = some (.slice B n d))
    (first | exact ⟨x0, x1⟩ | exact ⟨x0'', x1''⟩ | exact ⟨x03, x13⟩ | go_keep)
    (first
      | (go_at_call 56; refine (IN.out _ (by first | exact Below.refl _ _ | exact below_drew (Below.refl _ _))).mono ?_; rintro e w3 ⟨rfl, hb3⟩; have hb3' : Below w0.heap.size w0 w3 := (by first | exact hb3 | exact below_then (below_drew (Below.refl _ _)) hb3 (Nat.le_refl _)); have x0'' := (hb3'.cell (p := ⟨w.heap.size, 0, none⟩) hlt0).trans x0; have x1'' := (hb3'.cell (p := ⟨w.heap.size, 1, none⟩) hlt0).trans x1)
      | (go_at_call 55; refine (CK.out _ (by first | exact hb3' | exact below_drew hb3')).mono ?_; rintro e w4 ⟨v4, rfl, hO4, hb4⟩; have hb4' : Below w0.heap.size w0 w4 := (by first | exact below_then hb3' hb4 hb3'.size | exact below_then (below_drew hb3') hb4 hb3'.size); have hO4' : OwnI w4 w.heap.size _ _ := own_mono2 hO4 (by have := hb3'.size; have := HZ.out.size; first | omega | (show w.heap.size ≤ w3.heap.size; omega)); have x03 := (hb4'.cell (p := ⟨w.heap.size, 0, none⟩) hlt0).trans x0; have x13 := (hb4'.cell (p := ⟨w.heap.size, 1, none⟩) hlt0).trans x1))
  go_wp2
  go_ret
  exact kidsTo_mk rfl hO4' (below_then HZ.out hb4' HZ.out.size)
end
end Go.Proofs.Ytaolebdcmdmnjaa
namespace Go.Proofs.Ytaolebdcmdmnjaa
set_option maxRecDepth 100000
open Go.ChangeShapes Go.WideShapes Go.ChangeAt Go.RowKit

section
variable {ks ps : List Int} {n : Nat}
/-- what was told, copied as far as i -/
def fillL (n : Nat) (rs : List Nat) (i : Nat) : List Nat := (padL n rs).take i ++ List.replicate (n - i) 0
theorem fillL_len {rs : List Nat} (h : rs.length ≤ n) {i : Nat} (hi : i ≤ n) : (fillL n rs i).length = n := by
  unfold fillL
  rw [List.length_append, List.length_take, padL_len h, List.length_replicate]; omega
theorem fillL_zero (rs : List Nat) : fillL n rs 0 = List.replicate n 0 := by unfold fillL; simp
theorem fillL_end {rs : List Nat} (h : rs.length ≤ n) : fillL n rs n = padL n rs := by
  unfold fillL
  rw [Nat.sub_self, List.replicate_zero, List.append_nil, List.take_of_length_le (by rw [padL_len h]; exact Nat.le_refl _)]
theorem fillL_succ {rs : List Nat} (h : rs.length ≤ n) {i : Nat} (hi : i < n) : fillL n rs (i + 1) = (fillL n rs i).set i (rs.getD i 0) := by
  unfold fillL
  have hp := padL_len h
  have h1 : ((padL n rs).take i).length = i := by rw [List.length_take, hp]; omega
  rw [List.take_succ_eq_append_getElem (by omega), List.set_append_right _ _ (by omega), h1, Nat.sub_self]
  have h2 : n - i = (n - (i + 1)) + 1 := by omega
  rw [h2, List.replicate_succ, List.set_cons_zero, List.append_assoc]
  congr 2
  rw [← padL_getD n rs i]
  simp [List.getD_eq_getElem?_getD, hp, hi]
theorem fillL_lt {rs : List Nat} (h : ∀ x ∈ rs, x < 2 ^ n) (i : Nat) : ∀ x ∈ fillL n rs i, x < 2 ^ n := fun x hx => by
  unfold fillL at hx
  rcases List.mem_append.1 hx with h1 | h1
  · exact padL_lt h x (List.mem_of_mem_take h1)
  · rw [(List.mem_replicate.1 h1).2]; exact Nat.two_pow_pos n
theorem keeps_ge (h : ShF ks ps n) (p : Int) : keepsB ks ps n p = (kidsTo ps p n).any fun k => decide (3 ≤ ks.getD k 0) := by
  unfold keepsB
  have : ∀ l : List Nat, (∀ k ∈ l, k < n) → (l.any fun k => ks.getD k 0 == 3 || ks.getD k 0 == 4) = l.any fun k => decide (3 ≤ ks.getD k 0) := fun l => by
    induction l with
    | nil => intro _; rfl
    | cons a r ih =>
      intro hm
      rw [List.any_cons, List.any_cons, ih fun k hk => hm k (by simp [hk])]
      congr 1
      have hk := h.kd a (hm a (by simp))
      rw [Bool.eq_iff_iff, Bool.or_eq_true, beq_iff_eq, beq_iff_eq, decide_eq_true_eq]
      omega
  exact this _ fun k hk => (mem_kidsTo.1 hk).1
end
theorem ownU_put {w : World} {base g n : Nat} {M : List Nat} (hO : OwnU w base (.slice (some ⟨g, 0, none⟩) n n) M) (hl : M.length = n) (p x : Nat) : OwnU (w.setCell ⟨g, p, none⟩ (.int .u32 (x : Int))) base (.slice (some ⟨g, 0, none⟩) n n) (M.set p x) := by
  have hO' : w.ownsRow base 29 1 (.slice (some ⟨g, 0, none⟩) n n) n (ucl M) := by
    have := hO
    unfold OwnU at this
    rwa [hl] at this
  show World.ownsRow _ _ _ _ _ _ _
  rw [List.length_set, ucl_set, hl]
  exact (World.ownsRow.stored hO' p (.int .u32 (x : Int))).1
theorem ownU_froz {w : World} {base g n : Nat} {M : List Nat} (hO : OwnU w base (.slice (some ⟨g, 0, none⟩) n n) M) (hl : M.length = n) (p : Nat) : w.frozen? ⟨g, p, none⟩ = false := by
  have hO' : w.ownsRow base 29 1 (.slice (some ⟨g, 0, none⟩) n n) n (ucl M) := by
    have := hO
    unfold OwnU at this
    rwa [hl] at this
  exact World.ownsRow.frozenAt hO' p
theorem ownU_lt {w : World} {base g n : Nat} {M : List Nat} (hO : OwnU w base (.slice (some ⟨g, 0, none⟩) n n) M) : base ≤ g ∧ g < w.heap.size := World.ownsRow.lt hO g rfl
section
variable {ks ps : List Int} {A B : Option Addr} {n c d : Nat}
set_option maxHeartbeats 8000000 in
theorem RRem_any (s : Nat) (AL : Option Addr) (cL : Nat) (L : List Nat) (v : Value) (rs : List Nat) (w : World) (h : IntsAt w (.slice A n c) ks ∧ IntsAt w (.slice B n d) ps) (hf : ShF ks ps n) (h0 : 0 < n) (hn : n ≤ 24) (hs : s < 4294967296)
    (hL : IntsAt w (.slice AL L.length cL) (L.map fun k : Nat => (k : Int))) (hLn : ∀ k ∈ L, k < n) (hLl : L.length ≤ 1000) (hu : U32sAt w v rs) (hrl : rs.length ≤ n) (hrs : ∀ x ∈ rs, x < 2 ^ n) :
    Calls Try.prog 31 #[.agg #[.slice A n c, .slice B n d], .int .u32 s, .slice AL L.length cL, v] w (RemTo n (rememL ks ps n s (padL n rs) L) w) := by
  obtain ⟨A7, c7, rfl⟩ := u32s_form hu
  have x0 := box_0 w 25 (.slice A n c) (.slice B n d)
  have x1 := box_1 w 25 (.slice A n c) (.slice B n d)
  have hz := box_b w (.cells #[.slice A n c, .slice B n d] 25)
  have hlt0 : w.heap.size < (w.alloc (.cells #[.slice A n c, .slice B n d] 25)).heap.size := by simp
  have S1 := Lib.hid (shp_below h hz)
  have HU := Lib.hid (hu.below hz)
  have HLi := Lib.hid (hL.below hz)
  have HZ := Lib.hid hz
  have HF := Lib.hid hf
  have HLn := Lib.hid hLn
  have HRS := Lib.hid hrs
  have HMK := Lib.hid (mk_u32 n (by omega))
  clear h hz hf hu hL hLn hrs
  go_enter Try.func31, Try.ntmps31
  go_upto_region 1 with (fail)
  generalize w.alloc (.cells #[.slice A n c, .slice B n d] 25) = w0 at *
  have PF := Lib.hid (fun W (hW : Below w0.heap.size w0 W) (q : Nat) => RpastOf_any _ rs q W (HU.out.below hW))
  have KD := Lib.hid (fun W (hW : Below w0.heap.size w0 W) (p : Nat) => RKid_any (p : Int) W (shp_below S1.out hW) HF.out hn)
  have UN := Lib.hid (fun W (hW : Below w0.heap.size w0 W) (k p : Nat) (hk : k < n) (hp : p < n) => RUnder_any k (p : Int) W (shp_below S1.out hW) HF.out hk (by omega))
  have KC := Lib.hid (fun W (hW : Below w0.heap.size w0 W) k (hk : k < n) => ints_cell (shp_below S1.out hW).1 (k := k) (by rw [HF.out.kl]; exact hk))
  have KG := Lib.hid (keeps_ge HF.out)
  have hmk := HMK.out w0
  have hrow : (w0.alloc (.cells (Array.replicate n (Value.int .u32 0)) 29)).heap[w0.heap.size]? = some (.cells (ucl (List.replicate n 0)).toArray 29 (0, 0)) := by
    have : (ucl (List.replicate n 0)).toArray = Array.replicate n (Value.int .u32 0) := by unfold ucl; rw [List.map_replicate, List.toArray_replicate]; rfl
    rw [this]; exact heap_alloc_new w0 _
  have hB2 : Below w0.heap.size w0 (w0.alloc (.cells (Array.replicate n (Value.int .u32 0)) 29)) := (Below.refl _ _).alloc (Nat.le_refl _) _
  have HO0 : Hid (OwnU (w0.alloc (.cells (Array.replicate n (Value.int .u32 0)) 29)) w0.heap.size (.slice (some ⟨w0.heap.size, 0, none⟩) n n) (fillL n rs 0)) := by
    have := own_rowU (w := w0.alloc (.cells (Array.replicate n (Value.int .u32 0)) 29)) (Nat.le_refl _) hrow (by simp; omega)
    rw [List.length_replicate] at this
    show OwnU _ _ _ _
    rw [fillL_zero]; exact this
  have HB2 := Lib.hid hB2
  clear hrow hB2
  go_upto_region 2 with (fail)
  clear hmk
  have hw02 : (w0.alloc (.cells (Array.replicate n (Value.int .u32 0)) 29)).heap.size = w0.heap.size + 1 := by simp
  generalize w0.alloc (.cells (Array.replicate n (Value.int .u32 0)) 29) = w2 at *
  have HFL := Lib.hid (fun i (hi : i ≤ n) => fillL_len (n := n) (rs := rs) hrl hi)
  have HFT := Lib.hid (fun i => fillL_lt HRS.out i)
  have HFS := Lib.hid (fun i (hi : i < n) => fillL_succ (n := n) (rs := rs) hrl hi)
  have HFE := Lib.hid (fillL_end (n := n) hrl)
  have HR0 := Lib.hid (fun i => (u32s_lt HU.out i))
  go_wp2
  go_loopw [23] (fun i wr => ∃ k : Nat, k ≤ n ∧ i = .int .i64 k ∧ Hid (OwnU wr w0.heap.size (.slice (some ⟨w0.heap.size, 0, none⟩) n n) (fillL n rs k)) ∧ Hid (Below w0.heap.size w0 wr)) (fun i _ => n - (intOf i).toNat)
  case atStart => exact ⟨0, Nat.zero_le _, rfl, HO0.out, HB2.out⟩
  case round =>
    obtain ⟨k, hk, rfl, HO, HB⟩ := hrel
    have hfl := HFL.out k hk
    have hbz := HB.out.size
    by_cases hkn : k < n
    · have hki : (k : Int) < n := by omega
      have HS := Lib.hid (HFS.out k hkn)
      have HPK := Lib.hid (PF.out _ HB.out k)
      have hfz := ownU_froz HO.out hfl k
      have hlt9 := (ownU_lt HO.out).2
      generalize rs.getD k 0 = x at *
      have HPU := Lib.hid (ownU_put HO.out hfl k x)
      have HPB := Lib.hid (set_below (k := k) (u := .int .u32 (x : Nat)) HB.out hbz (Nat.le_refl _))
      have HNw : Hid (OwnU (wr.setCell ⟨w0.heap.size, k, none⟩ (.int .u32 (x : Nat))) w0.heap.size (.slice (some ⟨w0.heap.size, 0, none⟩) n n) (fillL n rs (k + 1))) := by show OwnU _ _ _ _; rw [HS.out]; exact HPU.out
      obtain ⟨cv, hcv⟩ : ∃ cv, wr.cell? ⟨w0.heap.size, k, none⟩ = some cv := ⟨_, ownU_cell HO.out (k := k) (by omega)⟩
      clear HPU
      go_wp2_with (go_at_call 57; refine HPK.out.mono ?_; rintro e w3 ⟨rfl, rfl⟩)
      go_roundw
      case rel => exact ⟨k + 1, by omega, by go_num, HNw, HPB⟩
      case measure => simp [intOf]; omega
    · have e : k = n := by omega
      rw [e, HFE.out] at HO
      have hpl : (padL n rs).length = n := padL_len hrl
      have HRL : Hid (∀ l, (rememL ks ps n s (padL n rs) l).length = n) := fun l => by rw [rememL_len, hpl]
      have HRT : Hid (∀ l, ∀ x ∈ rememL ks ps n s (padL n rs) l, x < 2 ^ n) := fun l => rememL_lt l _ (padL_lt HRS.out)
      have SNOC : Hid (∀ j (hj : j < L.length), rememL ks ps n s (padL n rs) (L.take (j + 1)) = rem1 ks ps n s (rememL ks ps n s (padL n rs) (L.take j)) L[j]) := fun j hj => by
        rw [List.take_succ_eq_append_getElem hj, rememL_snoc]
      have hki : ¬ (k : Int) < n := by omega
      clear HFL HFT HFS HFE hfl HO0 HMK hpl e hbz
      generalize padL n rs = M0 at *
      go_wp2
      clear hki hkn hk
      go_loopw [35] (fun i wx => ∃ j : Nat, j ≤ L.length ∧ i = .int .i64 j ∧ Hid (OwnU wx w0.heap.size (.slice (some ⟨w0.heap.size, 0, none⟩) n n) (rememL ks ps n s M0 (L.take j))) ∧ Hid (Below w0.heap.size w0 wx)) (fun i _ => L.length - (intOf i).toNat)
      case atStart => exact ⟨0, Nat.zero_le _, rfl, HO.out, HB.out⟩
      case round =>
        clear HO HB HB2
        obtain ⟨j, hj, rfl, HO, HB⟩ := hrel
        have hbz := HB.out.size
        have hrl2 := HRL.out (L.take j)
        by_cases hlt : j < L.length
        · have z0 := (HB.out.cell (p := ⟨w.heap.size, 0, none⟩) hlt0).trans x0
          have z1 := (HB.out.cell (p := ⟨w.heap.size, 1, none⟩) hlt0).trans x1
          have hji : (j : Int) < L.length := by omega
          obtain ⟨b9, off9, rfl, hb9, hx9⟩ := nat_cell (HLi.out.below HB.out) hlt
          have hsn := SNOC.out j hlt
          have hpn := HLn.out _ (List.getElem_mem hlt)
          have hpi : (L[j] : Int) < n := by omega
          have hR1 : rem1 ks ps n s (rememL ks ps n s M0 (L.take j)) L[j] = if keepsB ks ps n L[j] = true then (rememL ks ps n s M0 (L.take j)).set L[j] (setN (insL ps s L[j] n)) else rememL ks ps n s M0 (L.take j) := rfl
          rw [hR1] at hsn
          have HKB := Lib.hid (KG.out L[j])
          have HMX : Hid (∀ k ∈ kidsTo ps L[j] n, k < n) := fun k hk => (mem_kidsTo.1 hk).1
          have hkl := kidsTo_len ps L[j] n
          have KDp := Lib.hid (KD.out _ HB.out L[j])
          have HSN := Lib.hid hsn
          clear hR1 hsn
          generalize kidsTo ps L[j] n = kl at *
          generalize L[j] = p at *
          generalize rememL ks ps n s M0 (L.take j) = M at *
          go_wp2_with (go_at_call 42; refine KDp.out.mono ?_; rintro e w10 ⟨v10, rfl, hO10, hb10⟩; obtain ⟨A10, c10, rfl, hi10⟩ := kids_ints hO10 (fun k hk => by have := HMX.out k hk; omega) (by omega); have HB10 := Lib.hid (below_then HB.out hb10 hbz); have HO10 := Lib.hid (own_below HO.out hb10 hbz); have HI10 := Lib.hid hi10; clear hO10 hb10 hi10)
          obtain ⟨y00, y01⟩ : w10.cell? ⟨w.heap.size, 0, none⟩ = some (.slice A n c) ∧ w10.cell? ⟨w.heap.size, 1, none⟩ = some (.slice B n d) := ⟨(HB10.out.cell (p := ⟨w.heap.size, 0, none⟩) hlt0).trans x0, (HB10.out.cell (p := ⟨w.heap.size, 1, none⟩) hlt0).trans x1⟩
          clear HO HB
          go_loopw [13, 43] (fun b j wx => ∃ k : Nat, k ≤ kl.length ∧ j = .int .i64 k ∧ b = .bool ((kl.take k).any fun k => decide (3 ≤ ks.getD k 0)) ∧ wx = w10) (fun _ j _ => kl.length - (intOf j).toNat)
          case atStart => exact ⟨0, Nat.zero_le _, rfl, rfl, rfl⟩
          case round =>
            obtain ⟨k, hk, rfl, rfl, rfl⟩ := hrel
            by_cases hlk : k < kl.length
            · have hki : (k : Int) < kl.length := by omega
              obtain ⟨b7, off7, rfl, hb7, hx7⟩ := nat_cell HI10.out hlk
              have hkn := HMX.out _ (List.getElem_mem hlk)
              have hkni : (kl[k] : Int) < n := by omega
              obtain ⟨b8, off8, e8, hb8, hx8, _⟩ := KC.out _ HB10.out kl[k] hkn
              subst e8
              have hsn : (kl.take (k + 1)).any (fun k => decide (3 ≤ ks.getD k 0)) = ((kl.take k).any (fun k => decide (3 ≤ ks.getD k 0)) || decide (3 ≤ ks.getD kl[k] 0)) := by
                rw [List.take_succ_eq_append_getElem hlk, List.any_append]
                simp only [List.any_cons, List.any_nil, Bool.or_false]
              have HSK := Lib.hid hsn
              clear hsn
              generalize (kl.take k).any (fun k => decide (3 ≤ ks.getD k 0)) = bb at *
              generalize ks.getD kl[k] 0 = z at *
              generalize kl[k] = kk at *
              cases bb
              · go_wp2
                go_roundw
                case rel => exact ⟨k + 1, by omega, by go_num, by rw [HSK.out, Bool.false_or], trivial⟩
                case measure => simp [intOf]; omega
              · go_wp2
                go_roundw
                case rel => exact ⟨k + 1, by omega, by go_num, by rw [HSK.out, Bool.true_or], trivial⟩
                case measure => simp [intOf]; omega
            · have e : k = kl.length := by omega
              have hki : ¬ (k : Int) < kl.length := by omega
              rw [e, List.take_length, ← HKB.out]
              clear HKB HMX e
              obtain ⟨w10, rfl⟩ : ∃ w1 : World, w1 = wr := ⟨_, rfl⟩
              generalize keepsB ks ps n p = kb at *
              cases kb
              · have HNw : Hid (OwnU w10 w0.heap.size (.slice (some ⟨w0.heap.size, 0, none⟩) n n) (rememL ks ps n s M0 (L.take (j + 1)))) := by show OwnU _ _ _ _; rw [HSN.out, if_neg (by simp)]; exact HO10.out
                go_wp2
                go_roundw
                case rel => exact ⟨j + 1, by omega, by go_num, HNw, HB10⟩
                case measure => simp [intOf]; omega
              · have HS2 : Hid (rememL ks ps n s M0 (L.take (j + 1)) = M.set p (setN (insL ps s p n))) := by show _ = _; rw [HSN.out, if_pos rfl]
                have hc6 := ownU_cell HO10.out (k := p) (by omega)
                have hfz := ownU_froz HO10.out hrl2 p
                have hlt9 := (ownU_lt HO10.out).2
                have HO11 : Hid (OwnU (w10.setCell ⟨w0.heap.size, p, none⟩ (.int .u32 0)) w0.heap.size (.slice (some ⟨w0.heap.size, 0, none⟩) n n) (M.set p (setN (insL ps s p 0)))) := ownU_put HO10.out hrl2 p 0
                have HB11 := Lib.hid (set_below (k := p) (u := .int .u32 0) HB10.out HB10.out.size (Nat.le_refl _))
                clear HSN
                generalize M[p] = mp at *
                go_upto_region 18 with (fail)
                generalize w10.setCell ⟨w0.heap.size, p, none⟩ (.int .u32 0) = w11 at *
                have y10 := (HB11.out.cell (p := ⟨w.heap.size, 0, none⟩) hlt0).trans x0
                have y11 := (HB11.out.cell (p := ⟨w.heap.size, 1, none⟩) hlt0).trans x1
                go_wp2
                go_loopw [65] (fun j wx => ∃ k : Nat, k ≤ n ∧ j = .int .i64 k ∧ Hid (OwnU wx w0.heap.size (.slice (some ⟨w0.heap.size, 0, none⟩) n n) (M.set p (setN (insL ps s p k)))) ∧ Hid (Below w0.heap.size w0 wx)) (fun j _ => n - (intOf j).toNat)
                case atStart => exact ⟨0, Nat.zero_le _, rfl, HO11.out, HB11.out⟩
                case round =>
                  clear hc6 hfz hlt9
                  obtain ⟨q, hq, rfl, HO, HB⟩ := hrel
                  have q0 := (HB.out.cell (p := ⟨w.heap.size, 0, none⟩) hlt0).trans x0
                  have q1 := (HB.out.cell (p := ⟨w.heap.size, 1, none⟩) hlt0).trans x1
                  have hbz := HB.out.size
                  by_cases hlq : q < n
                  · have hqi : (q : Int) < n := by omega
                    have hq32 : (q : Int) < 32 := by omega
                    have hsp := ins_set ps s p q
                    have hS0 : setN (insL ps s p q) < 4294967296 := setN_lt (n := 32) fun j hj => by have := ins_lt ps s p q j hj; omega
                    have h2 := two_lt (k := q) (by omega)
                    have hand := u32_and_nat s (2 ^ q) hs h2
                    have hor := u32_or_nat (setN (insL ps s p q)) (s &&& 2 ^ q) hS0 (Nat.lt_of_le_of_lt Nat.and_le_left hs)
                    have hsh := two_val (i := q) (by omega)
                    have UK := Lib.hid (UN.out _ HB.out q p hlq hpn)
                    by_cases hqp : (q : Int) = p
                    · have g1 : ((q : Int) != p) = false := by simp [hqp]
                      rw [if_neg (by rw [decide_eq_false (fun h => h hqp)]; simp)] at hsp
                      have HNw : Hid (OwnU wr w0.heap.size (.slice (some ⟨w0.heap.size, 0, none⟩) n n) (M.set p (setN (insL ps s p (q + 1))))) := by show OwnU _ _ _ _; rw [hsp]; exact HO.out
                      clear hsp hand hor hsh hqp
                      go_wp2
                      go_roundw
                      case rel => exact ⟨q + 1, by omega, by go_num, HNw, HB⟩
                      case measure => simp [intOf]; omega
                    · have g1 : ((q : Int) != p) = true := by simpa using hqp
                      rw [decide_eq_true hqp, Bool.true_and] at hsp
                      cases hun : undB ps q p
                      · rw [hun] at UK
                        rw [hun, if_neg (by simp)] at hsp
                        have HNw : Hid (∀ W, Below wr.heap.size wr W → OwnU W w0.heap.size (.slice (some ⟨w0.heap.size, 0, none⟩) n n) (M.set p (setN (insL ps s p (q + 1))))) := fun W hW => by rw [hsp]; exact own_below HO.out hW hbz
                        clear hsp hand hor hsh hun
                        go_wp2_with (go_at_call 48; refine UK.out.mono ?_; rintro e w12 ⟨rfl, hb12⟩)
                        go_roundw
                        case rel => exact ⟨q + 1, by omega, by go_num, HNw.out _ hb12, below_then HB.out hb12 hbz⟩
                        case measure => simp [intOf]; omega
                      · rw [hun] at UK
                        rw [hun, if_pos rfl] at hsp
                        have HSP := Lib.hid hsp
                        have hml : (M.set p (setN (insL ps s p q))).length = n := by rw [List.length_set]; exact hrl2
                        have HST : Hid (∀ x, (M.set p (setN (insL ps s p q))).set p x = M.set p x) := fun x => by rw [List.set_set]
                        clear hsp hun
                        generalize 2 ^ q = pw at *
                        generalize setN (insL ps s p q) = s9 at *
                        go_wp2_with (go_at_call 48; refine UK.out.mono ?_; rintro e w12 ⟨rfl, hb12⟩; have HO12 : Hid (OwnU w12 w0.heap.size (.slice (some ⟨w0.heap.size, 0, none⟩) n n) (M.set p s9)) := own_below HO.out hb12 hbz; have HB12 := Lib.hid (below_then HB.out hb12 hbz); have hc12 := ownU_cell HO12.out (k := p) (by omega); rw [List.getElem_set_self] at hc12; have hfz12 := ownU_froz HO12.out hml p; have hlt12 := (ownU_lt HO12.out).2; clear hb12)
                        have HNw : Hid (OwnU (w12.setCell ⟨w0.heap.size, p, none⟩ (.int .u32 ((s9 ||| s &&& pw : Nat) : Int))) w0.heap.size (.slice (some ⟨w0.heap.size, 0, none⟩) n n) (M.set p (setN (insL ps s p (q + 1))))) := by
                          show OwnU _ _ _ _
                          rw [HSP.out, ← HST.out (s9 ||| s &&& pw)]
                          exact ownU_put HO12.out hml p _
                        have HB13 := Lib.hid (set_below (k := p) (u := .int .u32 ((s9 ||| s &&& pw : Nat) : Int)) HB12.out HB12.out.size (Nat.le_refl _))
                        go_roundw
                        case rel => exact ⟨q + 1, by omega, by go_num, HNw, HB13⟩
                        case measure => simp [intOf]; omega
                  · have e : q = n := by omega
                    have hqi : ¬ (q : Int) < n := by omega
                    have HNw : Hid (OwnU wr w0.heap.size (.slice (some ⟨w0.heap.size, 0, none⟩) n n) (rememL ks ps n s M0 (L.take (j + 1)))) := by show OwnU _ _ _ _; rw [HS2.out]; have h9 := HO.out; rw [e] at h9; exact h9
                    go_wp2
                    go_roundw
                    case rel => exact ⟨j + 1, by omega, by go_num, HNw, HB⟩
                    case measure => simp [intOf]; omega
        · have e : j = L.length := by omega
          have hji : ¬ (j : Int) < L.length := by omega
          rw [e, List.take_length] at HO hrl2
          have HUA : Hid (U32sAt wr (.slice (some ⟨w0.heap.size, 0, none⟩) n n) (rememL ks ps n s M0 L)) := by
            have := OwnU.at HO.out (fun x hx => Nat.lt_of_lt_of_le (HRT.out L x hx) (Nat.pow_le_pow_right (n := 2) (by omega) (show n ≤ 32 by omega))) (by omega)
            exact this
          go_wp2
          go_ret
          exact ⟨w0.heap.size, rfl, HUA.out, below_then HZ.out HB.out HZ.out.size⟩
end
end Go.Proofs.Ytaolebdcmdmnjaa
namespace Go.Proofs.Ytaolebdcmdmnjaa
set_option maxRecDepth 100000
open Go.ChangeShapes Go.WideShapes Go.ChangeAt Go.RowKit

theorem same_nats (l : List Nat) (A B : Option Addr) (ca cb : Nat) (w : World) (hl : l.length ≤ 1000) (h1 : IntsAt w (.slice A l.length ca) (l.map fun k : Nat => (k : Int))) (h2 : IntsAt w (.slice B l.length cb) (l.map fun k : Nat => (k : Int))) :
    Calls Try.prog 19 #[.slice A l.length ca, .slice B l.length cb] w fun e w' => e = .returned (.bool true) ∧ Below w.heap.size w w' := by
  have := same_ints (l.map fun k : Nat => (k : Int)) A B ca cb w (by rw [List.length_map]; exact hl) (by rw [List.length_map]; exact h1) (by rw [List.length_map]; exact h2)
  rwa [List.length_map] at this
section
variable {ks ps : List Int} {A B : Option Addr} {n c d : Nat}
theorem RLeave_list (s : Nat) (t : Int) (w : World) (h : IntsAt w (.slice A n c) ks ∧ IntsAt w (.slice B n d) ps) (hf : ShF ks ps n) (hn : n ≤ 24) (hs : s < 4294967296) (ht : -1 ≤ t ∧ t < n) :
    Calls Try.prog 26 #[.agg #[.slice A n c, .slice B n d], .int .u32 s, .int .i64 t] w (ListTo (leaveL ps n s t) w) :=
  (RLeave_any s t w h hf hn hs ht).mono fun _ _ hk => hk.list (fun k hk => by have := leave_lt hf k hk; omega) (by have := leave_len hf s t; omega)
theorem REnter_list (t : Nat) (dm : Int) (v : Value) (rs : List Nat) (w : World) (h : IntsAt w (.slice A n c) ks ∧ IntsAt w (.slice B n d) ps) (hf : ShF ks ps n) (hn : n ≤ 24) (hu : U32sAt w v rs) (hp : PastOk ks ps n (pfun rs))
    (ht : t < n) (htd : Und ps t dm) (hne : (t : Int) ≠ dm) :
    Calls Try.prog 28 #[.agg #[.slice A n c, .slice B n d], .int .i64 dm, .int .i64 t, v] w (ListTo (enterL ks ps n (pfun rs) dm t) w) :=
  (REnter_any t dm v rs w h hf hn hu hp ht htd hne).mono fun _ _ hk => hk.list (fun k hk => by have := (enter_in hf hp ht htd hne hk).1; omega) (by have := enter_len hf hp ht htd hne; omega)
theorem RStart_list (w : World) (h : IntsAt w (.slice A n c) ks ∧ IntsAt w (.slice B n d) ps) (hf : ShF ks ps n) (hn : n ≤ 24) :
    Calls Try.prog 29 #[.agg #[.slice A n c, .slice B n d]] w (ListTo (inS ks ps n (iniN ks ps n (-1))) w) := by
  have hk9 := iniN_kid hf.tp
  exact (RStart_any w h hf hn).mono fun _ _ hk => hk.list (fun k hk => by have := (inS_und hf hk9.1 (kid_hl hk9.2) hk).1; omega) (by have := inS_len hf hk9.1 (kid_hl hk9.2); omega)
end
end Go.Proofs.Ytaolebdcmdmnjaa
