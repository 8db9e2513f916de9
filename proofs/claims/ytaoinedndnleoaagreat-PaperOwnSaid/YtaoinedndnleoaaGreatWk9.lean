import Derived.Test.YtaoinedndnleoaaGreatTkA
import Derived.Test.YtaoinedndnleoaaGreatTil
import Derived.Test.YtaoinedndnleoaaGreatSt12
namespace Go.Proofs.YtaoinedndnleoaaGreat
set_option maxRecDepth 100000
open Go.ChangeShapes Go.WideShapes Go.ChangeAt Go.RowKit
def CompB (l : List (Ru × Nat)) (w : World) (e : Ending) (w' : World) : Prop := Below w.heap.size w w' ∧ ∃ A1 n1 c1 A2 n2 c2 A3 n3 c3 A4 n4 c4, ∃ n col k : Int,
  e = .returned (.tuple #[.agg #[.slice A1 n1 c1, .slice A2 n2 c2, .slice A3 n3 c3, .slice A4 n4 c4], .agg #[.int .i64 n, .int .i64 col, .int .i64 k]]) ∧
  ((k = 0 ∧ ∃ c, compL l = .ok c ∧ ChAtD w.heap.size w' c (.slice A1 n1 c1) (.slice A2 n2 c2) (.slice A3 n3 c3) (.slice A4 n4 c4) ∧ ChF c ∧ ChI c ∧ okK c.kinds) ∨ k ≠ 0)
theorem compB_of {l : List (Ru × Nat)} {w : World} {e : Ending} {w' : World} (h : RCompTo (compL l) w e w') : CompB l w e w' := by
  by_cases hc : ∃ c, compL l = .ok c
  · obtain ⟨c, hc⟩ := hc
    have h2 := h
    rw [hc] at h2
    obtain ⟨hb, ⟨vN, vK, vP, vT, rfl, hA⟩, hf, hi, hk⟩ := h2
    obtain ⟨A1, c1, rfl⟩ := own_slice hA.oN
    obtain ⟨A2, c2, rfl⟩ := own_slice hA.oK
    obtain ⟨A3, c3, rfl⟩ := own_slice hA.oP
    obtain ⟨A4, c4, rfl⟩ := own_slice hA.oT
    exact ⟨hb, _, _, _, _, _, _, _, _, _, _, _, _, _, _, _, rfl, .inl ⟨rfl, c, hc, hA, hf, hi, hk⟩⟩
  · obtain ⟨hb, n, col, k, rfl, hk⟩ := comp_noD (fun c e => hc ⟨c, e⟩) h
    exact ⟨hb, _, _, _, _, _, _, _, _, _, _, _, _, _, _, _, rfl, .inr hk⟩
theorem ChAtD.below {base : Nat} {W W' : World} {c : Ch} {vN vK vP vT : Value} (h : ChAtD base W c vN vK vP vT) (hb : Below W.heap.size W W') (hB : base ≤ W.heap.size) : ChAtD base W' c vN vK vP vT :=
  ⟨own_below h.oN hb hB, own_below h.oK hb hB, own_below h.oP hb hB, h.ap, own_below h.oT hb hB⟩
theorem ChAtD.low {base base' : Nat} {W : World} {c : Ch} {vN vK vP vT : Value} (h : ChAtD base W c vN vK vP vT) (hB : base' ≤ base) : ChAtD base' W c vN vK vP vT :=
  ⟨own_mono2 h.oN hB, own_mono2 h.oK hB, own_mono2 h.oP hB, h.ap, own_mono2 h.oT hB⟩
theorem ChAtD.put {base b j : Nat} {W : World} {c : Ch} {vN vK vP vT x : Value} (h : ChAtD base W c vN vK vP vT) (hb : b < base) : ChAtD base (W.setCell ⟨b, j, none⟩ x) c vN vK vP vT :=
  ⟨put_rowD h.oN hb, put_rowD h.oK hb, put_rowD h.oP hb, h.ap, put_rowD h.oT hb⟩
theorem ChAt.put {base b j : Nat} {W : World} {c : Ch} {vN vK vP vT x : Value} (h : ChAt base W c vN vK vP vT) (hb : b < base) : ChAt base (W.setCell ⟨b, j, none⟩ x) c vN vK vP vT :=
  ⟨put_rowD h.oN hb, put_rowD h.oK hb, put_rowD h.oP hb, h.ap, put_rowD h.oT hb⟩
theorem ChAt.low {base base' : Nat} {W : World} {c : Ch} {vN vK vP vT : Value} (h : ChAt base W c vN vK vP vT) (hB : base' ≤ base) : ChAt base' W c vN vK vP vT :=
  ⟨own_mono2 h.oN hB, own_mono2 h.oK hB, own_mono2 h.oP hB, h.ap, own_mono2 h.oT hB⟩
theorem far4D {W : World} {b g j : Nat} {v0 v1 v2 v3 : Value} (hg : g < W.heap.size) (hne : g ≠ b) : ((((W.setCell ⟨b, 0, none⟩ v0).setCell ⟨b, 1, none⟩ v1).setCell ⟨b, 2, none⟩ v2).setCell ⟨b, 3, none⟩ v3).cell? ⟨g, j, none⟩ = W.cell? ⟨g, j, none⟩ :=
  (far2D (by simpa [World.setCell] using hg) hne).trans (far2D hg hne)
def set4D (W : World) (b : Nat) (v0 v1 v2 v3 : Value) : World := (((W.setCell ⟨b, 0, none⟩ v0).setCell ⟨b, 1, none⟩ v1).setCell ⟨b, 2, none⟩ v2).setCell ⟨b, 3, none⟩ v3
theorem set4_row {W : World} {b : Nat} {a0 a1 a2 a3 : Value} {t : TypeId} (v0 v1 v2 v3 : Value) (h : W.heap[b]? = some (.cells #[a0, a1, a2, a3] t (0, 0))) : (set4D W b v0 v1 v2 v3).heap[b]? = some (.cells #[v0, v1, v2, v3] t (0, 0)) := by
  have e := heap_set (j := 3) (heap_set (j := 2) (heap_set (j := 1) (heap_set (j := 0) h v0) v1) v2) v3
  unfold set4D
  simpa using e
theorem set4_grown (W : World) (b : Nat) (v0 v1 v2 v3 : Value) : W.grownBy (set4D W b v0 v1 v2 v3) (some b) :=
  World.grownBy.trans (World.grownBy.trans (World.grownBy.trans (grown_setCell _ _ _ _) (grown_setCell _ _ _ _)) (grown_setCell _ _ _ _)) (grown_setCell _ _ _ _)
theorem set4_below {n b : Nat} {W0 W : World} (h : Below n W0 W) (hn : n ≤ W0.heap.size) (hb : n ≤ b) (v0 v1 v2 v3 : Value) : Below n W0 (set4D W b v0 v1 v2 v3) :=
  h.grown (set4_grown _ _ _ _ _ _) (Nat.le_trans hn h.size) (fun k e => by cases e; exact hb)
theorem set4_far {W : World} {b g : Nat} {o : Obj} (v0 v1 v2 v3 : Value) (h : W.heap[g]? = some o) (hne : g ≠ b) : (set4D W b v0 v1 v2 v3).heap[g]? = some o :=
  ((set4_grown W b v0 v1 v2 v3).block g (Array.getElem?_eq_some_iff.1 h).1 (by simpa using hne)).trans h
theorem ChAtD.put4 {base b : Nat} {W : World} {c : Ch} {vN vK vP vT : Value} (h : ChAtD base W c vN vK vP vT) (hb : b < base) (v0 v1 v2 v3 : Value) : ChAtD base (set4D W b v0 v1 v2 v3) c vN vK vP vT := (((h.put hb).put hb).put hb).put hb
theorem ChAt.put4 {base b : Nat} {W : World} {c : Ch} {vN vK vP vT : Value} (h : ChAt base W c vN vK vP vT) (hb : b < base) (v0 v1 v2 v3 : Value) : ChAt base (set4D W b v0 v1 v2 v3) c vN vK vP vT := (((h.put hb).put hb).put hb).put hb
theorem set4_farX {W : World} {b g : Nat} {o : Obj} (v0 v1 v2 v3 : Value) (h : W.heap[g]? = some o) (hne : g ≠ b) : ((((W.setCell ⟨b, 0, none⟩ v0).setCell ⟨b, 1, none⟩ v1).setCell ⟨b, 2, none⟩ v2).setCell ⟨b, 3, none⟩ v3).heap[g]? = some o := by
  have := set4_far v0 v1 v2 v3 h hne
  unfold set4D at this
  exact this
theorem set4_size {W : World} {b : Nat} (v0 v1 v2 v3 : Value) : ((((W.setCell ⟨b, 0, none⟩ v0).setCell ⟨b, 1, none⟩ v1).setCell ⟨b, 2, none⟩ v2).setCell ⟨b, 3, none⟩ v3).heap.size = W.heap.size := by simp [World.setCell]
set_option maxHeartbeats 8000000 in
theorem Of_any8 (v : Value) (zs : List Int) (w : World) (hz : IntsAt w v zs) : Calls Tryz.prog 8 #[.agg #[v]] w (OfTo8 w) := by
  obtain ⟨RP, RX, RR, hB0'⟩ := rows3 w (.cells #[v] 24) (.cells #[.slice none 0 0, .slice none 0 0, .slice none 0 0, .slice none 0 0] 30) (.cells #[.slice none 0 0, .slice none 0 0, .slice none 0 0, .slice none 0 0] 34)
  have hB0 : Below w.heap.size w (((w.alloc (.cells #[v] 24)).alloc (.cells #[.slice none 0 0, .slice none 0 0, .slice none 0 0, .slice none 0 0] 30)).alloc (.cells #[.slice none 0 0, .slice none 0 0, .slice none 0 0, .slice none 0 0] 34)) := ((((Below.refl _ _).alloc (Nat.le_refl _) _).alloc (by simp) _).alloc (by simp; omega) _)
  have RP : (((w.alloc (.cells #[v] 24)).alloc (.cells #[.slice none 0 0, .slice none 0 0, .slice none 0 0, .slice none 0 0] 30)).alloc (.cells #[.slice none 0 0, .slice none 0 0, .slice none 0 0, .slice none 0 0] 34)).heap[w.heap.size]? = _ := RP
  have RX : (((w.alloc (.cells #[v] 24)).alloc (.cells #[.slice none 0 0, .slice none 0 0, .slice none 0 0, .slice none 0 0] 30)).alloc (.cells #[.slice none 0 0, .slice none 0 0, .slice none 0 0, .slice none 0 0] 34)).heap[w.heap.size + 1]? = _ := RX
  have RR : (((w.alloc (.cells #[v] 24)).alloc (.cells #[.slice none 0 0, .slice none 0 0, .slice none 0 0, .slice none 0 0] 30)).alloc (.cells #[.slice none 0 0, .slice none 0 0, .slice none 0 0, .slice none 0 0] 34)).heap[w.heap.size + 2]? = some (.cells #[.slice none 0 0, .slice none 0 0, .slice none 0 0, .slice none 0 0] 34 (0, 0)) := RR
  have HB0 := Lib.hid hB0
  have CX := Lib.hid (chtTx_any v zs _ (hz.below hB0))
  have PX := Lib.hid (fun t W => PlayRules_any t W)
  obtain ⟨A0, n0, c0, rfl⟩ := ints_slice hz
  clear hB0 hB0' hz
  go_enter Tryz.func8, Tryz.ntmps8
  go_upto_region 1 with fail
  generalize ((w.alloc (.cells #[.slice A0 n0 c0] 24)).alloc (.cells #[.slice none 0 0, .slice none 0 0, .slice none 0 0, .slice none 0 0] 30)).alloc (.cells #[.slice none 0 0, .slice none 0 0, .slice none 0 0, .slice none 0 0] 34) = w0 at *
  have p0 := cell_of_row _ _ 0 _ _ _ RP
  have hl2 : w.heap.size + 2 < w0.heap.size := (Array.getElem?_eq_some_iff.1 RR).1
  have HRX := Lib.hid RX
  have HRR := Lib.hid RR
  clear RX RR RP
  go_upto_region 2 with (first
    | (go_at_call 32; refine CX.out.mono ?_; rintro e w1 ⟨u, rfl, -, hu, hb1⟩; have HB1 := Lib.hid hb1; have HU := Lib.hid hu; clear hb1 hu; have CP := Lib.hid (fun acc A cap base W => RComp_pol (s := (bs chPre ++ u).data.toList) acc A cap base W); have PY := Lib.hid (fun W => PX.out (bs chPre ++ u) W); have HS : Hid ((bs chPre ++ u).data.toList = chPre ++ u.data.toList) := (by show _ = _; simp [ByteArray.data_append, list_bs]); generalize bs chPre ++ u = tx at *)
    | (go_at_call 31; refine (PY.out _).mono ?_; rintro e w2 ⟨hb2, vv, acc, rfl, hacc, hr⟩; obtain ⟨A, cap, rfl⟩ := own_slice hr.1; have HB2 := Lib.hid (below_then HB1.out hb2 HB1.out.size); have CC := Lib.hid ((CP.out acc A cap _ w2 hr hacc).mono fun e w' h => compB_of h); clear hr hb2 CP PX CX PY hacc)
    | (go_at_call 30; refine CC.out.mono ?_; rintro e w3 ⟨hb3, A1, n1, k1, A2, n2, k2, A3, n3, k3, A4, n4, k4, ln, col, code, rfl, hcc⟩; have HB3 := Lib.hid (below_then HB2.out hb3 HB2.out.size); have HCC := Lib.hid hcc; clear hcc CC))
  have HW4 := Lib.hid (below_then (box_b w3 (.cells #[.slice A1 n1 k1, .slice A2 n2 k2, .slice A3 n3 k3, .slice A4 n4 k4] 34)) (box_b (w3.alloc (.cells #[.slice A1 n1 k1, .slice A2 n2 k2, .slice A3 n3 k3, .slice A4 n4 k4] 34)) (.cells #[.int .i64 ln, .int .i64 col, .int .i64 code] 85)) (by simp))
  have HR4 : Hid (((w3.alloc (.cells #[.slice A1 n1 k1, .slice A2 n2 k2, .slice A3 n3 k3, .slice A4 n4 k4] 34)).alloc (.cells #[.int .i64 ln, .int .i64 col, .int .i64 code] 85)).heap[w3.heap.size]? = some (.cells #[.slice A1 n1 k1, .slice A2 n2 k2, .slice A3 n3 k3, .slice A4 n4 k4] 34 (0, 0))) := (heap_alloc_old _ _ (by simp)).trans (heap_alloc_new _ _)
  have R5 : ((w3.alloc (.cells #[.slice A1 n1 k1, .slice A2 n2 k2, .slice A3 n3 k3, .slice A4 n4 k4] 34)).alloc (.cells #[.int .i64 ln, .int .i64 col, .int .i64 code] 85)).heap[w3.heap.size + 1]? = some (.cells #[.int .i64 ln, .int .i64 col, .int .i64 code] 85 (0, 0)) := by
    have := heap_alloc_new (w3.alloc (.cells #[.slice A1 n1 k1, .slice A2 n2 k2, .slice A3 n3 k3, .slice A4 n4 k4] 34)) (.cells #[.int .i64 ln, .int .i64 col, .int .i64 code] 85)
    simpa using this
  generalize (w3.alloc (.cells #[.slice A1 n1 k1, .slice A2 n2 k2, .slice A3 n3 k3, .slice A4 n4 k4] 34)).alloc (.cells #[.int .i64 ln, .int .i64 col, .int .i64 code] 85) = w4 at *
  have f2 := cell_of_row _ _ 2 _ _ _ R5
  have h03 : w0.heap.size ≤ w3.heap.size := HB3.out.size
  have HB4 : Hid (Below w0.heap.size w0 w4) := below_then HB3.out HW4.out h03
  clear R5 p0 HB1
  go_upto_if 15 with fail
  go_cut [13] (fun _ wx => Hid (Below w0.heap.size w0 wx ∧ ∃ c A1 k1 A2 k2 A3 k3 A4 k4, wx.heap[w3.heap.size]? = some (.cells #[.slice A1 c.names.length k1, .slice A2 c.kinds.length k2, .slice A3 c.parents.length k3, .slice A4 c.trans.length k4] 34 (0, 0)) ∧ ChAtD w0.heap.size wx c (.slice A1 c.names.length k1) (.slice A2 c.kinds.length k2) (.slice A3 c.parents.length k3) (.slice A4 c.trans.length k4) ∧ OkC c))
  case first =>
    rcases HCC.out with ⟨rfl, c, hc, hA, hf, hi, hk⟩ | hk
    · have hok : OkC c := okC_of (u := u.data.toList) HU.out (by rw [← HS.out]; exact hc) hf hi hk
      obtain ⟨A1', c1', e1⟩ := own_slice hA.oN
      obtain ⟨A2', c2', e2⟩ := own_slice hA.oK
      obtain ⟨A3', c3', e3⟩ := own_slice hA.oP
      obtain ⟨A4', c4', e4⟩ := own_slice hA.oT
      injection e1 with _ e1 _; injection e2 with _ e2 _; injection e3 with _ e3 _; injection e4 with _ e4 _
      subst e1 e2 e3 e4
      have hA4 := (hA.low HB2.out.size).below HW4.out h03
      have HA4 := Lib.hid hA4
      have HOK := Lib.hid hok
      clear hA hf hi hk hc hok hA4 HCC HS HU
      go_wp2_with fail
      go_meet
      exact ⟨HB4.out, c, _, _, _, _, _, _, _, _, HR4.out, HA4.out, HOK.out⟩
    · have ge : (code != 0) = true := by simpa using hk
      have ge2 : (code == 0) = false := by simpa using hk
      clear hk HCC HS HU
      go_wp2_with (go_at_call 30; refine (RComp_one _ _ _ (by decide) (heap_alloc_new w4 _)).mono ?_; rintro e w5 ⟨hb5, ⟨vN, vK, vP, vT, rfl, hA⟩, -, -, -⟩; obtain ⟨B1, d1, rfl⟩ := own_slice hA.oN; obtain ⟨B2, d2, rfl⟩ := own_slice hA.oK; obtain ⟨B3, d3, rfl⟩ := own_slice hA.oP; obtain ⟨B4, d4, rfl⟩ := own_slice hA.oT; have HB5 : Hid (Below w4.heap.size w4 w5) := below_then (box_b w4 _) hb5 (by simp); have r5 := (HB5.out.block _ (Array.getElem?_eq_some_iff.1 HR4.out).1).trans HR4.out; have HR5 := Lib.hid r5; have HA5 := Lib.hid hA; have z0 := fz_of r5 0; have z1 := fz_of r5 1; have z2 := fz_of r5 2; have z3 := fz_of r5 3; have y0 := cell_of_row _ _ 0 _ _ _ r5; have y1 := cell_of_row _ _ 1 _ _ _ r5; have y2 := cell_of_row _ _ 2 _ _ _ r5; have y3 := cell_of_row _ _ 3 _ _ _ r5; clear hb5 r5 hA)
      go_meet
      have h34 : w3.heap.size < w4.heap.size := (Array.getElem?_eq_some_iff.1 HR4.out).1
      exact ⟨set4_below (below_then HB4.out HB5.out HB4.out.size) (Nat.le_refl _) h03 _ _ _ _, saC, _, _, _, _, _, _, _, _, set4_row _ _ _ _ HR5.out, (HA5.out.put4 (by simp; omega) _ _ _ _).low (by simp; have := HB4.out.size; omega), saC_ok⟩
  case rest =>
  obtain ⟨hb, c, B1, d1, B2, d2, B3, d3, B4, d4, hrow, hA, hok⟩ := hcut.out
  obtain ⟨gN, cap', e, _, hlN, _, _⟩ := own_form hA.oN hok.n0
  have eA : B1 = some ⟨gN, 0, none⟩ := by injection e
  subst eA
  have hkl := hok.f.kl
  have hpl := hok.f.pl
  have hnl := hok.f.nl
  have MN := Lib.hid (fun X (hX : Below wc.heap.size wc X) => Mine_any c gN B2 B3 B4 d1 d2 d3 d4 X ((listAt_of hA.oN).below hX) ((ints_of_own hA.oK hok.i.1 (by omega)).below hX) ((ints_of_own hA.oP hok.i.2 (by omega)).below hX) ((tAt_ofD hA.oT).below hX) (own_cap hA.oT) hok.f)
  have c0 := cell_of_row _ _ 0 _ _ _ hrow; have c1 := cell_of_row _ _ 1 _ _ _ hrow; have c2 := cell_of_row _ _ 2 _ _ _ hrow; have c3 := cell_of_row _ _ 3 _ _ _ hrow
  have hl4 := (Array.getElem?_eq_some_iff.1 hrow).1
  have hs0 := hb.size
  have HA := Lib.hid hA
  have HOK := Lib.hid hok
  have HBC := Lib.hid hb
  have RX := (hb.block _ (by omega)).trans HRX.out
  have RR : wc.heap[w.heap.size + 1 + 1]? = _ := (hb.block _ hl2).trans HRR.out
  have hn3 : w.heap.size + 1 + 1 ≠ w.heap.size + 1 := by omega
  have hlx : w.heap.size + 1 < wc.heap.size := by omega
  have hlr : w.heap.size + 1 + 1 < wc.heap.size := by omega
  have hn1 : w3.heap.size ≠ w.heap.size + 1 := by omega
  have hn2 : w3.heap.size ≠ w.heap.size + 1 + 1 := by omega
  have HRXc := Lib.hid RX
  have HRRc := Lib.hid RR
  clear hcut hrow hA hok hb e HRX HRR RX RR HR4 HW4 HB4 HB3 HB2 f2 HCC HS HU hkl hpl hnl
  have d0 : wc.drew.cell? ⟨w3.heap.size, 0, none⟩ = some (.slice (some ⟨gN, 0, none⟩) c.names.length d1) := c0
  have d1' : wc.drew.cell? ⟨w3.heap.size, 1, none⟩ = some (.slice B2 c.kinds.length d2) := c1
  have d2' : wc.drew.cell? ⟨w3.heap.size, 2, none⟩ = some (.slice B3 c.parents.length d3) := c2
  have d3' : wc.drew.cell? ⟨w3.heap.size, 3, none⟩ = some (.slice B4 c.trans.length d4) := c3
  go_upto_region 4 with fail
  refine wp_region_held_drew (S := fun w' => w'.cell? ⟨w3.heap.size, 0, none⟩ = some (.slice (some ⟨gN, 0, none⟩) c.names.length d1) ∧ w'.cell? ⟨w3.heap.size, 1, none⟩ = some (.slice B2 c.kinds.length d2) ∧ w'.cell? ⟨w3.heap.size, 2, none⟩ = some (.slice B3 c.parents.length d3) ∧ w'.cell? ⟨w3.heap.size, 3, none⟩ = some (.slice B4 c.trans.length d4)) (by kernel_rfl) ⟨d0, d1', d2', d3'⟩ (fun hHeld => ?_)
  refine wpAnyH_take (i := 0) (v := ?_) rfl (by kernel_rfl) (by kernel_rfl) (by kernel_rfl) (fun _ _ _ h => h) (Or.inl ⟨by rfl, ?_⟩) hHeld ?_
  rotate_left
  · intro w hSw
    obtain ⟨hs1, hs2, hs3, hs4⟩ := hSw
    go_simp
    (try with_reducible rfl)
  rotate_left
  (try simp only [Act.put, List.setIfInBounds_toArray, List.set_cons_zero, List.set_cons_succ])
  refine wpAnyH_take (i := 2) (v := ?_) rfl (by kernel_rfl) (by kernel_rfl) (by kernel_rfl) (fun _ _ _ h => h) (Or.inl ⟨by rfl, ?_⟩) hHeld ?_
  rotate_left
  · intro w hSw
    obtain ⟨hs1, hs2, hs3, hs4⟩ := hSw
    go_simp
    (try with_reducible rfl)
  rotate_left
  (try simp only [Act.put, List.setIfInBounds_toArray, List.set_cons_zero, List.set_cons_succ])
  refine wpAnyH_ready (rs := [1]) (by kernel_rfl) (by simp) ?_
  refine AllReadyH.cons rfl (fun K hK => ?_) AllReadyH.nil
  go_simp
  go_at_call 33
  refine (MN.out _ (below_drew (Below.refl _ _))).mono ?_
  rintro e w7 ⟨hb7', vN, vK, vP, vT, rfl, hM'⟩
  have hb7 : Below wc.heap.size wc w7 := (by first | exact hb7' | exact below_then (below_drew (Below.refl _ _)) hb7' (Nat.le_refl _))
  have hM : ChAt wc.heap.size w7 c vN vK vP vT := hM'
  obtain ⟨E1, m1, rfl⟩ := own_slice hM.oN
  obtain ⟨E2, m2, rfl⟩ := own_slice hM.oK
  obtain ⟨E3, m3, rfl⟩ := own_slice hM.oP
  obtain ⟨E4, m4, rfl⟩ := own_slice hM.oT
  have RX7 := (hb7.block _ hlx).trans HRXc.out
  have RR7 := (hb7.block _ hlr).trans HRRc.out
  have hS7 : _ ∧ _ ∧ _ ∧ _ := ⟨(hb7.cell (p := ⟨w3.heap.size, 0, none⟩) hl4).trans c0, (hb7.cell (p := ⟨w3.heap.size, 1, none⟩) hl4).trans c1, (hb7.cell (p := ⟨w3.heap.size, 2, none⟩) hl4).trans c2, (hb7.cell (p := ⟨w3.heap.size, 3, none⟩) hl4).trans c3⟩
  refine hK.out _ _ hS7 (fun _ => ?_)
  clear hK K hHeld
  have hl7 : w3.heap.size < w7.heap.size := Nat.lt_of_lt_of_le hl4 hb7.size
  have hl8 : w3.heap.size < ((((w7.setCell ⟨w.heap.size + 1, 0, none⟩ (.slice E1 c.names.length m1)).setCell ⟨w.heap.size + 1, 1, none⟩ (.slice E2 c.kinds.length m2)).setCell ⟨w.heap.size + 1, 2, none⟩ (.slice E3 c.parents.length m3)).setCell ⟨w.heap.size + 1, 3, none⟩ (.slice E4 c.trans.length m4)).heap.size := by rw [set4_size]; exact hl7
  have e0 : ((((w7.setCell ⟨w.heap.size + 1, 0, none⟩ (.slice E1 c.names.length m1)).setCell ⟨w.heap.size + 1, 1, none⟩ (.slice E2 c.kinds.length m2)).setCell ⟨w.heap.size + 1, 2, none⟩ (.slice E3 c.parents.length m3)).setCell ⟨w.heap.size + 1, 3, none⟩ (.slice E4 c.trans.length m4)).cell? ⟨w3.heap.size, 0, none⟩ = some (.slice (some ⟨gN, 0, none⟩) c.names.length d1) := (far4D hl7 hn1).trans hS7.1
  have e1 : ((((w7.setCell ⟨w.heap.size + 1, 0, none⟩ (.slice E1 c.names.length m1)).setCell ⟨w.heap.size + 1, 1, none⟩ (.slice E2 c.kinds.length m2)).setCell ⟨w.heap.size + 1, 2, none⟩ (.slice E3 c.parents.length m3)).setCell ⟨w.heap.size + 1, 3, none⟩ (.slice E4 c.trans.length m4)).cell? ⟨w3.heap.size, 1, none⟩ = some (.slice B2 c.kinds.length d2) := (far4D hl7 hn1).trans hS7.2.1
  have e2 : ((((w7.setCell ⟨w.heap.size + 1, 0, none⟩ (.slice E1 c.names.length m1)).setCell ⟨w.heap.size + 1, 1, none⟩ (.slice E2 c.kinds.length m2)).setCell ⟨w.heap.size + 1, 2, none⟩ (.slice E3 c.parents.length m3)).setCell ⟨w.heap.size + 1, 3, none⟩ (.slice E4 c.trans.length m4)).cell? ⟨w3.heap.size, 2, none⟩ = some (.slice B3 c.parents.length d3) := (far4D hl7 hn1).trans hS7.2.2.1
  have e3 : ((((w7.setCell ⟨w.heap.size + 1, 0, none⟩ (.slice E1 c.names.length m1)).setCell ⟨w.heap.size + 1, 1, none⟩ (.slice E2 c.kinds.length m2)).setCell ⟨w.heap.size + 1, 2, none⟩ (.slice E3 c.parents.length m3)).setCell ⟨w.heap.size + 1, 3, none⟩ (.slice E4 c.trans.length m4)).cell? ⟨w3.heap.size, 3, none⟩ = some (.slice B4 c.trans.length d4) := (far4D hl7 hn1).trans hS7.2.2.2
  have g0 : ((((((((w7.setCell ⟨w.heap.size + 1, 0, none⟩ (.slice E1 c.names.length m1)).setCell ⟨w.heap.size + 1, 1, none⟩ (.slice E2 c.kinds.length m2)).setCell ⟨w.heap.size + 1, 2, none⟩ (.slice E3 c.parents.length m3)).setCell ⟨w.heap.size + 1, 3, none⟩ (.slice E4 c.trans.length m4)).setCell ⟨w.heap.size + 1 + 1, 0, none⟩ (.slice (some ⟨gN, 0, none⟩) c.names.length d1)).setCell ⟨w.heap.size + 1 + 1, 1, none⟩ (.slice B2 c.kinds.length d2)).setCell ⟨w.heap.size + 1 + 1, 2, none⟩ (.slice B3 c.parents.length d3)).setCell ⟨w.heap.size + 1 + 1, 3, none⟩ (.slice B4 c.trans.length d4)).cell? ⟨w3.heap.size, 0, none⟩ = some (.slice (some ⟨gN, 0, none⟩) c.names.length d1) := (far4D hl8 hn2).trans e0
  have g1 : ((((((((w7.setCell ⟨w.heap.size + 1, 0, none⟩ (.slice E1 c.names.length m1)).setCell ⟨w.heap.size + 1, 1, none⟩ (.slice E2 c.kinds.length m2)).setCell ⟨w.heap.size + 1, 2, none⟩ (.slice E3 c.parents.length m3)).setCell ⟨w.heap.size + 1, 3, none⟩ (.slice E4 c.trans.length m4)).setCell ⟨w.heap.size + 1 + 1, 0, none⟩ (.slice (some ⟨gN, 0, none⟩) c.names.length d1)).setCell ⟨w.heap.size + 1 + 1, 1, none⟩ (.slice B2 c.kinds.length d2)).setCell ⟨w.heap.size + 1 + 1, 2, none⟩ (.slice B3 c.parents.length d3)).setCell ⟨w.heap.size + 1 + 1, 3, none⟩ (.slice B4 c.trans.length d4)).cell? ⟨w3.heap.size, 1, none⟩ = some (.slice B2 c.kinds.length d2) := (far4D hl8 hn2).trans e1
  have g2 : ((((((((w7.setCell ⟨w.heap.size + 1, 0, none⟩ (.slice E1 c.names.length m1)).setCell ⟨w.heap.size + 1, 1, none⟩ (.slice E2 c.kinds.length m2)).setCell ⟨w.heap.size + 1, 2, none⟩ (.slice E3 c.parents.length m3)).setCell ⟨w.heap.size + 1, 3, none⟩ (.slice E4 c.trans.length m4)).setCell ⟨w.heap.size + 1 + 1, 0, none⟩ (.slice (some ⟨gN, 0, none⟩) c.names.length d1)).setCell ⟨w.heap.size + 1 + 1, 1, none⟩ (.slice B2 c.kinds.length d2)).setCell ⟨w.heap.size + 1 + 1, 2, none⟩ (.slice B3 c.parents.length d3)).setCell ⟨w.heap.size + 1 + 1, 3, none⟩ (.slice B4 c.trans.length d4)).cell? ⟨w3.heap.size, 2, none⟩ = some (.slice B3 c.parents.length d3) := (far4D hl8 hn2).trans e2
  have g3 : ((((((((w7.setCell ⟨w.heap.size + 1, 0, none⟩ (.slice E1 c.names.length m1)).setCell ⟨w.heap.size + 1, 1, none⟩ (.slice E2 c.kinds.length m2)).setCell ⟨w.heap.size + 1, 2, none⟩ (.slice E3 c.parents.length m3)).setCell ⟨w.heap.size + 1, 3, none⟩ (.slice E4 c.trans.length m4)).setCell ⟨w.heap.size + 1 + 1, 0, none⟩ (.slice (some ⟨gN, 0, none⟩) c.names.length d1)).setCell ⟨w.heap.size + 1 + 1, 1, none⟩ (.slice B2 c.kinds.length d2)).setCell ⟨w.heap.size + 1 + 1, 2, none⟩ (.slice B3 c.parents.length d3)).setCell ⟨w.heap.size + 1 + 1, 3, none⟩ (.slice B4 c.trans.length d4)).cell? ⟨w3.heap.size, 3, none⟩ = some (.slice B4 c.trans.length d4) := (far4D hl8 hn2).trans e3
  have x0 := cell_of_row _ _ 0 _ _ _ RX7; have x1 := cell_of_row _ _ 1 _ _ _ RX7; have x2 := cell_of_row _ _ 2 _ _ _ RX7; have x3 := cell_of_row _ _ 3 _ _ _ RX7; have z0 := fz_of RX7 0; have z1 := fz_of RX7 1; have z2 := fz_of RX7 2; have z3 := fz_of RX7 3
  refine wpAnyH_ready (rs := [3]) (by kernel_rfl) (by simp) ?_
  refine AllReadyH.cons rfl (fun K hK => ?_) AllReadyH.nil
  go_simp
  refine hK.out _ _ ⟨e0, e1, e2, e3⟩ (fun _ => ?_)
  clear hK K
  have RR8 := set4_farX (b := w.heap.size + 1) (.slice E1 c.names.length m1) (.slice E2 c.kinds.length m2) (.slice E3 c.parents.length m3) (.slice E4 c.trans.length m4) RR7 hn3
  have RX8 := set4_row (.slice E1 c.names.length m1) (.slice E2 c.kinds.length m2) (.slice E3 c.parents.length m3) (.slice E4 c.trans.length m4) RX7
  have y0 := cell_of_row _ _ 0 _ _ _ RR8; have y1 := cell_of_row _ _ 1 _ _ _ RR8; have y2 := cell_of_row _ _ 2 _ _ _ RR8; have y3 := cell_of_row _ _ 3 _ _ _ RR8; have s0 := fz_of RR8 0; have s1 := fz_of RR8 1; have s2 := fz_of RR8 2; have s3 := fz_of RR8 3
  refine wpAnyH_ready (rs := [4]) (by kernel_rfl) (by simp) ?_
  refine AllReadyH.cons rfl (fun K hK => ?_) AllReadyH.nil
  go_simp
  refine hK.out _ _ ⟨g0, g1, g2, g3⟩ (fun _ => ?_)
  clear hK K
  refine wpAnyH_done (by kernel_rfl) ?_ _
  go_wp2_with fail
  have ROW1 : ((((((((w7.setCell ⟨w.heap.size + 1, 0, none⟩ (.slice E1 c.names.length m1)).setCell ⟨w.heap.size + 1, 1, none⟩ (.slice E2 c.kinds.length m2)).setCell ⟨w.heap.size + 1, 2, none⟩ (.slice E3 c.parents.length m3)).setCell ⟨w.heap.size + 1, 3, none⟩ (.slice E4 c.trans.length m4)).setCell ⟨w.heap.size + 1 + 1, 0, none⟩ (.slice (some ⟨gN, 0, none⟩) c.names.length d1)).setCell ⟨w.heap.size + 1 + 1, 1, none⟩ (.slice B2 c.kinds.length d2)).setCell ⟨w.heap.size + 1 + 1, 2, none⟩ (.slice B3 c.parents.length d3)).setCell ⟨w.heap.size + 1 + 1, 3, none⟩ (.slice B4 c.trans.length d4)).heap[w.heap.size + 1]? = some (.cells #[(.slice E1 c.names.length m1), (.slice E2 c.kinds.length m2), (.slice E3 c.parents.length m3), (.slice E4 c.trans.length m4)] 30 (0, 0)) := set4_farX (b := w.heap.size + 1 + 1) (.slice (some ⟨gN, 0, none⟩) c.names.length d1) (.slice B2 c.kinds.length d2) (.slice B3 c.parents.length d3) (.slice B4 c.trans.length d4) (by have := RX8; unfold set4D at this; exact this) (Ne.symm hn3)
  have ROW2 : ((((((((w7.setCell ⟨w.heap.size + 1, 0, none⟩ (.slice E1 c.names.length m1)).setCell ⟨w.heap.size + 1, 1, none⟩ (.slice E2 c.kinds.length m2)).setCell ⟨w.heap.size + 1, 2, none⟩ (.slice E3 c.parents.length m3)).setCell ⟨w.heap.size + 1, 3, none⟩ (.slice E4 c.trans.length m4)).setCell ⟨w.heap.size + 1 + 1, 0, none⟩ (.slice (some ⟨gN, 0, none⟩) c.names.length d1)).setCell ⟨w.heap.size + 1 + 1, 1, none⟩ (.slice B2 c.kinds.length d2)).setCell ⟨w.heap.size + 1 + 1, 2, none⟩ (.slice B3 c.parents.length d3)).setCell ⟨w.heap.size + 1 + 1, 3, none⟩ (.slice B4 c.trans.length d4)).heap[w.heap.size + 1 + 1]? = some (.cells #[(.slice (some ⟨gN, 0, none⟩) c.names.length d1), (.slice B2 c.kinds.length d2), (.slice B3 c.parents.length d3), (.slice B4 c.trans.length d4)] 34 (0, 0)) := by have := set4_row (.slice (some ⟨gN, 0, none⟩) c.names.length d1) (.slice B2 c.kinds.length d2) (.slice B3 c.parents.length d3) (.slice B4 c.trans.length d4) RR8; unfold set4D at this; exact this
  (try simp only [Exit.inBlock, Exit.then])
  refine bodyPost_ret (run_cell2' rfl _ _ (w.heap.size + 1) (w.heap.size + 1 + 1) _ _ _ _ _ _ _ _ rfl rfl ROW1 ROW2 Tryz.underlying30 rfl (by kernel_rfl) Tryz.underlying34 rfl (by kernel_rfl)) rfl ?_
  have hbw : Below w.heap.size w w7 := below_then (below_then HB0.out HBC.out HB0.out.size) hb7 (below_then HB0.out HBC.out HB0.out.size).size
  have hA7 := HA.out.below hb7 hs0
  refine ⟨set4_below (set4_below hbw (Nat.le_refl _) (by omega) _ _ _ _) (Nat.le_refl _) (by omega) _ _ _ _, c, _, _, _, _, _, _, _, _, rfl, ((hM.put4 (by omega) _ _ _ _).put4 (by omega) _ _ _ _).low (by omega), ((hA7.put4 (by omega) _ _ _ _).put4 (by omega) _ _ _ _).low (by omega), HOK.out⟩
end Go.Proofs.YtaoinedndnleoaaGreat
