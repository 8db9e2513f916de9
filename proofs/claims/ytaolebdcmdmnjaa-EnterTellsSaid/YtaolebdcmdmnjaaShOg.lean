/-
  The shapes that the statements are made of: all that is known of them. Printed by gen_shog.py out of XShOf.
-/
import Derived.Test.YtaolebdcmdmnjaaShW
namespace Go.Proofs.Ytaolebdcmdmnjaa
set_option maxRecDepth 100000
open Go.ChangeShapes Go.WideShapes Go.ChangeAt Go.RowKit

/-- a place that is no history, where it is told so -/
def nHi (ks : List Int) (p : Int) (b : Bool) : Prop := b = false → parOk ks p ∨ p < -1
theorem nHi.of {ks ps : List Int} {k q : Nat} (h : ShW ks ps k) (hq : q < ks.length) : nHi ks q (decide ((3 : Int) ≤ ks.getD q 0)) := fun hb => .inl (parOk.of h hq (by have := of_decide_eq_false hb; omega))
theorem nHi.no {ks : List Int} {p : Int} (h : p ≤ -1) : nHi ks p false := fun _ => by
  by_cases e : p = -1
  · exact .inl (.inl e)
  · exact .inr (by omega)
theorem nHi.par {ks : List Int} {p : Int} {b : Bool} (h : nHi ks p b) (hp : -1 ≤ p) (hb : b = false) : parOk ks p := (h hb).resolve_right (by omega)
theorem behindY.no {ks ps : List Int} {p y : Int} (h : y < 3) : behindY ks ps p y := fun h' => by omega
/-- a shape, all that is known of it -/
def OfTo2 (w : World) (e : Ending) (w' : World) : Prop := ∃ (A : Option Addr) (c : Nat) (B : Option Addr) (d : Nat) (A' : Option Addr) (c' : Nat) (B' : Option Addr) (d' n : Nat) (ks ps : List Int),
  e = .returned (.tuple #[.agg #[.slice A n c, .slice B n d], .agg #[.slice A' n c', .slice B' n d']]) ∧ ShOk ks ps ∧ ShF ks ps n ∧ 0 < n ∧ n ≤ 12 ∧ n = ks.length ∧
  (IntsAt w' (.slice A n c) ks ∧ IntsAt w' (.slice B n d) ps) ∧ (IntsAt w' (.slice A' n c') ks ∧ IntsAt w' (.slice B' n d') ps) ∧ Below w.heap.size w w'
set_option maxHeartbeats 8000000 in
theorem Of_full (v : Value) (l : List Int) (w : World) (h : IntsAt w v l) : Calls Try.prog 9 #[v] w (OfTo2 w) := by
  obtain ⟨i0, hi, hz0, hz1, hz2⟩ := info_parts Try.infoInt
  obtain ⟨A0, c0, rfl⟩ := ints_form h
  have hll : l.length ≤ maxLen := by obtain ⟨_, _, _, hl, _⟩ := h; exact hl
  unfold maxLen at hll
  have HL := Lib.hid h
  clear h
  go_enter Try.func9, Try.ntmps9
  go_upto_region 1 with (fail)
  have b0 : Below w.heap.size w ((w.alloc (.cells #[.slice none 0 0, .slice none 0 0] 24)).alloc (.cells #[.slice none 0 0, .slice none 0 0] 25)) := ((Below.refl _ _).alloc (Nat.le_refl _) _).alloc (by simp) _
  have r1 : ((w.alloc (.cells #[.slice none 0 0, .slice none 0 0] 24)).alloc (.cells #[.slice none 0 0, .slice none 0 0] 25)).heap[w.heap.size]? = some (.cells #[.slice none 0 0, .slice none 0 0] 24 (0, 0)) := by
    rw [heap_alloc_old _ _ (by simp)]; exact heap_alloc_new _ _
  have r2 : ((w.alloc (.cells #[.slice none 0 0, .slice none 0 0] 24)).alloc (.cells #[.slice none 0 0, .slice none 0 0] 25)).heap[w.heap.size + 1]? = some (.cells #[.slice none 0 0, .slice none 0 0] 25 (0, 0)) := by
    have := heap_alloc_new (w.alloc (.cells #[.slice none 0 0, .slice none 0 0] 24)) (.cells #[.slice none 0 0, .slice none 0 0] 25)
    rwa [show (w.alloc (.cells #[.slice none 0 0, .slice none 0 0] 24)).heap.size = w.heap.size + 1 by simp] at this
  have s2 : w.heap.size + 2 = ((w.alloc (.cells #[.slice none 0 0, .slice none 0 0] 24)).alloc (.cells #[.slice none 0 0, .slice none 0 0] 25)).heap.size := by simp
  generalize (w.alloc (.cells #[.slice none 0 0, .slice none 0 0] 24)).alloc (.cells #[.slice none 0 0, .slice none 0 0] 25) = w2 at *
  have HB0 := Lib.hid b0
  have R1 := Lib.hid r1
  have R2 := Lib.hid r2
  have hs2 : w.heap.size + 2 ≤ w2.heap.size := by omega
  have HL2 : Hid (IntsAt w2 (.slice A0 l.length c0) l) := HL.out.below b0
  clear b0 r1 r2 s2 HL
  go_upto_region 2 with (fail)
  have o1 := own_new w2 w2.heap.size 1 (Nat.le_refl _)
  have o2 := own_new (w2.alloc (.cells #[.int .i64 1] 3)) w2.heap.size (-1) (by simp)
  have hsz : (w2.alloc (.cells #[.int .i64 1] 3)).heap.size = w2.heap.size + 1 := by simp
  rw [hsz] at o2
  have b1 : Below w2.heap.size w2 ((w2.alloc (.cells #[.int .i64 1] 3)).alloc (.cells #[.int .i64 (-1)] 3)) := ((Below.refl _ _).alloc (Nat.le_refl _) _).alloc (by simp) _
  have T0 : Hid (TwoAt ((w2.alloc (.cells #[.int .i64 1] 3)).alloc (.cells #[.int .i64 (-1)] 3)) w2.heap.size w2.heap.size 1 (w2.heap.size + 1) 1 [1] [-1]) :=
    ⟨by omega, own_below o1 ((Below.refl _ _).alloc (Nat.le_refl _) _) (by simp), o2⟩
  have HB1 := Lib.hid b1
  clear o1 o2 hsz b1
  generalize (w2.alloc (.cells #[.int .i64 1] 3)).alloc (.cells #[.int .i64 (-1)] 3) = w3 at *
  go_upto_region 3 with (fail)
  go_loopw [4, 5, 6] (fun x y i wr => ∃ (k g c g' c' : Nat) (ks ps : List Int), 1 ≤ k ∧ k ≤ 12 ∧ i = .int .i64 k ∧ x = .slice (some ⟨g, 0, none⟩) k c ∧ y = .slice (some ⟨g', 0, none⟩) k c' ∧ Hid (ks.length = k ∧ ps.length = k) ∧ Hid (ShW ks ps k) ∧ Hid (okI ks ∧ okI ps) ∧ Hid (TwoAt wr w2.heap.size g c g' c' ks ps) ∧ Hid (Below w2.heap.size w2 wr)) (fun _ _ i _ => 12 - (intOf i).toNat)
  case atStart =>
    exact ⟨1, _, _, _, _, [1], [-1], by omega, by omega, rfl, rfl, rfl, ⟨rfl, rfl⟩, ShW.start, ⟨fun x hx => by rw [List.mem_singleton.1 hx]; decide +kernel, fun x hx => by rw [List.mem_singleton.1 hx]; decide +kernel⟩, T0, HB1⟩
  case round =>
    clear T0 HB1
    obtain ⟨k, g, c, g', c', ks, ps, hk1, hk12, rfl, rfl, rfl, HLen, HOk, HOI, HT, HB⟩ := hrel
    have hways : (k < l.length ∧ k < 12) ∨ (k < l.length ∧ ¬ k < 12) ∨ ¬ k < l.length := by omega
    rcases hways with ⟨hlk, hk12'⟩ | ⟨hlk, hk12'⟩ | hlk
    · · obtain ⟨b, off, rfl, hb, hx, hwf⟩ := ints_cell (HL2.out.below HB.out) (k := k) hlk
        have hki : (k : Int) < l.length := by omega
        have hki2 : (k : Int) < 12 := by omega
        have WI1 := Lib.hid (Within_any (l.getD k 0) ((k : Int) + 1) wr hwf (by omega) (by omega))
        have hbd := within_bd (l.getD k 0) ((k : Int) + 1) (by omega)
        have WI2 := Lib.hid (Within_any ((l.getD k 0).tdiv 16) 6 wr (wf_quo (n := 16) hwf (by omega)) (by omega) (by omega))
        have hbd2 := within_bd ((l.getD k 0).tdiv 16) 6 (by omega)
        have WI3 := Lib.hid (Within_any ((l.getD k 0).tdiv 96) 2 wr (wf_quo (n := 96) hwf (by omega)) (by omega) (by omega))
        have hbd3 := within_bd ((l.getD k 0).tdiv 96) 2 (by omega)
        have HC4 : Hid (∀ q : Nat, q < k → wr.cell? ⟨g, q, none⟩ = some (.int .i64 (ks.getD q 0))) := fun q hq => own_cell HT.out.2.1 (by have := HLen.out.1; omega)
        have HC5 : Hid (∀ q : Nat, q < k → wr.cell? ⟨g', q, none⟩ = some (.int .i64 (ps.getD q 0))) := fun q hq => own_cell HT.out.2.2 (by have := HLen.out.2; omega)
        have hq16 := bounds_i64 (show (Lit.int .i64 ((l.getD k 0).tdiv 16)).wf = true from wf_quo (n := 16) hwf (by omega))
        have hq96 := bounds_i64 (show (Lit.int .i64 ((l.getD k 0).tdiv 96)).wf = true from wf_quo (n := 96) hwf (by omega))
        clear hwf
        generalize l.getD k 0 = z at *
        generalize hp0 : within z ((k : Int) + 1) = p0 at *
        generalize hz2 : within (z.tdiv 16) 6 = z2 at *
        generalize hz3 : within (z.tdiv 96) 2 = z3 at *
        have hwp : IntKind.i64.wrap (p0 - 1) = p0 - 1 := by rw [IntKind.wrap_i64]; omega
        have hwk : IntKind.i64.wrap ((k : Int) + 1) = (k : Int) + 1 := by rw [IntKind.wrap_i64]; omega
        have hw16 : IntKind.i64.wrap (z.tdiv 16) = z.tdiv 16 := by rw [IntKind.wrap_i64]; omega
        have hw96 : IntKind.i64.wrap (z.tdiv 96) = z.tdiv 96 := by rw [IntKind.wrap_i64]; omega
        clear hp0 hz2 hz3 hq16 hq96
        go_upto_region 6 with (go_at_call 17; refine WI1.out.mono ?_; rintro e w4 ⟨rfl, rfl⟩)
        go_cut [7, 39] (fun y x wx => wx = wr ∧ y = .int .i64 (p0 - 1) ∧ ∃ b : Bool, x = .bool b ∧ Hid (nHi ks (p0 - 1) b))
        case first =>
          by_cases hpos : 0 ≤ p0 - 1
          · obtain ⟨q, hq⟩ : ∃ q : Nat, p0 - 1 = q := ⟨(p0 - 1).toNat, by omega⟩
            have hqk : q < k := by omega
            have hq4 := HC4.out q hqk
            have hqi : (q : Int) < k := by omega
            rw [hq]
            have HQ := Lib.hid hq
            clear hq hpos
            have HN : Hid (nHi ks q (decide ((3 : Int) ≤ ks.getD q 0))) := nHi.of HOk.out (by have := HLen.out.1; omega)
            generalize ks.getD q 0 = kq at *
            go_wp2
            go_meet
            exact ⟨rfl, by rw [HQ.out], _, rfl, by rw [HQ.out]; exact HN⟩
          · have h1 : ¬ 1 ≤ p0 := by omega
            have HN : Hid (nHi ks (p0 - 1) false) := nHi.no (by omega)
            go_wp2
            go_meet
            exact ⟨rfl, rfl, _, rfl, HN⟩
        case rest =>
          obtain ⟨hw9, rfl, bb, rfl, HNH⟩ := hcut
          subst hw9
          obtain ⟨wr, rfl⟩ : ∃ w1 : World, w1 = wc := ⟨_, rfl⟩
          go_upto_if 39 with fail
          go_cut [7] (fun x wx => wx = wr ∧ ∃ p : Int, x = .int .i64 p ∧ -1 ≤ p ∧ p < k ∧ Hid (parOk ks p))
          case first =>
            cases bb
            · have HPO := Lib.hid (HNH.out.par (by omega) rfl)
              go_wp2
              go_meet
              exact ⟨rfl, _, rfl, by omega, by omega, HPO⟩
            · have HPO : Hid (parOk ks (-1)) := .inl rfl
              go_wp2
              go_meet
              exact ⟨rfl, _, rfl, by omega, by omega, HPO⟩
          case rest =>
            obtain ⟨hw9, p, rfl, hp1, hp2, HPO⟩ := hcut
            subst hw9
            obtain ⟨wr, rfl⟩ : ∃ w1 : World, w1 = wc := ⟨_, rfl⟩
            go_upto_block 2 with (go_at_call 17; refine WI2.out.mono ?_; rintro e w4 ⟨rfl, rfl⟩)
            go_cut [8] (fun x wx => wx = wr ∧ ∃ y : Int, x = .int .i64 y ∧ 1 ≤ y ∧ y ≤ 4 ∧ Hid (behindY ks ps p y))
            case first =>
              have hz2 : z2 = 0 ∨ z2 = 1 ∨ z2 = 2 ∨ z2 = 3 ∨ 4 ≤ z2 := by omega
              rcases hz2 with rfl | rfl | rfl | rfl | hz4
              · go_wp2
                go_meet
                exact ⟨rfl, _, rfl, by omega, by omega, Lib.hid (behindY.no (by omega))⟩
              · go_wp2
                go_meet
                exact ⟨rfl, _, rfl, by omega, by omega, Lib.hid (behindY.no (by omega))⟩
              · go_upto_region 16 with (fail)
                go_loopw [8, 54] (fun y i wx => ∃ j : Nat, j ≤ k ∧ i = .int .i64 j ∧ Hid (wx = wr) ∧ ∃ v : Int, y = .int .i64 v ∧ 1 ≤ v ∧ v ≤ 4 ∧ Hid (behindY ks ps p v)) (fun _ i _ => k - (intOf i).toNat)
                case atStart => exact ⟨0, Nat.zero_le _, rfl, Lib.hid rfl, 1, rfl, by omega, by omega, Lib.hid (behindY.no (by omega))⟩
                case round =>
                  obtain ⟨j, hj, rfl, HW, v, rfl, hv1, hv2, HV⟩ := hrel
                  have hw9 := HW.out
                  subst hw9
                  by_cases hjk : j < k
                  · have hji : (j : Int) < k := by omega
                    have h4j := HC4.out j hjk
                    have h5j := HC5.out j hjk
                    have BH : Hid (ps.getD j 0 = p → ks.getD j 0 ≤ 2 → ∀ q : Nat, p = q → ks.getD q 0 = 1 → behindY ks ps p (3 + z3)) := fun e1 e2 q e3 e4 => HOk.out.behind (by have := HLen.out.1; omega) e1 e2 e3 e4
                    generalize ps.getD j 0 = pj at *
                    generalize ks.getD j 0 = kj at *
                    by_cases d1 : pj = p
                    · have g1 : (pj == p) = true := by simpa using d1
                      by_cases d2 : kj ≤ 2
                      · by_cases d3 : 0 ≤ p
                        · obtain ⟨q, rfl⟩ : ∃ q : Nat, p = q := ⟨p.toNat, by omega⟩
                          have hqk : q < k := by omega
                          have h4q := HC4.out q hqk
                          have HBQ : Hid (ks.getD q 0 = 1 → behindY ks ps q (3 + z3)) := fun e => BH.out d1 d2 q rfl e
                          clear BH
                          generalize ks.getD q 0 = kq at *
                          by_cases d4 : kq = 1
                          · have g4 : (kq == 1) = true := by simpa using d4
                            have HBY := Lib.hid (HBQ.out d4)
                            have hw3 : IntKind.i64.wrap (3 + z3) = 3 + z3 := by rw [IntKind.wrap_i64]; omega
                            go_wp2_with (go_at_call 17; refine WI3.out.mono ?_; rintro e w4 ⟨rfl, rfl⟩)
                            go_roundw
                            case rel => exact ⟨j + 1, by omega, by go_num, Lib.hid trivial, _, rfl, by omega, by omega, HBY⟩
                            case measure => simp [intOf]; omega
                          · have g4 : (kq == 1) = false := by simpa using d4
                            go_wp2
                            go_roundw
                            case rel => exact ⟨j + 1, by omega, by go_num, Lib.hid trivial, _, rfl, by omega, by omega, HV⟩
                            case measure => simp [intOf]; omega
                        · go_wp2
                          go_roundw
                          case rel => exact ⟨j + 1, by omega, by go_num, Lib.hid trivial, _, rfl, by omega, by omega, HV⟩
                          case measure => simp [intOf]; omega
                      · go_wp2
                        go_roundw
                        case rel => exact ⟨j + 1, by omega, by go_num, Lib.hid trivial, _, rfl, by omega, by omega, HV⟩
                        case measure => simp [intOf]; omega
                    · have g1 : (pj == p) = false := by simpa using d1
                      go_wp2
                      go_roundw
                      case rel => exact ⟨j + 1, by omega, by go_num, Lib.hid trivial, _, rfl, by omega, by omega, HV⟩
                      case measure => simp [intOf]; omega
                  · go_wp2
                    go_meet
                    exact ⟨rfl, _, rfl, by omega, by omega, HV⟩
              · go_upto_region 16 with (fail)
                go_loopw [8, 54] (fun y i wx => ∃ j : Nat, j ≤ k ∧ i = .int .i64 j ∧ Hid (wx = wr) ∧ ∃ v : Int, y = .int .i64 v ∧ 1 ≤ v ∧ v ≤ 4 ∧ Hid (behindY ks ps p v)) (fun _ i _ => k - (intOf i).toNat)
                case atStart => exact ⟨0, Nat.zero_le _, rfl, Lib.hid rfl, 1, rfl, by omega, by omega, Lib.hid (behindY.no (by omega))⟩
                case round =>
                  obtain ⟨j, hj, rfl, HW, v, rfl, hv1, hv2, HV⟩ := hrel
                  have hw9 := HW.out
                  subst hw9
                  by_cases hjk : j < k
                  · have hji : (j : Int) < k := by omega
                    have h4j := HC4.out j hjk
                    have h5j := HC5.out j hjk
                    have BH : Hid (ps.getD j 0 = p → ks.getD j 0 ≤ 2 → ∀ q : Nat, p = q → ks.getD q 0 = 1 → behindY ks ps p (3 + z3)) := fun e1 e2 q e3 e4 => HOk.out.behind (by have := HLen.out.1; omega) e1 e2 e3 e4
                    generalize ps.getD j 0 = pj at *
                    generalize ks.getD j 0 = kj at *
                    by_cases d1 : pj = p
                    · have g1 : (pj == p) = true := by simpa using d1
                      by_cases d2 : kj ≤ 2
                      · by_cases d3 : 0 ≤ p
                        · obtain ⟨q, rfl⟩ : ∃ q : Nat, p = q := ⟨p.toNat, by omega⟩
                          have hqk : q < k := by omega
                          have h4q := HC4.out q hqk
                          have HBQ : Hid (ks.getD q 0 = 1 → behindY ks ps q (3 + z3)) := fun e => BH.out d1 d2 q rfl e
                          clear BH
                          generalize ks.getD q 0 = kq at *
                          by_cases d4 : kq = 1
                          · have g4 : (kq == 1) = true := by simpa using d4
                            have HBY := Lib.hid (HBQ.out d4)
                            have hw3 : IntKind.i64.wrap (3 + z3) = 3 + z3 := by rw [IntKind.wrap_i64]; omega
                            go_wp2_with (go_at_call 17; refine WI3.out.mono ?_; rintro e w4 ⟨rfl, rfl⟩)
                            go_roundw
                            case rel => exact ⟨j + 1, by omega, by go_num, Lib.hid trivial, _, rfl, by omega, by omega, HBY⟩
                            case measure => simp [intOf]; omega
                          · have g4 : (kq == 1) = false := by simpa using d4
                            go_wp2
                            go_roundw
                            case rel => exact ⟨j + 1, by omega, by go_num, Lib.hid trivial, _, rfl, by omega, by omega, HV⟩
                            case measure => simp [intOf]; omega
                        · go_wp2
                          go_roundw
                          case rel => exact ⟨j + 1, by omega, by go_num, Lib.hid trivial, _, rfl, by omega, by omega, HV⟩
                          case measure => simp [intOf]; omega
                      · go_wp2
                        go_roundw
                        case rel => exact ⟨j + 1, by omega, by go_num, Lib.hid trivial, _, rfl, by omega, by omega, HV⟩
                        case measure => simp [intOf]; omega
                    · have g1 : (pj == p) = false := by simpa using d1
                      go_wp2
                      go_roundw
                      case rel => exact ⟨j + 1, by omega, by go_num, Lib.hid trivial, _, rfl, by omega, by omega, HV⟩
                      case measure => simp [intOf]; omega
                  · go_wp2
                    go_meet
                    exact ⟨rfl, _, rfl, by omega, by omega, HV⟩
              · have g0 : (z2 == 0) = false := beq_eq_false_iff_ne.2 (by omega)
                have g1 : (z2 == 1) = false := beq_eq_false_iff_ne.2 (by omega)
                have g2 : (z2 == 2) = false := beq_eq_false_iff_ne.2 (by omega)
                have g3 : (z2 == 3) = false := beq_eq_false_iff_ne.2 (by omega)
                go_wp2
                go_meet
                exact ⟨rfl, _, rfl, by omega, by omega, Lib.hid (behindY.no (by omega))⟩
            case rest =>
              obtain ⟨hw9, y, rfl, hy1, hy2, HBY⟩ := hcut
              subst hw9
              obtain ⟨wr, rfl⟩ : ∃ w1 : World, w1 = wc := ⟨_, rfl⟩
              have o4 : wr.ownsRow w2.heap.size 3 1 (.slice (some ⟨g, 0, none⟩) k c) k (icells ks) := by
                have := HT.out.2.1
                unfold OwnI at this
                rwa [HLen.out.1] at this
              have o5 : wr.ownsRow w2.heap.size 3 1 (.slice (some ⟨g', 0, none⟩) k c') k (icells ps) := by
                have := HT.out.2.2
                unfold OwnI at this
                rwa [HLen.out.2] at this
              have hne := HT.out.1
              have hbz := HB.out.size
              have hg5 := (o5.lt g' rfl).2
              clear WI1 WI2 WI3 HC4 HC5
              have tokA : True := trivial
              go_wp2_with (first
                | (have _t := tokA; at_builtin; go_must (refine wpList_append_lies _ rfl (.tmp 89) (.tmp 91) 22 rfl w2.heap.size 3 i0 _ 1 8 Try.underlying22 hi hz0 hz1 hz2 rfl (by decide) _ _ _ rfl (o4.alloc _) ⟨wr.heap.size, 0, none⟩ 1 1 [.int .i64 y] rfl rfl (cells_new _ _ _) (by intro u hu; simp at hu; subst hu; rfl) (by omega) (by unfold maxLen; omega) (by omega) (by simp; omega) _ rfl ?_); intro g2 cap2 w4 own4 grow4 at4 lt4; have o5b := World.ownsRow.kept (o5.alloc _) grow4 (.inr (fun e => hne (Option.some.inj e).symm)); clear tokA _t)
                | (at_builtin; go_must (refine wpList_append_lies _ rfl (.tmp 93) (.tmp 95) 22 rfl w2.heap.size 3 i0 _ 1 8 Try.underlying22 hi hz0 hz1 hz2 rfl (by decide) _ _ _ rfl (o5b.alloc _) ⟨w4.heap.size, 0, none⟩ 1 1 [.int .i64 p] rfl rfl (cells_new _ _ _) (by intro u hu; simp at hu; subst hu; rfl) (by omega) (by unfold maxLen; omega) (by omega) (by have := grow4.size; simp at this; simp; omega) _ rfl ?_); intro g3 cap3 w6 own6 grow6 at6 lt6))
              have hs4 := grow4.size
              have hs6 := grow6.size
              have hg2 : g2 ≠ g' := by
                rcases at4 with e | e
                · have := Option.some.inj e; simp only at this; omega
                · simp at e; omega
              have own4b := World.ownsRow.kept (own4.alloc (.cells #[.int .i64 p] 3)) grow6 (.inr (fun e => hg2 (Option.some.inj e)))
              have hg3 : g2 ≠ g3 := by
                rcases at6 with e | e
                · have := Option.some.inj e; simp only at this; omega
                · simp at e; omega
              have TN : Hid (TwoAt w6 w2.heap.size g2 cap2 g3 cap3 (ks ++ [y]) (ps ++ [p])) := by
                refine ⟨hg3, ?_, ?_⟩
                · unfold OwnI
                  rw [List.length_append, HLen.out.1]
                  have e : icells (ks ++ [y]) = icells ks ++ [.int .i64 y] := by simp [icells]
                  rw [e]; exact own4b
                · unfold OwnI
                  rw [List.length_append, HLen.out.2]
                  have e : icells (ps ++ [p]) = icells ps ++ [.int .i64 p] := by simp [icells]
                  rw [e]; exact own6
              have hgr1 : wr.grownBy w4 (some g) := (World.grownBy_alloc _ _ _).andThen grow4 (fun j e => .inr e)
              have hgr2 : w4.grownBy w6 (some g') := (World.grownBy_alloc _ _ _).andThen grow6 (fun j e => .inr e)
              have HB4 := HB.out.grown hgr1 hbz (fun j e => by injection e with e; subst e; exact (o4.lt g rfl).1)
              have HB6 := Lib.hid (HB4.grown hgr2 (by simp at hs4; omega) (fun j e => by injection e with e; subst e; exact (o5.lt g' rfl).1))
              have OKN : Hid (ShW (ks ++ [y]) (ps ++ [p]) (k + 1)) := HOk.out.snoc HLen.out.1 (by omega) ⟨hy1, hy2⟩ ⟨hp1, hp2⟩ HPO.out HBY.out
              have OIN : Hid (okI (ks ++ [y]) ∧ okI (ps ++ [p])) := ⟨okI_snoc HOI.out.1 (wf_near (by omega) (by omega)), okI_snoc HOI.out.2 (wf_near (by omega) (by omega))⟩
              have LN : Hid ((ks ++ [y]).length = k + 1 ∧ (ps ++ [p]).length = k + 1) := ⟨by rw [List.length_append, HLen.out.1]; rfl, by rw [List.length_append, HLen.out.2]; rfl⟩
              clear own4 own6 own4b o4 o5 o5b grow4 grow6 at4 at6 hs4 hs6 hgr1 hgr2 HB4
              go_roundw
              case rel => exact ⟨k + 1, g2, cap2, g3, cap3, ks ++ [y], ps ++ [p], by omega, by omega, by go_num, rfl, rfl, LN, OKN, OIN, TN, HB6⟩
              case measure => simp [intOf]; omega
    ·
      go_upto_region 22 with (fail)
      go_cut [106] (fun x wx => wx = wr ∧ ∃ b : Bool, x = .bool b)
      case first =>
        by_cases h0 : 0 < l.length
        · obtain ⟨b, off, rfl, hb, hx, hwf⟩ := ints_cell (HL2.out.below HB.out) (k := 0) h0
          have h0i : (0 : Int) < l.length := by omega
          rw [Nat.add_zero] at hx
          generalize l.getD 0 0 = z at *
          go_wp2
          go_meet
          exact ⟨rfl, _, rfl⟩
        · have h0i : ¬ (0 : Int) < l.length := by omega
          go_wp2
          go_meet
          exact ⟨rfl, _, rfl⟩
      case rest =>
        obtain ⟨hw9, bb, rfl⟩ := hcut
        subst hw9
        obtain ⟨wr, rfl⟩ : ∃ w1 : World, w1 = wc := ⟨_, rfl⟩
        go_upto_if 106 with fail
        go_cut [] (fun wx => ∃ ks2 : List Int, Hid (ks2.length = k) ∧ Hid (ShW ks2 ps k) ∧ Hid (okI ks2) ∧ Hid (TwoAt wx w2.heap.size g c g' c' ks2 ps) ∧ Hid (Below w2.heap.size w2 wx))
        case first =>
          cases bb
          · go_wp2
            go_meet
            exact ⟨ks, Lib.hid HLen.out.1, HOk, Lib.hid HOI.out.1, HT, HB⟩
          · have hki : (0 : Int) < k := by omega
            have fz := HT.out.frozen 0
            have c40 := own_cell HT.out.2.1 (k := 0) (by have := HLen.out.1; omega)
            generalize ks.getD 0 0 = k0 at c40
            have T2 := Lib.hid (HT.out.store (i := 0) (x := 2) (by have := HLen.out.1; omega))
            have B2 := Lib.hid (set_below (k := 0) (u := .int .i64 2) HB.out HB.out.size HT.out.base)
            have OK2 := Lib.hid (HOk.out.first (by have := HLen.out.1; omega))
            have OI2 := Lib.hid (okI_set HOI.out.1 0 (x := 2) (wf_near (by omega) (by omega)))
            have L2 : Hid ((ks.set 0 2).length = k) := by show _ = _; rw [List.length_set]; exact HLen.out.1
            go_upto_region 24 with (fail)
            clear fz c40
            generalize wr.setCell ⟨g, 0, none⟩ (.int .i64 2) = w5 at *
            generalize ks.set 0 2 = ks1 at *
            go_upto_region 25 with (fail)
            go_loopw [111] (fun i wx => ∃ (j : Nat) (ks2 : List Int), j ≤ k ∧ i = .int .i64 j ∧ Hid (ks2.length = k) ∧ Hid (ShW ks2 ps j) ∧ Hid (okI ks2) ∧ Hid (TwoAt wx w2.heap.size g c g' c' ks2 ps) ∧ Hid (Below w2.heap.size w2 wx)) (fun i _ => k - (intOf i).toNat)
            case atStart => exact ⟨0, ks1, Nat.zero_le _, rfl, L2, OK2, OI2, T2, B2⟩
            case round =>
              obtain ⟨j, ks2, hj, rfl, L3, OK3, OI3, T3, B3⟩ := hrel
              by_cases hjk : j < k
              · have hji : (j : Int) < k := by omega
                have c4 := own_cell T3.out.2.1 (k := j) (by have := L3.out; omega)
                have c5 := own_cell T3.out.2.2 (k := j) (by have := HLen.out.2; omega)
                have fz := T3.out.frozen j
                have T4 := Lib.hid (T3.out.store (i := j) (x := 1) (by have := L3.out; omega))
                have B4 := Lib.hid (set_below (k := j) (u := .int .i64 1) B3.out B3.out.size T3.out.base)
                have OK4 := Lib.hid (OK3.out.plain (by have := L3.out; omega))
                have OK5 : Hid (ps.getD j 0 ≠ 0 ∨ ks2.getD j 0 ≤ 2 → ShW ks2 ps (j + 1)) := OK3.out.next
                have OI4 := Lib.hid (okI_set OI3.out j (x := 1) (wf_near (by omega) (by omega)))
                have L4 : Hid ((ks2.set j 1).length = k) := by show _ = _; rw [List.length_set]; exact L3.out
                generalize ks2.getD j 0 = kj at *
                generalize ps.getD j 0 = pj at *
                by_cases d1 : pj = 0
                · have g1 : (pj == 0) = true := by simpa using d1
                  by_cases d2 : (3 : Int) ≤ kj
                  · go_wp2
                    go_roundw
                    case rel => exact ⟨j + 1, ks2.set j 1, by omega, by go_num, L4, OK4, OI4, T4, B4⟩
                    case measure => simp [intOf]; omega
                  · have OK6 := Lib.hid (OK5.out (.inr (by omega)))
                    clear OK5
                    go_wp2
                    go_roundw
                    case rel => exact ⟨j + 1, ks2, by omega, by go_num, L3, OK6, OI3, T3, B3⟩
                    case measure => simp [intOf]; omega
                · have g1 : (pj == 0) = false := by simpa using d1
                  have OK6 := Lib.hid (OK5.out (.inl d1))
                  clear OK5
                  go_wp2
                  go_roundw
                  case rel => exact ⟨j + 1, ks2, by omega, by go_num, L3, OK6, OI3, T3, B3⟩
                  case measure => simp [intOf]; omega
              · have OK6 := Lib.hid (OK3.out.ge (k := k) (by omega))
                go_wp2
                go_meet
                exact ⟨ks2, L3, OK6, OI3, T3, B3⟩
        case rest =>
          obtain ⟨ks2, L3, OK3, OI3, T3, B3⟩ := hcut
          have o4 := T3.out.2.1
          have o5 := T3.out.2.2
          have n4 := (World.ownsRow.lt o4 g rfl)
          have n5 := (World.ownsRow.lt o5 g' rfl)
          have I4 : Hid (IntsAt wc (.slice (some ⟨g, 0, none⟩) ks2.length c) ks2) := ints_of_own o4 OI3.out (by have := L3.out; omega)
          have I5 : Hid (IntsAt wc (.slice (some ⟨g', 0, none⟩) ps.length c') ps) := ints_of_own o5 HOI.out.2 (by have := HLen.out.2; omega)
          have CK := Lib.hid (fun W (hW : Below wc.heap.size wc W) => CopyI_any ks2 (some ⟨g, 0, none⟩) c W (I4.out.below hW) (by have := L3.out; omega))
          have CP := Lib.hid (fun W (hW : Below wc.heap.size wc W) => CopyI_any ps (some ⟨g', 0, none⟩) c' W (I5.out.below hW) (by have := HLen.out.2; omega))
          rw [L3.out] at CK
          rw [HLen.out.2] at CP
          have HO4 := Lib.hid o4
          have HO5 := Lib.hid o5
          have h00 : Below wc.heap.size wc wc := Below.refl _ _
          have hb3 := B3.out.size
          have ha1 : ∀ W, Below wc.heap.size wc W → W.heap[w.heap.size]? = some (.cells #[.slice none 0 0, .slice none 0 0] 24 (0, 0)) := fun W hW => by
            rw [hW.block _ (by omega), B3.out.block _ (by omega)]; exact R1.out
          have ha2 : ∀ W, Below wc.heap.size wc W → W.heap[w.heap.size + 1]? = some (.cells #[.slice none 0 0, .slice none 0 0] 25 (0, 0)) := fun W hW => by
            rw [hW.block _ (by omega), B3.out.block _ (by omega)]; exact R2.out
          have HA1 := Lib.hid ha1
          have HA2 := Lib.hid ha2
          clear o4 o5 ha1 ha2
          have tokC : True := trivial
          go_wp2_with (first
            | (have _t := tokC; go_at_call 33; refine (CK.out _ h00).mono ?_; rintro e w5 ⟨v1, rfl, oK, hb5⟩; obtain ⟨A9, c9, rfl⟩ := own_slice oK; rw [L3.out]; clear tokC _t)
            | (go_at_call 33; refine (CP.out _ hb5).mono ?_; rintro e w6 ⟨v2, rfl, oP, hb6⟩; obtain ⟨B9, d9, rfl⟩ := own_slice oP; rw [HLen.out.2]; have h6 := below_then hb5 hb6 hb5.size; have r1 := HA1.out _ h6; have r2 := HA2.out _ h6; have f0 := row2_fz r1 0; have f1 := row2_fz r1 1; have f2 := row2_fz r2 0; have f3 := row2_fz r2 1; have q0 := row2_q0 r1; have q1 := row2_q1 r1; have q2 := row2_q0 r2; have q3 := row2_q1 r2; have RR1 := Lib.hid r1; have RR2 := Lib.hid r2; clear r1 r2))
          have J1 : Hid (∀ u0 u1 u2 u3, IntsAt ((((w6.setCell ⟨w.heap.size, 0, none⟩ u0).setCell ⟨w.heap.size, 1, none⟩ u1).setCell ⟨w.heap.size + 1, 0, none⟩ u2).setCell ⟨w.heap.size + 1, 1, none⟩ u3) (.slice (some ⟨g, 0, none⟩) k c) ks2) := fun u0 u1 u2 u3 => by
            have := ints_of_own (own_four (own_below HO4.out h6 hb3) hs2 u0 u1 u2 u3) OI3.out (by have := L3.out; omega)
            rwa [L3.out] at this
          have J2 : Hid (∀ u0 u1 u2 u3, IntsAt ((((w6.setCell ⟨w.heap.size, 0, none⟩ u0).setCell ⟨w.heap.size, 1, none⟩ u1).setCell ⟨w.heap.size + 1, 0, none⟩ u2).setCell ⟨w.heap.size + 1, 1, none⟩ u3) (.slice (some ⟨g', 0, none⟩) k c') ps) := fun u0 u1 u2 u3 => by
            have := ints_of_own (own_four (own_below HO5.out h6 hb3) hs2 u0 u1 u2 u3) HOI.out.2 (by have := HLen.out.2; omega)
            rwa [HLen.out.2] at this
          have J3 : Hid (∀ u0 u1 u2 u3, IntsAt ((((w6.setCell ⟨w.heap.size, 0, none⟩ u0).setCell ⟨w.heap.size, 1, none⟩ u1).setCell ⟨w.heap.size + 1, 0, none⟩ u2).setCell ⟨w.heap.size + 1, 1, none⟩ u3) (.slice A9 k c9) ks2) := fun u0 u1 u2 u3 => by
            have hq : w.heap.size + 2 ≤ wc.heap.size := by omega
            have := ints_of_own (own_four (base := wc.heap.size) (b := w.heap.size) (own_below oK hb6 hb5.size) hq u0 u1 u2 u3) OI3.out (by have := L3.out; omega)
            rwa [L3.out] at this
          have J4 : Hid (∀ u0 u1 u2 u3, IntsAt ((((w6.setCell ⟨w.heap.size, 0, none⟩ u0).setCell ⟨w.heap.size, 1, none⟩ u1).setCell ⟨w.heap.size + 1, 0, none⟩ u2).setCell ⟨w.heap.size + 1, 1, none⟩ u3) (.slice B9 k d9) ps) := fun u0 u1 u2 u3 => by
            have hq : w.heap.size + 2 ≤ w5.heap.size := by have := hb5.size; omega
            have := ints_of_own (own_four (base := w5.heap.size) (b := w.heap.size) oP hq u0 u1 u2 u3) HOI.out.2 (by have := HLen.out.2; omega)
            rwa [HLen.out.2] at this
          have HBF : Hid (∀ u0 u1 u2 u3, Below w.heap.size w ((((w6.setCell ⟨w.heap.size, 0, none⟩ u0).setCell ⟨w.heap.size, 1, none⟩ u1).setCell ⟨w.heap.size + 1, 0, none⟩ u2).setCell ⟨w.heap.size + 1, 1, none⟩ u3)) := fun u0 u1 u2 u3 =>
            below_four (below_then HB0.out (below_then B3.out h6 hb3) HB0.out.size) u0 u1 u2 u3
          have RX : Hid (∀ u0 u1 u2 u3, ((((w6.setCell ⟨w.heap.size, 0, none⟩ u0).setCell ⟨w.heap.size, 1, none⟩ u1).setCell ⟨w.heap.size + 1, 0, none⟩ u2).setCell ⟨w.heap.size + 1, 1, none⟩ u3).heap[w.heap.size]? = some (.cells #[u0, u1] 24 (0, 0)) ∧
              ((((w6.setCell ⟨w.heap.size, 0, none⟩ u0).setCell ⟨w.heap.size, 1, none⟩ u1).setCell ⟨w.heap.size + 1, 0, none⟩ u2).setCell ⟨w.heap.size + 1, 1, none⟩ u3).heap[w.heap.size + 1]? = some (.cells #[u2, u3] 25 (0, 0))) := fun u0 u1 u2 u3 => rows_four RR1.out RR2.out u0 u1 u2 u3
          clear f0 f1 f2 f3 q0 q1 q2 q3 RR1 RR2 oK oP hb5 hb6 h6
          (try simp only [Exit.inBlock, Exit.then])
          refine bodyPost_ret (run_cell2 rfl _ _ w.heap.size (w.heap.size + 1) _ _ _ _ _ _ _ _ rfl rfl (RX.out _ _ _ _).1 (RX.out _ _ _ _).2 Try.underlying24 rfl (by kernel_rfl) Try.underlying25 rfl (by kernel_rfl)) rfl ?_
          exact ⟨_, _, _, _, _, _, _, _, k, ks2, ps, rfl, OK3.out.1, OK3.out.shF L3.out (by omega), by omega, hk12, L3.out.symm, ⟨J1.out _ _ _ _, J2.out _ _ _ _⟩, ⟨J3.out _ _ _ _, J4.out _ _ _ _⟩, HBF.out _ _ _ _⟩
    ·
      go_upto_region 22 with (fail)
      go_cut [106] (fun x wx => wx = wr ∧ ∃ b : Bool, x = .bool b)
      case first =>
        by_cases h0 : 0 < l.length
        · obtain ⟨b, off, rfl, hb, hx, hwf⟩ := ints_cell (HL2.out.below HB.out) (k := 0) h0
          have h0i : (0 : Int) < l.length := by omega
          rw [Nat.add_zero] at hx
          generalize l.getD 0 0 = z at *
          go_wp2
          go_meet
          exact ⟨rfl, _, rfl⟩
        · have h0i : ¬ (0 : Int) < l.length := by omega
          go_wp2
          go_meet
          exact ⟨rfl, _, rfl⟩
      case rest =>
        obtain ⟨hw9, bb, rfl⟩ := hcut
        subst hw9
        obtain ⟨wr, rfl⟩ : ∃ w1 : World, w1 = wc := ⟨_, rfl⟩
        go_upto_if 106 with fail
        go_cut [] (fun wx => ∃ ks2 : List Int, Hid (ks2.length = k) ∧ Hid (ShW ks2 ps k) ∧ Hid (okI ks2) ∧ Hid (TwoAt wx w2.heap.size g c g' c' ks2 ps) ∧ Hid (Below w2.heap.size w2 wx))
        case first =>
          cases bb
          · go_wp2
            go_meet
            exact ⟨ks, Lib.hid HLen.out.1, HOk, Lib.hid HOI.out.1, HT, HB⟩
          · have hki : (0 : Int) < k := by omega
            have fz := HT.out.frozen 0
            have c40 := own_cell HT.out.2.1 (k := 0) (by have := HLen.out.1; omega)
            generalize ks.getD 0 0 = k0 at c40
            have T2 := Lib.hid (HT.out.store (i := 0) (x := 2) (by have := HLen.out.1; omega))
            have B2 := Lib.hid (set_below (k := 0) (u := .int .i64 2) HB.out HB.out.size HT.out.base)
            have OK2 := Lib.hid (HOk.out.first (by have := HLen.out.1; omega))
            have OI2 := Lib.hid (okI_set HOI.out.1 0 (x := 2) (wf_near (by omega) (by omega)))
            have L2 : Hid ((ks.set 0 2).length = k) := by show _ = _; rw [List.length_set]; exact HLen.out.1
            go_upto_region 24 with (fail)
            clear fz c40
            generalize wr.setCell ⟨g, 0, none⟩ (.int .i64 2) = w5 at *
            generalize ks.set 0 2 = ks1 at *
            go_upto_region 25 with (fail)
            go_loopw [111] (fun i wx => ∃ (j : Nat) (ks2 : List Int), j ≤ k ∧ i = .int .i64 j ∧ Hid (ks2.length = k) ∧ Hid (ShW ks2 ps j) ∧ Hid (okI ks2) ∧ Hid (TwoAt wx w2.heap.size g c g' c' ks2 ps) ∧ Hid (Below w2.heap.size w2 wx)) (fun i _ => k - (intOf i).toNat)
            case atStart => exact ⟨0, ks1, Nat.zero_le _, rfl, L2, OK2, OI2, T2, B2⟩
            case round =>
              obtain ⟨j, ks2, hj, rfl, L3, OK3, OI3, T3, B3⟩ := hrel
              by_cases hjk : j < k
              · have hji : (j : Int) < k := by omega
                have c4 := own_cell T3.out.2.1 (k := j) (by have := L3.out; omega)
                have c5 := own_cell T3.out.2.2 (k := j) (by have := HLen.out.2; omega)
                have fz := T3.out.frozen j
                have T4 := Lib.hid (T3.out.store (i := j) (x := 1) (by have := L3.out; omega))
                have B4 := Lib.hid (set_below (k := j) (u := .int .i64 1) B3.out B3.out.size T3.out.base)
                have OK4 := Lib.hid (OK3.out.plain (by have := L3.out; omega))
                have OK5 : Hid (ps.getD j 0 ≠ 0 ∨ ks2.getD j 0 ≤ 2 → ShW ks2 ps (j + 1)) := OK3.out.next
                have OI4 := Lib.hid (okI_set OI3.out j (x := 1) (wf_near (by omega) (by omega)))
                have L4 : Hid ((ks2.set j 1).length = k) := by show _ = _; rw [List.length_set]; exact L3.out
                generalize ks2.getD j 0 = kj at *
                generalize ps.getD j 0 = pj at *
                by_cases d1 : pj = 0
                · have g1 : (pj == 0) = true := by simpa using d1
                  by_cases d2 : (3 : Int) ≤ kj
                  · go_wp2
                    go_roundw
                    case rel => exact ⟨j + 1, ks2.set j 1, by omega, by go_num, L4, OK4, OI4, T4, B4⟩
                    case measure => simp [intOf]; omega
                  · have OK6 := Lib.hid (OK5.out (.inr (by omega)))
                    clear OK5
                    go_wp2
                    go_roundw
                    case rel => exact ⟨j + 1, ks2, by omega, by go_num, L3, OK6, OI3, T3, B3⟩
                    case measure => simp [intOf]; omega
                · have g1 : (pj == 0) = false := by simpa using d1
                  have OK6 := Lib.hid (OK5.out (.inl d1))
                  clear OK5
                  go_wp2
                  go_roundw
                  case rel => exact ⟨j + 1, ks2, by omega, by go_num, L3, OK6, OI3, T3, B3⟩
                  case measure => simp [intOf]; omega
              · have OK6 := Lib.hid (OK3.out.ge (k := k) (by omega))
                go_wp2
                go_meet
                exact ⟨ks2, L3, OK6, OI3, T3, B3⟩
        case rest =>
          obtain ⟨ks2, L3, OK3, OI3, T3, B3⟩ := hcut
          have o4 := T3.out.2.1
          have o5 := T3.out.2.2
          have n4 := (World.ownsRow.lt o4 g rfl)
          have n5 := (World.ownsRow.lt o5 g' rfl)
          have I4 : Hid (IntsAt wc (.slice (some ⟨g, 0, none⟩) ks2.length c) ks2) := ints_of_own o4 OI3.out (by have := L3.out; omega)
          have I5 : Hid (IntsAt wc (.slice (some ⟨g', 0, none⟩) ps.length c') ps) := ints_of_own o5 HOI.out.2 (by have := HLen.out.2; omega)
          have CK := Lib.hid (fun W (hW : Below wc.heap.size wc W) => CopyI_any ks2 (some ⟨g, 0, none⟩) c W (I4.out.below hW) (by have := L3.out; omega))
          have CP := Lib.hid (fun W (hW : Below wc.heap.size wc W) => CopyI_any ps (some ⟨g', 0, none⟩) c' W (I5.out.below hW) (by have := HLen.out.2; omega))
          rw [L3.out] at CK
          rw [HLen.out.2] at CP
          have HO4 := Lib.hid o4
          have HO5 := Lib.hid o5
          have h00 : Below wc.heap.size wc wc := Below.refl _ _
          have hb3 := B3.out.size
          have ha1 : ∀ W, Below wc.heap.size wc W → W.heap[w.heap.size]? = some (.cells #[.slice none 0 0, .slice none 0 0] 24 (0, 0)) := fun W hW => by
            rw [hW.block _ (by omega), B3.out.block _ (by omega)]; exact R1.out
          have ha2 : ∀ W, Below wc.heap.size wc W → W.heap[w.heap.size + 1]? = some (.cells #[.slice none 0 0, .slice none 0 0] 25 (0, 0)) := fun W hW => by
            rw [hW.block _ (by omega), B3.out.block _ (by omega)]; exact R2.out
          have HA1 := Lib.hid ha1
          have HA2 := Lib.hid ha2
          clear o4 o5 ha1 ha2
          have tokC : True := trivial
          go_wp2_with (first
            | (have _t := tokC; go_at_call 33; refine (CK.out _ h00).mono ?_; rintro e w5 ⟨v1, rfl, oK, hb5⟩; obtain ⟨A9, c9, rfl⟩ := own_slice oK; rw [L3.out]; clear tokC _t)
            | (go_at_call 33; refine (CP.out _ hb5).mono ?_; rintro e w6 ⟨v2, rfl, oP, hb6⟩; obtain ⟨B9, d9, rfl⟩ := own_slice oP; rw [HLen.out.2]; have h6 := below_then hb5 hb6 hb5.size; have r1 := HA1.out _ h6; have r2 := HA2.out _ h6; have f0 := row2_fz r1 0; have f1 := row2_fz r1 1; have f2 := row2_fz r2 0; have f3 := row2_fz r2 1; have q0 := row2_q0 r1; have q1 := row2_q1 r1; have q2 := row2_q0 r2; have q3 := row2_q1 r2; have RR1 := Lib.hid r1; have RR2 := Lib.hid r2; clear r1 r2))
          have J1 : Hid (∀ u0 u1 u2 u3, IntsAt ((((w6.setCell ⟨w.heap.size, 0, none⟩ u0).setCell ⟨w.heap.size, 1, none⟩ u1).setCell ⟨w.heap.size + 1, 0, none⟩ u2).setCell ⟨w.heap.size + 1, 1, none⟩ u3) (.slice (some ⟨g, 0, none⟩) k c) ks2) := fun u0 u1 u2 u3 => by
            have := ints_of_own (own_four (own_below HO4.out h6 hb3) hs2 u0 u1 u2 u3) OI3.out (by have := L3.out; omega)
            rwa [L3.out] at this
          have J2 : Hid (∀ u0 u1 u2 u3, IntsAt ((((w6.setCell ⟨w.heap.size, 0, none⟩ u0).setCell ⟨w.heap.size, 1, none⟩ u1).setCell ⟨w.heap.size + 1, 0, none⟩ u2).setCell ⟨w.heap.size + 1, 1, none⟩ u3) (.slice (some ⟨g', 0, none⟩) k c') ps) := fun u0 u1 u2 u3 => by
            have := ints_of_own (own_four (own_below HO5.out h6 hb3) hs2 u0 u1 u2 u3) HOI.out.2 (by have := HLen.out.2; omega)
            rwa [HLen.out.2] at this
          have J3 : Hid (∀ u0 u1 u2 u3, IntsAt ((((w6.setCell ⟨w.heap.size, 0, none⟩ u0).setCell ⟨w.heap.size, 1, none⟩ u1).setCell ⟨w.heap.size + 1, 0, none⟩ u2).setCell ⟨w.heap.size + 1, 1, none⟩ u3) (.slice A9 k c9) ks2) := fun u0 u1 u2 u3 => by
            have hq : w.heap.size + 2 ≤ wc.heap.size := by omega
            have := ints_of_own (own_four (base := wc.heap.size) (b := w.heap.size) (own_below oK hb6 hb5.size) hq u0 u1 u2 u3) OI3.out (by have := L3.out; omega)
            rwa [L3.out] at this
          have J4 : Hid (∀ u0 u1 u2 u3, IntsAt ((((w6.setCell ⟨w.heap.size, 0, none⟩ u0).setCell ⟨w.heap.size, 1, none⟩ u1).setCell ⟨w.heap.size + 1, 0, none⟩ u2).setCell ⟨w.heap.size + 1, 1, none⟩ u3) (.slice B9 k d9) ps) := fun u0 u1 u2 u3 => by
            have hq : w.heap.size + 2 ≤ w5.heap.size := by have := hb5.size; omega
            have := ints_of_own (own_four (base := w5.heap.size) (b := w.heap.size) oP hq u0 u1 u2 u3) HOI.out.2 (by have := HLen.out.2; omega)
            rwa [HLen.out.2] at this
          have HBF : Hid (∀ u0 u1 u2 u3, Below w.heap.size w ((((w6.setCell ⟨w.heap.size, 0, none⟩ u0).setCell ⟨w.heap.size, 1, none⟩ u1).setCell ⟨w.heap.size + 1, 0, none⟩ u2).setCell ⟨w.heap.size + 1, 1, none⟩ u3)) := fun u0 u1 u2 u3 =>
            below_four (below_then HB0.out (below_then B3.out h6 hb3) HB0.out.size) u0 u1 u2 u3
          have RX : Hid (∀ u0 u1 u2 u3, ((((w6.setCell ⟨w.heap.size, 0, none⟩ u0).setCell ⟨w.heap.size, 1, none⟩ u1).setCell ⟨w.heap.size + 1, 0, none⟩ u2).setCell ⟨w.heap.size + 1, 1, none⟩ u3).heap[w.heap.size]? = some (.cells #[u0, u1] 24 (0, 0)) ∧
              ((((w6.setCell ⟨w.heap.size, 0, none⟩ u0).setCell ⟨w.heap.size, 1, none⟩ u1).setCell ⟨w.heap.size + 1, 0, none⟩ u2).setCell ⟨w.heap.size + 1, 1, none⟩ u3).heap[w.heap.size + 1]? = some (.cells #[u2, u3] 25 (0, 0))) := fun u0 u1 u2 u3 => rows_four RR1.out RR2.out u0 u1 u2 u3
          clear f0 f1 f2 f3 q0 q1 q2 q3 RR1 RR2 oK oP hb5 hb6 h6
          (try simp only [Exit.inBlock, Exit.then])
          refine bodyPost_ret (run_cell2 rfl _ _ w.heap.size (w.heap.size + 1) _ _ _ _ _ _ _ _ rfl rfl (RX.out _ _ _ _).1 (RX.out _ _ _ _).2 Try.underlying24 rfl (by kernel_rfl) Try.underlying25 rfl (by kernel_rfl)) rfl ?_
          exact ⟨_, _, _, _, _, _, _, _, k, ks2, ps, rfl, OK3.out.1, OK3.out.shF L3.out (by omega), by omega, hk12, L3.out.symm, ⟨J1.out _ _ _ _, J2.out _ _ _ _⟩, ⟨J3.out _ _ _ _, J4.out _ _ _ _⟩, HBF.out _ _ _ _⟩
end Go.Proofs.Ytaolebdcmdmnjaa
