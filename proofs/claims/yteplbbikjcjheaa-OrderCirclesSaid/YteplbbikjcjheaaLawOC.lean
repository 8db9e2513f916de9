/-
  OrderCircles: the walk.
-/
import Derived.Test.YteplbbikjcjheaaCirc1
import Derived.Test.YteplbbikjcjheaaKeepO
namespace Go.Proofs.Yteplbbikjcjheaa
set_option maxRecDepth 100000
open Go.ChangeShapes Go.WideShapes Go.ChangeAt Go.RowKit

theorem circL_take (N k : Nat) : (circL (N + k)).take N = (List.range N).map fun i => (i, sucN (N + k) i) := by
  unfold circL; rw [← List.map_take, List.take_range]; congr 2; omega
def roundTo (N k : Nat) : List (Nat × Nat) := (circL N).take k
theorem roundTo_succ {N k : Nat} (h : k < N) : roundTo N (k + 1) = roundTo N k ++ [(k, sucN N k)] := by
  unfold roundTo
  rw [List.take_succ_eq_append_getElem (by rw [circL_length]; exact h), circL_get]
theorem roundTo_len {N k : Nat} (h : k ≤ N) : (roundTo N k).length = k := by unfold roundTo; rw [List.length_take, circL_length]; omega
theorem roundTo_all (N : Nat) : roundTo N N = circL N := by unfold roundTo; rw [List.take_of_length_le (by rw [circL_length]; exact Nat.le_refl _)]
theorem suc_mod {N k : Nat} (h : k < N) : ((k : Int) + 1).tmod N = (sucN N k : Int) := by
  rw [Int.tmod_eq_emod_of_nonneg (by omega)]
  unfold sucN
  split
  · rename_i e
    have : (k : Int) + 1 = N := by omega
    rw [this, Int.emod_self]; rfl
  · rw [Int.emod_eq_of_lt (by omega) (by omega)]; omega
theorem pcells_app (l m : List Pr) : pcells (l ++ m) = pcells l ++ pcells m := by simp [pcells]
theorem pcells_take {ps : List Pr} {k j : Nat} {u : Value} (h : (pcells (ps.take k))[j]? = some u) : (pcells ps)[j]? = some u := by
  have e : pcells ps = pcells (ps.take k) ++ pcells (ps.drop k) := by rw [← pcells_app, List.take_append_drop]
  rw [e, List.getElem?_append_left (List.getElem?_eq_some_iff.1 h).1]
  exact h
theorem pcells_drop {ps : List Pr} {k j : Nat} {u : Value} (hk : k ≤ ps.length) (h : (pcells (ps.drop k))[j]? = some u) : (pcells ps)[k * 2 + j]? = some u := by
  have e : pcells ps = pcells (ps.take k) ++ pcells (ps.drop k) := by rw [← pcells_app, List.take_append_drop]
  have hl : (pcells (ps.take k)).length = k * 2 := by rw [pcells_length, List.length_take, Nat.min_eq_left hk]
  rw [e, List.getElem?_append_right (by omega), hl, show k * 2 + j - k * 2 = j by omega]
  exact h
theorem add_at (g o j : Nat) : (⟨g, o, none⟩ : Addr).add j = ⟨g, o + j, none⟩ := by unfold Addr.add; split <;> simp_all
set_option maxHeartbeats 4000000 in
theorem circles_walk (w : World) (n : Int) (hn : (Lit.int .i64 n).wf = true) (cut : Int) (hcut : (Lit.int .i64 cut).wf = true) :
    Calls Try.prog 4 #[.int .i64 n, .int .i64 cut] w (TrueOn w) := by
  obtain ⟨ip, pi, pz0, pz1, pz2⟩ := info_parts Try.infoPair
  have hw := within_bd n 12 (by omega)
  have WI := Lib.hid (Within_any n 12 w hn (by omega) (by omega))
  obtain ⟨N, hNe⟩ : ∃ N : Nat, 1 + within n 12 = (N : Int) := ⟨(1 + within n 12).toNat, by omega⟩
  have hN1 : 1 ≤ N := by omega
  have hN8 : N ≤ 12 := by omega
  have PA := Lib.hid (Pairs_any (.slice none 0 0) [] N true w ⟨none, 0, rfl, Nat.zero_le _, fun k h => by simp at h⟩ (by omega))
  have hsum : IntKind.i64.wrap (1 + within n 12) = (N : Int) := by rw [IntKind.wrap_i64]; omega
  have HS := Lib.hid hNe
  generalize within n 12 = wn at *
  clear hn hNe
  go_enter Try.func4, Try.ntmps4
  go_upto_region 3 with (first
    | (go_at_call 9; refine WI.out.mono ?_; rintro e w1 ⟨rfl, rfl⟩)
    | (go_at_call 10; refine PA.out.mono ?_; rintro e w1 ⟨v1, v2, v3, rfl, o1, o2, o3, hb1⟩))
  obtain ⟨A, c, rfl⟩ := ownL_nm o1
  have L1 := Lib.hid (listL_nm o1)
  have HB1 := Lib.hid hb1
  clear o1 o2 o3 PA WI hsum HS hw hb1
  obtain ⟨gN, rfl, hgl, hNc, hcells⟩ := names_cells L1.out hN1
  have HC1 : Hid (∀ W, Below w1.heap.size w1 W → ∀ j, j < N → W.cell? ⟨gN, j, none⟩ = some (.string (bs (nmN j)))) := fun W hW j hj => (hW.cell (p := ⟨gN, j, none⟩) hgl).trans (hcells j hj)
  clear hcells
  go_wp2
  go_loopw [8, 26] (fun p i wr => ∃ k : Nat, k ≤ N ∧ i = .int .i64 k ∧ Hid (OwnP wr w1.heap.size p ((roundTo N k).map pnm)) ∧ Hid (Below w1.heap.size w1 wr)) (fun _ i _ => N - (intOf i).toNat)
  case atStart => exact ⟨0, Nat.zero_le _, rfl, World.ownsRow_nil _ _ _ _, Below.refl _ _⟩
  case round =>
    obtain ⟨k, hk, rfl, HP, HB⟩ := hrel
    by_cases hlt : k < N
    · have hsm := suc_mod hlt
      have hsl := sucN_lt hlt
      have HRS := Lib.hid (roundTo_succ hlt)
      have hrl := roundTo_len (N := N) (k := k) (by omega)
      have y1 := HC1.out wr HB.out k hlt
      have y2 := HC1.out wr HB.out _ hsl
      have c1 := HC1.out w1 (Below.refl _ _) k hlt
      have c2 := HC1.out w1 (Below.refl _ _) _ hsl
      have hP := HP.out
      unfold OwnP at hP
      rw [List.length_map, hrl] at hP
      have hbz := HB.out
      have HRL := Lib.hid hrl
      have HM : Hid ((roundTo N (k + 1)).map pnm = (roundTo N k).map pnm ++ [(nmN k, nmN (sucN N k))]) := by show _ = _; rw [HRS.out, List.map_append]; rfl
      clear hrl HRS
      generalize hQQ : (roundTo N k).map pnm = PP at *
      have HQQ := Lib.hid hQQ
      clear hQQ
      generalize hSL : pcells PP = SL at *
      have HSL := Lib.hid hSL
      clear hSL
      have s1 : IntKind.i64.wrap ((k : Int) + 1) = (k : Int) + 1 := by rw [IntKind.wrap_i64]; omega
      have n0 : ¬ (N : Int) = 0 := by omega
      have n00 : ¬ N = 0 := by omega
      have z0 : (0 : Int) ≤ k := by omega
      have z1 : (k : Int) < N := by omega
      have z2 : (0 : Int) ≤ (sucN N k : Int) := by omega
      have z3 : (sucN N k : Int) < N := by omega
      generalize sucN N k = m at *
      generalize hX : nmN k = X at *
      generalize hY : nmN m = Y at *
      clear hX hY
      go_upto_region 7 with fail
      go_region_held3 (fun w' => w'.cell? ⟨gN, k, none⟩ = some (.string (bs X)) ∧ w'.cell? ⟨gN, m, none⟩ = some (.string (bs Y)))
        (first | exact ⟨y1, y2⟩ | exact ⟨(rb4.cell (p := ⟨gN, k, none⟩) hgl).trans c1, (rb4.cell (p := ⟨gN, m, none⟩) hgl).trans c2⟩ | go_keep)
        (first
          | (refine step_append_lies _ rfl (.tmp 29) (.tmp 42) 26 rfl w1.heap.size 31 ip _ 2 32 Try.underlying26 pi pz0 pz1 pz2 rfl (by omega) _ k SL rfl (by first | exact hP | exact World.ownsRow.alloc hP _) _ 1 1 [.string (bs X), .string (bs Y)] rfl rfl
              (by first | exact cells_new _ _ _) (by intro u hu; simp at hu; rcases hu with rfl | rfl <;> rfl) (by omega) (by unfold maxLen; omega) (by omega) (by first | exact hbz.size | exact (Below.alloc hbz hbz.size _).size | exact (Below.alloc (below_drew hbz) hbz.size _).size) _ rfl ?_; intro g4 cap4 w6 rc4 hgr4 _ _
             have rb4 : Below w1.heap.size w1 w6 := by
               first
                 | exact (Below.alloc hbz hbz.size _).grown hgr4 (Below.alloc hbz hbz.size _).size (fun j e => (hP.lt j e).1)
                 | exact (Below.alloc (below_drew hbz) hbz.size _).grown hgr4 (Below.alloc (below_drew hbz) hbz.size _).size (fun j e => (hP.lt j e).1)))
      all_goals
        go_wp2
        go_roundw
        case rel => exact ⟨k + 1, by omega, by go_num, by show World.ownsRow _ _ _ _ _ _ _; rw [HM.out, List.length_append, ← HQQ.out, List.length_map, HRL.out, HQQ.out, pcells_snoc, HSL.out]; exact rc4, rb4⟩
        case measure => simp [intOf]; omega
    · have e : k = N := by omega
      rw [e, roundTo_all] at HP
      have HL : Hid ((circL N).length = N) := circL_length N
      clear hlt hk
      obtain ⟨B, d, rfl⟩ := ownP_pr HP.out
      have HPp : Hid (OwnP wr w1.heap.size (.slice B (circL N).length d) ((circL N).map pnm)) := HP
      rw [e]
      clear HP e
      obtain ⟨w2, rfl⟩ : ∃ w2 : World, w2 = wr := ⟨_, rfl⟩
      have HPA := Lib.hid (listP_pr HPp.out)
      have HOW := Lib.hid HPp.out
      have hdl := HPA.out.1
      rw [List.length_map] at hdl
      have hdl2 : N ≤ d := by rw [← HL.out]; exact hdl
      have N6 : Hid (Calls Try.prog 11 #[.slice (some ⟨gN, 0, none⟩) N c, .slice B N d] w2 fun e w' => e = .returned (.tuple #[.pointer none, .iface 40 (.int .i64 6)]) ∧ Below w2.heap.size w2 w') := by
        have h := New_of N (circL N) _ B c d (by omega) (by rw [HL.out]; omega) (L1.out.below HB.out) HPA.out
        rw [HL.out] at h
        refine h.mono ?_
        rintro e w' ⟨hb, hm⟩
        rw [new_round hN1 (by omega)] at hm
        exact ⟨hm, hb⟩
      have wk := within_nat cut N hN1
      have ck := fun W => Within_any cut N W hcut (by omega) (by omega)
      rw [wk.2] at ck
      have hkN := wk.1
      clear wk hcut hdl
      generalize (within cut N).toNat = k at *
      have CK := Lib.hid ck
      clear ck
      rw [HL.out]
      go_upto_region 12 with (first
        | (go_at_call 11; refine N6.out.mono ?_; rintro e w3 ⟨rfl, hb3⟩)
        | (go_at_call 14; refine (keepIsO _ _ _ (by omega) (by omega)).mono ?_; rintro e w4 ⟨rfl, rfl⟩))
      have HB3 := Lib.hid (below_then HB.out hb3 HB.out.size)
      have HB23 := Lib.hid hb3
      clear hb3 N6
      go_upto_region 13 with (go_at_call 9; refine (CK.out _).mono ?_; rintro e w4 ⟨rfl, rfl⟩)
      obtain ⟨gp, capp, ep, hbp, hglp, hdc, hcellp⟩ := own_form HPp.out (by rw [List.length_map, HL.out]; omega)
      obtain ⟨rfl, rfl⟩ : B = some ⟨gp, 0, none⟩ ∧ d = capp := by
        injection ep with a _ b
        exact ⟨a, b⟩
      have HCP : Hid (∀ W, Below w3.heap.size w3 W → ∀ j u, (pcells ((circL N).map pnm))[j]? = some u → W.cell? ⟨gp, j, none⟩ = some u) := fun W hW j u hu =>
        (hW.cell (p := ⟨gp, j, none⟩) (Nat.lt_of_lt_of_le hglp HB23.out.size)).trans ((HB23.out.cell (p := ⟨gp, j, none⟩) hglp).trans (hcellp j u hu))
      clear ep hcellp
      have hml : ((circL N).map pnm).length = N := by rw [List.length_map, circL_length]
      have CP : Hid (∀ W, Below w3.heap.size w3 W → Calls Try.prog 27 #[.slice (some ⟨gp, 0, none⟩) k d] W fun e w' => ∃ v, e = .returned v ∧ w'.ownsRow w3.heap.size 31 2 v k (pcells (((circL N).map pnm).take k)) ∧ Below w3.heap.size w3 w' ∧ Below W.heap.size W w') := fun W hW => by
        have htl : (((circL N).map pnm).take k).length = k := by rw [List.length_take]; omega
        have h := CopyP_any (((circL N).map pnm).take k) (some ⟨gp, 0, none⟩) d W (fun e => by cases e) (fun g e j u hu => by
          cases e
          rw [add_at, Nat.zero_add]
          exact HCP.out W hW j u (pcells_take hu)) (by omega)
        rw [htl] at h
        refine h.mono ?_
        rintro e w' ⟨v, rfl, ho, hb⟩
        unfold OwnP at ho
        rw [htl] at ho
        exact ⟨v, rfl, own_mono ho hW.size, below_then hW hb hW.size, hb⟩
      have hNL : (pcells (((circL N).map pnm).drop (k + 1))).length = (N - (k + 1)) * 2 := by rw [pcells_length, List.length_drop, hml]
      have HNW : Hid (∀ W, Below w3.heap.size w3 W → ∀ j u, (pcells (((circL N).map pnm).drop (k + 1)))[j]? = some u → W.cell? ((⟨gp, (k + 1) * 2, none⟩ : Addr).add j) = some u) := fun W hW j u hu => by
        rw [add_at]; exact HCP.out W hW _ u (pcells_drop (by omega) hu)
      have HOC := Lib.hid (pcells_one (((circL N).map pnm).drop (k + 1)))
      have NQ : Hid (∀ W A' L c', L = N - 1 → Below w3.heap.size w3 W → W.ownsRow w3.heap.size 31 2 (.slice A' L c') L (pcells (((circL N).map pnm).take k) ++ pcells (((circL N).map pnm).drop (k + 1))) → Calls Try.prog 11 #[.slice (some ⟨gN, 0, none⟩) N c, .slice A' L c'] W (NewR2 N (cutL N k) W)) := fun W A' L c' hL hW ho => by
        have hcl : (cutL N k).length = N - 1 := cutL_len hkN
        have e : pcells (((circL N).map pnm).take k) ++ pcells (((circL N).map pnm).drop (k + 1)) = pcells ((cutL N k).map pnm) := by
          rw [← pcells_app]; unfold cutL; rw [List.map_append, List.map_take, List.map_drop]
        rw [e] at ho
        have hp : OwnP W w3.heap.size (.slice A' (cutL N k).length c') ((cutL N k).map pnm) := by
          unfold OwnP; rw [List.length_map, hcl, ← hL]; exact ho
        have h := New_nm N (cutL N k) (some ⟨gN, 0, none⟩) A' c c' (by omega) (by omega) (L1.out.below (below_then HB3.out hW HB3.out.size)) (listP_pr hp) cutL_ok (cut_no hkN)
        rw [hcl, ← hL] at h
        exact h
      clear HPp HPA HOW CK HCP hml hglp hbp hdc
      generalize pcells (((circL N).map pnm).take k) = SA at *
      generalize pcells (((circL N).map pnm).drop (k + 1)) = SB at *
      have kc : (k : Int) ≤ d := by omega
      have kc1 : (k : Int) + 1 ≤ N := by omega
      have kd1 : (k : Int) + 1 ≤ d := by omega
      have d0 : 0 < d := by omega
      have d1 : ¬ d = 0 := by omega
      have k0 : (0 : Int) ≤ k := by omega
      have k1 : (0 : Int) ≤ (k : Int) + 1 := by omega
      have s1 : IntKind.i64.wrap ((k : Int) + 1) = (k : Int) + 1 := by rw [IntKind.wrap_i64]; omega
      have t1 : ((k : Int) + 1).toNat = k + 1 := by omega
      have bz : Below w3.heap.size w3 w3 := Below.refl _ _
      have bzd := below_drew bz
      have HSB : Hid (d = k + 1 → SB = []) := fun e => by
        have : N - (k + 1) = 0 := by omega
        rw [this] at hNL
        exact List.length_eq_zero_iff.1 (by omega)
      have HC6 : Hid (∀ W, Below w3.heap.size w3 W → ∀ j, j < N → W.cell? ⟨gN, j, none⟩ = some (.string (bs (nmN j)))) := fun W hW => HC1.out W (below_then HB3.out hW HB3.out.size)
      have hways : d = k + 1 ∨ ¬ d = k + 1 := by omega
      have kq : (k : Int) ≤ (k : Int) + 1 := by omega
      have kr : (0 : Int) ≤ (k : Int) + 1 - ((k : Int) + 1) := by omega
      have kz : (k : Int) + 1 - ((k : Int) + 1) = 0 := by omega
      have HCR : Hid (d = k + 1 ∨ ¬ d = k + 1) := hways
      rcases hways with rfl | hcap
      case' inl => have HCA : Hid (k + 1 = k + 1) := rfl
      case' inr => have HCA := Lib.hid hcap
      all_goals
        go_region_held3 (fun _ => True) (first | trivial | go_keep)
          (first
            | (go_at_call 27; refine (CP.out _ (by first | exact bz | exact bzd)).mono ?_; rintro e w4 ⟨v4, rfl, o4, hb4, _⟩; obtain ⟨A4, c4, rfl⟩ := own_slice o4)
            | (refine step_app0 rfl (.tmp 66) (.tmp 70) 26 rfl w3.heap.size 31 ip _ 2 32 Try.underlying26 pi pz0 pz1 pz2 rfl (by omega) _ k SA rfl o4 _ _ _ SB rfl (by first | exact hNL | (rw [HSB.out HCA.out]; rfl)) (by first | exact HNW.out _ hb4 | (rw [HSB.out HCA.out]; intro j u hu; simp at hu)) HOC.out (by unfold maxLen; omega) (by omega) w3 rfl hb4 ?_; intro A5 c5 w5 o5 hb5)
            | (go_at_call 11; refine (NQ.out _ _ _ _ (by omega) hb5 o5).mono ?_; rintro e w6 ⟨g, rfl, ho, hb6⟩))
      all_goals
        have HO := Lib.hid ho
        have h6 := below_then hb5 hb6 hb5.size
        have H6 := Lib.hid h6
        clear o4 o5 hb4 hb5 hb6 ho h6 CP NQ HNW HOC
        have hm : ((k : Int) + 1).tmod N = (sucN N k : Int) := suc_mod hkN
        have hsl := sucN_lt hkN
        have AB1 : Hid (∀ W j, Below w6.heap.size w6 W → j < N → Calls Try.prog 21 #[.pointer (some ⟨g, 0, none⟩), .string (bs (nmN (sucN N k))), .string (bs (nmN j))] W fun e w' => e = .returned (.bool true) ∧ w' = W) := fun W j hW hj => by
          have h := Above_nm (HO.out.below hW) (sucN N k) j hsl hj
          rw [ab_cut hkN hsl hj, rk_first hkN, decide_eq_true (Nat.zero_le _)] at h
          exact h.mono fun e w' h => ⟨h.1, h.2.symm⟩
        have AB2 : Hid (∀ W j, Below w6.heap.size w6 W → j < N → Calls Try.prog 21 #[.pointer (some ⟨g, 0, none⟩), .string (bs (nmN j)), .string (bs (nmN k))] W fun e w' => e = .returned (.bool true) ∧ w' = W) := fun W j hW hj => by
          have h := Above_nm (HO.out.below hW) j k hj hkN
          have hl := rk_lt (N := N) (k := k) hj hkN
          rw [ab_cut hkN hj hkN, rk_last hkN, decide_eq_true (by omega)] at h
          exact h.mono fun e w' h => ⟨h.1, h.2.symm⟩
        have BK : Hid (∀ W, Below w6.heap.size w6 W → Calls Try.prog 22 #[.pointer (some ⟨g, 0, none⟩), .string (bs (nmN k))] W fun e w' => ∃ A c, e = .returned (.slice A 1 c) ∧ Below W.heap.size W w') := fun W hW => by
          refine Below_len (HO.out.below hW) k 1 hkN fun bl hbl => ?_
          rw [below_one (k := k) N fun j hj => by
            rw [hbl j hj, ab_cut hkN hkN hj, rk_last hkN]
            have hl := rk_lt (N := N) (k := k) hj hkN
            by_cases e : j = k
            · subst e; rw [rk_last hkN]; simp
            · have hne : rk N k j ≠ N - 1 := fun h => e (rk_inj hj hkN hkN (by rw [h, rk_last hkN]))
              rw [decide_eq_false (by omega), decide_eq_false e], if_pos hkN]
        have BS : Hid (∀ W, Below w6.heap.size w6 W → Calls Try.prog 22 #[.pointer (some ⟨g, 0, none⟩), .string (bs (nmN (sucN N k)))] W fun e w' => ∃ A c, e = .returned (.slice A N c) ∧ Below W.heap.size W w') := fun W hW => by
          refine Below_len (HO.out.below hW) (sucN N k) N hsl fun bl hbl => ?_
          exact below_all N fun j hj => by rw [hbl j hj, ab_cut hkN hsl hj, rk_first hkN, decide_eq_true (Nat.zero_le _)]
        have HC7 : Hid (∀ W, Below w6.heap.size w6 W → ∀ j, j < N → W.cell? ⟨gN, j, none⟩ = some (.string (bs (nmN j)))) := fun W hW => HC6.out W (below_then H6.out hW H6.out.size)
        have HE : Hid (∀ W, Below w6.heap.size w6 W → Below w.heap.size w W) := fun W hW => below_then HB1.out (below_then HB3.out (below_then H6.out hW H6.out.size) HB3.out.size) HB1.out.size
        clear HO HC6 HSB H6
        generalize sucN N k = m at *
        have n0 : ¬ (N : Int) = 0 := by omega
        have n00 : ¬ N = 0 := by omega
        have m0 : (0 : Int) ≤ m := by omega
        have m1 : (m : Int) < N := by omega
        have kN : (k : Int) < N := by omega
        generalize hMM : nmN m = MT at *
        generalize hKK : nmN k = KT at *
        have HMM := Lib.hid hMM
        have HKK := Lib.hid hKK
        clear hMM hKK
        go_wp2
        go_loopw [83] (fun i wr => ∃ j : Nat, j ≤ N ∧ i = .int .i64 j ∧ Hid (Below w6.heap.size w6 wr)) (fun i _ => N - (intOf i).toNat)
        case atStart => exact ⟨0, Nat.zero_le _, rfl, Below.refl _ _⟩
        case round =>
          obtain ⟨j, hj, rfl, HBr⟩ := hrel
          have y1 := HC7.out wr HBr.out m hsl
          have y3 := HC7.out wr HBr.out k hkN
          rw [HMM.out] at y1
          rw [HKK.out] at y3
          by_cases hjl : j < N
          · have y2 := HC7.out wr HBr.out j hjl
            have A1 : Hid (∀ n, Calls Try.prog 21 #[.pointer (some ⟨g, 0, none⟩), .string (bs MT), .string (bs (nmN j))] (wr.drewN n) fun e w' => e = .returned (.bool true) ∧ w' = wr.drewN n) := fun n => AB1.out _ j (below_drewN HBr.out n) hjl
            have A2 : Hid (∀ n, Calls Try.prog 21 #[.pointer (some ⟨g, 0, none⟩), .string (bs (nmN j)), .string (bs KT)] (wr.drewN n) fun e w' => e = .returned (.bool true) ∧ w' = wr.drewN n) := fun n => AB2.out _ j (below_drewN HBr.out n) hjl
            generalize nmN j = JT at *
            have j0 : (0 : Int) ≤ j := by omega
            have jN : (j : Int) < N := by omega
            go_wp2
            go_quiet ((first
              | (go_at_call_of 21 (Value.string (bs MT)); exact Calls.quiet_of_same (A1.out _))
              | (go_at_call_of 21 (Value.string (bs KT)); exact Calls.quiet_of_same (A2.out _))))
            have HBq := Lib.hid (below_drewN HBr.out nq)
            generalize wr.drewN nq = wq at *
            go_wp2
            go_roundw
            case rel => exact ⟨j + 1, by omega, by go_num, HBq⟩
            case measure => simp [intOf]; omega
          · go_wp2_with (first
              | (go_at_call_of 22 (Value.string (bs KT)); refine (BK.out _ HBr.out).mono ?_; rintro e w7 ⟨A7, c7, rfl, hb7⟩; have h7 := below_then HBr.out hb7 HBr.out.size; have y7 := HC7.out w7 h7 m hsl; rw [HMM.out] at y7)
              | (go_at_call 22; refine (BS.out _ h7).mono ?_; rintro e w8 ⟨A8, c8, rfl, hb8⟩; have h8 := below_then h7 hb8 h7.size)
              | (go_at_call 15; refine (wakes04 _).mono ?_; rintro e w9 ⟨rfl, hb9⟩; have h9 := below_then h8 hb9 h8.size))
            go_ret
            exact ⟨rfl, HE.out _ h9⟩
end Go.Proofs.Yteplbbikjcjheaa
