/-
  PolicyJoins: texts that end in a line's end, put together, are the rules of both, the second ones' lines counted on: the walk.
-/
import Derived.Test.YtgemciecdplcgaaDoorJoin2
import Derived.Test.YtgemciecdplcgaaDoorPlay5
import Derived.Deep.DeepCutAuto
namespace Go.Proofs.YtgemciecdplcgaaDoor
set_option maxRecDepth 100000
open Go.ChangeShapes Go.WideShapes Go.ChangeAt Go.RowKit

set_option maxHeartbeats 8000000 in
theorem joins_walk (w : World) (u v : Value) (zs ys : List Int) (hz : IntsAt w u zs) (hy : IntsAt w v ys) (c : Int) (hc : (Lit.int .i64 c).wf = true) :
    Calls Tryd.prog 4 #[.agg #[u], .agg #[v], .int .i64 c] w (TrueOn w) := by
  have HP := Lib.hid (fun W (hb : Below w.heap.size w W) => peopleTx_any u zs W (hz.below hb))
  have HC := Lib.hid (fun W (hb : Below w.heap.size w W) => chartTx_any v ys W (hy.below hb))
  have hwc := fun W => Within_any c 5 W hc (by omega) (by omega)
  have h2 := within_bd c 5 (by omega)
  obtain ⟨gn, hgn⟩ : ∃ gn : Nat, within c 5 = gn := ⟨(within c 5).toNat, by omega⟩
  rw [hgn] at hwc h2
  have HWC := Lib.hid hwc
  obtain ⟨A0, n0, c0, rfl⟩ := ints_slice hz
  obtain ⟨A1, n1, c1, rfl⟩ := ints_slice hy
  clear hwc hgn hz hy hc
  go_enter Tryd.func4, Tryd.ntmps4
  go_upto_region 1 with fail
  have hb1 : Below w.heap.size w ((w.alloc (.cells #[.slice A0 n0 c0] 38)).alloc (.cells #[.slice A1 n1 c1] 38)) := ((Below.refl _ _).alloc (Nat.le_refl _) _).alloc (by simp) _
  have r3 : ((w.alloc (.cells #[.slice A0 n0 c0] 38)).alloc (.cells #[.slice A1 n1 c1] 38)).heap[w.heap.size]? = some (.cells #[.slice A0 n0 c0] 38 (0, 0)) := (heap_alloc_old _ _ (by simp)).trans (heap_alloc_new _ _)
  have r4 : ((w.alloc (.cells #[.slice A0 n0 c0] 38)).alloc (.cells #[.slice A1 n1 c1] 38)).heap[w.heap.size + 1]? = some (.cells #[.slice A1 n1 c1] 38 (0, 0)) := alloc_at (by simp) _
  generalize hw1 : (w.alloc (.cells #[.slice A0 n0 c0] 38)).alloc (.cells #[.slice A1 n1 c1] 38) = w1 at *
  have x3 : w1.cell? ⟨w.heap.size, 0, none⟩ = some (.slice A0 n0 c0) := by rw [cell_of_row _ _ _ _ _ _ r3]; rfl
  have x4 : w1.cell? ⟨w.heap.size + 1, 0, none⟩ = some (.slice A1 n1 c1) := by rw [cell_of_row _ _ _ _ _ _ r4]; rfl
  have l3 := World.block_lt_of_cell? w1 _ x3
  have l4 := World.block_lt_of_cell? w1 _ x4
  have hbd : Below w.heap.size w w1.drew := below_drew hb1
  clear hw1 r3 r4
  rename_i K1 hK1
  go_cut [7, 8] (fun a b wx => ∃ t1 t2 : ByteArray, a = .string (t1 ++ ⟨#[10]⟩) ∧ b = .string t2 ∧ t1.size ≤ 1000 ∧ t2.size ≤ 1000 ∧ Hid (nl t1 ≤ 50 ∧ nl t2 ≤ 30) ∧ Below w.heap.size w wx)
  case first =>
    go_region_with (first
      | (go_at_call 11; refine (HP.out _ (by first | exact hbc | exact hbd)).mono ?_; rintro e w8 ⟨t1, rfl, ht1, hn1, hp1⟩; have hbp : Below w.heap.size w w8 := (by first | exact below_then hbc hp1 hbc.size | exact below_then hbd hp1 hbd.size); (try (have y4 : w8.cell? ⟨w.heap.size + 1, 0, none⟩ = some (.slice A1 n1 c1) := (hp1.cell (p := ⟨w.heap.size + 1, 0, none⟩) l4).trans x4)); have HN1 := Lib.hid hn1; clear hn1)
      | (go_at_call 12; refine (HC.out _ (by first | exact hbp | exact hbd)).mono ?_; rintro e w7 ⟨t2, rfl, ht2, hn2, hp2⟩; have hbc : Below w.heap.size w w7 := (by first | exact below_then hbp hp2 hbp.size | exact below_then hbd hp2 hbd.size); (try (have y3 : w7.cell? ⟨w.heap.size, 0, none⟩ = some (.slice A0 n0 c0) := (hp2.cell (p := ⟨w.heap.size, 0, none⟩) l3).trans x3)); have HN2 := Lib.hid hn2; clear hn2))
    all_goals
      go_wp2
      go_meet
      exact ⟨t1, t2, rfl, rfl, ht1, ht2, ⟨HN1.out, HN2.out⟩, by first | exact below_then hbp hp2 hbp.size | exact below_then hbc hp1 hbc.size⟩
  case rest =>
    refine hK1 _ _ ?_
    clear hK1 HP HC x3 x4 l3 l4 hbd hb1
    obtain ⟨t1, t2, rfl, rfl, ht1, ht2, HNN, hbw⟩ := hcut
    have ha : (t1 ++ ⟨#[10]⟩).size ≤ 1001 := by rw [ByteArray.size_append]; have : (⟨#[10]⟩ : ByteArray).size = 1 := rfl; omega
    have HA : Hid ((t1 ++ ⟨#[10]⟩ : ByteArray).data.toList = t1.data.toList ++ [10]) := by show _ = _; simp [ByteArray.data_append]
    have HNA : Hid (nl (t1 ++ ⟨#[10]⟩) = t1.data.toList.count 10 + 1) := by show _ = _; rw [nl_app]; rfl
    have HQ1 := Lib.hid (fun W => Pol_any (t1 ++ ⟨#[10]⟩) W)
    have hpj := fun x y => pol_join (a := t1.data.toList) (b := t2.data.toList) (g := gn) (x := x) (y := y) (by rw [size_list, size_list]; omega) (by have := HNN.out; simp only [nl] at this; omega)
    have hpb := pol_joinBad (a := t1.data.toList) (b := t2.data.toList) (g := gn) (by rw [size_list, size_list]; omega) (by have := HNN.out; simp only [nl] at this; omega)
    have HPJ := Lib.hid hpj
    have HPB := Lib.hid hpb
    have HN50 : Hid (t1.data.toList.count 10 ≤ 50 ∧ t2.data.toList.count 10 ≤ 30) := HNN.out
    clear hpj hpb HNN
    generalize t1 ++ ⟨#[10]⟩ = a at *
    generalize t1.data.toList = T1 at *
    clear ht1
    go_upto_region 5 with (go_at_call 6; refine (HWC.out _).mono ?_; rintro e w3 ⟨rfl, rfl⟩)
    clear HWC
    go_loopw [10, 11] (fun n _ wr => ∃ pos : Nat, pos ≤ a.size ∧ wr = wc.iter a pos ∧ n = .int .i64 (nlTo a pos)) (fun _ _ wr => a.size - wr.iterPos wc.heap.size)
    case atStart => exact ⟨0, Nat.zero_le _, rfl, rfl⟩
    case round =>
      obtain ⟨pos, hpos, rfl, rfl⟩ := hrel
      have hnb : nlTo a pos ≤ pos := Nat.le_trans List.count_le_length (by rw [List.length_take]; omega)
      by_cases hlt : pos < a.size
      · have hnx := fun ty => run_next_any (P := Tryd.prog) wc a pos ty hlt
        obtain ⟨d1, d2, -⟩ := decode_wide a pos hlt
        have hst := nlTo_next a pos hlt
        by_cases h10 : (a[pos].toNat : Int) = 10
        · rw [if_pos h10] at hst
          have HST := Lib.hid hst
          have g10 : ((a[pos].toNat : Int) == 10) = true := by simp [h10]
          clear hst h10
          generalize Utf8.decode a pos = dd at *
          go_wp2
          go_roundw
          case rel => exact ⟨pos + dd.2, by omega, rfl, by rw [HST.out]; go_num⟩
          case measure => simp [World.iterPos_iter]; omega
        · rw [if_neg h10, Nat.add_zero] at hst
          have HST := Lib.hid hst
          have g10 : ((a[pos].toNat : Int) == 10) = false := by simp [h10]
          clear hst h10
          generalize Utf8.decode a pos = dd at *
          go_wp2
          go_roundw
          case rel => exact ⟨pos + dd.2, by omega, rfl, by rw [HST.out]⟩
          case measure => simp [World.iterPos_iter]; omega
      · obtain rfl : pos = a.size := by omega
        have hnx := fun ty => run_next_end (P := Tryd.prog) wc a a.size ty hlt
        have hna : nlTo a a.size = T1.count 10 + 1 := by rw [nlTo_all]; exact HNA.out
        have hT : T1.count 10 ≤ 50 := HN50.out.1
        rw [hna]
        have hbI : Below w.heap.size w (wc.iter a a.size) := hbw.alloc hbw.size _
        clear hna hnb hpos HNA
        generalize T1.count 10 = c10 at *
        go_upto_region 10 with fail
        clear hnx hlt
        generalize wc.iter a a.size = wI at *
        go_loop [9, 12] (fun s i => ∃ k : Nat, k ≤ gn ∧ i = .int .i64 k ∧ s = .string (a ++ bs (List.replicate k 10))) (fun _ i => gn - (intOf i).toNat)
        case atStart => exact ⟨0, Nat.zero_le _, rfl, by rw [show bs (List.replicate 0 10) = ByteArray.empty from rfl, ByteArray.append_empty]⟩
        case round =>
          obtain ⟨k, hk, rfl, rfl⟩ := hrel
          have hbz : (bs (List.replicate k (10 : UInt8))).size = k := by rw [size_bs]; simp
          by_cases hlt : k < gn
          · have hbk : a ++ bs (List.replicate k 10) ++ ⟨#[10]⟩ = a ++ bs (List.replicate (k + 1) 10) := by
              rw [ByteArray.append_assoc, show (⟨#[10]⟩ : ByteArray) = bs [10] from rfl, bs_append, List.replicate_succ']
            go_wp2
            go_round
            case rel => exact ⟨k + 1, by omega, by go_num, rfl⟩
            case measure => simp [intOf]; omega
          · obtain rfl : k = gn := by omega
            clear hlt hk
            have HQ2 := Lib.hid (fun W => Pol_any t2 W)
            have HQ3 := Lib.hid (fun W => Pol_any (a ++ bs (List.replicate k 10) ++ t2) W)
            have e3 : (a ++ bs (List.replicate k 10) ++ t2).data.toList = T1 ++ [10] ++ List.replicate k 10 ++ t2.data.toList := by
              simp only [ByteArray.data_append, Array.toList_append]; rw [HA.out]; rfl
            rw [e3] at HQ3
            rw [HA.out] at HQ1
            clear e3 HA
            have HALL := Lib.hid (fun s l (h : polT s = .ok l) => And.intro (polT_all h) (polT_num h))
            by_cases hok : isOk (polT (T1 ++ [10])) = true ∧ isOk (polT t2.data.toList) = true
            · obtain ⟨x, hx⟩ := ok_of hok.1
              obtain ⟨y, hy⟩ := ok_of hok.2
              have hz := HPJ.out x y hx hy
              obtain ⟨⟨-, hxl⟩, -⟩ := HALL.out _ _ hx
              obtain ⟨⟨-, hyl⟩, hyn⟩ := HALL.out _ _ hy
              obtain ⟨⟨hzr, -⟩, -⟩ := HALL.out _ _ hz
              have hyb : ∀ p ∈ y, p.2 ≤ 31 := fun p hp => by have := hyn p hp; have := HN50.out.2; omega
              rw [hx] at HQ1
              rw [hy] at HQ2
              rw [hz] at HQ3
              have HZR := Lib.hid hzr
              have HYB := Lib.hid hyb
              clear hok HPJ HPB HALL hx hy hz hyn hzr hyb HN50
              obtain ⟨i0, hi, hz0, hz1, hz2⟩ := info_parts Tryd.infoRule
              go_upto_region 14 with (go_at_call 7; refine (HQ1.out _).mono ?_; rintro e w4 ⟨hb4, vx, ax, rfl, hax, hRx⟩; obtain ⟨Ax, cx, rfl⟩ := own_slice hRx.1; have HRx := Lib.hid hRx; have HAX := Lib.hid hax; have hxl2 : ax.length ≤ 160 := (by have h := congrArg List.length hax; rw [List.length_map] at h; omega); clear hRx hax)
              go_upto_region 15 with (go_at_call 7; refine (HQ2.out _).mono ?_; rintro e w5 ⟨hb5, vy, ay, rfl, hay, hRy⟩; obtain ⟨Ay, cy, rfl⟩ := own_slice hRy.1; have HRy := Lib.hid hRy; have HAY := Lib.hid hay; have hyl2 : ay.length ≤ 160 := (by have h := congrArg List.length hay; rw [List.length_map] at h; omega); clear hRy hay)
              go_upto_region 16 with (go_at_call 7; refine (HQ3.out _).mono ?_; rintro e w6 ⟨hb6, vz, az, rfl, haz, hRz⟩; obtain ⟨Az, cz, rfl⟩ := own_slice hRz.1; have HRz := Lib.hid hRz; have HAZ := Lib.hid haz; clear hRz haz)
              have hzl : az.length = ax.length + ay.length := by
                have h1 := congrArg List.length HAX.out
                have h2 := congrArg List.length HAY.out
                have h3 := congrArg List.length HAZ.out
                simp only [List.length_map, List.length_append, shiftL] at h1 h2 h3
                omega
              have hne : ((az.length : Int) != (ax.length : Int) + ay.length) = false := by simp; omega
              have hz320 : az.length ≤ 320 := by omega
              have HZL := Lib.hid hzl
              clear hzl
              have hs5 := hb5.size
              have hs6 := hb6.size
              go_upto_region 21 with fail
              clear hne
              go_loopw [19, 92] (fun _ i wr => ∃ (q : Nat) (ay' : List RL), q ≤ ay.length ∧ i = .int .i64 q ∧ Hid (Bumped (c10 + 1 + k) q ay ay') ∧ Hid (RowsAt wr w4.heap.size (.slice Ay ay.length cy) ay') ∧ Hid (RowsAt wr w5.heap.size (.slice Az az.length cz) az) ∧ Below w4.heap.size w4 wr ∧ w5.heap.size ≤ wr.heap.size) (fun _ i _ => ay.length - (intOf i).toNat)
              case atStart => exact ⟨0, ay, Nat.zero_le _, rfl, bumped_none _ _, HRy.out.below hb6 hs5, HRz.out, below_then hb5 hb6 hs5, hs6⟩
              case round =>
                obtain ⟨q, ay', hq, rfl, HB, HR, HZ, hbr, h5r⟩ := hrel
                have hl := HB.out.1
                by_cases hlq : q < ay.length
                · have hq' : q < ay'.length := by omega
                  have hR := HR.out
                  rw [← hl] at hR
                  cases Ay with
                  | none => have := (own_none hR.1).1; omega
                  | some aa =>
                    obtain ⟨gy, rfl⟩ := own_some hR.1
                    obtain ⟨g', e', -, hcs, -⟩ := rIn_of hR q hq'
                    obtain rfl : gy = g' := by have := Option.some.inj e'; injection this
                    have z0 : wr.cell? ⟨gy, q * 11 + 10, none⟩ = some (.int .i64 ay'[q].2.1) := hcs 10 _ (by omega) rfl
                    have z1 := hR.1.frozenAt (q * 11 + 10)
                    have hg4 : w4.heap.size ≤ gy := (hR.1.lt gy rfl).1
                    have hg5 : gy < w5.heap.size := (HRy.out.1.lt gy rfl).2
                    have hat := bumped_at HB.out hlq hq'
                    have hln : ay'[q].2.1 ≤ 31 := by
                      rw [hat]
                      exact HYB.out (er ay[q]) (by rw [← HAY.out]; exact List.mem_map_of_mem (List.getElem_mem hlq))
                    have hB : Hid (∀ z : Int, z = ((ay'[q].2.1 + (c10 + 1 + k) : Nat) : Int) → RowsAt (wr.setCell ⟨gy, q * 11 + 10, none⟩ (.int .i64 z)) w4.heap.size (.slice (some ⟨gy, 0, none⟩) ay.length cy) (ay'.set q (bump (c10 + 1 + k) ay'[q]))) := by
                      rintro z rfl
                      have h := hR.bumped (d := c10 + 1 + k) q hq'
                      rw [hl] at h
                      exact h
                    have HN := Lib.hid (bumped_next HB.out hq')
                    clear HR hcs hat hR e' HB hl
                    generalize ay'.set q (bump (c10 + 1 + k) ay'[q]) = ay2 at *
                    generalize ay'[q].2.1 = ln at *
                    go_wp2
                    go_roundw
                    case rel => exact ⟨q + 1, ay2, by omega, by go_num, HN.out, hB.out _ (by omega), HZ.out.poked hg5 _ _, hbr.grown (grown_setCell _ _ _ _) hbr.size (fun j hj => by cases hj; exact hg4), by simpa using h5r⟩
                    case measure => simp [intOf]; omega
                · obtain rfl : q = ay.length := by omega
                  have hyy := bumped_all HB.out
                  have he : az.map er = (ax ++ ay').map er := by rw [List.map_append, hyy, HAX.out, HAY.out]; exact HAZ.out
                  have hs4 := hb4.size
                  have HX := HRx.out.below hbr hs4
                  have CP := Lib.hid (Copy_any ax Ax cx _ wr HX (by omega))
                  have hwr := hbr.size
                  have hIr : Below wI.heap.size wI wr := below_then hb4 hbr hs4
                  have hIs := hIr.size
                  have hll : ∀ p ∈ az, p.1.list.length ≤ 4096 := fun p hp => (HZR.out (er p) (by rw [← HAZ.out]; exact List.mem_map_of_mem hp)).1
                  have HE := Lib.hid he
                  have HLL := Lib.hid hll
                  have HXX := Lib.hid HX
                  have HL := Lib.hid hl
                  have hwsz : (ax ++ ay').length = ax.length + ay.length := by rw [List.length_append, hl]
                  have HW := Lib.hid hwsz
                  clear he hll hyy HX hl hwsz hq hlq HB
                  cases Ay with
                  | none =>
                    obtain ⟨h0, rfl⟩ := own_none HR.out.1
                    have e1 : ay' = [] := List.length_eq_zero_iff.1 h0
                    subst e1
                    have e2 : ay = [] := List.length_eq_zero_iff.1 HL.out.symm
                    subst e2
                    have HE2 : Hid (az.map er = ax.map er) := by show _ = _; rw [HE.out, List.append_nil]
                    go_wp2_with (go_at_call 14; refine CP.out.mono ?_; rintro e w7 ⟨v7, rfl, ho7, hb7⟩; obtain ⟨A7, c7, rfl⟩ := own_slice ho7; have hR8 : RowsAt w7 wI.heap.size (.slice A7 ax.length c7) ax := ⟨own_base ho7 hIs, fun p hp => own_below (HXX.out.2 p hp) hb7 hIs⟩; have KR := Lib.hid (Rules_any az ax Az A7 cz c7 w7 (rIn_of (HZ.out.below hb7 h5r)) (rIn_of hR8) HE2.out (by omega) HLL.out (own_cap2 HZ.out.1) (own_cap2 ho7)); have hcc := own_cap2 ho7; have hcd : ¬ c7 < ax.length := (by omega); clear ho7 hR8)
                    all_goals
                      rw [Sem.run_pure]
                      simp only [Result.andThen]
                      rw [Oper.upon_value]
                      go_wp2_with (first
                        | (go_at_call 13; refine KR.out.mono ?_; rintro e w9 ⟨rfl, hb9⟩)
                        | (go_at_call 10; refine (wakes03 _).mono ?_; rintro e w10 ⟨rfl, hb10⟩))
                      go_ret
                      exact ⟨rfl, below_then hbI (below_then (below_then (below_then hIr hb7 hIs) hb9 (Nat.le_trans hIs hb7.size)) hb10 (Nat.le_trans (Nat.le_trans hIs hb7.size) hb9.size)) hbI.size⟩
                  | some aa =>
                    obtain ⟨gy, rfl⟩ := own_some HR.out.1
                    go_wp2_with (first
                      | (go_at_call 14; refine CP.out.mono ?_; rintro e w7 ⟨v7, rfl, ho7, hb7⟩; obtain ⟨A7, c7, rfl⟩ := own_slice ho7; have HRy7 := Lib.hid (HR.out.below hb7 hwr); have HO7 := Lib.hid ho7; have HC7 := Lib.hid (HRy7.out.1.cells (g := gy) rfl); have h7s := hb7.size; clear ho7)
                      | (at_builtin; go_must (refine wpList_append_own _ rfl (.tmp 109) (.tmp 110) 23 rfl wI.heap.size 42 i0 _ 11 152 Tryd.underlying23 hi hz0 hz1 hz2 rfl (by decide) _ ax.length (rcells ax) rfl (own_base HO7.out hIs) ⟨gy, 0, none⟩ ay.length cy (rcells ay') rfl (by rw [rcells_len, HL.out]) HC7.out (rcells_one HRy7.out.2) (by unfold maxLen; omega) (by omega) (by omega) ?_); intro v8 w8 hown8 hg8 _; obtain ⟨A8, c8, rfl⟩ := own_slice hown8; have hb8 : Below wr.heap.size wr w8 := hb7.grown hg8 hb7.size (fun j hj => (HO7.out.lt j hj).1); have HR8 : Hid (RowsAt w8 wI.heap.size (.slice A8 (ax ++ ay').length c8) (ax ++ ay')) := (by rw [HW.out]; exact ⟨by rw [rcells_app, HW.out]; exact hown8, fun p hp => (by
                          have hp7 : OwnL w7 wI.heap.size p.2.2 p.1.list := by
                            rcases List.mem_append.1 hp with hp | hp
                            · exact own_below (HXX.out.2 p hp) hb7 hIs
                            · exact own_base (HRy7.out.2 p hp) hb4.size
                          exact World.ownsRow.kept hp7 hg8 (own_apart hp7 HO7.out))⟩); have KR : Hid (Calls Tryd.prog 13 #[.slice Az az.length cz, .slice A8 (ax.length + ay.length) c8] w8 (TrueOn w8)) := (by
                          have h := Rules_any az (ax ++ ay') Az A8 cz c8 w8 (rIn_of (HZ.out.below hb8 h5r)) (rIn_of HR8.out) HE.out (by omega) HLL.out (own_cap2 HZ.out.1) (own_cap2 HR8.out.1)
                          rw [HW.out] at h
                          exact h); clear hown8 hg8)
                      | (go_at_call 13; refine KR.out.mono ?_; rintro e w9 ⟨rfl, hb9⟩)
                      | (go_at_call 10; refine (wakes03 _).mono ?_; rintro e w10 ⟨rfl, hb10⟩))
                    go_ret
                    exact ⟨rfl, below_then hbI (below_then (below_then (below_then hIr hb8 hIs) hb9 (Nat.le_trans hIs hb8.size)) hb10 (Nat.le_trans (Nat.le_trans hIs hb8.size) hb9.size)) hbI.size⟩
            · obtain ⟨nn, cc, kk, e3⟩ := HPB.out (by
                cases h1 : isOk (polT (T1 ++ [10])) with
                | false => exact .inl rfl
                | true =>
                  cases h2 : isOk (polT t2.data.toList) with
                  | false => exact .inr rfl
                  | true => exact absurd ⟨h1, h2⟩ hok)
              rw [e3] at HQ3
              clear e3 HPB HPJ HALL
              generalize polT (T1 ++ [10]) = p1 at *
              generalize polT t2.data.toList = p2 at *
              cases p1 <;> cases p2
              all_goals first
                | exact absurd ⟨rfl, rfl⟩ hok
                | (clear hok
                   go_upto_region 14 with (first
                     | (go_at_call 7; refine (HQ1.out _).mono ?_; rintro e w4 ⟨hb4, fb, rfl, -, -, -⟩)
                     | (go_at_call 7; refine (HQ1.out _).mono ?_; rintro e w4 ⟨hb4, vx, ax, rfl, -, hRx⟩; obtain ⟨Ax, cx, rfl⟩ := own_slice hRx.1; clear hRx)
                     | (go_at_call 7; refine (HQ1.out _).mono ?_; rintro e w4 ⟨hb4, rfl⟩))
                   go_upto_region 15 with (first
                     | (go_at_call 7; refine (HQ2.out _).mono ?_; rintro e w5 ⟨hb5, fb2, rfl, -, -, -⟩)
                     | (go_at_call 7; refine (HQ2.out _).mono ?_; rintro e w5 ⟨hb5, vy, ay, rfl, -, hRy⟩; obtain ⟨Ay, cy, rfl⟩ := own_slice hRy.1; clear hRy)
                     | (go_at_call 7; refine (HQ2.out _).mono ?_; rintro e w5 ⟨hb5, rfl⟩))
                   go_wp2_with (first
                     | (go_at_call 7; refine (HQ3.out _).mono ?_; rintro e w6 ⟨hb6, gb, rfl, -, -, -⟩)
                     | (go_at_call 10; refine (wakes03 _).mono ?_; rintro e w9 ⟨rfl, hb9⟩))
                   go_ret
                   exact ⟨rfl, below_then (below_then (below_then (below_then hbI hb4 hbI.size) hb5 (Nat.le_trans hbI.size hb4.size)) hb6 (Nat.le_trans (Nat.le_trans hbI.size hb4.size) hb5.size)) hb9 (Nat.le_trans (Nat.le_trans (Nat.le_trans hbI.size hb4.size) hb5.size) hb6.size)⟩)
end Go.Proofs.YtgemciecdplcgaaDoor
