/-
  PolicyBack: rules told are read as they were: the walk.
-/
import Derived.Test.YtahhepmhdcbplaaGreatDoorSmall
import Derived.Test.YtahhepmhdcbplaaGreatDoorPlay4
import Derived.Test.YtahhepmhdcbplaaGreatDoorSpoil
import Derived.Test.YtahhepmhdcbplaaGreatDoorPol4
import Derived.Test.YtahhepmhdcbplaaGreatDoorPol6
import Derived.Deep.RegionHeld3
import Derived.Lib.QuietBelow
namespace Go.Proofs.YtahhepmhdcbplaaGreatDoor
set_option maxRecDepth 100000
open Go.ChangeShapes Go.WideShapes Go.ChangeAt Go.RowKit Go.Sort

theorem own_LIn3 {w : World} {base c : Nat} {A : Option Addr} {l : List Tx} (h : OwnL w base (.slice A l.length c) l) : LIn w A c l := own_LIn h
theorem lens_le : ∀ (us : List Tx), ∀ t ∈ us, t.length ≤ linesLen us
  | a :: r, t, h => by
    simp only [linesLen, List.map_cons, List.sum_cons]
    rcases List.mem_cons.1 h with rfl | h
    · omega
    · have := lens_le r t h
      simp only [linesLen] at this
      omega
theorem polT_small {s : Tx} {l : List (Ru × Nat)} (h : polT s = .ok l) (hs : s.length ≤ 4000) : ∀ x ∈ l, Small x.1 := by
  unfold polT at h
  split at h
  · cases h
  obtain ⟨us, e, h1, h2, _⟩ := pol_told _ _ _ _ h
  rw [List.nil_append] at e
  subst e
  intro x hx
  rw [linesLen_all] at h2
  have := lens_le _ _ (List.mem_map_of_mem (f := fun x : Ru × Nat => joinP (lineP x.1)) hx)
  exact small_of (h1 x hx).1 (by omega)
theorem er_fst (acc : List RL) : (acc.map er).map (·.1) = acc.map (·.1) := by rw [List.map_map]; rfl
/-- what the loop asks of the k-th rules -/
theorem same_at {acc acc' : List RL} {l : List (Ru × Nat)} (h1 : acc.map er = l) (h2 : acc'.map er = numP (l.map (·.1)) 1) (hp : l.Pairwise (fun x y => x.2 < y.2)) :
    acc'.length = acc.length ∧ (∀ k (h : k < acc.length) (h' : k < acc'.length), acc'[k].1 = acc[k].1 ∧ acc'[k].2.1 = k + 1) ∧ ∀ j (h : j + 1 < acc.length), acc[j].2.1 < acc[j + 1].2.1 := by
  have hn : (numP (l.map (·.1)) 1).length = l.length := by
    have := congrArg List.length (num_map (l.map (·.1)) 1)
    simpa using this
  have hl : acc.length = l.length := by rw [← h1, List.length_map]
  have hl' : acc'.length = l.length := by rw [← hn, ← h2, List.length_map]
  refine ⟨by omega, fun k h h' => ⟨?_, ?_⟩, fun j h => ?_⟩
  · have e1 : (acc'.map (·.1)) = acc.map (·.1) := by rw [← er_fst, ← er_fst, h2, h1, num_map]
    have := congrArg (fun l => l[k]?) e1
    simpa [h, h'] using this
  · have e2 := congrArg (fun l => l[k]?) h2
    have hk : k < (numP (l.map (·.1)) 1).length := by omega
    simp only [List.getElem?_map, List.getElem?_eq_getElem h', List.getElem?_eq_getElem hk, Option.map_some, Option.some.injEq] at e2
    have := num_at (l.map (·.1)) 1 k hk
    rw [← e2] at this
    show (er acc'[k]).2 = _
    rw [this]; omega
  · have hj : j < l.length := by omega
    have hj1 : j + 1 < l.length := by omega
    have := List.pairwise_iff_getElem.1 hp j (j + 1) hj hj1 (by omega)
    have e1 : er acc[j] = l[j] := by
      have := congrArg (fun l => l[j]?) h1
      simpa [hj, show j < acc.length by omega] using this
    have e2 : er acc[j + 1] = l[j + 1] := by
      have := congrArg (fun l => l[j + 1]?) h1
      simpa [hj1, h] using this
    rw [← e1, ← e2] at this
    exact this
set_option maxHeartbeats 8000000 in
theorem pback_walk (w : World) (v : Value) (zs : List Int) (hz : IntsAt w v zs) (what : Int) (hwh : (Lit.int .i64 what).wf = true) (at_ : Int) (hat : (Lit.int .i64 at_).wf = true) (hg : HandleAt w) (ht : TabAt w) :
    Calls Tryz.prog 5 #[.agg #[v], .int .i64 what, .int .i64 at_] w (TrueOn w) := by
  have hz1 : IntsAt (w.alloc (.cells #[v] 39)) v zs := hz.below ((Below.refl _ _).alloc (Nat.le_refl _) _)
  have HT := Lib.hid (policyTx_any v zs _ hz1)
  have HSP := Lib.hid (fun s W (hs : s.size ≤ 100000) => Spoil_any s what at_ W hs hwh hat)
  have HPA := Lib.hid (fun t W => Pol_any t W)
  have HB0 : Hid (Below w.heap.size w (w.alloc (.cells #[v] 39))) := (Below.refl _ _).alloc (Nat.le_refl _) _
  obtain ⟨A0, n0, c0, rfl⟩ := ints_slice hz
  have HG := Lib.hid hg
  have HTB := Lib.hid ht
  clear hz hz1 hwh hat hg ht
  go_enter Tryz.func5, Tryz.ntmps5
  go_upto_region 2 with (first
    | (go_at_call 12; refine HT.out.mono ?_; rintro e w1 ⟨t, rfl, hts, -, hb1⟩)
    | (go_at_call 20; refine (HSP.out t _ (by omega)).mono ?_; rintro e w2 ⟨u, rfl, hus, hb2⟩))
  have HB2 : Hid (Below w.heap.size w w2) := below_then (below_then HB0.out hb1 HB0.out.size) hb2 (below_then HB0.out hb1 HB0.out.size).size
  have hul : u.data.toList.length ≤ 1915 := by rw [size_list]; omega
  have HQ := Lib.hid (HPA.out u w2)
  have hall := fun l (h : polT u.data.toList = .ok l) => (⟨polT_told h (polT_le h) (by omega), polT_small h (by omega), polT_le h⟩ : _ ∧ _ ∧ _)
  have HALL := Lib.hid hall
  have HU := Lib.hid hul
  clear hall HT HSP HB0 hb1 hb2 hts hus hul
  generalize polT u.data.toList = p at *
  cases p
  case limit =>
    go_wp2_with (first
      | (go_at_call 21; refine HQ.out.mono ?_; rintro e w3 ⟨hb3, rfl⟩)
      | (go_at_call 19; refine (wakes03 _).mono ?_; rintro e w9 ⟨rfl, hb9⟩; have h9 := below_then hb3 hb9 hb3.size))
    go_ret
    exact ⟨rfl, below_then HB2.out h9 HB2.out.size⟩
  case bad =>
    go_wp2_with (first
      | (go_at_call 21; refine HQ.out.mono ?_; rintro e w3 ⟨hb3, fb, rfl, -, -, -⟩)
      | (go_at_call 19; refine (wakes03 _).mono ?_; rintro e w9 ⟨rfl, hb9⟩; have h9 := below_then hb3 hb9 hb3.size))
    go_ret
    exact ⟨rfl, below_then HB2.out h9 HB2.out.size⟩
  case ok l =>
    obtain ⟨⟨hF, hFl, hFp, hpw⟩, hsm, hlen⟩ := HALL.out l rfl
    generalize hFF : flatP (l.map (·.1)) = FT at *
    clear hFF HALL
    go_upto_region 5 with (go_at_call 21; refine HQ.out.mono ?_; rintro e w3 ⟨hb3, vv, acc, rfl, hacc, hR⟩)
    obtain ⟨A, cap, rfl⟩ := own_slice hR.1
    have HB3 : Hid (Below w.heap.size w w3) := below_then HB2.out hb3 HB2.out.size
    have hal : acc.length = l.length := by rw [← hacc, List.length_map]
    have ha160 : acc.length ≤ 160 := by omega
    have hcap := own_cap hR.1
    have hfst : acc.map (·.1) = l.map (·.1) := by rw [← er_fst, hacc]
    have hsm1 : ∀ x ∈ acc, Small x.1 := fun x hx => hsm (er x) (by rw [← hacc]; exact List.mem_map_of_mem hx)
    have hli1 : ∀ x ∈ acc, ∀ B c, x.2.2 = .slice B x.1.list.length c → LIn w3 B c x.1.list := fun x hx B c e => own_LIn3 (by rw [← e]; exact hR.2 x hx)
    have HR1 := Lib.hid (rIn_of hR)
    have PR1 : Hid (Calls Tryz.prog 13 #[.slice A acc.length cap] w3 fun e w' => e = .returned (.tuple #[.string (bs FT), .nilIface]) ∧ Below w3.heap.size w3 w') := by
      have h := PolPrint_any acc A cap w3 HR1.out (by omega) hcap hsm1 hli1 (HG.out.below' HB3.out) (HTB.out.below HB3.out)
      rw [hfst, hF] at h
      refine h.mono ?_
      rintro e w' ⟨hb, hm⟩
      simp only at hm
      rw [if_neg (by have := HU.out; omega)] at hm
      exact ⟨hm, hb⟩
    have PP : Hid (∀ W, Calls Tryz.prog 21 #[.string (bs FT)] W fun e w' => ∃ v acc', e = .returned (.tuple #[v, .nilIface]) ∧ acc'.map er = numP (l.map (·.1)) 1 ∧ RowsAt w' W.heap.size v acc' ∧ Below W.heap.size W w') := fun W => by
      have h := HPA.out (bs FT) W
      rw [list_bs, hFp] at h
      refine h.mono ?_
      rintro e w' ⟨hb, v, acc', he, h1, h2⟩
      exact ⟨v, acc', he, h1, h2, hb⟩
    have HPW := Lib.hid hpw
    have HACC := Lib.hid hacc
    have HSM := Lib.hid hsm
    have HF := Lib.hid hF
    have HFL : Hid (FT.length ≤ 1916) := by show _ ≤ _; have := HU.out; omega
    clear hR hF hFl hFp hpw hsm hlen hacc hfst hsm1 hli1 hb3 HQ HPA hal
    go_upto_region 7 with (first
      | (go_at_call 13; refine PR1.out.mono ?_; rintro e w4 ⟨rfl, hb4⟩)
      | (go_at_call 21; refine (PP.out _).mono ?_; rintro e w5 ⟨v5, acc', rfl, hacc', hR', hb5⟩; obtain ⟨A', cap', rfl⟩ := own_slice hR'.1))
    have hb45 := below_then hb4 hb5 hb4.size
    have HB5 : Hid (Below w.heap.size w w5) := below_then HB3.out hb45 HB3.out.size
    obtain ⟨hl2, hrow, hasc⟩ := same_at HACC.out hacc' HPW.out
    have hcap' := own_cap hR'.1
    have hfst' : acc'.map (·.1) = l.map (·.1) := by rw [← er_fst, hacc', num_map]
    have hsm' : ∀ x ∈ acc', Small x.1 := fun x hx => by
      have hm : x.1 ∈ l.map (·.1) := by rw [← hfst']; exact List.mem_map_of_mem hx
      obtain ⟨y, hy, e⟩ := List.mem_map.1 hm
      rw [← e]; exact HSM.out y hy
    have HR5 := Lib.hid (HR1.out.below hb45)
    have HR2 := Lib.hid (rIn_of hR')
    have HRO := Lib.hid hR'
    have HROW := Lib.hid hrow
    have HASC := Lib.hid hasc
    have PR2 : Hid (∀ W, Below w5.heap.size w5 W → Calls Tryz.prog 13 #[.slice A' acc.length cap'] W fun e w' => e = .returned (.tuple #[.string (bs FT), .nilIface]) ∧ Below W.heap.size W w') := fun W hW => by
      have hli' : ∀ x ∈ acc', ∀ B c, x.2.2 = .slice B x.1.list.length c → LIn W B c x.1.list := fun x hx B c e => (own_LIn3 (by rw [← e]; exact HRO.out.2 x hx)).below hW
      have hWw := below_then HB5.out hW HB5.out.size
      have h := PolPrint_any acc' A' cap' W (HR2.out.below hW) (by omega) hcap' hsm' hli' (HG.out.below' hWw) (HTB.out.below hWw)
      rw [hfst', HF.out, hl2] at h
      refine h.mono ?_
      rintro e w' ⟨hb, hm⟩
      simp only at hm
      rw [if_neg (by have := HFL.out; omega)] at hm
      exact ⟨hm, hb⟩
    have HL2 := Lib.hid hl2
    have hcap2 : acc.length ≤ cap' := by omega
    rw [hl2]
    clear hb4 hb5 hb45 hR' hacc' hrow hasc hfst' hsm' PR1 PP hcap' hl2 HRO HR1
    go_wp2
    go_loopw [60] (fun i wr => ∃ k : Nat, k ≤ acc.length ∧ i = .int .i64 k ∧ Hid (Below w5.heap.size w5 wr)) (fun i _ => acc.length - (intOf i).toNat)
    case atStart => exact ⟨0, Nat.zero_le _, rfl, Below.refl _ _⟩
    case round =>
      obtain ⟨k, hk, rfl, HBr⟩ := hrel
      by_cases hlt : k < acc.length
      · have hlt2 : k < acc'.length := by have := HL2.out; omega
        have hbw := HBr.out
        obtain ⟨g1, rfl, hg1, hc1, B1, d1, e1, hL1⟩ := HR5.out k hlt
        obtain ⟨g2, rfl, hg2, hc2, B2, d2, e2, hL2⟩ := HR2.out k hlt2
        have hrk := HROW.out k hlt hlt2
        have hM1 := hL1.below hbw
        have hM2 := hL2.below hbw
        clear hL1 hL2
        have q := fun f u hf hu => (hbw.cell (p := ⟨g1, k * 11 + f, none⟩) hg1).trans (hc1 f u hf hu)
        have p := fun f u hf hu => (hbw.cell (p := ⟨g2, k * 11 + f, none⟩) hg2).trans (hc2 f u hf hu)
        have hprev : ∀ j (hj : j + 1 = k), ∃ ln0 : Nat, wr.cell? ⟨g1, j * 11 + 10, none⟩ = some (.int .i64 ln0) ∧ ln0 < acc[k].2.1 := fun j hj => by
          subst hj
          obtain ⟨g, eg, hgl, hc, _⟩ := HR5.out j (by omega)
          obtain rfl : g1 = g := by simpa using eg
          exact ⟨_, (hbw.cell (p := ⟨g1, j * 11 + 10, none⟩) hgl).trans (hc 10 _ (by omega) rfl), HASC.out j hlt⟩
        have hbz := hbw.size
        clear hc1 hc2
        have hllk : acc[k].1.list.length ≤ 9223372036854775807 := by
          have := hM1.1
          have hs := HSM.out (er acc[k]) (by rw [← HACC.out]; exact List.mem_map_of_mem (List.getElem_mem hlt))
          have ht := hs.2.2
          have hsl := sum_len acc[k].1.list
          simp only [er, totR] at ht
          omega
        generalize acc[k] = x at *
        generalize acc'[k] = y at *
        obtain ⟨⟨kd, nm, l, rn, rm, rf, rt, rb, ra, ri⟩, ln1, L⟩ := x
        obtain ⟨s, ln2, L2⟩ := y
        obtain ⟨e3, e4⟩ := hrk
        simp only at e3 e4 hprev hllk
        subst e3 e4
        obtain rfl : L = .slice B1 l.length d1 := e1
        obtain rfl : L2 = .slice B2 l.length d2 := e2
        simp only at hM1 hM2
        have q0 := q 0 _ (by omega) rfl; have q1 := q 1 _ (by omega) rfl; have q2 := q 2 _ (by omega) rfl; have q3 := q 3 _ (by omega) rfl; have q4 := q 4 _ (by omega) rfl; have q5 := q 5 _ (by omega) rfl; have q6 := q 6 _ (by omega) rfl; have q7 := q 7 _ (by omega) rfl; have q8 := q 8 _ (by omega) rfl; have q9 := q 9 _ (by omega) rfl; have q10 := q 10 _ (by omega) rfl
        have p0 := p 0 _ (by omega) rfl; have p1 := p 1 _ (by omega) rfl; have p2 := p 2 _ (by omega) rfl; have p3 := p 3 _ (by omega) rfl; have p4 := p 4 _ (by omega) rfl; have p5 := p 5 _ (by omega) rfl; have p6 := p 6 _ (by omega) rfl; have p7 := p 7 _ (by omega) rfl; have p8 := p 8 _ (by omega) rfl; have p9 := p 9 _ (by omega) rfl; have p10 := p 10 _ (by omega) rfl
        simp only [Nat.add_zero] at q0 p0
        clear q p
        have KR : Hid (Calls Tryz.prog 22 #[.agg #[.int .i64 kd, .string (bs nm), .slice B1 l.length d1, .int .i64 rn, .int .i64 rm, .string (bs rf), .string (bs rt), .string (bs rb), .string (bs ra), .string (bs ri), .int .i64 ln1], .agg #[.int .i64 kd, .string (bs nm), .slice B2 l.length d2, .int .i64 rn, .int .i64 rm, .string (bs rf), .string (bs rt), .string (bs rb), .string (bs ra), .string (bs ri), .int .i64 ((k + 1 : Nat) : Int)]] wr.drew fun e w' => e = .returned (.bool true) ∧ Below wr.heap.size wr w') :=
          (keepRule ⟨kd, nm, l, rn, rm, rf, rt, rb, ra, ri⟩ B1 B2 d1 d2 ln1 ((k + 1 : Nat) : Int) wr.drew hllk hM1 hM2).mono fun e w' h => ⟨h.1, ⟨h.2.os, h.2.tape, h.2.output, h.2.size, h.2.block⟩⟩
        have hgl1 : g1 < wr.heap.size := by omega
        have hgl2 : g2 < wr.heap.size := by omega
        have hbD : Below wr.heap.size wr wr.drew := below_drew (Below.refl wr.heap.size wr)
        clear hbw
        by_cases hz : k = 0
        · subst hz
          clear hprev
          have e1 : (((0 + 1 : Nat) : Nat) : Int) = 1 := rfl
          rw [e1] at p10 KR
          simp only [Nat.zero_mul, Nat.zero_add] at q0 q1 q2 q3 q4 q5 q6 q7 q8 q9 q10 p0 p1 p2 p3 p4 p5 p6 p7 p8 p9 p10
          have hkl : (0 : Int) < acc.length := by omega
          have w1 : IntKind.i64.wrap 1 = 1 := by decide
          clear e1
          have c1_0 : ∀ d os, (grow (redrawn wr d) os).cell? ⟨g1, 0, none⟩ = some (.int .i64 kd) := fun d os => cell_regrown q0 d os
          have c1_1 : ∀ d os, (grow (redrawn wr d) os).cell? ⟨g1, 1, none⟩ = some (.string (bs nm)) := fun d os => cell_regrown q1 d os
          have c1_2 : ∀ d os, (grow (redrawn wr d) os).cell? ⟨g1, 2, none⟩ = some (.slice B1 l.length d1) := fun d os => cell_regrown q2 d os
          have c1_3 : ∀ d os, (grow (redrawn wr d) os).cell? ⟨g1, 3, none⟩ = some (.int .i64 rn) := fun d os => cell_regrown q3 d os
          have c1_4 : ∀ d os, (grow (redrawn wr d) os).cell? ⟨g1, 4, none⟩ = some (.int .i64 rm) := fun d os => cell_regrown q4 d os
          have c1_5 : ∀ d os, (grow (redrawn wr d) os).cell? ⟨g1, 5, none⟩ = some (.string (bs rf)) := fun d os => cell_regrown q5 d os
          have c1_6 : ∀ d os, (grow (redrawn wr d) os).cell? ⟨g1, 6, none⟩ = some (.string (bs rt)) := fun d os => cell_regrown q6 d os
          have c1_7 : ∀ d os, (grow (redrawn wr d) os).cell? ⟨g1, 7, none⟩ = some (.string (bs rb)) := fun d os => cell_regrown q7 d os
          have c1_8 : ∀ d os, (grow (redrawn wr d) os).cell? ⟨g1, 8, none⟩ = some (.string (bs ra)) := fun d os => cell_regrown q8 d os
          have c1_9 : ∀ d os, (grow (redrawn wr d) os).cell? ⟨g1, 9, none⟩ = some (.string (bs ri)) := fun d os => cell_regrown q9 d os
          have c1_10 : ∀ d os, (grow (redrawn wr d) os).cell? ⟨g1, 10, none⟩ = some (.int .i64 ln1) := fun d os => cell_regrown q10 d os
          have c2_0 : ∀ d os, (grow (redrawn wr d) os).cell? ⟨g2, 0, none⟩ = some (.int .i64 kd) := fun d os => cell_regrown p0 d os
          have c2_1 : ∀ d os, (grow (redrawn wr d) os).cell? ⟨g2, 1, none⟩ = some (.string (bs nm)) := fun d os => cell_regrown p1 d os
          have c2_2 : ∀ d os, (grow (redrawn wr d) os).cell? ⟨g2, 2, none⟩ = some (.slice B2 l.length d2) := fun d os => cell_regrown p2 d os
          have c2_3 : ∀ d os, (grow (redrawn wr d) os).cell? ⟨g2, 3, none⟩ = some (.int .i64 rn) := fun d os => cell_regrown p3 d os
          have c2_4 : ∀ d os, (grow (redrawn wr d) os).cell? ⟨g2, 4, none⟩ = some (.int .i64 rm) := fun d os => cell_regrown p4 d os
          have c2_5 : ∀ d os, (grow (redrawn wr d) os).cell? ⟨g2, 5, none⟩ = some (.string (bs rf)) := fun d os => cell_regrown p5 d os
          have c2_6 : ∀ d os, (grow (redrawn wr d) os).cell? ⟨g2, 6, none⟩ = some (.string (bs rt)) := fun d os => cell_regrown p6 d os
          have c2_7 : ∀ d os, (grow (redrawn wr d) os).cell? ⟨g2, 7, none⟩ = some (.string (bs rb)) := fun d os => cell_regrown p7 d os
          have c2_8 : ∀ d os, (grow (redrawn wr d) os).cell? ⟨g2, 8, none⟩ = some (.string (bs ra)) := fun d os => cell_regrown p8 d os
          have c2_9 : ∀ d os, (grow (redrawn wr d) os).cell? ⟨g2, 9, none⟩ = some (.string (bs ri)) := fun d os => cell_regrown p9 d os
          have c2_10 : ∀ d os, (grow (redrawn wr d) os).cell? ⟨g2, 10, none⟩ = some (.int .i64 1) := fun d os => cell_regrown p10 d os
          have KR0 : Hid (∀ d os, Calls Tryz.prog 22 #[.agg #[.int .i64 kd, .string (bs nm), .slice B1 l.length d1, .int .i64 rn, .int .i64 rm, .string (bs rf), .string (bs rt), .string (bs rb), .string (bs ra), .string (bs ri), .int .i64 ln1], .agg #[.int .i64 kd, .string (bs nm), .slice B2 l.length d2, .int .i64 rn, .int .i64 rm, .string (bs rf), .string (bs rt), .string (bs rb), .string (bs ra), .string (bs ri), .int .i64 1]] (grow (redrawn wr d) os) fun e w'' => e = .returned (.bool true) ∧ ∃ p : Regrown, w'' = grow (redrawn wr p.d) p.os) := fun d os =>
            Calls.regrown_of (keepRule ⟨kd, nm, l, rn, rm, rf, rt, rb, ra, ri⟩ B1 B2 d1 d2 ln1 1 (grow (redrawn wr d) os) hllk (hM1.below (below_regrown wr d os)) (hM2.below (below_regrown wr d os)))
          clear q0 p0 q1 p1 q2 p2 q3 p3 q4 p4 q5 p5 q6 p6 q7 p7 q8 p8 q9 p9 q10 p10 hM1 hM2 hllk KR
          go_upto_region 12 with fail
          refine wp_region_quiet_below (by kernel_rfl) (by kernel_rfl) ?_
          quiet_step (fail)
          quiet_step (fail)
          quiet_step (fail)
          quiet_step (fail)
          clear c1_0 c1_1 c1_2 c1_3 c1_4 c1_5 c1_6 c1_7 c1_8 c1_9 c1_10
          quiet_step (fail)
          quiet_step (fail)
          quiet_step (fail)
          quiet_step (fail)
          clear c2_0 c2_1 c2_2 c2_3 c2_4 c2_5 c2_6 c2_7 c2_8 c2_9
          quiet_step (exact KR0.out _ _)
          clear KR0
          quiet_step (fail)
          quiet_step (fail)
          quiet_step (fail)
          quiet_step (fail)
          quiet_step (fail)
          quiet_step (fail)
          quiet_step (fail)
          clear c2_10
          quiet_step (fail)
          quiet_step (fail)
          quiet_step (fail)
          quiet_step (fail)
          quiet_step (fail)
          quiet_step (fail)
          quiet_step (fail)
          (refine @wpQuiet_step _ _ _ _ _ _ _ ?_; intro K hK; go_simp; refine hK _ ?_; clear hK K)
          (refine @wpQuiet_step _ _ _ _ _ _ _ ?_; intro K hK; go_simp; refine hK _ ?_; clear hK K)
          (refine @wpQuiet_step _ _ _ _ _ _ _ ?_; intro K hK; go_simp; refine hK _ ?_; clear hK K)
          (refine @wpQuiet_step _ _ _ _ _ _ _ ?_; intro K hK; go_simp; refine hK _ ?_; clear hK K)
          (refine @wpQuiet_step _ _ _ _ _ _ _ ?_; intro K hK; go_simp; refine hK _ ?_; clear hK K)
          (refine @wpQuiet_step _ _ _ _ _ _ _ ?_; intro K hK; go_simp; refine hK _ ?_; clear hK K)
          (refine @wpQuiet_step _ _ _ _ _ _ _ ?_; intro K hK; go_simp; refine hK _ ?_; clear hK K)
          (refine @wpQuiet_step _ _ _ _ _ _ _ ?_; intro K hK; go_simp; refine hK _ ?_; clear hK K)
          (refine @wpQuiet_step _ _ _ _ _ _ _ ?_; intro K hK; go_simp; refine hK _ ?_; clear hK K)
          (refine @wpQuiet_step _ _ _ _ _ _ _ ?_; intro K hK; go_simp; refine hK _ ?_; clear hK K)
          (refine @wpQuiet_step _ _ _ _ _ _ _ ?_; intro K hK; go_simp; refine hK _ ?_; clear hK K)
          (refine @wpQuiet_step _ _ _ _ _ _ _ ?_; intro K hK; go_simp; refine hK _ ?_; clear hK K)
          (refine @wpQuiet_step _ _ _ _ _ _ _ ?_; intro K hK; go_simp; refine hK _ ?_; clear hK K)
          (refine @wpQuiet_step _ _ _ _ _ _ _ ?_; intro K hK; go_simp; refine hK _ ?_; clear hK K)
          (refine @wpQuiet_step _ _ _ _ _ _ _ ?_; intro K hK; go_simp; refine hK _ ?_; clear hK K)
          refine wpQuiet_nil ?_
          intro _ hw'
          obtain ⟨⟨dq, osq⟩, hw''⟩ := hw'
          subst hw''
          have HB9 := Lib.hid (below_then HBr.out (below_regrown wr dq osq) HBr.out.size)
          simp only at HB9 ⊢
          generalize grow (redrawn wr dq) osq = w9 at *
          go_wp2
          go_roundw
          case rel => exact ⟨1, by omega, by go_num, HB9⟩
          case measure => simp [intOf]; omega
        · obtain ⟨j, hj⟩ : ∃ j, j + 1 = k := ⟨k - 1, by omega⟩
          clear hM1 hM2 hllk
          have ek : ((k + 1 : Nat) : Int) = (k : Int) + 1 := by omega
          rw [ek] at p10 KR
          generalize hl2 : (k : Int) + 1 = ln2 at p10 KR
          have s1 : IntKind.i64.wrap ((k : Int) + 1) = ln2 := by rw [← hl2, IntKind.wrap_i64]; omega
          have HLN2 := Lib.hid hl2
          have ne2 : (ln2 != ln2) = false := by simp
          have hk0 : (0 : Int) ≤ k := by omega
          have hkl : (k : Int) < acc.length := by omega
          clear ek hl2
          obtain ⟨ln0, z0, hln⟩ := hprev j hj
          have hln : ln0 < ln1 := hln
          have gz : decide ((0 : Int) < k) = true := by simp; omega
          have gz2 : decide (0 < k) = true := by simp; omega
          have ej : (k : Int) - 1 = j := by omega
          have sj : IntKind.i64.wrap ((k : Int) - 1) = (j : Int) := by rw [ej, IntKind.wrap_i64]; omega
          have sjj : IntKind.i64.wrap (j : Int) = (j : Int) := by rw [IntKind.wrap_i64]; omega
          have j0 : (0 : Int) ≤ j := by omega
          have jl : (j : Int) < acc.length := by omega
          have le1 : decide (ln1 ≤ ln0) = false := by simp; omega
          have le2 : decide ((ln1 : Int) ≤ (ln0 : Int)) = false := by simp; omega
          have le3 : ¬ ln1 ≤ ln0 := by omega
          clear hz hprev hj hln
          have HSS : Hid (∀ w', Below wr.heap.size wr w' → w'.cell? ⟨g1, k * 11, none⟩ = some (.int .i64 kd) ∧ w'.cell? ⟨g1, k * 11 + 1, none⟩ = some (.string (bs nm)) ∧ w'.cell? ⟨g1, k * 11 + 2, none⟩ = some (.slice B1 l.length d1) ∧ w'.cell? ⟨g1, k * 11 + 3, none⟩ = some (.int .i64 rn) ∧ w'.cell? ⟨g1, k * 11 + 4, none⟩ = some (.int .i64 rm) ∧ w'.cell? ⟨g1, k * 11 + 5, none⟩ = some (.string (bs rf)) ∧ w'.cell? ⟨g1, k * 11 + 6, none⟩ = some (.string (bs rt)) ∧ w'.cell? ⟨g1, k * 11 + 7, none⟩ = some (.string (bs rb)) ∧ w'.cell? ⟨g1, k * 11 + 8, none⟩ = some (.string (bs ra)) ∧ w'.cell? ⟨g1, k * 11 + 9, none⟩ = some (.string (bs ri)) ∧ w'.cell? ⟨g1, k * 11 + 10, none⟩ = some (.int .i64 ln1) ∧ w'.cell? ⟨g2, k * 11, none⟩ = some (.int .i64 kd) ∧ w'.cell? ⟨g2, k * 11 + 1, none⟩ = some (.string (bs nm)) ∧ w'.cell? ⟨g2, k * 11 + 2, none⟩ = some (.slice B2 l.length d2) ∧ w'.cell? ⟨g2, k * 11 + 3, none⟩ = some (.int .i64 rn) ∧ w'.cell? ⟨g2, k * 11 + 4, none⟩ = some (.int .i64 rm) ∧ w'.cell? ⟨g2, k * 11 + 5, none⟩ = some (.string (bs rf)) ∧ w'.cell? ⟨g2, k * 11 + 6, none⟩ = some (.string (bs rt)) ∧ w'.cell? ⟨g2, k * 11 + 7, none⟩ = some (.string (bs rb)) ∧ w'.cell? ⟨g2, k * 11 + 8, none⟩ = some (.string (bs ra)) ∧ w'.cell? ⟨g2, k * 11 + 9, none⟩ = some (.string (bs ri)) ∧ w'.cell? ⟨g2, k * 11 + 10, none⟩ = some (.int .i64 ln2) ∧ w'.cell? ⟨g1, j * 11 + 10, none⟩ = some (.int .i64 ln0)) := fun w' hb => ⟨(hb.cell (p := ⟨g1, k * 11, none⟩) hgl1).trans q0, (hb.cell (p := ⟨g1, k * 11 + 1, none⟩) hgl1).trans q1, (hb.cell (p := ⟨g1, k * 11 + 2, none⟩) hgl1).trans q2, (hb.cell (p := ⟨g1, k * 11 + 3, none⟩) hgl1).trans q3, (hb.cell (p := ⟨g1, k * 11 + 4, none⟩) hgl1).trans q4, (hb.cell (p := ⟨g1, k * 11 + 5, none⟩) hgl1).trans q5, (hb.cell (p := ⟨g1, k * 11 + 6, none⟩) hgl1).trans q6, (hb.cell (p := ⟨g1, k * 11 + 7, none⟩) hgl1).trans q7, (hb.cell (p := ⟨g1, k * 11 + 8, none⟩) hgl1).trans q8, (hb.cell (p := ⟨g1, k * 11 + 9, none⟩) hgl1).trans q9, (hb.cell (p := ⟨g1, k * 11 + 10, none⟩) hgl1).trans q10, (hb.cell (p := ⟨g2, k * 11, none⟩) hgl2).trans p0, (hb.cell (p := ⟨g2, k * 11 + 1, none⟩) hgl2).trans p1, (hb.cell (p := ⟨g2, k * 11 + 2, none⟩) hgl2).trans p2, (hb.cell (p := ⟨g2, k * 11 + 3, none⟩) hgl2).trans p3, (hb.cell (p := ⟨g2, k * 11 + 4, none⟩) hgl2).trans p4, (hb.cell (p := ⟨g2, k * 11 + 5, none⟩) hgl2).trans p5, (hb.cell (p := ⟨g2, k * 11 + 6, none⟩) hgl2).trans p6, (hb.cell (p := ⟨g2, k * 11 + 7, none⟩) hgl2).trans p7, (hb.cell (p := ⟨g2, k * 11 + 8, none⟩) hgl2).trans p8, (hb.cell (p := ⟨g2, k * 11 + 9, none⟩) hgl2).trans p9, (hb.cell (p := ⟨g2, k * 11 + 10, none⟩) hgl2).trans p10, (hb.cell (p := ⟨g1, j * 11 + 10, none⟩) hgl1).trans z0⟩
          clear q0 p0 q1 p1 q2 p2 q3 p3 q4 p4 q5 p5 q6 p6 q7 p7 q8 p8 q9 p9 q10 p10 z0
          go_upto_region 12 with fail
          go_region_held3 (fun w' => w'.cell? ⟨g1, k * 11, none⟩ = some (.int .i64 kd) ∧ w'.cell? ⟨g1, k * 11 + 1, none⟩ = some (.string (bs nm)) ∧ w'.cell? ⟨g1, k * 11 + 2, none⟩ = some (.slice B1 l.length d1) ∧ w'.cell? ⟨g1, k * 11 + 3, none⟩ = some (.int .i64 rn) ∧ w'.cell? ⟨g1, k * 11 + 4, none⟩ = some (.int .i64 rm) ∧ w'.cell? ⟨g1, k * 11 + 5, none⟩ = some (.string (bs rf)) ∧ w'.cell? ⟨g1, k * 11 + 6, none⟩ = some (.string (bs rt)) ∧ w'.cell? ⟨g1, k * 11 + 7, none⟩ = some (.string (bs rb)) ∧ w'.cell? ⟨g1, k * 11 + 8, none⟩ = some (.string (bs ra)) ∧ w'.cell? ⟨g1, k * 11 + 9, none⟩ = some (.string (bs ri)) ∧ w'.cell? ⟨g1, k * 11 + 10, none⟩ = some (.int .i64 ln1) ∧ w'.cell? ⟨g2, k * 11, none⟩ = some (.int .i64 kd) ∧ w'.cell? ⟨g2, k * 11 + 1, none⟩ = some (.string (bs nm)) ∧ w'.cell? ⟨g2, k * 11 + 2, none⟩ = some (.slice B2 l.length d2) ∧ w'.cell? ⟨g2, k * 11 + 3, none⟩ = some (.int .i64 rn) ∧ w'.cell? ⟨g2, k * 11 + 4, none⟩ = some (.int .i64 rm) ∧ w'.cell? ⟨g2, k * 11 + 5, none⟩ = some (.string (bs rf)) ∧ w'.cell? ⟨g2, k * 11 + 6, none⟩ = some (.string (bs rt)) ∧ w'.cell? ⟨g2, k * 11 + 7, none⟩ = some (.string (bs rb)) ∧ w'.cell? ⟨g2, k * 11 + 8, none⟩ = some (.string (bs ra)) ∧ w'.cell? ⟨g2, k * 11 + 9, none⟩ = some (.string (bs ri)) ∧ w'.cell? ⟨g2, k * 11 + 10, none⟩ = some (.int .i64 ln2) ∧ w'.cell? ⟨g1, j * 11 + 10, none⟩ = some (.int .i64 ln0))
            (first | exact HSS.out _ hbD | exact HSS.out _ (by assumption))
            (first
              | (go_at_call 22; refine KR.out.mono ?_; rintro e w9 ⟨rfl, hb9⟩))
          all_goals
            have HB9 := Lib.hid (below_then HBr.out hb9 HBr.out.size)
            have hl2 := HLN2.out
            subst hl2
            clear HSS KR hb9
            go_wp2
            go_roundw
            case rel => exact ⟨k + 1, by omega, by go_num, HB9⟩
            case measure => simp [intOf]; omega
      · have hbb : ((bs FT).toList == (bs FT).toList) = true := by simp
        generalize bs FT = FB at *
        go_wp2_with (first
          | (go_at_call 13; refine (PR2.out _ HBr.out).mono ?_; rintro e w7 ⟨rfl, hb7⟩; have h7 := below_then HBr.out hb7 HBr.out.size)
          | (go_at_call 19; refine (wakes03 _).mono ?_; rintro e w8 ⟨rfl, hb8⟩; have h8 := below_then h7 hb8 h7.size))
        go_ret
        exact ⟨rfl, below_then HB5.out h8 HB5.out.size⟩
end Go.Proofs.YtahhepmhdcbplaaGreatDoor
