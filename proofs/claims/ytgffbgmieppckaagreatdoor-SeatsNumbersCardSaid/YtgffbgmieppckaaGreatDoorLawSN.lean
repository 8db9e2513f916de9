import Derived.Test.YtgffbgmieppckaaGreatDoorSw
import Derived.Test.YtgffbgmieppckaaGreatDoorSn0
import Derived.Test.YtgffbgmieppckaaGreatDoorSplit
import Derived.Deep.RegionWith
import Derived.StillTailTactics
import Derived.Test.YtgffbgmieppckaaGreatDoorSe1
namespace Go.Proofs.YtgffbgmieppckaaGreatDoor
set_option maxRecDepth 100000
open Go.ChangeShapes Go.WideShapes Go.ChangeAt Go.RowKit
theorem sAt_of_at {ss : List Se} {q : Nat} (h : q < ss.length) : sAt ss ss[q].num < ss.length := by
 by_cases h9 : sAt ss ss[q].num < ss.length
 ·exact h9
 ·exfalso
  have e : sAt ss ss[q].num = ss.length := by
   have := List.findIdx_le_length (p := fun s => s.num == ss[q].num) (xs := ss)
   unfold sAt at h9 ⊢; omega
  unfold sAt at e
  have := List.findIdx_eq_length.1 e ss[q] (List.getElem_mem h)
  simp at this
theorem opTo_yesS {k : Int} (hk : k = 0) {x : Tx} {w0 w' : World} {b : Nat} {v : Value} {ss : List Se} {last : Int} {e : Ending} (h : OpTo k x w0 b v ss last e w') : e = .returned (.tuple #[.int .i64 (last + 1), .nilIface]) ∧ SeTo w0 b v (ss ++ [⟨last + 1, x, 0⟩]) (last + 1) w' := by
 unfold OpTo at h; rwa [if_pos hk] at h
theorem opTo_notS {k j : Int} (hj : k = j) (hk : j ≠ 0) {x : Tx} {w0 w' : World} {b : Nat} {v : Value} {ss : List Se} {last : Int} {e : Ending} (h : OpTo k x w0 b v ss last e w') : e = .returned (.tuple #[.int .i64 0, .iface 39 (.int .i64 j)]) ∧ SeTo w0 b v ss last w' := by
 subst hj; unfold OpTo at h; rwa [if_neg hk] at h
theorem sn_ua (n : Nat) : opE (hnm snR.users) [117, 97] n = if 12 ≤ n then 5 else 0 := by unfold opE; rw [if_pos (by decide)]
theorem sn_ub (n : Nat) : opE (hnm snR.users) [117, 98] n = 3 := by unfold opE; rw [if_neg (by decide)]
theorem tdiv2_bd (x : Int) (h : -9223372036854775808 ≤ x ∧ x ≤ 9223372036854775807) : -9223372036854775808 ≤ x.tdiv 2 ∧ x.tdiv 2 ≤ 9223372036854775807 := by
 by_cases h0 : 0 ≤ x
 ·rw [Int.tdiv_eq_ediv_of_nonneg h0]; omega
 ·have e : x.tdiv 2 = -((-x).tdiv 2) := by rw [Int.neg_tdiv, Int.neg_neg]
  rw [e, Int.tdiv_eq_ediv_of_nonneg (by omega)]; omega
set_option maxHeartbeats 8000000 in
theorem snumbers_walk (w : World) (v : Value) (zs : List Int) (hz : IntsAt w v zs) (hg : HandleAt w) (ht : TabAt w) :
  Calls Tryz.prog 8 #[v] w (TrueOn w) := by
 obtain ⟨A0, c0, rfl, hzl, hzc⟩ := hz
 have HZ := Lib.hid hzc
 have PR := Lib.hid (fun T W => PlayRules_any T W)
 have HG := Lib.hid hg
 have HT := Lib.hid ht
 have HS := Lib.hid (fun w1 e w' hb h => somS_of sn_at sn_bl (w := w) (w1 := w1) (w' := w') (e := e) hb h)
 have HTX : Hid ((polT (ByteArray.mk #[117, 115, 101, 114, 32, 117, 97, 10]).data.toList).l = (polT snTx).l) := rfl
 have hzm : (zs.length : Int) ≤ 9223372036854775807 := by unfold maxLen at hzl; omega
 clear hg ht hzc
 go_enter Tryz.func8, Tryz.ntmps8
 go_upto_region 2 with (first
  | (go_at_call 13; refine (PR.out _ _).mono ?_; rintro e w3 ⟨hb3, v3, acc, rfl, hacc, hr⟩; obtain ⟨A3, cap3, rfl⟩ := own_slice hr.1; have HB3 := Lib.hid hb3; have CC := Lib.hid (RComp_pol acc A3 cap3 _ w3 hr (hacc.trans HTX.out) (HG.out.below' HB3.out) (HT.out.below HB3.out)); clear hb3 hr hacc)
  | (go_at_call 17; refine CC.out.mono ?_; intro e w1 h9; obtain ⟨hb4, rb, ro, e9, hlt, hR⟩ := HS.out _ _ _ HB3.out h9; subst e9; clear h9; have HR := Lib.hid hR; have HB1 := Lib.hid hb4; have NW := Lib.hid (NewSe_any w1); clear hR hb4))
 clear CC HS PR HTX HB3 HG HT
 go_upto_region 6 with (go_at_call 46; refine NW.out.mono ?_; rintro e w2 ⟨rfl, hm2, hb2⟩; have HM2 := Lib.hid hm2; have HB2 := Lib.hid hb2; clear hm2 hb2)
 have hmb : w1.heap.size < w2.heap.size := HM2.out.lt
 clear NW
 go_upto_region 7 with fail
 go_loopw [6, 7, 8] (fun la op i wr => ∃ (k : Nat) (ss : List Se) (vS : Value) (l : Int), k ≤ 20 ∧ la = .int .i64 l ∧ op = .int .i64 ss.length ∧ i = .int .i64 k ∧ 0 ≤ l ∧ l ≤ k ∧ ss.length ≤ 12 ∧ Hid (SeM wr w1.heap.size vS ss l) ∧ Hid (Below w1.heap.size w1 wr) ∧ Hid (∀ j, vS.ownBlock = some j → w1.heap.size ≤ j)) (fun _ _ i _ => 20 - (intOf i).toNat)
 case atStart => exact ⟨0, [], _, 0, by omega, rfl, rfl, rfl, by omega, by omega, by simp, HM2.out, HB2.out, fun j e => by simp [Value.ownBlock] at e⟩
 case round =>
  obtain ⟨k, ss, vS, l, hk, rfl, rfl, rfl, hl0, hlk, hs12, HM, HB, HV⟩ := hrel
  have hwz : w1.heap.size ≤ wr.heap.size := HB.out.size
  clear HM2 HB2 hmb
  by_cases hlt : k < 20
  ·have hki : (k : Int) < 20 := by omega
   go_upto_region 9 with fail
   go_cut [49] from 30 to 99 (fun c wx => wx = wr ∧ ∃ cb : Bool, c = .bool cb ∧ (cb = true → k < zs.length ∧ 0 < ss.length))
   case first =>
    by_cases hi : k < zs.length
    ·have hii : (k : Int) < zs.length := by omega
     obtain ⟨gz, oz, rfl, hgz, hxc, hxw⟩ := HZ.out k hi
     have hx := (HB.out.cell (p := ⟨gz, oz + k, none⟩) (Nat.lt_of_lt_of_le hgz HB1.out.size)).trans ((HB1.out.cell (p := ⟨gz, oz + k, none⟩) hgz).trans hxc)
     generalize zs[k] = x at *
     clear hxc hxw
     by_cases hp : x.tmod 2 = 0
     ·have hpb : (x.tmod 2 == 0) = true := by simpa using hp
      clear hp
      by_cases ho : 0 < ss.length
      ·have hoi : (0 : Int) < ss.length := by omega
       go_wp2
       go_meet
       exact ⟨rfl, true, rfl, fun _ => ⟨hi, ho⟩⟩
      ·have hoi : ¬ (0 : Int) < ss.length := by omega
       go_wp2
       go_meet
       exact ⟨rfl, false, rfl, fun h => by cases h⟩
     ·have hpb : (x.tmod 2 == 0) = false := by simpa using hp
      clear hp
      go_wp2
      go_meet
      exact ⟨rfl, false, rfl, fun h => by cases h⟩
    ·have hii : ¬ (k : Int) < zs.length := by omega
     go_wp2
     go_meet
     exact ⟨rfl, false, rfl, fun h => by cases h⟩
   case rest =>
   obtain ⟨hw9, cb, rfl, hcb⟩ := hcut
   subst hw9
   obtain ⟨wr, rfl⟩ : ∃ w9 : World, w9 = wc := ⟨_, rfl⟩
   go_upto_if 49 with fail
   go_cut [7] from 30 to 99 (fun op wx => ∃ (ss' : List Se) (v' : Value), op = .int .i64 ss'.length ∧ ss'.length ≤ 12 ∧ Hid (SeM wx w1.heap.size v' ss' l) ∧ Hid (Below w1.heap.size w1 wx) ∧ Hid (∀ j, v'.ownBlock = some j → w1.heap.size ≤ j))
   case first =>
    cases cb with
    | false =>
     clear hcb
     go_wp2
     go_meet
     exact ⟨ss, vS, rfl, hs12, HM, HB, HV⟩
    | true =>
     obtain ⟨hi, ho⟩ := hcb rfl
     have hii : (k : Int) < zs.length := by omega
     have hoi : (0 : Int) < ss.length := by omega
     obtain ⟨gz, oz, rfl, hgz, hxc, hxw⟩ := HZ.out k hi
     have hx0 := Lib.hid ((HB1.out.cell (p := ⟨gz, oz + k, none⟩) hgz).trans hxc)
     generalize zs[k] = x at *
     have HW2 := Lib.hid (tdiv2_bd x (bounds_i64 hxw))
     have hd2 : IntKind.i64.wrap (x.tdiv 2) = x.tdiv 2 := by have := HW2.out; rw [IntKind.wrap_i64]; omega
     have b0 := within_bd (x.tdiv 2) ss.length (by omega)
     have W0 := Lib.hid (fun W => Within_any (x.tdiv 2) ss.length W (WalkArith.wf_i64 HW2.out) (by omega) (by omega))
     obtain ⟨q, hq⟩ : ∃ q : Nat, within (x.tdiv 2) ss.length = q := ⟨(within (x.tdiv 2) ss.length).toNat, by omega⟩
     rw [hq] at W0 b0
     have hqs : q < ss.length := by omega
     have hqi : ((q : Nat) : Int) < ss.length := by omega
     have hsm : IntKind.i64.wrap ((ss.length : Int) - 1) = ((ss.length - 1 : Nat) : Int) := by rw [IntKind.wrap_i64]; omega
     have LI := Lib.hid (ListSe_any HM.out (by omega))
     clear hq HW2 b0 hcb hxc hxw
     go_upto_region 11 with (go_at_call 47; refine LI.out.mono ?_; rintro e w3 ⟨A3, c3, rfl, ho3, hb3⟩; have HO3 := Lib.hid ho3; have HB3 := Lib.hid hb3; clear ho3 hb3)
     clear LI
     obtain ⟨g3, cap3, e3, _, hg3, hcp3, hcl3⟩ := own_form HO3.out (by omega)
     have eA : A3 = some ⟨g3, 0, none⟩ := by injection e3
     subst eA
     have hcc3 := own_cap HO3.out
     have HB4 := Lib.hid (below_then HB.out HB3.out hwz)
     have hx2 := (HB4.out.cell (p := ⟨gz, oz + k, none⟩) (Nat.lt_of_lt_of_le hgz HB1.out.size)).trans hx0.out
     have y0 := hcl3 (q * 3 + 0) _ (secells_at ss q 0 hqs (by omega))
     simp only [Nat.add_zero] at y0
     clear e3 hcl3
     have HSA := Lib.hid (sAt_of_at hqs)
     have y1 : w3.cell? ⟨g3, q * 3, none⟩ = some (.int .i64 ss[q].num) := y0
     clear y0
     generalize ss[q].num = n9 at *
     have CLS := Lib.hid (Close_ok (HM.out.below HB3.out) (by omega) n9 HSA.out)
     have HLE : Hid ((ss.eraseIdx (sAt ss n9)).length = ss.length - 1) := List.length_eraseIdx_of_lt HSA.out
     go_wp2_with (first
      | (go_at_call 25; refine (W0.out _).mono ?_; rintro e w0 ⟨rfl, rfl⟩)
      | (go_at_call 48; refine CLS.out.mono ?_; rintro e w5 ⟨rfl, hs5⟩; have HS5 := Lib.hid (seTo_on HB4.out HB4.out.size hs5 (Nat.le_refl _) HV.out); clear hs5))
     go_meet
     obtain ⟨v5, hm5, hb5, hv5, _⟩ := HS5.out
     exact ⟨_, v5, by rw [HLE.out], by rw [HLE.out]; omega, hm5, hb5, fun j e => (hv5 j e).elim (HV.out j) (fun h => Nat.le_trans HB4.out.size h)⟩
   case rest =>
    obtain ⟨ss', v', rfl, hs2, HM2, HB2, HV2⟩ := hcut
    obtain ⟨w5, rfl⟩ : ∃ w9 : World, w9 = wc := ⟨_, rfl⟩
    have hwz5 : w1.heap.size ≤ w5.heap.size := HB2.out.size
    have OP := Lib.hid (Open_any HR.out.B HM2.out HB2.out (by omega) hl0 (by omega) [117, 97])
    rw [sn_ua] at OP
    clear hcb HM HB HV hwz
    generalize hns : ss'.length = n at *
    by_cases hf : 12 ≤ n
    ·have hfi : (12 : Int) ≤ n := by omega
     rw [if_pos hf] at OP
     clear hf
     go_wp2_with (first
      | (go_at_call 49; refine OP.out.mono ?_; intro e w6 h6; obtain ⟨e9, hs6⟩ := opTo_notS rfl (by decide) h6; subst e9; clear h6; have HS6 := Lib.hid (seTo_on HB2.out hwz5 hs6 (Nat.le_refl _) HV2.out); clear hs6)
      | (go_at_call 19; refine (ko.keepIsO 5 5 _ (by omega) (by omega)).mono ?_; rintro e w7 ⟨rfl, rfl⟩))
     go_roundw
     case rel =>
      obtain ⟨v6, hm6, hb6, hv6, _⟩ := HS6.out
      exact ⟨k + 1, ss', v6, l, by omega, rfl, by rw [hns], by go_num, hl0, by omega, by omega, hm6, hb6, fun j e => (hv6 j e).elim (HV2.out j) (fun h => Nat.le_trans hwz5 h)⟩
     case measure => simp [intOf]; omega
    ·have hfi : ¬ (12 : Int) ≤ n := by omega
     rw [if_neg hf] at OP
     have hln : IntKind.i64.wrap (l + 1) = l + 1 := by rw [IntKind.wrap_i64]; omega
     have hnn : IntKind.i64.wrap ((n : Int) + 1) = ((n + 1 : Nat) : Int) := by rw [IntKind.wrap_i64]; omega
     go_wp2_with (go_at_call 49; refine OP.out.mono ?_; intro e w6 h6; obtain ⟨e9, hs6⟩ := opTo_yesS rfl h6; subst e9; clear h6; have HS6 := Lib.hid (seTo_on HB2.out hwz5 hs6 (Nat.le_refl _) HV2.out); clear hs6)
     go_roundw
     case rel =>
      obtain ⟨v6, hm6, hb6, hv6, _⟩ := HS6.out
      exact ⟨k + 1, _, v6, l + 1, by omega, rfl, by rw [List.length_append, hns]; rfl, by go_num, by omega, by omega, by rw [List.length_append]; simp; omega, hm6, hb6, fun j e => (hv6 j e).elim (HV2.out j) (fun h => Nat.le_trans hwz5 h)⟩
     case measure => simp [intOf]; omega
  ·have hki : ¬ (k : Int) < 20 := by omega
   have OP := Lib.hid (Open_any HR.out.B HM.out HB.out (by omega) hl0 (by omega) [117, 98])
   rw [sn_ub] at OP
   have WK := Lib.hid (fun W => wakes13 W)
   go_wp2_with (first
    | (go_at_call 49; refine OP.out.mono ?_; intro e w6 h6; obtain ⟨e9, hs6⟩ := opTo_notS rfl (by decide) h6; subst e9; clear h6; have HS6 := Lib.hid (seTo_on HB.out hwz hs6 (Nat.le_refl _) HV.out); clear hs6; obtain ⟨v6, hm6, hb6, _, _⟩ := HS6.out; have LI := Lib.hid (ListSe_any hm6 (by omega)); have HB6 := Lib.hid hb6; clear hm6 hb6 HS6)
    | (go_at_call 19; refine (ko.keepIsO 3 3 _ (by omega) (by omega)).mono ?_; rintro e w7 ⟨rfl, rfl⟩)
    | (go_at_call 47; refine LI.out.mono ?_; rintro e w7 ⟨A7, c7, rfl, _, hb7⟩; have HB7 := Lib.hid (below_then HB6.out hb7 HB6.out.size); clear hb7)
    | (go_at_call 50; refine (WK.out _).mono ?_; rintro e w8 ⟨rfl, hb8⟩; have HB8 := Lib.hid (below_then HB7.out hb8 HB7.out.size); clear hb8))
   go_ret
   exact ⟨rfl, below_then HB1.out HB8.out HB1.out.size⟩
end Go.Proofs.YtgffbgmieppckaaGreatDoor
