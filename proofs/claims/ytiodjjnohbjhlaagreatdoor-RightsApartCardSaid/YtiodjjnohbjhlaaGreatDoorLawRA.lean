/-
  RightsApart: whose roles are apart; who is above whom has what they have: the walk.
-/
import Derived.Test.YtiodjjnohbjhlaaGreatDoorRef01b
import Derived.Test.YtiodjjnohbjhlaaGreatDoorRtP
import Derived.Test.YtiodjjnohbjhlaaGreatDoorPpl
namespace Go.Proofs.YtiodjjnohbjhlaaGreatDoor
set_option maxRecDepth 100000
open Go.ChangeShapes Go.WideShapes Go.ChangeAt Go.RowKit

/-- what Compile answers, one or the other -/
theorem rc_or {p : Rs (List Tx × List Pr × Rt)} {w : World} {e : Ending} {w' : World} (h : RcTo (some p) w e w') : Below w.heap.size w w' ∧ ((∃ b, e = .returned (.tuple #[.pointer none, .iface 94 (.pointer (some ⟨b, 0, none⟩))])) ∨
    ∃ b ns ps r, e = .returned (.tuple #[.pointer (some ⟨b, 0, none⟩), .nilIface]) ∧ p = .ok (ns, ps, r) ∧ RtM w.heap.size w' b ns (rtBl ns ps) r) := by
  obtain ⟨hb, h⟩ := h
  refine ⟨hb, ?_⟩
  cases p with
  | bad ln k => obtain ⟨b, he, _⟩ := h; exact .inl ⟨b, he⟩
  | ok c => obtain ⟨ns, ps, r⟩ := c; obtain ⟨b, he, hm⟩ := h; exact .inr ⟨b, ns, ps, r, he, rfl, hm⟩
set_option maxHeartbeats 8000000 in
theorem rapart_walk (w : World) (v : Value) (zs : List Int) (hz : IntsAt w v zs) (hg : HandleAt w) (ht : TabAt w) :
    Calls Tryz.prog 6 #[.agg #[v]] w (TrueOn w) := by
  obtain ⟨A, n, cap, rfl⟩ := ints_slice hz
  have hb0 := rbox w (.cells #[.slice A n cap] 24)
  have PT := Lib.hid (peopleTx_any (.slice A n cap) zs _ (hz.below hb0))
  have PR := Lib.hid (fun T W => PlayRules_any T W)
  have HG := Lib.hid hg
  have HT := Lib.hid ht
  have HB0 := Lib.hid hb0
  clear hz hb0 hg ht
  go_enter Tryz.func6, Tryz.ntmps6
  go_upto_region 1 with fail
  have c0 : (w.alloc (.cells #[.slice A n cap] 24)).cell? ⟨w.heap.size, 0, none⟩ = some (.slice A n cap) := by rw [cell_of_row _ _ _ _ _ _ (heap_alloc_new w _)]; rfl
  generalize w.alloc (.cells #[.slice A n cap] 24) = w1 at *
  go_upto_region 2 with (first
    | (go_at_call 9; refine PT.out.mono ?_; rintro e w2 ⟨t, rfl, _, _, hb2⟩; have HB2 := Lib.hid (below_then HB0.out hb2 HB0.out.size); have PR2 := Lib.hid (PR.out (t ++ ⟨#[10]⟩) w2); clear hb2; generalize t ++ ⟨#[10]⟩ = T at *)
    | (go_at_call 8; refine PR2.out.mono ?_; rintro e w3 ⟨hb3, v3, acc, rfl, hacc, hr⟩; obtain ⟨A3, cap3, rfl⟩ := own_slice hr.1; have HB3 := Lib.hid (below_then HB2.out hb3 HB2.out.size); have CC := Lib.hid (RComp_pol acc A3 cap3 _ w3 hr hacc (HG.out.below' HB3.out) (HT.out.below HB3.out)); clear hb3 hr hacc)
    | (go_at_call 10; refine CC.out.mono ?_; intro e w4 h9; obtain ⟨hb4, h8⟩ := rc_or h9; clear h9; have HB4 := Lib.hid (below_then HB3.out hb4 HB3.out.size); clear hb4; rcases h8 with ⟨fb, rfl⟩ | ⟨rb, ns, ps, r, rfl, hp, hM⟩))
  · have WK := Lib.hid (wakes11 w4 (HG.out.below' HB4.out) (HT.out.below HB4.out))
    go_wp2_with (go_at_call 11; refine WK.out.mono ?_; rintro e w5 ⟨rfl, hb5⟩)
    go_ret
    exact ⟨rfl, below_then HB4.out hb5 HB4.out.size⟩
  · obtain ⟨w0, o, vU, vP, vS, vD, vA, m, hlo, hA, hO, hI⟩ := hM
    have HA := Lib.hid hA
    have HO := Lib.hid (hO.below hA.be)
    have HI := Lib.hid hI
    have HP := Lib.hid hp
    obtain ⟨AU, cU, rfl⟩ := own_slice hA.oU
    obtain ⟨AP, cP, rfl⟩ := own_slice hA.oP
    obtain ⟨AS, cS, rfl⟩ := own_slice hA.oS
    clear hp hA hO hI CC PT PR c0 PR2 HB3 HB2 HB0
    have OR : Hid (∀ W, Below w4.heap.size w4 W → Calls Tryz.prog 12 #[.pointer (some ⟨rb, 0, none⟩)] W fun e w' => e = .returned (.pointer (some ⟨o, 0, none⟩)) ∧ W = w') := fun W hW => Order_any rb W o (HA.out.below hW).q0
    have US : Hid (∀ W, Below w4.heap.size w4 W → Calls Tryz.prog 25 #[.pointer (some ⟨rb, 0, none⟩)] W (NmTo2 (hnm r.users) W)) := fun W hW => Users_any r.users AU cU rb W (HA.out.below hW).q1 (hAt_of (HA.out.below hW).oU) (by have := HI.out.nu; omega)
    have PS : Hid (∀ W, Below w4.heap.size w4 W → Calls Tryz.prog 29 #[.pointer (some ⟨rb, 0, none⟩)] W (NmTo2 (hnm r.perms) W)) := fun W hW => Perms_any rb W r.perms AP cP (HA.out.below hW).q2 (hAt_of (HA.out.below hW).oP) (by have := HI.out.np; omega)
    have HS : Hid (∀ x W, Below w4.heap.size w4 W → Calls Tryz.prog 17 #[.pointer (some ⟨rb, 0, none⟩), .string (bs x)] W fun e w' => e = .returned (.int .u32 (rtHas r.users x : Nat)) ∧ Below W.heap.size W w') := fun x W hW => Has_any r.users x AU cU rb W (HA.out.below hW).q1 (hAt_of (HA.out.below hW).oU) (by have := HI.out.nu; omega)
    have DN : Hid (∀ x W, Below w4.heap.size w4 W → Calls Tryz.prog 27 #[.pointer (some ⟨o, 0, none⟩), .int .u32 (rtHas r.users x : Nat)] W fun e w' => e = .returned (.int .u32 (downTo (rtBl ns ps) (rtHas r.users x) ns.length : Nat)) ∧ W = w') := fun x W hW => Down_any o ns (rtBl ns ps) W (rtHas r.users x) (by have := rtHas_lt HI.out.su x; omega) (HO.out.below hW)
    have ST : Hid (∀ W, Below w4.heap.size w4 W → Calls Tryz.prog 28 #[.pointer (some ⟨rb, 0, none⟩)] W (DsTo r.stat W)) := fun W hW => Static_any rb W r.stat AS cS (HA.out.below hW).q3 (dsAt_of (HA.out.below hW).oS (fun p hp => by have := HI.out.ss p hp; omega)) (by have := HI.out.ns; omega)
    have AP' : Hid (∀ x A9 c9 W, x ∈ hnm r.users → StAt W A9 c9 r.stat → Calls Tryz.prog 26 #[.int .u32 (downTo (rtBl ns ps) (rtHas r.users x) ns.length : Nat), .slice A9 r.stat.length c9] W fun e w' => e = .returned (.bool true) ∧ Below W.heap.size W w') := fun x A9 c9 W hx hS => by
      have h := Apart_any (downTo (rtBl ns ps) (rtHas r.users x) ns.length) r.stat A9 c9 W (by have := downTo_lo HO.out.lo (rtHas r.users x) ns.length; omega) hS (by have := HI.out.ns; omega)
      rwa [rtL_apart HP.out hx] at h
    have GV : Hid (∀ x W, Below w4.heap.size w4 W → Calls Tryz.prog 14 #[.pointer (some ⟨rb, 0, none⟩), .string (bs x)] W fun e w' => e = .returned (.int .u32 (upperTo (rtBl ns ps) (rtHas r.perms x) ns.length : Nat)) ∧ Below W.heap.size W w') := fun x W hW => by
      have HAW := HA.out.below hW
      exact Gives_any rb W r.perms x AP cP o ns (rtBl ns ps) HAW.q0 HAW.q2 HAW.lt (hAt_of HAW.oP) (by have := HI.out.np; omega) (HO.out.below hW) HI.out.sp
    have UP : Hid (∀ s W, Below w4.heap.size w4 W → Calls Tryz.prog 30 #[.pointer (some ⟨o, 0, none⟩), .int .u32 (upperTo (rtBl ns ps) s ns.length : Nat)] W fun e w' => e = .returned (.int .u32 (upperTo (rtBl ns ps) s ns.length : Nat)) ∧ W = w') := fun s W hW => by
      have h := Up_any o ns (rtBl ns ps) W (upperTo (rtBl ns ps) s ns.length) (by have := upper_lt (bl := rtBl ns ps) HO.out.few s; omega) (HO.out.below hW)
      rwa [rtL_up HP.out s] at h
    have hb4z := HB4.out.size
    have WK : Hid (∀ W, Below w4.heap.size w4 W → Calls Tryz.prog 11 #[] W (TrueOn W)) := fun W hW => wakes11 W (HG.out.below' (below_then HB4.out hW hb4z)) (HT.out.below (below_then HB4.out hW hb4z))
    go_upto_region 6 with (go_at_call 12; refine (OR.out _ (Below.refl _ _)).mono ?_; rintro e w5 ⟨rfl, rfl⟩)
    go_upto_region 7 with (go_at_call 25; refine (US.out _ (Below.refl _ _)).mono ?_; rintro e w5 ⟨v5, rfl, ho5, hb5⟩; obtain ⟨A5, c5, rfl⟩ := own_slice ho5; have HL5 := Lib.hid (listAt_of ho5); have HB5 := Lib.hid hb5; clear ho5 hb5)
    have hul : (hnm r.users).length ≤ 12 := by have := HI.out.nu; unfold hnm; rw [List.length_map]; exact this
    go_loopw [34] (fun i wr => ∃ k : Nat, k ≤ (hnm r.users).length ∧ i = .int .i64 k ∧ Below w5.heap.size w5 wr) (fun i _ => (hnm r.users).length - (intOf i).toNat)
    case atStart => exact ⟨0, Nat.zero_le _, rfl, Below.refl _ _⟩
    case round =>
      obtain ⟨k, hk, rfl, hbw⟩ := hrel
      have hbz := hbw.size
      have HBW := Lib.hid hbw
      by_cases hlt : k < (hnm r.users).length
      · have hli : (k : Int) < (hnm r.users).length := by omega
        obtain ⟨g, rfl, hgl, hx⟩ := (HL5.out.below hbw).2 k hlt
        have HME : Hid ((hnm r.users)[k] ∈ hnm r.users) := List.getElem_mem hlt
        generalize (hnm r.users)[k] = x at *
        have K5 : ∀ {W : World}, Below w5.heap.size w5 W → Below w4.heap.size w4 W := fun h => below_then HB5.out h HB5.out.size
        have OR2 := Lib.hid (OR.out _ (K5 HBW.out))
        have HS2 := Lib.hid (HS.out x _ (K5 HBW.out))
        go_wp2_with (first
          | (go_at_call 12; refine OR2.out.mono ?_; rintro e w6 ⟨rfl, rfl⟩)
          | (go_at_call 17; refine HS2.out.mono ?_; rintro e w7 ⟨rfl, hb7⟩; have HB7 := Lib.hid (below_then HBW.out hb7 hbz); clear hb7)
          | (go_at_call 27; refine (DN.out x _ (K5 HB7.out)).mono ?_; rintro e w8 ⟨rfl, rfl⟩)
          | (go_at_call 28; refine (ST.out _ (K5 HB7.out)).mono ?_; rintro e w9 ⟨A9, c9, rfl, hs9, hb9⟩; have HS9 := Lib.hid hs9; have HB9 := Lib.hid (below_then HB7.out hb9 HB7.out.size); clear hs9 hb9)
          | (go_at_call 26; refine (AP'.out x _ _ _ HME.out HS9.out).mono ?_; rintro e w10 ⟨rfl, hb10⟩; have HB10 := Lib.hid (below_then HB9.out hb10 HB9.out.size); clear hb10))
        go_roundw
        case rel => exact ⟨k + 1, by omega, by go_num, HB10.out⟩
        case measure => simp [intOf]; omega
      · have hli : ¬ (k : Int) < (hnm r.users).length := by omega
        have HBW4 := Lib.hid (below_then HB5.out HBW.out HB5.out.size)
        clear HL5 US HS DN ST AP'
        go_upto_region 13 with (go_at_call 29; refine (PS.out _ HBW4.out).mono ?_; rintro e w6 ⟨v6, rfl, ho6, hb6⟩; obtain ⟨A6, c6, rfl⟩ := own_slice ho6; have HL6 := Lib.hid (listAt_of ho6); have HB6 := Lib.hid (below_then HBW4.out hb6 HBW4.out.size); clear ho6 hb6)
        have hpl : (hnm r.perms).length ≤ 24 := by have := HI.out.np; unfold hnm; rw [List.length_map]; exact this
        clear hbw hbz HBW HBW4
        go_loopw [52] (fun i wr => ∃ k : Nat, k ≤ (hnm r.perms).length ∧ i = .int .i64 k ∧ Below w6.heap.size w6 wr) (fun i _ => (hnm r.perms).length - (intOf i).toNat)
        case atStart => exact ⟨0, Nat.zero_le _, rfl, Below.refl _ _⟩
        case round =>
          obtain ⟨k, hk, rfl, hbw⟩ := hrel
          have hbz := hbw.size
          have HBW := Lib.hid hbw
          have K6 : ∀ {W : World}, Below w6.heap.size w6 W → Below w4.heap.size w4 W := fun h => below_then HB6.out h HB6.out.size
          by_cases hlt : k < (hnm r.perms).length
          · have hli : (k : Int) < (hnm r.perms).length := by omega
            obtain ⟨g, rfl, hgl, hx⟩ := (HL6.out.below hbw).2 k hlt
            generalize (hnm r.perms)[k] = x at *
            have GV2 := Lib.hid (GV.out x _ (K6 HBW.out))
            go_upto_region 16 with (go_at_call 14; refine GV2.out.mono ?_; rintro e w7 ⟨rfl, hb7⟩; have HB7 := Lib.hid (below_then HBW.out hb7 hbz); clear hb7)
            have OR3 := Lib.hid (OR.out _ (K6 HB7.out))
            have UP3 := Lib.hid (UP.out (rtHas r.perms x) _ (K6 HB7.out))
            generalize upperTo (rtBl ns ps) (rtHas r.perms x) ns.length = up at *
            go_wp2_with (first
              | (go_at_call 12; refine OR3.out.mono ?_; rintro e w8 ⟨rfl, rfl⟩)
              | (go_at_call 30; refine UP3.out.mono ?_; rintro e w8 ⟨rfl, rfl⟩))
            go_roundw
            case rel => exact ⟨k + 1, by omega, by go_num, HB7.out⟩
            case measure => simp [intOf]; omega
          · have hli : ¬ (k : Int) < (hnm r.perms).length := by omega
            have WK2 := Lib.hid (WK.out _ (K6 HBW.out))
            have HBF := Lib.hid (below_then HB4.out (K6 HBW.out) hb4z)
            go_wp2_with (go_at_call 11; refine WK2.out.mono ?_; rintro e w9 ⟨rfl, hb9⟩)
            go_ret
            exact ⟨rfl, below_then HBF.out hb9 HBF.out.size⟩
end Go.Proofs.YtiodjjnohbjhlaaGreatDoor
