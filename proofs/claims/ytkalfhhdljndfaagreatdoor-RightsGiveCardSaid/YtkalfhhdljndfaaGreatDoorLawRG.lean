/-
  RightsGive: a permission is given to the roles that its rule names, and to all above them: the walk.
-/
import Derived.Test.YtkalfhhdljndfaaGreatDoorRtK
import Derived.Test.YtkalfhhdljndfaaGreatDoorPrint2
namespace Go.Proofs.YtkalfhhdljndfaaGreatDoor
set_option maxRecDepth 100000
open Go.ChangeShapes Go.WideShapes Go.ChangeAt Go.RowKit

theorem rc_or {p : Rs (List Tx × List Pr × Rt)} {w : World} {e : Ending} {w' : World} (h : RcTo (some p) w e w') : Below w.heap.size w w' ∧ ((∃ b, e = .returned (.tuple #[.pointer none, .iface 154 (.pointer (some ⟨b, 0, none⟩))])) ∨
    ∃ b ns ps r, e = .returned (.tuple #[.pointer (some ⟨b, 0, none⟩), .nilIface]) ∧ p = .ok (ns, ps, r) ∧ RtM w.heap.size w' b ns (rtBl ns ps) r) := by
  obtain ⟨hb, h⟩ := h
  refine ⟨hb, ?_⟩
  cases p with
  | bad ln k => obtain ⟨b, he, _⟩ := h; exact .inl ⟨b, he⟩
  | ok c => obtain ⟨ns, ps, r⟩ := c; obtain ⟨b, he, hm⟩ := h; exact .inr ⟨b, ns, ps, r, he, rfl, hm⟩
theorem shr_bitG (y k : Nat) (hy : y < 4294967296) : (bits .and .u32 ((y : Int) / 2 ^ k) 1 == 1) = y.testBit k := by
  have e : (y : Int) / 2 ^ k = ((y / 2 ^ k : Nat) : Int) := by norm_cast
  have hl : y / 2 ^ k < 4294967296 := Nat.lt_of_le_of_lt (Nat.div_le_self _ _) hy
  have h1 := u32_and_nat (y / 2 ^ k) 1 hl (by omega)
  rw [Nat.and_one_is_mod] at h1
  rw [e, show (1 : Int) = ((1 : Nat) : Int) from rfl, h1, Nat.testBit_eq_decide_div_mod_eq]
  have : y / 2 ^ k % 2 < 2 := Nat.mod_lt _ (by omega)
  generalize y / 2 ^ k % 2 = x at *
  rcases (by omega : x = 0 ∨ x = 1) with rfl | rfl <;> rfl
theorem nw_no {t : ByteArray} (h : nw t ≤ 60) : (104 : UInt8) ∉ t.data.toList ∧ (121 : UInt8) ∉ t.data.toList := by
  unfold nw at h
  exact ⟨List.count_eq_zero.1 (by omega), List.count_eq_zero.1 (by omega)⟩
theorem upper_ltG {bl : List Nat} {n : Nat} (hn : n ≤ 24) (s : Nat) : upperTo bl s n < 4294967296 := Nat.lt_of_lt_of_le (upperTo_lo bl s n hn) (by decide)
theorem upper_zeroG (bl : List Nat) (n : Nat) : ((upperTo bl 0 n : Nat) : Int) = 0 := by
  have : upperTo bl 0 n = 0 := Nat.eq_of_testBit_eq fun j => by rw [upperTo_bit]; simp
  rw [this]; rfl
/-- what a permission's rule, what a user's rule says -/
def PermSaid (ns : List Tx) (bl : List Nat) (r : Rt) (x : Ru) : Prop := ∀ i (hi : i < ns.length), (upperTo bl (rtHas r.perms x.name) ns.length).testBit i = x.list.any fun y => aboveP ns bl ns[i] y
theorem perm_said {s : List UInt8} {ns : List Tx} {ps : List Pr} {r : Rt} (h : rtL (polT s).l = .ok (ns, ps, r)) {x : Ru × Nat} (hx : x ∈ (polT s).l) (hk : x.1.kind = 3) : PermSaid ns (rtBl ns ps) r x.1 := by
  obtain ⟨hn, _, _, ht, _⟩ := rtL_facts h
  obtain ⟨h1, h2⟩ := (rtTake_told ht x hx).2 hk
  intro i hi
  cases hs : rtSet ns x.1.list 0 with
  | none => rw [hs] at h1; cases h1
  | some z =>
    rw [hs] at h2
    rw [h2]
    exact gives_bit hs hn hi
theorem user_said {s : List UInt8} {ns : List Tx} {ps : List Pr} {r : Rt} (h : rtL (polT s).l = .ok (ns, ps, r)) {x : Ru × Nat} (hx : x ∈ (polT s).l) (hk : x.1.kind = 2) : rtSet ns x.1.list 0 = some (rtHas r.users x.1.name) := by
  obtain ⟨hn, _, _, ht, _⟩ := rtL_facts h
  obtain ⟨h1, h2⟩ := (rtTake_told ht x hx).1 hk
  cases hs : rtSet ns x.1.list 0 with
  | none => rw [hs] at h1; cases h1
  | some z => rw [hs] at h2; rw [h2]; rfl
set_option maxHeartbeats 8000000 in
theorem rgive_walk (w : World) (v : Value) (zs : List Int) (hz : IntsAt w v zs) (hg : HandleAt w) (ht : TabAt w) :
    Calls Tryz.prog 3 #[.agg #[v]] w (TrueOn w) := by
  obtain ⟨A, n, cap, rfl⟩ := ints_slice hz
  have hb0 := rbox w (.cells #[.slice A n cap] 24)
  have PT := Lib.hid (peopleTxW_any (.slice A n cap) zs _ (hz.below hb0))
  have PR := Lib.hid (fun T W => PlayRules_any T W)
  have HG := Lib.hid hg
  have HT := Lib.hid ht
  have HB0 := Lib.hid hb0
  clear hz hb0 hg ht
  go_enter Tryz.func3, Tryz.ntmps3
  go_upto_region 1 with fail
  have c0 : (w.alloc (.cells #[.slice A n cap] 24)).cell? ⟨w.heap.size, 0, none⟩ = some (.slice A n cap) := by rw [cell_of_row _ _ _ _ _ _ (heap_alloc_new w _)]; rfl
  generalize w.alloc (.cells #[.slice A n cap] 24) = w1 at *
  go_upto_region 3 with (first
    | (go_at_call 12; refine PT.out.mono ?_; rintro e w2 ⟨t, rfl, _, hnw, hb2⟩; have HB2 := Lib.hid (below_then HB0.out hb2 HB0.out.size); have PR2 := Lib.hid (PR.out (t ++ ⟨#[10]⟩) w2); have HNW : Hid (nw (t ++ ⟨#[10]⟩) ≤ 60) := (by show _ ≤ _; rw [nw_app]; have h9 : nw ⟨#[10]⟩ = 1 := (by decide); omega); clear hb2 hnw; generalize t ++ ⟨#[10]⟩ = T at *)
    | (go_at_call 11; refine PR2.out.mono ?_; rintro e w3 ⟨hb3, v3, acc, rfl, hacc, hr⟩; obtain ⟨A3, cap3, rfl⟩ := own_slice hr.1; have HB3 := Lib.hid (below_then HB2.out hb3 HB2.out.size); have CC := Lib.hid (RComp_pol acc A3 cap3 _ w3 hr hacc (HG.out.below' HB3.out) (HT.out.below HB3.out)); have HRI := Lib.hid (rIn_of hr); have HCC := Lib.hid (own_cap hr.1); have HACC := Lib.hid hacc; clear hb3 hr hacc)
    | (go_at_call 13; refine CC.out.mono ?_; intro e w4 h9; obtain ⟨hb4, h8⟩ := rc_or h9; clear h9; have HB4 := Lib.hid (below_then HB3.out hb4 HB3.out.size); have HR4 := Lib.hid (HRI.out.below hb4); clear hb4; rcases h8 with ⟨fb, rfl⟩ | ⟨rb, ns, ps, r, rfl, hp, hM⟩))
  · have WK := Lib.hid (wakes11 w4 (HG.out.below' HB4.out) (HT.out.below HB4.out))
    go_wp2_with (go_at_call 14; refine WK.out.mono ?_; rintro e w5 ⟨rfl, hb5⟩)
    go_ret
    exact ⟨rfl, below_then HB4.out hb5 HB4.out.size⟩
  · have HNB := Lib.hid (no_nobody hp (nw_no HNW.out).1 (nw_no HNW.out).2)
    have HPS : Hid (∀ x ∈ acc, x.1.kind = 3 → PermSaid ns (rtBl ns ps) r x.1) := fun x hx hk => perm_said hp (x := er x) (by rw [← HACC.out]; exact List.mem_map_of_mem hx) hk
    have HUS : Hid (∀ x ∈ acc, x.1.kind = 2 → rtSet ns x.1.list 0 = some (rtHas r.users x.1.name)) := fun x hx hk => user_said hp (x := er x) (by rw [← HACC.out]; exact List.mem_map_of_mem hx) hk
    have hal : acc.length ≤ 1000000 := by
      have := congrArg List.length HACC.out
      rw [List.length_map] at this
      have h2 := (pol_facts T.data.toList).1
      omega
    have HLN : Hid (∀ x ∈ acc, x.1.list.length ≤ 4096) := fun x hx => ((pol_facts T.data.toList).2 (er x) (by rw [← HACC.out]; exact List.mem_map_of_mem hx)).2.1
    obtain ⟨w0, o, vU, vP, vS, vD, vA, m, hlo, hA, hO, hI⟩ := hM
    have HA := Lib.hid hA
    have HO := Lib.hid (hO.below hA.be)
    have HI := Lib.hid hI
    obtain ⟨AU, cU, rfl⟩ := own_slice hA.oU
    obtain ⟨AP, cP, rfl⟩ := own_slice hA.oP
    clear hp hA hO hI CC PT PR c0 PR2 HB3 HB2 HB0 HRI HNW HACC
    have hcc := HCC.out
    have hf := HO.out.few
    generalize rtBl ns ps = bl at *
    have OR : Hid (∀ W, Below w4.heap.size w4 W → Calls Tryz.prog 15 #[.pointer (some ⟨rb, 0, none⟩)] W fun e w' => e = .returned (.pointer (some ⟨o, 0, none⟩)) ∧ W = w') := fun W hW => Order_any rb W o (HA.out.below hW).q0
    have HS : Hid (∀ x W, Below w4.heap.size w4 W → Calls Tryz.prog 20 #[.pointer (some ⟨rb, 0, none⟩), .string (bs x)] W fun e w' => e = .returned (.int .u32 (rtHas r.users x : Nat)) ∧ Below W.heap.size W w') := fun x W hW => Has_any r.users x AU cU rb W (HA.out.below hW).q1 (hAt_of (HA.out.below hW).oU) (by have := HI.out.nu; omega)
    have GV : Hid (∀ x W, Below w4.heap.size w4 W → Calls Tryz.prog 17 #[.pointer (some ⟨rb, 0, none⟩), .string (bs x)] W fun e w' => e = .returned (.int .u32 (upperTo bl (rtHas r.perms x) ns.length : Nat)) ∧ Below W.heap.size W w') := fun x W hW => by
      have HAW := HA.out.below hW
      exact Gives_any rb W r.perms x AP cP o ns bl HAW.q0 HAW.q2 HAW.lt (hAt_of HAW.oP) (by have := HI.out.np; omega) (HO.out.below hW) HI.out.sp
    have IX : Hid (∀ x W, Below w4.heap.size w4 W → Calls Tryz.prog 19 #[.pointer (some ⟨o, 0, none⟩), .string (bs x)] W fun e w' => e = .returned (.int .i64 (idxI ns x)) ∧ W = w') := fun x W hW => OIndex_any o ns bl W x (HO.out.below hW)
    have AB : Hid (∀ x y W, Below w4.heap.size w4 W → Calls Tryz.prog 18 #[.pointer (some ⟨o, 0, none⟩), .string (bs x), .string (bs y)] W fun e w' => e = .returned (.bool (aboveP ns bl x y)) ∧ W = w') := fun x y W hW => Above_any o ns bl W x y (HO.out.below hW)
    have NM := Lib.hid (Names_any o ns bl w4 HO.out)
    have hb4z := HB4.out.size
    have WK : Hid (∀ W, Below w4.heap.size w4 W → Calls Tryz.prog 14 #[] W (TrueOn W)) := fun W hW => wakes11 W (HG.out.below' (below_then HB4.out hW hb4z)) (HT.out.below (below_then HB4.out hW hb4z))
    have HSL : Hid (∀ x, rtHas r.users x < 16777216) := fun x => rtHas_lt HI.out.su x
    clear HG HT HA HO HI
    go_upto_region 8 with (go_at_call 15; refine (OR.out _ (Below.refl _ _)).mono ?_; rintro e w5 ⟨rfl, rfl⟩)
    go_upto_region 10 with (go_at_call 16; refine NM.out.mono ?_; rintro e w5 ⟨v5, rfl, ho5, hb5⟩; obtain ⟨A5, c5, rfl⟩ := own_slice ho5; have HL5 := Lib.hid (listAt_of ho5); have HB5 := Lib.hid hb5; clear ho5 hb5)
    clear NM
    have hc5 := HL5.out.1
    go_loopw [46] (fun i wr => ∃ k : Nat, k ≤ acc.length ∧ i = .int .i64 k ∧ Hid (Below w5.heap.size w5 wr)) (fun i _ => acc.length - (intOf i).toNat)
    case atStart => exact ⟨0, Nat.zero_le _, rfl, Below.refl _ _⟩
    case round =>
      obtain ⟨k, hk, rfl, HBW⟩ := hrel
      have hbz := HBW.out.size
      have HBV := Lib.hid (below_then HB5.out HBW.out HB5.out.size)
      by_cases hlt : k < acc.length
      · have hli : (k : Int) < acc.length := by omega
        obtain ⟨g, rfl, hgl, hc, B, c2, e2, hL⟩ := (HR4.out.below HBV.out) k hlt
        have HPX := Lib.hid (HPS.out _ (List.getElem_mem hlt))
        have hln := HLN.out _ (List.getElem_mem hlt)
        have q := fun f u hf hu => hc f u hf hu
        clear hc
        generalize acc[k] = x at *
        obtain ⟨⟨kd, nm, l, rn, rm, rf, rt, rb', ra, ri⟩, ln, L⟩ := x
        obtain rfl : L = .slice B l.length c2 := e2
        simp only at hL HPX hln
        have q0 := q 0 _ (by omega) rfl; have q1 := q 1 _ (by omega) rfl; have q2 := q 2 _ (by omega) rfl; have q3 := q 3 _ (by omega) rfl; have q4 := q 4 _ (by omega) rfl; have q5 := q 5 _ (by omega) rfl; have q6 := q 6 _ (by omega) rfl; have q7 := q 7 _ (by omega) rfl; have q8 := q 8 _ (by omega) rfl; have q9 := q 9 _ (by omega) rfl; have q10 := q 10 _ (by omega) rfl
        simp only [Nat.add_zero] at q0
        clear q
        have HX := Lib.hid (heap_alloc_new wr (.cells #[.int .i64 kd, .string (bs nm), .slice B l.length c2, .int .i64 rn, .int .i64 rm, .string (bs rf), .string (bs rt), .string (bs rb'), .string (bs ra), .string (bs ri), .int .i64 ln] 39))
        have HBX := Lib.hid (rbox wr (.cells #[.int .i64 kd, .string (bs nm), .slice B l.length c2, .int .i64 rn, .int .i64 rm, .string (bs rf), .string (bs rt), .string (bs rb'), .string (bs ra), .string (bs ri), .int .i64 ln] 39))
        have HL1 := Lib.hid (hL.below HBX.out)
        have HB6 := Lib.hid (below_then HBW.out HBX.out HBW.out.size)
        have hlx : wr.heap.size < (wr.alloc (.cells #[.int .i64 kd, .string (bs nm), .slice B l.length c2, .int .i64 rn, .int .i64 rm, .string (bs rf), .string (bs rt), .string (bs rb'), .string (bs ra), .string (bs ri), .int .i64 ln] 39)).heap.size := by simp
        go_upto_region 12 with fail
        generalize wr.alloc (.cells #[.int .i64 kd, .string (bs nm), .slice B l.length c2, .int .i64 rn, .int .i64 rm, .string (bs rf), .string (bs rt), .string (bs rb'), .string (bs ra), .string (bs ri), .int .i64 ln] 39) = w6 at *
        generalize wr.heap.size = gx at *
        have HB7 := Lib.hid (below_then HB5.out HB6.out HB5.out.size)
        clear q0 q1 q2 q3 q4 q5 q6 q7 q8 q9 q10 hL HBX
        have p0 := row_q0 HX.out; have p1 := row_q1 HX.out
        by_cases hkd : kd = 3
        · have HPT : Hid (PermSaid ns bl r ⟨kd, nm, l, rn, rm, rf, rt, rb', ra, ri⟩) := HPX.out hkd
          subst hkd
          have GV2 := Lib.hid (GV.out nm _ HB7.out)
          have hgl9 := upper_ltG (bl := bl) hf (rtHas r.perms nm)
          unfold PermSaid at HPT
          dsimp only at HPT
          clear HPX
          generalize upperTo bl (rtHas r.perms nm) ns.length = up at *
          go_upto_region 15 with (go_at_call 17; refine GV2.out.mono ?_; rintro e w7 ⟨rfl, hb7⟩; have HB8 := Lib.hid (below_then HB7.out hb7 HB7.out.size); have HB9 := Lib.hid (below_then HB6.out hb7 HB6.out.size); have HX7 := Lib.hid ((hb7.block _ hlx).trans HX.out); have HL7 := Lib.hid (HL1.out.below hb7); clear hb7)
          clear p0 p1 GV2 HX HL1
          have p2 := row_q2 HX7.out
          have hcl := HL7.out.1
          have HN7 := Lib.hid (HL5.out.below HB9.out)
          go_loopw [59] (fun i wx => ∃ k2 : Nat, k2 ≤ ns.length ∧ i = .int .i64 k2 ∧ w7 = wx) (fun i _ => ns.length - (intOf i).toNat)
          case atStart => exact ⟨0, Nat.zero_le _, rfl, rfl⟩
          case round =>
            obtain ⟨k2, hk2, rfl, hwx⟩ := hrel
            subst hwx
            by_cases hl2 : k2 < ns.length
            · have hli2 : (k2 : Int) < ns.length := by omega
              obtain ⟨g2, rfl, hgl2, hx2⟩ := HN7.out.2 k2 hl2
              have HBIT := Lib.hid (HPT.out k2 hl2)
              have hsb := shr_bitG up k2 (by omega)
              rw [HBIT.out] at hsb
              have HSB := Lib.hid hsb
              clear hsb HBIT
              generalize ns[k2] = nn at *
              have HTB : Hid (∀ k3 (h3 : k3 < l.length), (l.take (k3 + 1)).any (fun y => aboveP ns bl nn y) = ((l.take k3).any (fun y => aboveP ns bl nn y) || aboveP ns bl nn l[k3])) := fun k3 h3 => by
                rw [List.take_succ_eq_append_getElem h3, List.any_append]; simp
              go_upto_region 19 with fail
              go_loopw [13, 67] (fun u i wx => ∃ (k3 : Nat) (wt : Bool), k3 ≤ l.length ∧ i = .int .i64 k3 ∧ u = .bool wt ∧ Hid (wt = (l.take k3).any fun y => aboveP ns bl nn y) ∧ w7 = wx) (fun _ i _ => l.length - (intOf i).toNat)
              case atStart => exact ⟨0, false, Nat.zero_le _, rfl, rfl, rfl, rfl⟩
              case round =>
                obtain ⟨k3, wt, hk3, rfl, rfl, HWT, hwx2⟩ := hrel
                subst hwx2
                by_cases hl3 : k3 < l.length
                · have hli3 : (k3 : Int) < l.length := by omega
                  obtain ⟨g3, rfl, hgl3, hx3⟩ := HL7.out.2 k3 hl3
                  have HT3 := Lib.hid (HTB.out k3 hl3)
                  have AB3 := Lib.hid (AB.out nn l[k3] _ HB8.out)
                  generalize l[k3] = y3 at *
                  cases wt with
                  | true =>
                    have HW4 : Hid (true = (l.take (k3 + 1)).any fun y => aboveP ns bl nn y) := by show _ = _; rw [HT3.out, ← HWT.out]; rfl
                    go_wp2
                    go_roundw
                    case rel => exact ⟨k3 + 1, true, by omega, by go_num, rfl, HW4, by trivial⟩
                    case measure => simp [intOf]; omega
                  | false =>
                    have HW4 : Hid (aboveP ns bl nn y3 = (l.take (k3 + 1)).any fun y => aboveP ns bl nn y) := by show _ = _; rw [HT3.out, ← HWT.out]; rfl
                    generalize aboveP ns bl nn y3 = av at *
                    go_wp2_with (go_at_call 18; refine AB3.out.mono ?_; rintro e w9 ⟨rfl, rfl⟩)
                    go_roundw
                    case rel => exact ⟨k3 + 1, av, by omega, by go_num, rfl, HW4, by trivial⟩
                    case measure => simp [intOf]; omega
                · have hli3 : ¬ (k3 : Int) < l.length := by omega
                  have hwt := HWT.out
                  rw [List.take_of_length_le (by omega)] at hwt
                  have hsb := HSB.out
                  rw [← hwt] at hsb
                  clear hwt HWT HSB HTB
                  go_wp2
                  go_roundw
                  case rel => exact ⟨k2 + 1, by omega, by go_num, by trivial⟩
                  case measure => simp [intOf]; omega
            · have hli2 : ¬ (k2 : Int) < ns.length := by omega
              go_wp2
              go_roundw
              case rel => exact ⟨k + 1, by omega, by go_num, HB9⟩
              case measure => simp [intOf]; omega
        · have hkn : (kd == 3) = false := by simpa using hkd
          have hkn2 : (kd != 3) = true := by simp [hkd]
          go_wp2
          go_roundw
          case rel => exact ⟨k + 1, by omega, by go_num, HB6⟩
          case measure => simp [intOf]; omega
      · have hli : ¬ (k : Int) < acc.length := by omega
        clear HPS HL5
        go_upto_region 28 with fail
        go_loopw [91] (fun i wr => ∃ k : Nat, k ≤ acc.length ∧ i = .int .i64 k ∧ Hid (Below w5.heap.size w5 wr)) (fun i _ => acc.length - (intOf i).toNat)
        case atStart => exact ⟨0, Nat.zero_le _, rfl, HBW⟩
        case round =>
          clear HBW HBV hbz hk hlt hli
          obtain ⟨k, hk, rfl, HBW⟩ := hrel
          have hbz := HBW.out.size
          have HBV := Lib.hid (below_then HB5.out HBW.out HB5.out.size)
          by_cases hlt : k < acc.length
          · have hli : (k : Int) < acc.length := by omega
            obtain ⟨g, rfl, hgl, hc, B, c2, e2, hL⟩ := (HR4.out.below HBV.out) k hlt
            have HPX := Lib.hid (HUS.out _ (List.getElem_mem hlt))
            have hln := HLN.out _ (List.getElem_mem hlt)
            have q := fun f u hf hu => hc f u hf hu
            clear hc
            generalize acc[k] = x at *
            obtain ⟨⟨kd, nm, l, rn, rm, rf, rt, rb', ra, ri⟩, ln, L⟩ := x
            obtain rfl : L = .slice B l.length c2 := e2
            simp only at hL HPX hln
            have q0 := q 0 _ (by omega) rfl; have q1 := q 1 _ (by omega) rfl; have q2 := q 2 _ (by omega) rfl; have q3 := q 3 _ (by omega) rfl; have q4 := q 4 _ (by omega) rfl; have q5 := q 5 _ (by omega) rfl; have q6 := q 6 _ (by omega) rfl; have q7 := q 7 _ (by omega) rfl; have q8 := q 8 _ (by omega) rfl; have q9 := q 9 _ (by omega) rfl; have q10 := q 10 _ (by omega) rfl
            simp only [Nat.add_zero] at q0
            clear q
            have HX := Lib.hid (heap_alloc_new wr (.cells #[.int .i64 kd, .string (bs nm), .slice B l.length c2, .int .i64 rn, .int .i64 rm, .string (bs rf), .string (bs rt), .string (bs rb'), .string (bs ra), .string (bs ri), .int .i64 ln] 39))
            have HBX := Lib.hid (rbox wr (.cells #[.int .i64 kd, .string (bs nm), .slice B l.length c2, .int .i64 rn, .int .i64 rm, .string (bs rf), .string (bs rt), .string (bs rb'), .string (bs ra), .string (bs ri), .int .i64 ln] 39))
            have HL1 := Lib.hid (hL.below HBX.out)
            have HB6 := Lib.hid (below_then HBW.out HBX.out HBW.out.size)
            go_upto_region 30 with fail
            generalize wr.alloc (.cells #[.int .i64 kd, .string (bs nm), .slice B l.length c2, .int .i64 rn, .int .i64 rm, .string (bs rf), .string (bs rt), .string (bs rb'), .string (bs ra), .string (bs ri), .int .i64 ln] 39) = w6 at *
            generalize wr.heap.size = gx at *
            have HB7 := Lib.hid (below_then HB5.out HB6.out HB5.out.size)
            clear q0 q1 q2 q3 q4 q5 q6 q7 q8 q9 q10 hL HBX
            have p0 := row_q0 HX.out; have p1 := row_q1 HX.out; have p2 := row_q2 HX.out
            by_cases hkd : kd = 2
            · have HST : Hid (rtSet ns l 0 = some (rtHas r.users nm)) := HPX.out hkd
              subst hkd
              have HS2 := Lib.hid (HS.out nm _ HB7.out)
              have HZL := Lib.hid (HSL.out nm)
              have hcl := HL1.out.1
              clear HPX
              generalize rtHas r.users nm = hv at *
              go_upto_region 33 with fail
              go_loopw [18, 101] (fun u i wx => ∃ (k3 z : Nat), k3 ≤ l.length ∧ u = .int .u32 (z : Nat) ∧ i = .int .i64 k3 ∧ z < 16777216 ∧ Hid (rtSet ns l 0 = rtSet ns (l.drop k3) z) ∧ w6 = wx) (fun _ i _ => l.length - (intOf i).toNat)
              case atStart => exact ⟨0, 0, Nat.zero_le _, rfl, rfl, by omega, rfl, rfl⟩
              case round =>
                obtain ⟨k3, z, hk3, rfl, rfl, hz, HZ, hwx2⟩ := hrel
                subst hwx2
                by_cases hl3 : k3 < l.length
                · have hli3 : (k3 : Int) < l.length := by omega
                  obtain ⟨g3, rfl, hgl3, hx3⟩ := HL1.out.2 k3 hl3
                  have hI := HZ.out
                  rw [List.drop_eq_getElem_cons hl3] at hI
                  have hin : l[k3] ∈ ns := rtSet_all HST.out _ (List.getElem_mem hl3)
                  have IX3 := Lib.hid (IX.out l[k3] _ HB7.out)
                  generalize l[k3] = y3 at *
                  rw [rtSet_in hin] at hI
                  rw [idxI_in hin] at IX3
                  have hnx := idx_lt hin
                  have HI2 := Lib.hid hI
                  clear hI HZ hin
                  generalize nix ns y3 = m3 at *
                  have hbv := bit_val (i := m3) (by omega)
                  have hov := or_val z (bitN m3) hz (pow_lo (by omega))
                  have hz2 := or_lo hz (pow_lo (i := m3) (by omega))
                  have hm0 : (0 : Int) ≤ m3 := by omega
                  have hmd : decide ((0 : Int) ≤ m3) = true := decide_eq_true hm0
                  generalize z ||| bitN m3 = z2 at *
                  go_wp2_with (go_at_call 19; refine IX3.out.mono ?_; rintro e w9 ⟨rfl, rfl⟩)
                  go_roundw
                  case rel => exact ⟨k3 + 1, z2, by omega, by go_num, by go_num, hz2, HI2, by trivial⟩
                  case measure => simp [intOf]; omega
                · have hli3 : ¬ (k3 : Int) < l.length := by omega
                  have hI := HZ.out
                  rw [List.drop_eq_nil_of_le (by omega), rtSet, HST.out] at hI
                  have hvz : hv = z := Option.some.inj hI
                  subst hvz
                  clear hI HZ HST
                  go_wp2_with (go_at_call 20; refine HS2.out.mono ?_; rintro e w9 ⟨rfl, hb9⟩; have HB9 := Lib.hid (below_then HB6.out hb9 HB6.out.size); clear hb9)
                  go_roundw
                  case rel => exact ⟨k + 1, by omega, by go_num, HB9⟩
                  case measure => simp [intOf]; omega
            · have hkn : (kd == 2) = false := by simpa using hkd
              have hkn2 : (kd != 2) = true := by simp [hkd]
              go_wp2
              go_roundw
              case rel => exact ⟨k + 1, by omega, by go_num, HB6⟩
              case measure => simp [intOf]; omega
          · have hli : ¬ (k : Int) < acc.length := by omega
            have h1 := HS.out [110, 111, 98, 111, 100, 121] _ HBV.out
            rw [HNB.out.1] at h1
            have HS0 := Lib.hid h1
            have GV0 : Hid (∀ W, Below w4.heap.size w4 W → Calls Tryz.prog 17 #[.pointer (some ⟨rb, 0, none⟩), .string (bs [110, 111, 116, 104, 105, 110, 103])] W fun e w' => e = .returned (.int .u32 0) ∧ Below W.heap.size W w') := fun W hW => by
              have h2 := GV.out [110, 111, 116, 104, 105, 110, 103] W hW
              rwa [HNB.out.2, upper_zeroG] at h2
            clear h1 HUS
            go_wp2_with (first
              | (go_at_call 20; refine HS0.out.mono ?_; rintro e w7 ⟨rfl, hb7⟩; have HB7 := Lib.hid (below_then HBV.out hb7 HBV.out.size); clear hb7)
              | (go_at_call 17; refine (GV0.out _ HB7.out).mono ?_; rintro e w8 ⟨rfl, hb8⟩; have HB8 := Lib.hid (below_then HB7.out hb8 HB7.out.size); clear hb8)
              | (go_at_call 14; refine (WK.out _ HB8.out).mono ?_; rintro e w9 ⟨rfl, hb9⟩; have HB9 := Lib.hid (below_then HB8.out hb9 HB8.out.size); clear hb9))
            go_ret
            exact ⟨rfl, below_then HB4.out HB9.out hb4z⟩
end Go.Proofs.YtkalfhhdljndfaaGreatDoor
