/-
  A help of the statements: a configuration of a shape, by choices.
-/
import Derived.Test.YtaolebdcmdmnjaaCfg1
import Derived.Test.YtaolebdcmdmnjaaShQ
import Derived.Test.YtaolebdcmdmnjaaSh6
import Derived.Test.YtaolebdcmdmnjaaShOf
namespace Go.Proofs.Ytaolebdcmdmnjaa
set_option maxRecDepth 100000
open Go.ChangeShapes Go.WideShapes Go.ChangeAt Go.RowKit

def qlen : Value → Nat
  | .slice _ n _ => n
  | _ => 0
theorem open_kids (ks ps : List Int) (n : Nat) (a : Int) : (kidsTo ps a n).filter (hl ks) = openL ks ps n a := by
  unfold openL
  rw [kidsTo_filter, List.filter_filter]
  apply List.filter_congr
  intro k _
  unfold isKid
  rw [Bool.and_comm]
theorem imap_len (C : List Nat) : (C.map fun k : Nat => (k : Int)).length = C.length := List.length_map ..
def wayOk (ks ps : List Int) (n : Nat) (a : Int) (b : Bool) : Prop := (b = true → ¬ (0 ≤ a ∧ ks.getD a.toNat 0 = 2) ∧ 1 < (openL ks ps n a).length) ∧ (b = false → (0 ≤ a ∧ ks.getD a.toNat 0 = 2) ∨ (openL ks ps n a).length ≤ 1)
def chOk (ks ps : List Int) (n : Nat) (a : Int) (C : List Nat) : Prop := C.Nodup ∧ (∀ k ∈ C, k ∈ openL ks ps n a) ∧ (0 ≤ a ∧ ks.getD a.toNat 0 = 2 → C = openL ks ps n a) ∧ (¬ (0 ≤ a ∧ ks.getD a.toNat 0 = 2) → openL ks ps n a = [] ∨ C.length = 1)
def ConfTo (ks ps : List Int) (n : Nat) (w : World) (e : Ending) (w' : World) : Prop := ∃ s : Nat, s < 2 ^ n ∧ e = .returned (.int .u32 s) ∧ prop ks ps s = true ∧ Below w.heap.size w w'
set_option maxHeartbeats 8000000 in
theorem Config_any (ks ps : List Int) (A B : Option Addr) (n c d : Nat) (u : Value) (l : List Int) (w : World) (h : IntsAt w (.slice A n c) ks ∧ IntsAt w (.slice B n d) ps) (hok : ShOk ks ps) (hn : n = ks.length) (hn0 : 0 < n) (hn2 : n ≤ 24) (hu : IntsAt w u l) :
    Calls Try.prog 16 #[.agg #[.slice A n c, .slice B n d], u] w (ConfTo ks ps n w) := by
  obtain ⟨i0, hi, hz0, hz1, hz2⟩ := info_parts Try.infoInt
  obtain ⟨A0, c0, rfl⟩ := ints_form hu
  have hll : l.length ≤ maxLen := by obtain ⟨_, _, _, hl, _⟩ := hu; exact hl
  unfold maxLen at hll
  have HOK := Lib.hid hok
  have hsz : Hid (szN ks ps = n) := by show _ = _; unfold szN; have := hok.1; omega
  have HM : Hid (n = ps.length) := by show _ = _; have := hok.1; omega
  have HP : Hid (∀ k, k < n → -1 ≤ ps.getD k 0 ∧ ps.getD k 0 < k) := fun k hk => hok.2.2.1 k (by omega)
  have HKS : Hid (∀ k, k < n → 1 ≤ ks.getD k 0 ∧ ks.getD k 0 ≤ 4) := fun k hk => hok.2.1 k (by omega)
  have HTOP : Hid ((List.range n).any (isKid ks ps (-1)) = true) := by
    show _ = _
    rw [List.any_eq_true]
    refine ⟨0, List.mem_range.2 hn0, ?_⟩
    have := hok.2.2.1 0 (by omega)
    unfold isKid
    rw [hok.2.2.2, show ps.getD 0 0 = -1 by omega]; rfl
  have x0 := box_0 w 25 (.slice A n c) (.slice B n d)
  have x1 := box_1 w 25 (.slice A n c) (.slice B n d)
  have hz := box_b w (.cells #[.slice A n c, .slice B n d] 25)
  have hlt : w.heap.size < (w.alloc (.cells #[.slice A n c, .slice B n d] 25)).heap.size := by simp
  have S0 := Lib.hid (shp_below h hz)
  have U0 := Lib.hid (hu.below hz)
  have HZ := Lib.hid hz
  have HN := Lib.hid hn
  clear h hz hn hok hu
  go_enter Try.func16, Try.ntmps16
  go_upto_region 3 with (fail)
  generalize w.alloc (.cells #[.slice A n c, .slice B n d] 25) = w0 at *
  have Q0 := Lib.hid (QAt.start w0 w0.heap.size (-1) (Nat.le_refl _))
  have B0 : Hid (Below w0.heap.size w0 (w0.alloc (.cells #[.int .i64 (-1)] 3))) := (Below.refl _ _).alloc (Nat.le_refl _) _
  go_upto_region 4 with (fail)
  generalize w0.alloc (.cells #[.int .i64 (-1)] 3) = w1 at *
  have RK := Lib.hid (fun W (hW : Below w0.heap.size w0 W) a => RKids_any ks ps A B n c n d W a (shp_below S0.out hW) HM.out (by omega))
  go_loopw [5, 6, 7] (fun x y z wr => ∃ (s nn : Nat) (L : List Int), x = .int .u32 s ∧ y = .int .i64 nn ∧ Hid (QAt wr w0.heap.size z L) ∧ Hid (CInv ks ps n s L) ∧ Hid (nn + (n + 1 - cnt s) + L.length ≤ 60) ∧ Hid (Below w0.heap.size w0 wr)) (fun x _ z _ => (n + 1 - cnt (intOf x).toNat) + qlen z)
  case atStart => exact ⟨0, 0, [-1], rfl, rfl, Q0, CInv.start, by show _ ≤ _; simp; omega, B0⟩
  case round =>
    clear Q0 B0
    obtain ⟨s, nn, L, rfl, rfl, HQ, HI, HC, HB⟩ := hrel
    have hlt32 : s < 4294967296 := Nat.lt_of_lt_of_le HI.out.lt (by have := Nat.pow_le_pow_right (n := 2) (by omega) (show n ≤ 32 by omega); omega)
    cases L with
    | nil =>
      obtain ⟨g, o, cq, rfl, _⟩ := HQ.out
      have HE : Hid (prop ks ps s = true) := HI.out.proper HP.out hsz.out (by omega) HTOP.out
      have HLT := Lib.hid HI.out.lt
      go_wp2
      go_ret
      exact ⟨s, HLT.out, rfl, HE.out, below_then HZ.out HB.out HZ.out.size⟩
    | cons a R =>
      obtain ⟨g, o, cq, rfl, q1, q2, q3, q4, q5⟩ := HQ.out
      have hRl : (a :: R).length = R.length + 1 := List.length_cons ..
      have q40 := q4 0 (by omega)
      rw [List.getElem_cons_zero, Nat.add_zero] at q40
      have HQR := Lib.hid (QAt.rest HQ.out)
      rw [hRl] at q3 ⊢
      have HCC : Hid (nn + (n + 1 - cnt s) + (R.length + 1) ≤ 60) := by have := HC.out; rwa [hRl] at this
      have HPL := Lib.hid (HI.out.pl a (by simp))
      clear q4 q5 hRl HC HQ
      have hrl : (0 : Int) < (R.length : Int) + 1 := by omega
      have hrl2 : (0 : Int) < ((R.length + 1 : Nat) : Int) := by omega
      go_upto_region 6 with (fail)
      go_cut [7] (fun z wx => wx = wr ∧ Hid (QAt wr w0.heap.size z R))
      case first =>
        by_cases hc1 : cq = 1
        · have HQ1 := Lib.hid (HQR.out.2 hc1)
          subst hc1
          have hR0 : R.length = 0 := by omega
          go_wp2
          go_meet
          exact ⟨rfl, by have := HQ1.out; rw [hR0] at this; exact this⟩
        · have HQ1 := Lib.hid HQR.out.1
          go_wp2
          go_meet
          exact ⟨rfl, HQ1⟩
      case rest =>
        obtain ⟨hw9, HQ⟩ := hcut
        subst hw9
        obtain ⟨wr, rfl⟩ : ∃ w1 : World, w1 = wc := ⟨_, rfl⟩
        obtain ⟨g2, o2, cq2, rfl, p1, p2, _⟩ := HQ.out
        clear HQR q40 q1 q2 q3
        have z0 := (HB.out.cell (p := ⟨w.heap.size, 0, none⟩) hlt).trans x0
        have z1 := (HB.out.cell (p := ⟨w.heap.size, 1, none⟩) hlt).trans x1
        have hKm : ∀ j, j ∈ kidsTo ps a n → j < n := fun j hj => (mem_kidsTo.1 hj).1
        have hKl := kidsTo_len ps a n
        have HOP := Lib.hid (open_kids ks ps n a)
        have RK1 := Lib.hid (RK.out wr HB.out a)
        generalize kidsTo ps a n = K0 at *
        have HKM := Lib.hid hKm
        clear hKm
        go_wp2_with (go_at_call 42; refine RK1.out.mono ?_; rintro e w3 ⟨vK, rfl, oK, hb3⟩; obtain ⟨AK, cK, rfl⟩ := own_slice oK)
        have HK0 := Lib.hid oK
        have HQ3 := Lib.hid (HQ.out.below hb3)
        have HB3 := Lib.hid (below_then HB.out hb3 HB.out.size)
        have hwz3 : w0.heap.size ≤ w3.heap.size := HB3.out.size
        clear oK hb3 RK1 HQ HB p1 p2 z0 z1
        go_loopw [9, 29] (fun v i wx => ∃ j : Nat, j ≤ K0.length ∧ i = .int .i64 j ∧ Hid (OwnI wx w3.heap.size v (((K0.take j).filter (hl ks)).map fun k : Nat => (k : Int))) ∧ Hid (Below w3.heap.size w3 wx)) (fun _ i _ => K0.length - (intOf i).toNat)
        case atStart => exact ⟨0, Nat.zero_le _, rfl, World.ownsRow_nil _ _ _ _, Below.refl _ _⟩
        case round =>
          obtain ⟨j, hj, rfl, HO, HBx⟩ := hrel
          have hbz := HBx.out.size
          by_cases hjk : j < K0.length
          · have hji : (j : Int) < K0.length := by omega
            obtain ⟨g9, cc9, e9, _, hg9, _, hc9⟩ := own_form HK0.out (by rw [imap_len]; omega)
            injection e9 with e9 _ _
            subst e9
            have hx9 := (HBx.out.cell (p := ⟨g9, j, none⟩) hg9).trans (hc9 j (.int .i64 (K0[j] : Nat)) (by simp [icells, hjk]))
            have hkl := HKM.out _ (List.getElem_mem hjk)
            have hB3x := below_then HB3.out HBx.out hwz3
            obtain ⟨b, off, rfl, hb, hx, _⟩ := ints_cell (shp_below S0.out hB3x).1 (k := K0[j]) (by have := HN.out; omega)
            have z0 := (hB3x.cell (p := ⟨w.heap.size, 0, none⟩) hlt).trans x0
            have hsn : (K0.take (j + 1)).filter (hl ks) = (K0.take j).filter (hl ks) ++ if hl ks K0[j] = true then [K0[j]] else [] := by
              rw [List.take_succ_eq_append_getElem hjk, List.filter_append]
              congr 1
              by_cases h : hl ks K0[j] = true
              · rw [List.filter_cons_of_pos h, if_pos h]; rfl
              · rw [List.filter_cons_of_neg h, if_neg h]; rfl
            rw [hl_of ks K0[j] (HKS.out _ hkl).1] at hsn
            have hfl : ((K0.take j).filter (hl ks)).length ≤ j := Nat.le_trans (List.length_filter_le _ _) (List.length_take_le _ _)
            have hfm := imap_len ((K0.take j).filter (hl ks))
            clear hc9 hB3x
            generalize ks.getD K0[j] 0 = kd at *
            generalize K0[j] = y at *
            have hyi : (y : Int) < n := by omega
            obtain ⟨A5, c5, rfl⟩ := own_slice HO.out
            by_cases hkd : kd ≤ 2
            · rw [decide_eq_true hkd, if_pos rfl] at hsn
              have HSN := Lib.hid hsn
              clear hsn
              go_wp2_with (at_builtin; go_must (refine wpList_append_own _ rfl (.tmp 39) (.tmp 41) 22 rfl w3.heap.size 3 i0 _ 1 8 Try.underlying22 hi hz0 hz1 hz2 rfl (by decide) _ _ _ rfl (HO.out.alloc _) ⟨wr.heap.size, 0, none⟩ 1 1 [.int .i64 y] rfl rfl (cells_new _ _ _) (by intro u hu; simp at hu; subst hu; rfl) (by unfold maxLen; omega) (by omega) (by simp; omega) ?_); intro v' w4 hown' hg' _)
              have hg2 : wr.grownBy w4 (Value.slice A5 (((K0.take j).filter (hl ks)).map fun k : Nat => (k : Int)).length c5).ownBlock := (World.grownBy_alloc _ _ _).andThen hg' (fun j e => .inr e)
              have HNw : Hid (OwnI w4 w3.heap.size v' (((K0.take (j + 1)).filter (hl ks)).map fun k : Nat => (k : Int))) := by
                show w4.ownsRow _ _ _ _ _ _
                rw [HSN.out, icells_snoc, List.length_map, List.length_append, ← List.length_map (f := fun k : Nat => (k : Int))]
                exact hown'
              have HB4 := Lib.hid (HBx.out.grown hg2 hbz (fun j e => (HO.out.lt j e).1))
              clear hown' hg' hg2
              go_roundw
              case rel => exact ⟨v', _, _, ⟨j + 1, by omega, rfl, HNw, HB4⟩, rfl, rfl, by go_num⟩
              case measure => simp [intOf]; omega
            · rw [decide_eq_false hkd] at hsn
              have HNw : Hid (OwnI wr w3.heap.size (.slice A5 (((K0.take j).filter (hl ks)).map fun k : Nat => (k : Int)).length c5) (((K0.take (j + 1)).filter (hl ks)).map fun k : Nat => (k : Int))) := by
                show OwnI _ _ _ _
                rw [hsn]
                simpa using HO.out
              clear hsn
              go_wp2
              go_roundw
              case rel => exact ⟨j + 1, by omega, by go_num, HNw, HBx⟩
              case measure => simp [intOf]; omega
          · have ej : (K0.take j).filter (hl ks) = openL ks ps n a := by rw [List.take_of_length_le (by omega)]; exact HOP.out
            rw [ej] at HO
            obtain ⟨A9, c9, rfl⟩ := own_slice HO.out
            obtain ⟨w4, rfl⟩ : ∃ w4 : World, w4 = wr := ⟨_, rfl⟩
            have hC0l : (openL ks ps n a).length ≤ n := by
              have := List.length_filter_le (isKid ks ps a) (List.range n)
              rw [List.length_range] at this
              exact this
            have HCm : Hid (∀ k ∈ openL ks ps n a, k < n) := fun k hk => (mem_openL.1 hk).1
            have HCn := Lib.hid (openL_nodup (ks := ks) (ps := ps) (n := n) a)
            have hokI : okI ((openL ks ps n a).map fun k : Nat => (k : Int)) := fun x hx => by
              obtain ⟨k, hk, rfl⟩ := List.mem_map.1 hx
              have := HCm.out k hk
              exact wf_near (by omega) (by omega)
            have HI9 := Lib.hid (ints_of_own HO.out hokI (by rw [imap_len]; omega))
            have hcap9 := own_cap HO.out
            rw [imap_len] at hcap9 HI9
            have HQ4 := Lib.hid (HQ3.out.below HBx.out)
            have hB4 := below_then HB3.out HBx.out hwz3
            have HB4 := Lib.hid hB4
            have z0 := (hB4.cell (p := ⟨w.heap.size, 0, none⟩) hlt).trans x0
            have HUP := Lib.hid HI.out.up
            clear HO hokI HK0 HQ3 HB3 HBx hB4 HKM HOP ej
            rw [imap_len]
            go_upto_region 14 with (fail)
            go_cut [58] (fun x wx => wx = w4 ∧ ∃ b : Bool, x = .bool b ∧ Hid (wayOk ks ps n a b))
            case first =>
              have hlm := imap_len (openL ks ps n a)
              by_cases ha0 : a < 0
              · have hna : ¬ (0 ≤ a ∧ ks.getD a.toNat 0 = 2) := fun h => by omega
                by_cases h1 : 1 < (openL ks ps n a).length
                · have h1i : (1 : Int) < ((openL ks ps n a).length : Int) := by omega
                  have HR : Hid (wayOk ks ps n a true) := ⟨fun _ => ⟨hna, h1⟩, (fun h => by cases h)⟩
                  clear hna
                  go_wp2
                  go_meet
                  exact ⟨rfl, true, rfl, HR⟩
                · have h1i : ¬ (1 : Int) < ((openL ks ps n a).length : Int) := by omega
                  have HR : Hid (wayOk ks ps n a false) := ⟨(fun h => by cases h), fun _ => .inr (by omega)⟩
                  clear hna
                  go_wp2
                  go_meet
                  exact ⟨rfl, false, rfl, HR⟩
              · obtain ⟨k, hka, hkn, hkb⟩ := HPL.out.resolve_left (fun e => ha0 (by omega))
                subst hka
                have hh := (HUP.out k hkn hkb).1
                rw [hl_of ks k (HKS.out k hkn).1] at hh
                have hk2 := of_decide_eq_true hh
                have hk1 := (HKS.out k hkn).1
                obtain ⟨b, off, rfl, hb, hx, _⟩ := ints_cell (shp_below S0.out HB4.out).1 (k := k) (by have := HN.out; omega)
                have hki : (k : Int) < n := by omega
                clear hh hkb
                by_cases hkd : ks.getD k 0 = 1
                · have hna : ¬ (0 ≤ (k : Int) ∧ ks.getD k 0 = 2) := fun h => by omega
                  rw [hkd] at hx
                  by_cases h1 : 1 < (openL ks ps n k).length
                  · have h1i : (1 : Int) < ((openL ks ps n k).length : Int) := by omega
                    have HR : Hid (wayOk ks ps n k true) := ⟨fun _ => ⟨hna, h1⟩, (fun h => by cases h)⟩
                    clear hna hkd hk1 hk2
                    go_wp2
                    go_meet
                    exact ⟨rfl, true, rfl, HR⟩
                  · have h1i : ¬ (1 : Int) < ((openL ks ps n k).length : Int) := by omega
                    have HR : Hid (wayOk ks ps n k false) := ⟨(fun h => by cases h), fun _ => .inr (by omega)⟩
                    clear hna hkd hk1 hk2
                    go_wp2
                    go_meet
                    exact ⟨rfl, false, rfl, HR⟩
                · have hkd2 : ks.getD k 0 = 2 := by omega
                  have HR : Hid (wayOk ks ps n k false) := ⟨(fun h => by cases h), fun _ => .inl ⟨by omega, hkd2⟩⟩
                  rw [hkd2] at hx
                  clear hkd hkd2 hk1 hk2
                  go_wp2
                  go_meet
                  exact ⟨rfl, false, rfl, HR⟩
            case rest =>
              obtain ⟨hw9, bb, rfl, HBB⟩ := hcut
              subst hw9
              obtain ⟨w4, rfl⟩ : ∃ w1 : World, w1 = wc := ⟨_, rfl⟩
              clear z0 HUP HPL
              go_upto_if 58 with fail
              go_cut [6, 9] (fun y v wx => wx = w4 ∧ ∃ (C : List Nat) (Ak : Option Addr) (ck nn' : Nat), y = .int .i64 nn' ∧ nn' ≤ nn + 1 ∧ v = .slice Ak C.length ck ∧ Hid (IntsAt w4 (.slice Ak C.length ck) (C.map fun k : Nat => (k : Int))) ∧ Hid (chOk ks ps n a C))
              case first =>
                cases bb
                · have HR : Hid (chOk ks ps n a (openL ks ps n a)) := ⟨HCn.out, fun k h => h, fun _ => rfl, fun h => by
                    have := (HBB.out.2 rfl).resolve_left h
                    by_cases e : (openL ks ps n a).length = 0
                    · exact .inl (List.eq_nil_of_length_eq_zero e)
                    · exact .inr (by omega)⟩
                  have hlm := imap_len (openL ks ps n a)
                  go_wp2
                  go_meet
                  exact ⟨rfl, openL ks ps n a, A9, c9, nn, rfl, by omega, rfl, HI9, HR⟩
                · obtain ⟨hna, h1⟩ := HBB.out.1 rfl
                  have HNA := Lib.hid hna
                  clear hna
                  by_cases hnl : nn < l.length
                  · obtain ⟨b, off, rfl, hb, hx, hxw⟩ := ints_cell (U0.out.below HB4.out) (k := nn) hnl
                    have hni : (nn : Int) < l.length := by omega
                    generalize l.getD nn 0 = x at *
                    have WI := Lib.hid (Within_any x ((openL ks ps n a).length : Int) w4 hxw (by omega) (by omega))
                    have hbd := within_bd x ((openL ks ps n a).length : Int) (by omega)
                    generalize hz : within x ((openL ks ps n a).length : Int) = z at *
                    clear hz
                    obtain ⟨q, rfl⟩ : ∃ q : Nat, z = q := ⟨z.toNat, by omega⟩
                    have hq : q < (openL ks ps n a).length := by omega
                    obtain ⟨b9, off9, rfl, hb9, hx9, hw9⟩ := ints_cell HI9.out (k := q) (by rw [imap_len]; exact hq)
                    have hCC : Hid (chOk ks ps n a [(openL ks ps n a)[q]]) := ⟨by simp, fun k hk => by rw [List.mem_singleton.1 hk]; exact List.getElem_mem hq, fun h => absurd h HNA.out, fun _ => .inr rfl⟩
                    have hIC : Hid (IntsAt w4 (.slice (some ⟨b9, off9 + q, none⟩) 1 (c9 - q)) ([(openL ks ps n a)[q]].map fun k : Nat => (k : Int))) := ⟨some ⟨b9, off9 + q, none⟩, c9 - q, rfl, by unfold maxLen; simp, fun k hk => by
                      simp at hk
                      subst hk
                      refine ⟨b9, off9 + q, rfl, hb9, ?_, ?_⟩
                      · rw [Nat.add_zero, hx9]
                        simp [List.getD_eq_getElem?_getD, hq]
                      · have := hw9
                        simpa [List.getD_eq_getElem?_getD, hq] using this⟩
                    have hqi : (q : Int) < ((openL ks ps n a).length : Int) := by omega
                    have hq1 : (q : Int) + 1 ≤ c9 := by omega
                    have hq2 : ¬ c9 = q := by omega
                    have hq3 : q + 1 ≤ c9 := by omega
                    have hq0 : (0 : Int) ≤ q := by omega
                    have hqw : IntKind.i64.wrap ((q : Int) + 1) = (q : Int) + 1 := by rw [IntKind.wrap_i64]; omega
                    have hnw : IntKind.i64.wrap ((nn : Int) + 1) = (nn : Int) + 1 := by rw [IntKind.wrap_i64]; have := HCC.out; omega
                    have hqt : ((q : Int) + 1).toNat = q + 1 := by omega
                    have hqs : q + 1 - q = 1 := by omega
                    clear hx9 hw9 HI9 hbd h1
                    go_wp2_with (go_at_call 17; refine WI.out.mono ?_; rintro e w5 ⟨rfl, rfl⟩)
                    go_meet
                    exact ⟨rfl, [(openL ks ps n a)[q]], some ⟨b9, off9 + q, none⟩, c9 - q, nn + 1, by go_num, by omega, rfl, hIC, hCC⟩
                  · have hni : ¬ (nn : Int) < l.length := by omega
                    have WI := Lib.hid (Within_any 0 ((openL ks ps n a).length : Int) w4 (by decide +kernel) (by omega) (by omega))
                    have hbd := within_bd 0 ((openL ks ps n a).length : Int) (by omega)
                    generalize hz : within 0 ((openL ks ps n a).length : Int) = z at *
                    clear hz
                    obtain ⟨q, rfl⟩ : ∃ q : Nat, z = q := ⟨z.toNat, by omega⟩
                    have hq : q < (openL ks ps n a).length := by omega
                    obtain ⟨b9, off9, rfl, hb9, hx9, hw9⟩ := ints_cell HI9.out (k := q) (by rw [imap_len]; exact hq)
                    have hCC : Hid (chOk ks ps n a [(openL ks ps n a)[q]]) := ⟨by simp, fun k hk => by rw [List.mem_singleton.1 hk]; exact List.getElem_mem hq, fun h => absurd h HNA.out, fun _ => .inr rfl⟩
                    have hIC : Hid (IntsAt w4 (.slice (some ⟨b9, off9 + q, none⟩) 1 (c9 - q)) ([(openL ks ps n a)[q]].map fun k : Nat => (k : Int))) := ⟨some ⟨b9, off9 + q, none⟩, c9 - q, rfl, by unfold maxLen; simp, fun k hk => by
                      simp at hk
                      subst hk
                      refine ⟨b9, off9 + q, rfl, hb9, ?_, ?_⟩
                      · rw [Nat.add_zero, hx9]
                        simp [List.getD_eq_getElem?_getD, hq]
                      · have := hw9
                        simpa [List.getD_eq_getElem?_getD, hq] using this⟩
                    have hqi : (q : Int) < ((openL ks ps n a).length : Int) := by omega
                    have hq1 : (q : Int) + 1 ≤ c9 := by omega
                    have hq2 : ¬ c9 = q := by omega
                    have hq3 : q + 1 ≤ c9 := by omega
                    have hq0 : (0 : Int) ≤ q := by omega
                    have hqw : IntKind.i64.wrap ((q : Int) + 1) = (q : Int) + 1 := by rw [IntKind.wrap_i64]; omega
                    have hnw : IntKind.i64.wrap ((nn : Int) + 1) = (nn : Int) + 1 := by rw [IntKind.wrap_i64]; have := HCC.out; omega
                    have hqt : ((q : Int) + 1).toNat = q + 1 := by omega
                    have hqs : q + 1 - q = 1 := by omega
                    clear hx9 hw9 HI9 hbd h1
                    go_wp2_with (go_at_call 17; refine WI.out.mono ?_; rintro e w5 ⟨rfl, rfl⟩)
                    go_meet
                    exact ⟨rfl, [(openL ks ps n a)[q]], some ⟨b9, off9 + q, none⟩, c9 - q, nn + 1, by go_num, by omega, rfl, hIC, hCC⟩
              case rest =>
                obtain ⟨hw9, C, Ak, ck, nn', rfl, hnn, rfl, HIC, HCC2⟩ := hcut
                subst hw9
                obtain ⟨w4, rfl⟩ : ∃ w1 : World, w1 = wc := ⟨_, rfl⟩
                have HIC4 := Lib.hid HIC.out
                have hCl : C.length ≤ n := by
                  have h1 := HCC2.out
                  by_cases hA : 0 ≤ a ∧ ks.getD a.toNat 0 = 2
                  · rw [h1.2.2.1 hA]; exact hC0l
                  · rcases h1.2.2.2 hA with e | e
                    · have : C = [] := List.eq_nil_iff_forall_not_mem.2 fun k hk => by have := h1.2.1 k hk; rw [e] at this; cases this
                      rw [this]; exact Nat.zero_le _
                    · omega
                have HIN := Lib.hid (HI.out.step HP.out HCC2.out.1 HCC2.out.2.1 HCC2.out.2.2.1 HCC2.out.2.2.2)
                have hCk : ∀ k ∈ C, k < n ∧ s.testBit k = false := fun k hk => by
                  obtain ⟨h1, h2⟩ := mem_openL.1 (HCC2.out.2.1 k hk)
                  refine ⟨h1, ?_⟩
                  cases e : s.testBit k
                  · rfl
                  · exact absurd (by rw [(kid_par h2).1]; simp) (HI.out.up k h1 e).2.2
                have HCK := Lib.hid hCk
                have HCT : Hid (cnt (addB s C) = cnt s + C.length) := cnt_addB C s HCC2.out.1 fun k hk => ⟨by have := (hCk k hk).1; omega, (hCk k hk).2⟩
                have hcn := cnt_n HIN.out.lt (by omega)
                clear hCk
                go_upto_region 21 with (fail)
                go_upto_region 22 with (fail)
                go_loopw [5, 80] (fun x i wx => ∃ j : Nat, j ≤ C.length ∧ i = .int .i64 j ∧ Hid (wx = w4) ∧ Hid (x = .int .u32 (addB s (C.take j) : Nat))) (fun _ i _ => C.length - (intOf i).toNat)
                case atStart => exact ⟨0, Nat.zero_le _, rfl, Lib.hid rfl, Lib.hid rfl⟩
                case round =>
                  obtain ⟨j, hj, rfl, HW, HX⟩ := hrel
                  have hw9 := HW.out
                  subst hw9
                  have hx := HX.out
                  subst hx
                  clear HX HW
                  by_cases hjc : j < C.length
                  · have hji : (j : Int) < C.length := by omega
                    obtain ⟨b9, off9, rfl, hb9, hx9, _⟩ := ints_cell HIC.out (k := j) (by rw [imap_len]; exact hjc)
                    have ey : (C.map fun k : Nat => (k : Int)).getD j 0 = (C[j] : Nat) := by simp [List.getD_eq_getElem?_getD, hjc]
                    rw [ey] at hx9
                    have hyn := (HCK.out C[j] (List.getElem_mem hjc)).1
                    have hlt5 : addB s (C.take j) < 2 ^ n := addB_lt _ _ HI.out.lt fun k hk => (HCK.out k (List.mem_of_mem_take hk)).1
                    have hlt6 : addB s (C.take j) < 4294967296 := Nat.lt_of_lt_of_le hlt5 (Nat.pow_le_pow_right (n := 2) (by omega) (show n ≤ 32 by omega))
                    have HSN : Hid (addB s (C.take (j + 1)) = addB s (C.take j) ||| 2 ^ C[j]) := by
                      show _ = _
                      rw [List.take_succ_eq_append_getElem hjc, addB_snoc]
                    have h2 := two_lt (k := C[j]) (by omega)
                    have hor := u32_or_nat (addB s (C.take j)) (2 ^ C[j]) hlt6 h2
                    have hsh := two_val (i := C[j]) (by omega)
                    clear ey hlt5
                    generalize addB s (C.take j) = y5 at *
                    generalize C[j] = y at *
                    have hyi : (y : Int) < 32 := by omega
                    have hy32 : y < 32 := by omega
                    generalize 2 ^ y = p at *
                    go_wp2
                    go_roundw
                    case rel => exact ⟨j + 1, by omega, by go_num, Lib.hid trivial, by show _ = _; rw [HSN.out]⟩
                    case measure => simp [intOf]; omega
                  · have ej : addB s (C.take j) = addB s C := by rw [List.take_of_length_le (by omega)]
                    rw [ej]
                    clear ej
                    have hRl60 : R.length ≤ 60 := by have := HCC.out; omega
                    go_wp2_with (at_builtin; go_must (refine wpList_append_q rfl (.tmp 90) (.tmp 91) rfl HQ4.out rfl (C.map fun k : Nat => (k : Int)) Ak ck (by rw [imap_len]; rfl) (by rw [imap_len]; exact HIC.out) (by rw [imap_len]; omega) HB4.out.size ?_); intro v' w5 hq5 hbl5 hs5)
                    have HQ5 := Lib.hid hq5
                    have HB5 := Lib.hid (hbl5 w0 HB4.out)
                    obtain ⟨g5, o5, c5, rfl, _⟩ := hq5
                    have hRC : (R ++ C.map fun k : Nat => (k : Int)).length = R.length + C.length := by rw [List.length_append, imap_len]
                    have HBD : Hid (nn' + (n + 1 - cnt (addB s C)) + (R ++ C.map fun k : Nat => (k : Int)).length ≤ 60) := by
                      show _ ≤ _
                      have := HCC.out
                      rw [hRC]
                      have := HCT.out
                      omega
                    have HMS : Hid (n + 1 - cnt (addB s C) + (R.length + C.length) < n + 1 - cnt s + (R.length + 1)) := by
                      show _ < _
                      have := HCT.out
                      omega
                    have HRC := Lib.hid hRC
                    clear hRC hbl5 hs5 hcn
                    go_roundw
                    case rel => exact ⟨addB s C, nn', R ++ C.map fun k : Nat => (k : Int), rfl, rfl, HQ5, HIN, HBD, HB5⟩
                    case measure =>
                      show n + 1 - cnt (addB s C) + (R ++ C.map fun k : Nat => (k : Int)).length < n + 1 - cnt s + (R.length + 1)
                      rw [HRC.out]; exact HMS.out
end Go.Proofs.Ytaolebdcmdmnjaa
