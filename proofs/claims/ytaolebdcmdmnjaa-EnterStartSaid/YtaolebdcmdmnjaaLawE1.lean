/-
  EnterStart: the walk.
-/
import Derived.Test.YtaolebdcmdmnjaaEl0
import Derived.Test.YtaolebdcmdmnjaaShOg
namespace Go.Proofs.Ytaolebdcmdmnjaa
set_option maxRecDepth 100000
open Go.ChangeShapes Go.WideShapes Go.ChangeAt Go.RowKit

set_option maxHeartbeats 8000000 in
theorem enterStart_walk (w : World) (v : Value) (l : List Int) (h : IntsAt w v l) :
    Calls Try.prog 3 #[v] w (TrueOn w) := by
  obtain ⟨A0, c0, rfl⟩ := ints_form h
  have OF := Lib.hid (Of_full _ l w h)
  clear h
  go_enter Try.func3, Try.ntmps3
  go_upto_region 2 with (go_at_call 9; refine OF.out.mono ?_; rintro e w2 ⟨A, c, B, d, A', c', B', d', n, ks, ps, rfl, ok, hf, h0, h12, hn, S1, S2, hb2⟩; have HN := Lib.hid hn; clear hn)
  have q0 : ((w2.alloc (.cells #[.slice A n c, .slice B n d] 24)).alloc (.cells #[.slice A' n c', .slice B' n d'] 25)).cell? ⟨w2.heap.size, 0, none⟩ = some (.slice A n c) := box_x _ (by simp) (box_0 _ _ _ _)
  have q1 : ((w2.alloc (.cells #[.slice A n c, .slice B n d] 24)).alloc (.cells #[.slice A' n c', .slice B' n d'] 25)).cell? ⟨w2.heap.size, 1, none⟩ = some (.slice B n d) := box_x _ (by simp) (box_1 _ _ _ _)
  have b3 : Below w2.heap.size w2 ((w2.alloc (.cells #[.slice A n c, .slice B n d] 24)).alloc (.cells #[.slice A' n c', .slice B' n d'] 25)) := ((Below.refl _ _).alloc (Nat.le_refl _) _).alloc (by simp) _
  have hlt : w2.heap.size + 1 < ((w2.alloc (.cells #[.slice A n c, .slice B n d] 24)).alloc (.cells #[.slice A' n c', .slice B' n d'] 25)).heap.size := by simp
  generalize (w2.alloc (.cells #[.slice A n c, .slice B n d] 24)).alloc (.cells #[.slice A' n c', .slice B' n d'] 25) = w3 at *
  have hlt0 : w2.heap.size < w3.heap.size := by omega
  have S3 := Lib.hid (shp_below S1 b3)
  have HB3 := Lib.hid (below_then hb2 b3 hb2.size)
  have HF := Lib.hid hf
  have hsz : szN ks ps = n := by unfold szN; rw [hf.kl, hf.pl]; omega
  have hik := iniN_kid hf.tp
  have ST := Lib.hid (Start_any w3 S3.out hf h0 (by omega))
  have HPS := Lib.hid (start_prop hf (by omega))
  have HMX : Hid (∀ k ∈ inS ks ps n (iniN ks ps n (-1)), k < n) := fun k hk => (inS_und hf hik.1 (kid_hl hik.2) hk).1
  have HINI : Hid (∀ k, k ∈ inS ks ps n (iniN ks ps n (-1)) → ks.getD k 0 = 1 → (∃ j, j < n ∧ isKid ks ps k j = true) → iniN ks ps n k ∈ inS ks ps n (iniN ks ps n (-1))) := inS_ini hf n (iniN ks ps n (-1)) (by omega) hik.1
  have HHD := Lib.hid (inS_head hf hik.1)
  have HLN := Lib.hid (inS_len hf hik.1 (kid_hl hik.2))
  have hit := ini_iniN hf.tp
  have PR := Lib.hid (fun W (hW : Below w3.heap.size w3 W) s hs => Proper_any ks ps A B n c n d W s hs (shp_below S3.out hW) HF.out.kl.symm HF.out.pl.symm (by omega) (by omega))
  have IN := fun W (hW : Below w3.heap.size w3 W) (a : Int) => Initial_any ks ps A B n c n d W a (shp_below S3.out hW) HF.out.kl.symm HF.out.pl.symm (by omega) (by omega)
  have KD := fun W (hW : Below w3.heap.size w3 W) (a : Int) => Kids_any ks ps A B n c n d W a (shp_below S3.out hW) HF.out.kl.symm HF.out.pl.symm (by omega) (by omega)
  rw [hsz] at IN KD
  have IN := Lib.hid IN
  have KD := Lib.hid KD
  have HIT := Lib.hid hit
  clear S1 S2 b3 hb2 ok OF hf hsz hik hit
  generalize inS ks ps n (iniN ks ps n (-1)) = L at *
  generalize iniN ks ps n (-1) = i0 at *
  obtain ⟨r, hL⟩ : ∃ r, L = i0 :: r := by
    have := HHD.out
    cases L with
    | nil => cases this
    | cons a r => exact ⟨r, by injection this with e; rw [e]⟩
  have HLr := Lib.hid hL
  clear hL
  have hs32 : setN L < 4294967296 := setN_lt (n := 32) fun k hk => by have := HMX.out k hk; omega
  have BT := Lib.hid (fun k (hk : k < 32) => bit01 (setN L) k hs32 hk)
  have HBIT := Lib.hid (fun k => setN_bit k L)
  have P1 := Lib.hid (fun W hW => by have := PR.out W hW (setN L) hs32; rw [HPS.out] at this; exact this)
  go_upto_region 4 with (first
    | (go_at_call 10; refine ST.out.mono ?_; rintro e w4 ⟨v4, rfl, hO4, hb4⟩; have HB4 := Lib.hid hb4; have hI : IntsAt w4 v4 (L.map fun k : Nat => (k : Int)) := (by obtain ⟨A9, c9, rfl⟩ := own_slice hO4; rw [List.length_map]; exact nat_ints (by have := OwnN.of hO4; rwa [List.length_map] at this) (fun k hk => by have := HMX.out k hk; omega) (by have := HLN.out; omega)); obtain ⟨A9, c9, rfl⟩ := ints_form hI; rw [List.length_map]; rw [List.length_map] at hI; have HI := Lib.hid hI; have BI := Lib.hid (bits_any L A9 c9 w4 hI (fun k hk => by have := HMX.out k hk; omega)); have y0 := (hb4.cell (p := ⟨w2.heap.size, 0, none⟩) hlt0).trans q0; have y1 := (hb4.cell (p := ⟨w2.heap.size, 1, none⟩) hlt0).trans q1; clear hO4 hb4 hI)
    | (go_at_call 11; refine BI.out.mono ?_; rintro e w5 ⟨rfl, rfl⟩))
  have hL0 : 0 < L.length := by rw [HLr.out]; simp
  obtain ⟨b9, off9, rfl, hb9, hc9⟩ := nat_cell HI.out hL0
  have e9 : L[0] = i0 := by
    have := HHD.out
    rw [List.head?_eq_getElem?, List.getElem?_eq_getElem hL0] at this
    injection this
  rw [e9, Nat.add_zero] at hc9
  have g0 : ((L.length : Int) == 0) = false := beq_eq_false_iff_ne.2 (by omega)
  have hLi : (0 : Int) < L.length := by omega
  have g1 : ((i0 : Int) != i0) = false := by simp
  have INm := Lib.hid (fun W (hW : Below w3.heap.size w3 W) => by have := IN.out W hW (-1); rw [HIT.out] at this; exact this)
  clear e9
  go_region_held3 (fun w' => w'.cell? ⟨w2.heap.size, 0, none⟩ = some (.slice A n c) ∧ w'.cell? ⟨w2.heap.size, 1, none⟩ = some (.slice B n d) ∧ w'.cell? ⟨b9, off9, none⟩ = some (.int .i64 i0))
    (first | exact ⟨y0, y1, hc9⟩ | exact ⟨y20, y21, y22⟩ | exact ⟨y30, y31, y32⟩ | go_keep)
    (first
      | (go_at_call 12; refine (P1.out _ (by first | exact HB4.out | exact below_drew HB4.out)).mono ?_; rintro e w6 ⟨rfl, hb6⟩; have hb6' : Below w4.heap.size w4 w6 := (by first | exact hb6 | exact below_then (below_drew (Below.refl _ _)) hb6 (Nat.le_refl _)); have HB6 := Lib.hid (below_then HB4.out hb6' HB4.out.size); have y20 := (HB6.out.cell (p := ⟨w2.heap.size, 0, none⟩) hlt0).trans q0; have y21 := (HB6.out.cell (p := ⟨w2.heap.size, 1, none⟩) hlt0).trans q1; have y22 := (hb6'.cell (p := ⟨b9, off9, none⟩) hb9).trans hc9)
      | (go_at_call 13; refine (INm.out _ (by first | exact HB6.out | exact below_drew HB6.out)).mono ?_; rintro e w7 ⟨rfl, hb7⟩; have hb7' : Below w4.heap.size w4 w7 := (by first | exact below_then hb6' hb7 hb6'.size | exact below_then (below_drew hb6') hb7 hb6'.size); have HB7 := Lib.hid (below_then HB4.out hb7' HB4.out.size); have y30 := (HB7.out.cell (p := ⟨w2.heap.size, 0, none⟩) hlt0).trans q0; have y31 := (HB7.out.cell (p := ⟨w2.heap.size, 1, none⟩) hlt0).trans q1; have y32 := (hb7'.cell (p := ⟨b9, off9, none⟩) hb9).trans hc9))
  clear hb6 hb7 hb7' hb6' y20 y21 y22
  go_wp2
  go_loopw [37] (fun i wr => ∃ k : Nat, k ≤ n ∧ i = .int .i64 k ∧ Hid (Below w3.heap.size w3 wr)) (fun i _ => n - (intOf i).toNat)
  case atStart => exact ⟨0, Nat.zero_le _, rfl, HB7.out⟩
  case round =>
    obtain ⟨k, hk, rfl, HB⟩ := hrel
    have z0 := (HB.out.cell (p := ⟨w2.heap.size, 0, none⟩) hlt0).trans q0
    have z1 := (HB.out.cell (p := ⟨w2.heap.size, 1, none⟩) hlt0).trans q1
    have hbz := HB.out.size
    by_cases hlk : k < n
    · have hki : (k : Int) < n := by omega
      have hk32 : (k : Int) < 32 := by omega
      have hbt := BT.out k (by omega)
      have HIN := Lib.hid (HBIT.out k)
      obtain ⟨bk, offk, rfl, hbk, hck, _⟩ := ints_cell (shp_below S3.out HB.out).1 (k := k) (by rw [HF.out.kl]; exact hlk)
      cases hkb : (setN L).testBit k
      · rw [hkb, if_neg (by simp)] at hbt
        clear hkb
        go_wp2
        go_roundw
        case rel => exact ⟨k + 1, by omega, by go_num, HB⟩
        case measure => simp [intOf]; omega
      · rw [hkb, if_pos rfl] at hbt
        have hkl : k ∈ L := by
          have := HIN.out
          rw [hkb] at this
          exact of_decide_eq_true this.symm
        have HKL := Lib.hid hkl
        clear hkl
        clear hkb
        by_cases h1 : ks.getD k 0 = 1
        · rw [h1] at hck
          have KDk := Lib.hid (KD.out wr HB.out k)
          by_cases hkz : 0 < (kidsTo ps k n).length
          · have hex := kids_open HF.out hkz
            have hin := HINI.out k HKL.out h1 hex
            have hi32 := HMX.out _ hin
            have hib := BT.out (iniN ks ps n k) (by omega)
            rw [HBIT.out, decide_eq_true hin, if_pos rfl] at hib
            have INk := Lib.hid (fun W (hW : Below w3.heap.size w3 W) => by have := IN.out W hW k; rw [ini_iniN hex] at this; exact this)
            have hkzi : (0 : Int) < (kidsTo ps k n).length := by omega
            have hi32i : (iniN ks ps n k : Int) < 32 := by omega
            clear hin hex
            generalize iniN ks ps n k = q at *
            generalize kidsTo ps k n = kl at *
            go_wp2_with (first
              | (go_at_call 14; refine KDk.out.mono ?_; rintro e w8 ⟨v8, rfl, hO8, hb8⟩; have HB8 := Lib.hid (below_then HB.out hb8 hbz); obtain ⟨A8, c8, rfl⟩ := own_slice hO8; rw [List.length_map]; have y80 := (HB8.out.cell (p := ⟨w2.heap.size, 0, none⟩) hlt0).trans q0; have y81 := (HB8.out.cell (p := ⟨w2.heap.size, 1, none⟩) hlt0).trans q1; clear hO8 hb8)
              | (go_at_call 13; refine (INk.out _ HB8.out).mono ?_; rintro e w10 ⟨rfl, hb10⟩))
            go_roundw
            case rel => exact ⟨k + 1, by omega, by go_num, below_then HB8.out hb10 HB8.out.size⟩
            case measure => simp [intOf]; omega
          · have hkzi : ¬ (0 : Int) < (kidsTo ps k n).length := by omega
            generalize kidsTo ps k n = kl at *
            go_wp2_with (first
              | (go_at_call 14; refine KDk.out.mono ?_; rintro e w8 ⟨v8, rfl, hO8, hb8⟩; have HB8 := Lib.hid (below_then HB.out hb8 hbz); obtain ⟨A8, c8, rfl⟩ := own_slice hO8; rw [List.length_map]; have y80 := (HB8.out.cell (p := ⟨w2.heap.size, 0, none⟩) hlt0).trans q0; have y81 := (HB8.out.cell (p := ⟨w2.heap.size, 1, none⟩) hlt0).trans q1; clear hO8 hb8))
            go_roundw
            case rel => exact ⟨k + 1, by omega, by go_num, HB8.out⟩
            case measure => simp [intOf]; omega
        · have g : (ks.getD k 0 == 1) = false := by simpa using h1
          generalize ks.getD k 0 = z at *
          go_wp2
          go_roundw
          case rel => exact ⟨k + 1, by omega, by go_num, HB⟩
          case measure => simp [intOf]; omega
    · go_wp2_with (go_at_call 15; refine (wakes07 _).mono ?_; rintro e w10 ⟨rfl, hb10⟩)
      go_ret
      exact ⟨rfl, below_then HB3.out (below_then HB.out hb10 hbz) HB3.out.size⟩
end Go.Proofs.Ytaolebdcmdmnjaa
