/-
  Keep's helps: names by a number, lists that are the same.
-/
import Derived.Test.YtaoinedndnleoaaGreatPa6
import Derived.Test.YtaoinedndnleoaaGreatPa8
namespace Go.Proofs.YtaoinedndnleoaaGreat
set_option maxRecDepth 100000
open Go.ChangeShapes Go.WideShapes Go.ChangeAt Go.RowKit

/-- a name of a number -/
def nmT (p : UInt8) (of n : Int) : Tx := [p, byteOf (97 + within n of).toNat]
theorem kName_any (p : UInt8) (of n : Int) (w : World) (hv : (Lit.int .i64 n).wf = true) (hk : 1 ≤ of) (hk2 : of ≤ 26) :
    Calls Tryz.prog 17 #[.string ⟨#[p]⟩, .int .i64 n, .int .i64 of] w fun e w' => e = .returned (.string (bs (nmT p of n))) ∧ Below w.heap.size w w' := by
  have hb := within_bd n of hk
  unfold nmT
  generalize hm : within n of = m at *
  have HM := Lib.hid hm
  clear hm
  have hw : (97 + m) % 256 = 97 + m := by omega
  have cv := fun W b cap => conv_one W b cap (97 + m) (by omega) (by omega)
  have ha : (⟨#[p]⟩ : ByteArray) ++ bs [byteOf (97 + m).toNat] = bs [p, byteOf (97 + m).toNat] := bs_append [p] _
  have HA := Lib.hid ha
  clear ha
  generalize bs [p, byteOf (97 + m).toNat] = T2 at *
  have hz : (bs [byteOf (97 + m).toNat]).size = 1 := rfl
  generalize bs [byteOf (97 + m).toNat] = T at *
  go_enter Tryz.func17, Tryz.ntmps17
  go_wp2_with (go_at_call 11; refine (Within_any _ _ _ hv (by omega) (by omega)).mono ?_; rintro e w' ⟨rfl, rfl⟩; rw [HM.out])
  go_ret
  exact ⟨ret_str HA.out, (Below.refl _ _).alloc (Nat.le_refl _) _⟩
set_option maxHeartbeats 1000000 in
theorem sameT_any (l : List Tx) (A B : Option Addr) (ca cb : Nat) (w : World) (hl : l.length ≤ 9223372036854775807) (_ha : l.length ≤ ca) (_hb : l.length ≤ cb)
    (h1 : ∀ j (hj : j < l.length), ∃ g, A = some ⟨g, 0, none⟩ ∧ w.cell? ⟨g, j, none⟩ = some (.string (bs l[j]))) (h2 : ∀ j (hj : j < l.length), ∃ g, B = some ⟨g, 0, none⟩ ∧ w.cell? ⟨g, j, none⟩ = some (.string (bs l[j]))) :
    Calls Tryz.prog 43 #[.slice A l.length ca, .slice B l.length cb] w fun e w' => e = .returned (.bool true) ∧ Below w.heap.size w w' := by
  have H1 := Lib.hid h1
  have H2 := Lib.hid h2
  clear h1 h2
  go_enter Tryz.func43, Tryz.ntmps43
  go_wp2
  go_loopw [5] (fun i wr => ∃ k : Nat, k ≤ l.length ∧ i = .int .i64 k ∧ ∃ n, wr = w.drewN n) (fun i _ => l.length - (intOf i).toNat)
  case atStart => exact ⟨0, Nat.zero_le _, rfl, 0, rfl⟩
  case round =>
    obtain ⟨k, hk, rfl, n, rfl⟩ := hrel
    by_cases hlt : k < l.length
    · obtain ⟨g, rfl, x1⟩ := H1.out k hlt
      obtain ⟨g', rfl, x2⟩ := H2.out k hlt
      generalize bs l[k] = X at *
      have hb1 : (X.toList != X.toList) = false := by simp
      go_wp2
      go_quiet (fail)
      go_wp2
      go_roundw
      case rel => exact ⟨k + 1, by omega, by go_num, _, rfl⟩
      case measure => simp [intOf]; omega
    · go_wp2
      go_ret
      exact ⟨rfl, below_drewN (Below.refl _ _) _⟩
end Go.Proofs.YtaoinedndnleoaaGreat
namespace Go.Proofs.YtaoinedndnleoaaGreat
set_option maxRecDepth 100000
open Go.ChangeShapes Go.WideShapes Go.ChangeAt Go.RowKit

/-- the names of the first k states that a set has -/
def stT (ns : List Tx) (s k : Nat) : List Tx := ((List.range k).filter fun i => s.testBit i).map fun i => ns.getD i []
theorem stT_succ (ns : List Tx) (s k : Nat) : stT ns s (k + 1) = if s.testBit k = true then stT ns s k ++ [ns.getD k []] else stT ns s k := by
  unfold stT
  rw [List.range_succ, List.filter_append, List.filter_cons]
  by_cases h : s.testBit k = true
  · rw [if_pos h, if_pos h]; simp
  · rw [if_neg h, if_neg h]; simp
theorem stT_len (ns : List Tx) (s k : Nat) : (stT ns s k).length ≤ k := by
  unfold stT; rw [List.length_map]; refine Nat.le_trans (List.length_filter_le _ _) ?_; simp
set_option maxHeartbeats 4000000 in
theorem States_any (ns : List Tx) (s : Nat) (AN A2 A3 A4 A7 A8 AD : Option Addr) (cN n2 c2 n3 c3 n4 c4 n7 c7 n8 c8 nD cD : Nat) (nm : ByteArray) (w : World) (hN : ListAt w AN cN ns) (hn : ns.length ≤ 24) (hs : s < 4294967296) :
    Calls Tryz.prog 44 #[.agg #[.slice AN ns.length cN, .slice A2 n2 c2, .slice A3 n3 c3, .slice A4 n4 c4], .agg #[.string nm, .int .u32 s, .slice A7 n7 c7, .slice A8 n8 c8, .slice AD nD cD]] w (TasTo (stT ns s ns.length) w) := by
  have hcN := hN.1
  have hB0 : Below w.heap.size w ((w.alloc (.cells #[.slice AN ns.length cN, .slice A2 n2 c2, .slice A3 n3 c3, .slice A4 n4 c4] 30)).alloc (.cells #[.string nm, .int .u32 s, .slice A7 n7 c7, .slice A8 n8 c8, .slice AD nD cD] 59)) := ((Below.refl _ _).alloc (Nat.le_refl _) _).alloc (by simp) _
  have RC : ((w.alloc (.cells #[.slice AN ns.length cN, .slice A2 n2 c2, .slice A3 n3 c3, .slice A4 n4 c4] 30)).alloc (.cells #[.string nm, .int .u32 s, .slice A7 n7 c7, .slice A8 n8 c8, .slice AD nD cD] 59)).heap[w.heap.size]? = some (.cells #[.slice AN ns.length cN, .slice A2 n2 c2, .slice A3 n3 c3, .slice A4 n4 c4] 30 (0, 0)) := (heap_alloc_old _ _ (by simp)).trans (heap_alloc_new _ _)
  have RX : ((w.alloc (.cells #[.slice AN ns.length cN, .slice A2 n2 c2, .slice A3 n3 c3, .slice A4 n4 c4] 30)).alloc (.cells #[.string nm, .int .u32 s, .slice A7 n7 c7, .slice A8 n8 c8, .slice AD nD cD] 59)).heap[w.heap.size + 1]? = some (.cells #[.string nm, .int .u32 s, .slice A7 n7 c7, .slice A8 n8 c8, .slice AD nD cD] 59 (0, 0)) := by
    have := heap_alloc_new (w.alloc (.cells #[.slice AN ns.length cN, .slice A2 n2 c2, .slice A3 n3 c3, .slice A4 n4 c4] 30)) (.cells #[.string nm, .int .u32 s, .slice A7 n7 c7, .slice A8 n8 c8, .slice AD nD cD] 59)
    simpa using this
  have HN := Lib.hid (hN.below hB0)
  have HB0 := Lib.hid hB0
  have HSH := Lib.hid (fun k (hk : k < 32) => has_shr s k hs hk)
  have HST := Lib.hid (fun k => stT_succ ns s k)
  have HLE := Lib.hid (fun k => stT_len ns s k)
  clear hN hB0
  go_enter Tryz.func44, Tryz.ntmps44
  go_upto_region 1 with fail
  generalize (w.alloc (.cells #[.slice AN ns.length cN, .slice A2 n2 c2, .slice A3 n3 c3, .slice A4 n4 c4] 30)).alloc (.cells #[.string nm, .int .u32 s, .slice A7 n7 c7, .slice A8 n8 c8, .slice AD nD cD] 59) = w0 at *
  have c0 := cell_of_row _ _ 0 _ _ _ RC
  have hl1 : w.heap.size + 1 < w0.heap.size := (Array.getElem?_eq_some_iff.1 RX).1
  have x1 := cell_of_row _ _ 1 _ _ _ RX
  have hw0 : w.heap.size ≤ w0.heap.size := by omega
  clear RC RX
  obtain ⟨i0, hi, hz0, hz1, hz2⟩ := info_parts Tryz.infoString
  go_upto_region 3 with fail
  clear c0
  go_loopw [5, 11] (fun v i wr => ∃ k : Nat, k ≤ ns.length ∧ i = .int .i64 k ∧ Hid (OwnL wr w0.heap.size v (stT ns s k)) ∧ Hid (Below w0.heap.size w0 wr)) (fun _ i _ => ns.length - (intOf i).toNat)
  case atStart => exact ⟨0, Nat.zero_le _, rfl, ownL_nil _ _, Below.refl _ _⟩
  case round =>
    obtain ⟨k, hk, rfl, HO, HB⟩ := hrel
    have hbz := HB.out.size
    by_cases hlt : k < ns.length
    · obtain ⟨g, rfl, hgl, hc⟩ := HN.out.2 k hlt
      have q0 := (HB.out.cell (p := ⟨g, k, none⟩) hgl).trans hc
      have y1 := (HB.out.cell (p := ⟨w.heap.size + 1, 1, none⟩) hl1).trans x1
      have hst := HST.out k
      have hsh := HSH.out k (by omega)
      have hle := HLE.out k
      rw [show ns.getD k [] = ns[k] by simp [List.getD_eq_getElem?_getD, List.getElem?_eq_getElem hlt]] at hst
      have hk0 : ¬ (k : Int) < 0 := by omega
      generalize ns[k] = tx at *
      go_upto_region 5 with fail
      generalize s.testBit k = b at *
      cases b
      · rw [if_neg (by simp)] at hst
        have HST2 := Lib.hid hst
        clear hst
        go_wp2
        go_roundw
        case rel => exact ⟨k + 1, by omega, by go_num, by show OwnL _ _ _ _; rw [HST2.out]; exact HO.out, HB⟩
        case measure => simp [intOf]; omega
      · rw [if_pos rfl] at hst
        have HST2 := Lib.hid hst
        clear hst
        generalize stT ns s k = l at *
        go_wp2_with (at_builtin; go_must (refine wpList_append_own _ rfl (.tmp 23) (.tmp 25) 25 rfl w0.heap.size 9 i0 _ 1 16 Tryz.underlying25 hi hz0 hz1 hz2 rfl (by decide) _ _ _ rfl (World.ownsRow.alloc HO.out _) ⟨wr.heap.size, 0, none⟩ 1 1 (scells [tx]) rfl rfl (cells_new _ _ _) (sc_oneA _) (by unfold maxLen; omega) (by omega) (by simp; omega) ?_); intro v' w4 hown' hg' _)
        have HB4 : Hid (Below w0.heap.size w0 w4) := (HB.out.alloc HB.out.size _).grown hg' (HB.out.alloc HB.out.size _).size (fun g e => (World.ownsRow.lt HO.out g e).1)
        have HO4 : Hid (OwnL w4 w0.heap.size v' (l ++ [tx])) := ownL_snocA hown'
        go_roundw
        case rel => exact ⟨k + 1, by omega, by go_num, by show OwnL _ _ _ _; rw [HST2.out]; exact HO4.out, HB4.out⟩
        case measure => simp [intOf]; omega
    · have HOE := Lib.hid (by have := HO.out; rwa [show k = ns.length by omega] at this : OwnL wr w0.heap.size _ (stT ns s ns.length))
      go_wp2
      go_ret
      exact ⟨below_then HB0.out HB.out HB0.out.size, _, rfl, own_mono2 HOE.out hw0⟩
end Go.Proofs.YtaoinedndnleoaaGreat
namespace Go.Proofs.YtaoinedndnleoaaGreat
set_option maxRecDepth 100000
open Go.ChangeShapes Go.WideShapes Go.ChangeAt Go.RowKit

def paC : Ch := { names := [[115]], kinds := [1], parents := [-1], trans := [] }
theorem paC_ok : OkC paC := ⟨⟨rfl, rfl, by decide, by decide⟩, ⟨fun x hx => by simp [paC] at hx; subst hx; decide, fun x hx => by simp [paC] at hx; subst hx; decide⟩, fun x hx => by simp [paC] at hx; subst hx; decide, by decide +kernel, by decide⟩
theorem paC_run : runC paC 1 3 16 (begC paC 1 3) [] = some (⟨1, [0], [3]⟩, []) := by decide +kernel
theorem paC_st : stT [[115]] 1 1 = [[115]] := by decide +kernel
/-- the example's document -/
def PaTo (w : World) (e : Ending) (w' : World) : Prop := Below w.heap.size w w' ∧ ∃ (g3 gS : Nat) (AD : Option Addr) (cD : Nat) (AO : Option Addr) (cO : Nat), e = .returned (.tuple #[.agg #[.string ⟨#[100]⟩, .int .u32 1, .slice (some ⟨g3, 0, none⟩) 1 1, .slice (some ⟨gS, 0, none⟩) 1 1, .slice AD 0 cD], .slice AO 0 cO, .nilIface])
set_option maxHeartbeats 4000000 in
theorem wakes14 (w : World) : Calls Tryz.prog 16 #[] w (TrueOn w) := by
  have hb : Below w.heap.size w (((w.alloc (.cells #[.string (bs [115])] 9)).alloc (.cells #[.int .i64 1] 3)).alloc (.cells #[.int .i64 (-1)] 3)) := (((Below.refl _ _).alloc (Nat.le_refl _) _).alloc (by simp) _).alloc (by simp; omega) _
  obtain ⟨r0, r1, r2, _⟩ := rows3 w (.cells #[.string (bs [115])] 9) (.cells #[.int .i64 1] 3) (.cells #[.int .i64 (-1)] 3)
  have R0 : (((w.alloc (.cells #[.string (bs [115])] 9)).alloc (.cells #[.int .i64 1] 3)).alloc (.cells #[.int .i64 (-1)] 3)).heap[w.heap.size]? = _ := r0
  have R1 : (((w.alloc (.cells #[.string (bs [115])] 9)).alloc (.cells #[.int .i64 1] 3)).alloc (.cells #[.int .i64 (-1)] 3)).heap[w.heap.size + 1]? = _ := r1
  have R2 : (((w.alloc (.cells #[.string (bs [115])] 9)).alloc (.cells #[.int .i64 1] 3)).alloc (.cells #[.int .i64 (-1)] 3)).heap[w.heap.size + 2]? = _ := r2
  clear r0 r1 r2
  have hN0 : ListAt (((w.alloc (.cells #[.string (bs [115])] 9)).alloc (.cells #[.int .i64 1] 3)).alloc (.cells #[.int .i64 (-1)] 3)) (some ⟨w.heap.size, 0, none⟩) 1 [[115]] :=
    ⟨Nat.le_refl _, fun j hj => by
        obtain rfl : j = 0 := by have : j < 1 := hj; omega
        exact ⟨_, rfl, (Array.getElem?_eq_some_iff.1 R0).1, by rw [cell_of_row _ _ _ _ _ _ R0]; rfl⟩⟩
  have hW0 : ChW (((w.alloc (.cells #[.string (bs [115])] 9)).alloc (.cells #[.int .i64 1] 3)).alloc (.cells #[.int .i64 (-1)] 3)) paC 1 (some ⟨w.heap.size + 1, 0, none⟩) (some ⟨w.heap.size + 2, 0, none⟩) none 1 1 0 :=
    ⟨⟨⟨_, 1, rfl, by decide, fun k hk => by
        obtain rfl : k = 0 := by have : k < 1 := hk; omega
        exact ⟨_, 0, rfl, (Array.getElem?_eq_some_iff.1 R1).1, by rw [cell_of_row _ _ _ _ _ _ R1]; rfl, by show (Lit.int .i64 (1 : Int)).wf = true; decide⟩⟩,
      ⟨_, 1, rfl, by decide, fun k hk => by
        obtain rfl : k = 0 := by have : k < 1 := hk; omega
        exact ⟨_, 0, rfl, (Array.getElem?_eq_some_iff.1 R2).1, by rw [cell_of_row _ _ _ _ _ _ R2]; rfl, by show (Lit.int .i64 (-1 : Int)).wf = true; decide⟩⟩⟩,
      fun j hj => by exact absurd hj (Nat.not_lt_zero _), Nat.le_refl _, Nat.zero_le _, paC_ok.sh, by decide, by decide, fun t ht => by cases ht⟩
  have hs0 : (((w.alloc (.cells #[.string (bs [115])] 9)).alloc (.cells #[.int .i64 1] 3)).alloc (.cells #[.int .i64 (-1)] 3)).heap.size = w.heap.size + 3 := by simp
  clear R0 R1 R2
  have HB := Lib.hid hb
  clear hb
  generalize hw3 : ((w.alloc (.cells #[.string (bs [115])] 9)).alloc (.cells #[.int .i64 1] 3)).alloc (.cells #[.int .i64 (-1)] 3) = w3 at hN0 hW0 hs0 HB
  have BG : Hid (∀ W, Below w3.heap.size w3 W → Calls Tryz.prog 15 #[.agg #[.slice (some ⟨w.heap.size, 0, none⟩) 1 1, .slice (some ⟨w.heap.size + 1, 0, none⟩) 1 1, .slice (some ⟨w.heap.size + 2, 0, none⟩) 1 1, .slice none 0 0], .string ⟨#[100]⟩, .int .i64 3] W (PaTo W)) := fun W hW => by
    have h := New_ok paC 1 (some ⟨w.heap.size, 0, none⟩) (some ⟨w.heap.size + 1, 0, none⟩) (some ⟨w.heap.size + 2, 0, none⟩) none 1 1 1 0 [100] 3 W (by decide) (by decide +kernel) (by decide) (by decide) (hW0.below hW) (hN0.below hW) paC_ok
    rw [paC_run] at h
    refine h.mono ?_
    rintro e w' ⟨h1, g3, gS, vD, vL, rfl, -, -, hD, hL⟩
    obtain ⟨AD, cD, rfl⟩ := own_slice hD
    obtain ⟨AO, cO, rfl⟩ := own_slice hL
    exact ⟨h1, g3, gS, AD, cD, AO, cO, rfl⟩
  have SX : Hid (∀ W A7 c7 A8 c8 AD cD, Below w3.heap.size w3 W → Calls Tryz.prog 44 #[.agg #[.slice (some ⟨w.heap.size, 0, none⟩) 1 1, .slice (some ⟨w.heap.size + 1, 0, none⟩) 1 1, .slice (some ⟨w.heap.size + 2, 0, none⟩) 1 1, .slice none 0 0], .agg #[.string ⟨#[100]⟩, .int .u32 1, .slice A7 1 c7, .slice A8 1 c8, .slice AD 0 cD]] W (TasTo [[115]] W)) := fun W A7 c7 A8 c8 AD cD hW => by
    have h := States_any [[115]] 1 (some ⟨w.heap.size, 0, none⟩) (some ⟨w.heap.size + 1, 0, none⟩) (some ⟨w.heap.size + 2, 0, none⟩) none A7 A8 AD 1 1 1 1 1 0 0 1 c7 1 c8 0 cD ⟨#[100]⟩ W (hN0.below hW) (by decide) (by decide)
    have e : stT [[115]] 1 ([[115]] : List Tx).length = [[115]] := paC_st
    rw [e] at h
    exact h
  clear hN0 hW0
  go_enter Tryz.func16, Tryz.ntmps16
  go_upto_region 2 with fail
  have hw3' : ((w.alloc (.cells #[.string ⟨#[115]⟩] 9)).alloc (.cells #[.int .i64 1] 3)).alloc (.cells #[.int .i64 (-1)] 3) = w3 := hw3
  rw [hw3']
  clear hw3 hw3'
  have RC := heap_alloc_new w3 (.cells #[.slice (some ⟨w.heap.size, 0, none⟩) 1 1, .slice (some ⟨w.heap.size + 1, 0, none⟩) 1 1, .slice (some ⟨w.heap.size + 2, 0, none⟩) 1 1, .slice none 0 0] 30)
  have HB4 := Lib.hid (box_b w3 (.cells #[.slice (some ⟨w.heap.size, 0, none⟩) 1 1, .slice (some ⟨w.heap.size + 1, 0, none⟩) 1 1, .slice (some ⟨w.heap.size + 2, 0, none⟩) 1 1, .slice none 0 0] 30))
  rw [hs0] at RC
  have RC : (w3.alloc (.cells #[.slice (some ⟨w.heap.size, 0, none⟩) 1 1, .slice (some ⟨w.heap.size + 1, 0, none⟩) 1 1, .slice (some ⟨w.heap.size + 2, 0, none⟩) 1 1, .slice none 0 0] 30)).heap[w.heap.size + 1 + 1 + 1]? = some (.cells #[.slice (some ⟨w.heap.size, 0, none⟩) 1 1, .slice (some ⟨w.heap.size + 1, 0, none⟩) 1 1, .slice (some ⟨w.heap.size + 1 + 1, 0, none⟩) 1 1, .slice none 0 0] 30 (0, 0)) := RC
  generalize w3.alloc (.cells #[.slice (some ⟨w.heap.size, 0, none⟩) 1 1, .slice (some ⟨w.heap.size + 1, 0, none⟩) 1 1, .slice (some ⟨w.heap.size + 2, 0, none⟩) 1 1, .slice none 0 0] 30) = w4 at *
  have hl4 := (Array.getElem?_eq_some_iff.1 RC).1
  have HRC := Lib.hid RC
  have c0 := cell_of_row _ _ 0 _ _ _ RC; have c1 := cell_of_row _ _ 1 _ _ _ RC; have c2 := cell_of_row _ _ 2 _ _ _ RC; have c3 := cell_of_row _ _ 3 _ _ _ RC
  clear RC
  go_upto_region 3 with (go_at_call 15; refine (BG.out _ HB4.out).mono ?_; rintro e w5 ⟨hb5, g3, gS, AD, cD, AO, cO, rfl⟩; have HB5 := Lib.hid hb5; clear hb5)
  have HB6 := Lib.hid (box_b w5 (.cells #[.string ⟨#[100]⟩, .int .u32 1, .slice (some ⟨g3, 0, none⟩) 1 1, .slice (some ⟨gS, 0, none⟩) 1 1, .slice AD 0 cD] 59))
  have RP := heap_alloc_new w5 (.cells #[.string ⟨#[100]⟩, .int .u32 1, .slice (some ⟨g3, 0, none⟩) 1 1, .slice (some ⟨gS, 0, none⟩) 1 1, .slice AD 0 cD] 59)
  have HB46 : Hid (Below w4.heap.size w4 (w5.alloc (.cells #[.string ⟨#[100]⟩, .int .u32 1, .slice (some ⟨g3, 0, none⟩) 1 1, .slice (some ⟨gS, 0, none⟩) 1 1, .slice AD 0 cD] 59))) := below_then HB5.out HB6.out HB5.out.size
  clear c0 c1 c2 c3
  generalize w5.alloc (.cells #[.string ⟨#[100]⟩, .int .u32 1, .slice (some ⟨g3, 0, none⟩) 1 1, .slice (some ⟨gS, 0, none⟩) 1 1, .slice AD 0 cD] 59) = w6 at *
  have RC := (HB46.out.block _ hl4).trans HRC.out
  have c0 := cell_of_row _ _ 0 _ _ _ RC; have c1 := cell_of_row _ _ 1 _ _ _ RC; have c2 := cell_of_row _ _ 2 _ _ _ RC; have c3 := cell_of_row _ _ 3 _ _ _ RC
  have p0 := cell_of_row _ _ 0 _ _ _ RP; have p1 := cell_of_row _ _ 1 _ _ _ RP; have p2 := cell_of_row _ _ 2 _ _ _ RP; have p3 := cell_of_row _ _ 3 _ _ _ RP; have p4 := cell_of_row _ _ 4 _ _ _ RP
  have HB36 : Hid (Below w3.heap.size w3 w6) := below_then HB4.out HB46.out HB4.out.size
  clear RC RP BG
  go_wp2_with (first
    | (go_at_call 44; refine (SX.out w6 _ _ _ _ _ _ HB36.out).mono ?_; rintro e w7 ⟨hb7, v7, rfl, hO7⟩; obtain ⟨A7, c7, rfl⟩ := own_slice hO7; have HL7 := Lib.hid (listAt_of hO7); have HB7 := Lib.hid (below_then HB36.out hb7 HB36.out.size); clear hb7 hO7; have R8 := heap_alloc_new w7 (.cells #[.string ⟨#[115]⟩] 9); have HL8 := Lib.hid (HL7.out.below (box_b w7 (.cells #[.string ⟨#[115]⟩] 9))); have HB8 := Lib.hid (below_then HB7.out (box_b w7 (.cells #[.string ⟨#[115]⟩] 9)) HB7.out.size))
    | (go_at_call 43; refine (sameT_any [[115]] _ _ _ 1 _ (by decide) HL8.out.1 (Nat.le_refl _) (fun j hj => by obtain ⟨g, e, _, hx⟩ := HL8.out.2 j hj; exact ⟨g, e, hx⟩) (fun j hj => by
        obtain rfl : j = 0 := by have : j < 1 := hj; omega
        exact ⟨_, rfl, by rw [cell_of_row _ _ _ _ _ _ R8]; rfl⟩)).mono ?_; rintro e w9 ⟨rfl, hb9⟩; have HB9 := Lib.hid (below_then HB8.out hb9 HB8.out.size)))
  go_ret
  exact ⟨rfl, below_then HB.out HB9.out HB.out.size⟩
end Go.Proofs.YtaoinedndnleoaaGreat
namespace Go.Proofs.YtaoinedndnleoaaGreat
set_option maxRecDepth 100000
open Go.ChangeShapes Go.WideShapes Go.ChangeAt Go.RowKit

theorem OkC.task {c : Ch} (h : OkC c) {k : Nat} (hk : k < c.trans.length) : c.trans[k].task.length ≤ 12 := by
  have hv := h.v
  unfold validB at hv
  simp only [Bool.and_eq_true, List.all_eq_true] at hv
  have h1 := (hv.2 _ (List.getElem_mem hk)).2
  unfold lablB at h1
  generalize c.trans[k] = t at *
  obtain ⟨tk, tf, tt, te, tp, ta, ti⟩ := t
  simp only at h1 ⊢
  by_cases e9 : tk = 9
  · rw [if_pos e9] at h1
    simp only [Bool.and_eq_true, optN, Bool.or_eq_true, beq_iff_eq] at h1
    rcases h1.1.2 with h2 | h2
    · rw [h2]; simp
    · exact nameL_le h2
  · rw [if_neg e9] at h1
    have h2 : silB ⟨tk, tf, tt, te, tp, ta, ti⟩ = true := by
      by_cases e10 : tk = 10
      · rw [if_pos e10] at h1; simp only [Bool.and_eq_true] at h1; exact h1.1
      · rw [if_neg e10] at h1
        by_cases e11 : tk = 11
        · rw [if_pos e11] at h1; simp only [Bool.and_eq_true] at h1; exact h1.1.1
        · rw [if_neg e11] at h1; cases h1
    simp only [silB, Bool.and_eq_true, beq_iff_eq] at h2
    rw [h2.2]; simp
/-- whatever is enabled is of its kind, and its state is in -/
theorem enL_kind {c : Ch} {s : Nat} {kd : Int} {ev : Tx} {i : Nat} (h : i ∈ enL c s kd ev) : ∃ hi : i < c.trans.length, c.trans[i].kind = kd ∧ s.testBit (frT c i) = true := by
  obtain ⟨h1, h2⟩ := enL_at h
  refine ⟨h1, ?_, h2⟩
  unfold enL enK at h
  have hb := (List.mem_filter.1 h).2
  unfold enB at hb
  rw [List.getElem?_eq_getElem h1] at hb
  simp only [Bool.and_eq_true, beq_iff_eq] at hb
  exact hb.1.1
theorem pick_at {c : Ch} {x : Cf} {ev : Tx} : (sortD (lvT c) (enL c x.set 9 ev) = [] ∧ pickC c x ev = -1) ∨ ∃ k r, sortD (lvT c) (enL c x.set 9 ev) = k :: r ∧ pickC c x ev = k ∧ k ∈ enL c x.set 9 ev := by
  unfold pickC
  cases h : sortD (lvT c) (enL c x.set 9 ev) with
  | nil => exact .inl ⟨rfl, rfl⟩
  | cons k r => exact .inr ⟨k, r, rfl, rfl, by rw [← sortD_mem (lvT c), h]; simp⟩
theorem may_none (done : List Tx) (t : Tx) : mayB done t [] = true := by
  unfold mayB othersP; simp
theorem llAt_nil (w : World) : LLAt w none 0 [] := ⟨Nat.le_refl _, fun j hj => by simp at hj⟩
/-- what was done is short -/
def ShD (l : List Dn) : Prop := ∀ d ∈ l, d.task.length ≤ 12
theorem ShD.tasks {l : List Dn} (h : ShD l) (u : Tx) : ∀ x ∈ tasksD l u, x.length ≤ 1000 := fun x hx => by
  unfold tasksD at hx
  obtain ⟨d, hd, rfl⟩ := List.mem_map.1 hx
  have := h d (List.mem_filter.1 hd).1
  omega
def FirN (c : Ch) (n : Nat) (nm : ByteArray) (x : Cf) (ds : List Dn) (k : Nat) (u : Tx) (now : Int) (w : World) (e : Ending) (w' : World) : Prop := ∃ ds', (ds' = ds ∨ ∃ t, ds' = ds ++ [⟨t, u⟩]) ∧ ShD ds' ∧ FirTo n nm (setF c n x ds' k now) w e w'
theorem Fire_on (c : Ch) (n : Nat) (AN AK AP AT A7 A8 AD : Option Addr) (cN cK cP cT c7 c8 cD : Nat) (nm : ByteArray) (x : Cf) (ds : List Dn) (k : Nat) (u ev : Tx) (now : Int) (w : World) (h : ChW w c n AK AP AT cK cP cT) (hke : k ∈ enL c x.set 9 ev) (hx : Plc c.kinds c.parents n x) (hD : DnAt w AD cD ds) (hdl : ds.length ≤ 999) (hsd : ShD ds) (hU : U32sAt w (.slice A7 n c7) x.past) (hS : IntsAt w (.slice A8 n c8) x.since) (hw : (Lit.int .i64 now).wf = true) (hok : OkC c) (hn : n = c.names.length) :
    Calls Tryz.prog 20 #[chV AN AK AP AT c.names.length cN n cK n cP c.trans.length cT, .agg #[.string nm, .int .u32 (x.set : Nat), .slice A7 n c7, .slice A8 n c8, .slice AD ds.length cD], .int .i64 k, .string (bs u), .slice none 0 0, .int .i64 now] w (FirN c n nm x ds k u now w) := by
  obtain ⟨hk, hkd, hin⟩ := enL_kind hke
  by_cases hta : c.trans[k].task = []
  · exact (Fire_plain c n AN AK AP AT A7 A8 AD cN cK cP cT c7 c8 cD nm x ds k now u [] none 0 w h hk hkd hin hx hD hdl hU hS hw hok hn hta).mono fun e w' h => ⟨ds, .inl rfl, hsd, h⟩
  · exact (Fire_task c n AN AK AP AT A7 A8 AD cN cK cP cT c7 c8 cD nm x ds k now u [] none 0 w h hk hkd hin hx hD hdl hU hS hw hok hn hta (hsd.tasks u) (llAt_nil w) (by simp) (fun l hl => by simp at hl) (fun l hl => by simp at hl) (may_none _ _)).mono fun e w' h => ⟨_, .inr ⟨_, rfl⟩, fun d hd => by
      rcases List.mem_append.1 hd with hd | hd
      · exact hsd d hd
      · rw [List.mem_singleton.1 hd]; exact hok.task hk, h⟩
end Go.Proofs.YtaoinedndnleoaaGreat
