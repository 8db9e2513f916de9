import Derived.Test.YtgffbgmieppckaaGreatDoorOrd2
import Derived.Test.YtgffbgmieppckaaGreatDoorDT0
import Derived.Test.YtgffbgmieppckaaGreatDoorRs
import Derived.Maps.OwnSet
import Derived.Maps.Views
import Derived.Deep.AppendLies
namespace Go.Proofs.YtgffbgmieppckaaGreatDoor
set_option maxRecDepth 100000
open Go.ChangeShapes Go.WideShapes Go.ChangeAt Go.RowKit
structure OrdAt (w : World) (g : Nat) (names : List Tx) (bl : List Nat) : Prop where
 len : bl.length = names.length
 few : names.length ≤ 24
 lo : Lo bl
 lt : g < w.heap.size
 list : ∃ A c, w.cell? ⟨g, 0, none⟩ = some (.slice A names.length c) ∧ ListAt w A c names
 sets : ∃ h, w.cell? ⟨g, 1, none⟩ = some (.slice (some ⟨h, 0, none⟩) names.length names.length) ∧ h < w.heap.size ∧ ∀ j, j < names.length → w.cell? ⟨h, j, none⟩ = some (.int .u32 (bl.getD j 0 : Nat))
theorem OrdAt.below {w w' : World} {g : Nat} {names : List Tx} {bl : List Nat} (h : OrdAt w g names bl) (hb : Below w.heap.size w w') : OrdAt w' g names bl :=
 ⟨h.len, h.few, h.lo, Nat.lt_of_lt_of_le h.lt hb.size,
  let ⟨A, c, e, hL⟩ := h.list; ⟨A, c, (hb.cell (p := ⟨g, 0, none⟩) h.lt).trans e, hL.below hb⟩,
  let ⟨k, e, hk, hc⟩ := h.sets; ⟨k, (hb.cell (p := ⟨g, 1, none⟩) h.lt).trans e, Nat.lt_of_lt_of_le hk hb.size, fun j hj => (hb.cell (p := ⟨k, j, none⟩) hk).trans (hc j hj)⟩⟩
def errV (k : Int) : Value := .iface 39 (.int .i64 k)
def NewTo (names : List Tx) (ps : List Pr) (w : World) (e : Ending) (w' : World) : Prop := Below w.heap.size w w' ∧ match newP names ps with
 | .bad k => e = .returned (.tuple #[.pointer none, errV k])
 | .ok bl => ∃ g, e = .returned (.tuple #[.pointer (some ⟨g, 0, none⟩), .nilIface]) ∧ OrdAt w' g names bl
theorem newTo_bad {names : List Tx} {ps : List Pr} {w w' : World} {k : Int} (h : newP names ps = .bad k) (hb : Below w.heap.size w w') : NewTo names ps w (.returned (.tuple #[.pointer none, .iface 39 (.int .i64 k)])) w' := ⟨hb, by rw [h]; rfl⟩
theorem newTo_ok {names : List Tx} {ps : List Pr} {w w' : World} {bl : List Nat} {g : Nat} (h : newP names ps = .ok bl) (hb : Below w.heap.size w w') (ho : OrdAt w' g names bl) : NewTo names ps w (.returned (.tuple #[.pointer (some ⟨g, 0, none⟩), .nilIface])) w' := ⟨hb, by rw [h]; exact ⟨g, rfl, ho⟩⟩
theorem new_limit {names : List Tx} {ps : List Pr} (h : 24 < names.length) : newP names ps = .bad 5 := by unfold newP; rw [if_pos h]
theorem new_there {names : List Tx} {ps : List Pr} (h : names.length ≤ 24) (h2 : ¬ names.Nodup) : newP names ps = .bad 4 := by unfold newP; rw [if_neg (by omega), if_pos h2]
theorem new_none {names : List Tx} {ps : List Pr} (h : names.length ≤ 24) (h2 : names.Nodup) (h3 : ps.all (inN names) = false) : newP names ps = .bad 3 := by unfold newP; rw [if_neg (by omega), if_neg (by simp [h2]), if_pos h3]
theorem new_circle {names : List Tx} {ps : List Pr} (h : names.length ≤ 24) (h2 : names.Nodup) (h3 : ps.all (inN names) = true) (h4 : circ (folL names ps) = true) : newP names ps = .bad 6 := by unfold newP; rw [if_neg (by omega), if_neg (by simp [h2]), if_neg (by simp [h3]), if_pos h4]
theorem new_ok {names : List Tx} {ps : List Pr} (h : names.length ≤ 24) (h2 : names.Nodup) (h3 : ps.all (inN names) = true) (h4 : circ (folL names ps) = false) : newP names ps = .ok (selfTo (folL names ps) names.length) := by unfold newP; rw [if_neg (by omega), if_neg (by simp [h2]), if_neg (by simp [h3]), if_neg (by simp [h4])]
theorem folL_length (names : List Tx) (ps : List Pr) : (folL names ps).length = names.length := by rw [folL, folTo_length, psL_length]
theorem folL_lo {names : List Tx} {ps : List Pr} (hl : names.length ≤ 24) (h : ps.all (inN names) = true) : Lo (folL names ps) := folTo_lo (psL_all names hl ps (List.all_eq_true.1 h)).2.1 _
section
variable (names : List Tx) (ps : List Pr) (A B : Option Addr) (c d : Nat) (w : World)
theorem new_walk_limit (hl : 24 < names.length) (hm : names.length ≤ 1000000) :
  Calls Tryz.prog 139 #[.slice A names.length c, .slice B ps.length d] w (NewTo names ps w) := by
 have HE := Lib.hid (newTo_bad (w := w) (new_limit (ps := ps) hl) (Below.refl _ _))
 have h1 : decide (24 < names.length) = true := by simpa using hl
 go_enter Tryz.func139, Tryz.ntmps139
 go_wp2
 go_ret2
 exact HE.out
theorem new_walk_there (hl : names.length ≤ 24) (hn : ListAt w A c names) (hd : ¬ names.Nodup) :
  Calls Tryz.prog 139 #[.slice A names.length c, .slice B ps.length d] w (NewTo names ps w) := by
 have HE := Lib.hid (newTo_bad (w := w) (new_there (ps := ps) hl hd) (Below.refl _ _))
 have tw := twice_any names A c w hn (by omega)
 rw [decide_eq_false hd] at tw
 have TW := Lib.hid tw
 clear tw hd hn
 go_enter Tryz.func139, Tryz.ntmps139
 go_wp2_with (go_at_call 194; refine TW.out.mono ?_; rintro e w1 ⟨rfl, rfl⟩)
 go_ret2
 exact HE.out
theorem new_walk_none (hl : names.length ≤ 24) (hn : ListAt w A c names) (hp : PAt w B d ps) (hpl : ps.length ≤ 1000000) (hd : names.Nodup) (ha : ps.all (inN names) = false) :
  Calls Tryz.prog 139 #[.slice A names.length c, .slice B ps.length d] w (NewTo names ps w) := by
 have HE := Lib.hid (fun w' => newTo_bad (w := w) (w' := w') (new_none (ps := ps) hl hd ha))
 have tw := twice_any names A c w hn (by omega)
 rw [decide_eq_true hd] at tw
 have TW := Lib.hid tw
 have SS : Hid (Calls Tryz.prog 195 #[.slice A names.length c, .slice B ps.length d] w fun e w' => e = .returned (.tuple #[.slice none 0 0, .bool false]) ∧ Below w.heap.size w w') := by
  refine (pairSets_any names ps A B c d w hn hp hl hpl).mono ?_
  rintro e w' ⟨hb, ⟨_, he⟩ | ⟨h, _⟩⟩
  ·exact ⟨he, hb⟩
  ·rw [ha] at h; cases h
 clear tw hd hn ha hp
 go_enter Tryz.func139, Tryz.ntmps139
 go_wp2_with (first
  | (go_at_call 194; refine TW.out.mono ?_; rintro e w1 ⟨rfl, rfl⟩)
  | (go_at_call 195; refine SS.out.mono ?_; rintro e w2 ⟨rfl, hb2⟩))
 go_ret2
 exact HE.out _ hb2
set_option maxHeartbeats 2000000 in
theorem new_walk_rest (hl : names.length ≤ 24) (hn : ListAt w A c names) (hp : PAt w B d ps) (hpl : ps.length ≤ 1000000) (hd : names.Nodup) (ha : ps.all (inN names) = true) :
  Calls Tryz.prog 139 #[.slice A names.length c, .slice B ps.length d] w (NewTo names ps w) := by
 have tw := twice_any names A c w hn (by omega)
 rw [decide_eq_true hd] at tw
 have TW := Lib.hid tw
 have SS : Hid (Calls Tryz.prog 195 #[.slice A names.length c, .slice B ps.length d] w fun e w' => ∃ g, e = .returned (.tuple #[.slice (some ⟨g, 0, none⟩) names.length names.length, .bool true]) ∧ UL w' w.heap.size g (psL names ps) ∧ Below w.heap.size w w') := by
  refine (pairSets_any names ps A B c d w hn hp hl hpl).mono ?_
  rintro e w' ⟨hb, ⟨h, _⟩ | ⟨_, g, he, hu, _⟩⟩
  ·rw [ha] at h; cases h
  ·exact ⟨g, he, hu, hb⟩
 have hlo := (psL_all names hl ps (List.all_eq_true.1 ha)).2.1
 have hlf := folL_lo hl ha
 have FF := Lib.hid (fun g W base (hu : UL W base g (psL names ps)) => follow_any (psL names ps) base g W hu hlo (by rw [psL_length]; exact hl))
 have CC := Lib.hid (fun g W base (hu : UL W base g (folL names ps)) => circle_any (folL names ps) base g W hu hlf (by rw [folL_length]; exact hl))
 have E6 := Lib.hid (fun (w' : World) (h : circ (folL names ps) = true) => newTo_bad (w := w) (w' := w') (new_circle (ps := ps) hl hd ha h))
 have E0 := Lib.hid (fun (h : circ (folL names ps) = false) => new_ok (ps := ps) hl hd ha h)
 have hpl := psL_length names ps
 have hfl := folL_length names ps
 rw [hpl] at FF
 rw [hfl] at CC
 have FF2 : Hid (∀ g W base, UL W base g (psL names ps) → Calls Tryz.prog 196 #[.slice (some ⟨g, 0, none⟩) names.length names.length] W fun e w' => e = .returned (.tuple #[]) ∧ UL w' base g (folL names ps) ∧ W.grownBy w' (some g)) := fun g W base hu => (FF.out g W base hu).mono fun e w' h => by
  obtain ⟨h1, h2, h3⟩ := h
  rw [hpl] at h2
  exact ⟨h1, h2, h3⟩
 have HN := Lib.hid hn
 have HLF := Lib.hid hlf
 have HFL := Lib.hid hfl
 have hc := hn.1
 clear tw hn hp ha hd hlo hlf hpl hfl FF
 generalize folL names ps = fl at *
 generalize psL names ps = pl at *
 by_cases hci : circ fl = true
 ·have HE := Lib.hid (fun w' => E6.out w' hci)
  rw [hci] at CC
  clear hci E6 E0 HLF
  go_enter Tryz.func139, Tryz.ntmps139
  go_wp2_with (first
   | (go_at_call 194; refine TW.out.mono ?_; rintro e w1 ⟨rfl, rfl⟩)
   | (go_at_call 195; refine SS.out.mono ?_; rintro e w2 ⟨g, rfl, hu2, hb2⟩; have hg2 := (ul_lt hu2).1)
   | (go_at_call 196; refine (FF2.out g _ _ hu2).mono ?_; rintro e w3 ⟨rfl, hu3, hgr3⟩)
   | (go_at_call 197; refine (CC.out g _ _ hu3).mono ?_; rintro e w4 ⟨rfl, rfl⟩))
  go_ret2
  exact HE.out _ (hb2.grown hgr3 hb2.size (fun j e => by cases e; exact hg2))
 ·have hci' : circ fl = false := by simpa using hci
  have HE := Lib.hid (E0.out hci')
  rw [hci'] at CC
  clear hci hci' E6 E0
  go_enter Tryz.func139, Tryz.ntmps139
  go_wp2_with (first
   | (go_at_call 194; refine TW.out.mono ?_; rintro e w1 ⟨rfl, rfl⟩)
   | (go_at_call 195; refine SS.out.mono ?_; rintro e w2 ⟨g, rfl, hu2, hb2⟩; have hg2 := (ul_lt hu2).1)
   | (go_at_call 196; refine (FF2.out g _ _ hu2).mono ?_; rintro e w3 ⟨rfl, hu3, hgr3⟩)
   | (go_at_call 197; refine (CC.out g _ _ hu3).mono ?_; rintro e w4 ⟨rfl, rfl⟩))
  have HB3 := Lib.hid (hb2.grown hgr3 hb2.size (fun j e => by cases e; exact hg2))
  have HU3 := Lib.hid hu3
  clear hu2 hu3 hgr3 hb2
  go_loopw [32] (fun i wr => ∃ k : Nat, k ≤ names.length ∧ i = .int .i64 k ∧ Hid (UL wr w.heap.size g (selfTo fl k)) ∧ Hid (Below w.heap.size w wr)) (fun i _ => names.length - (intOf i).toNat)
  case atStart => exact ⟨0, Nat.zero_le _, rfl, HU3, HB3⟩
  case round =>
   obtain ⟨k, hk, rfl, HU, HB⟩ := hrel
   by_cases hlt : k < names.length
   ·have hlo2 := selfTo_lo HLF.out (by rw [HFL.out]; exact hl) k (by rw [HFL.out]; omega)
    have hsl : (selfTo fl k).length = names.length := by rw [selfTo_length, HFL.out]
    have hsn : selfTo fl (k + 1) = (selfTo fl k).set k ((selfTo fl k).getD k 0 ||| bitN k) := rfl
    generalize selfTo fl k = cur at *
    have x1 := ul_cell HU.out (j := k) (by omega)
    have f1 := ul_frozen HU.out k
    have HST := Lib.hid (ul_store HU.out k (cur.getD k 0 ||| bitN k))
    rw [← hsn] at HST
    have hv := or_val (cur.getD k 0) (bitN k) (hlo2 k) (pow_lo (by omega))
    clear hsn hlo2 hsl
    generalize cur.getD k 0 ||| bitN k = z at *
    generalize cur.getD k 0 = y at *
    have HU5 : Hid (UL (wr.setCell ⟨g, k, none⟩ (.int .u32 z)).drew w.heap.size g (selfTo fl (k + 1))) := HST.out.1
    have HB5 : Hid (Below w.heap.size w (wr.setCell ⟨g, k, none⟩ (.int .u32 z)).drew) := below_drew (HB.out.grown HST.out.2 HB.out.size (fun j e => by cases e; exact hg2))
    go_wp2
    go_region_with (go_at_call 165; refine (bit_any k _ (by omega)).mono ?_; rintro e w4 ⟨rfl, rfl⟩)
    all_goals
     generalize (wr.setCell ⟨g, k, none⟩ (.int .u32 z)).drew = w5 at HU5 HB5 ⊢
     go_wp2
     go_roundw
     case rel => exact ⟨k + 1, by omega, by go_num, HU5, HB5⟩
     case measure => simp [intOf]; omega
   ·have HK : Hid (selfTo fl k = selfTo fl names.length) := by show _ = _; congr 1; omega
    rw [HK.out] at HU
    have hbz := HB.out.size
    have CL := Lib.hid (Clone_any names A c wr (HN.out.below HB.out) (by omega))
    go_wp2_with (go_at_call 141; refine CL.out.mono ?_; rintro e w6 ⟨v6, rfl, ho6, hb6⟩; obtain ⟨A6, c6, rfl⟩ := own_slice ho6)
    have hb6z := hb6.size
    have hu6 : UL w6 w.heap.size g (selfTo fl names.length) := ul_below HU.out hb6 hbz
    have hb7 := (below_then HB.out hb6 hbz).alloc (Nat.le_trans hbz hb6z) (.cells #[.slice A6 names.length c6, .slice (some ⟨g, 0, none⟩) names.length names.length] 199)
    have ho : OrdAt (w6.alloc (.cells #[.slice A6 names.length c6, .slice (some ⟨g, 0, none⟩) names.length names.length] 199)) w6.heap.size names (selfTo fl names.length) := by
     have R := heap_alloc_new w6 (.cells #[.slice A6 names.length c6, .slice (some ⟨g, 0, none⟩) names.length names.length] 199)
     have hu7 := World.ownsRow.alloc hu6 (.cells #[.slice A6 names.length c6, .slice (some ⟨g, 0, none⟩) names.length names.length] 199)
     have hl7 : (selfTo fl names.length).length = names.length := by rw [selfTo_length, HFL.out]
     refine ⟨hl7, hl, selfTo_lo HLF.out (by rw [HFL.out]; exact hl) _ (by rw [HFL.out]; exact Nat.le_refl _), by simp, ⟨A6, c6, ?_, ?_⟩, ⟨g, ?_, ?_, ?_⟩⟩
     ·rw [cell_of_row _ _ _ _ _ _ R]; rfl
     ·exact (listAt_of ho6).below ((Below.refl _ _).alloc (Nat.le_refl _) _)
     ·rw [cell_of_row _ _ _ _ _ _ R]; rfl
     ·have := (ul_lt hu6).2; simp; omega
     ·intro j hj; exact ul_cell hu7 (by omega)
    go_ret2
    exact newTo_ok HE.out hb7 ho
end
theorem New_any (names : List Tx) (ps : List Pr) (A B : Option Addr) (c d : Nat) (w : World) (hn : ListAt w A c names) (hp : PAt w B d ps) (hl : names.length ≤ 1000000) (hpl : ps.length ≤ 1000000) :
  Calls Tryz.prog 139 #[.slice A names.length c, .slice B ps.length d] w (NewTo names ps w) := by
 by_cases h1 : 24 < names.length
 ·exact new_walk_limit names ps A B c d w h1 hl
 have h1' : names.length ≤ 24 := by omega
 by_cases h2 : names.Nodup
 ·cases h3 : ps.all (inN names)
  ·exact new_walk_none names ps A B c d w h1' hn hp hpl h2 h3
  ·exact new_walk_rest names ps A B c d w h1' hn hp hpl h2 h3
 ·exact new_walk_there names ps A B c d w h1' hn h2
section
variable (g : Nat) (names : List Tx) (bl : List Nat) (w : World)
theorem OIndex_any (x : Tx) (h : OrdAt w g names bl) : Calls Tryz.prog 92 #[.pointer (some ⟨g, 0, none⟩), .string (bs x)] w fun e w' => e = .returned (.int .i64 (idxI names x)) ∧ w = w' := by
 obtain ⟨A, c, h0, hL⟩ := h.list
 have HI := Lib.hid (IndexX_any names x A c w hL (by have := h.few; omega))
 clear h hL
 go_enter Tryz.func92, Tryz.ntmps92
 go_wp2_with (go_at_call 154; refine HI.out.mono ?_; rintro e w1 ⟨rfl, rfl⟩)
 go_ret
 exact ⟨rfl, rfl⟩
def aboveP (names : List Tx) (bl : List Nat) (x y : Tx) : Bool := decide (x ∈ names) && decide (y ∈ names) && rel bl (nix names x) (nix names y)
set_option maxHeartbeats 1000000 in
theorem Above_any (x y : Tx) (h : OrdAt w g names bl) : Calls Tryz.prog 42 #[.pointer (some ⟨g, 0, none⟩), .string (bs x), .string (bs y)] w fun e w' => e = .returned (.bool (aboveP names bl x y)) ∧ w = w' := by
 obtain ⟨k, h1, _, hc⟩ := h.sets
 have hf := h.few
 have I1 := Lib.hid (OIndex_any g names bl w x h)
 have I2 := Lib.hid (OIndex_any g names bl w y h)
 have tok1 : True := trivial
 by_cases hx : x ∈ names
 ·by_cases hy : y ∈ names
  ·have ha := idx_lt hx
   have hb := idx_lt hy
   have hca := hc _ ha
   have HH := Lib.hid (has_any (bl.getD (nix names x) 0) (nix names y) w (lo_32 h.lo _) (by omega))
   have HP : Hid (aboveP names bl x y = (bl.getD (nix names x) 0).testBit (nix names y)) := by show _ = _; unfold aboveP rel; simp [hx, hy]
   rw [idxI_in hx] at I1
   rw [idxI_in hy] at I2
   clear hx hy hc h
   generalize nix names x = a at *
   generalize nix names y = b at *
   generalize (bl.getD a 0).testBit b = r at *
   generalize bl.getD a 0 = s at *
   have g1 : decide ((0 : Int) ≤ a) = true := by simp
   have g2 : decide ((0 : Int) ≤ b) = true := by simp
   have g3 : (0 : Int) ≤ a := by omega
   have g4 : (a : Int) < names.length := by omega
   go_enter Tryz.func42, Tryz.ntmps42
   go_wp2_with (first
    | (have _t := tok1; go_at_call 92; refine I1.out.mono ?_; rintro e w1 ⟨rfl, rfl⟩; clear tok1 _t)
    | (go_at_call 92; refine I2.out.mono ?_; rintro e w2 ⟨rfl, rfl⟩)
    | (go_at_call 111; refine HH.out.mono ?_; rintro e w3 ⟨rfl, rfl⟩))
   go_ret
   exact ⟨ret_bool HP.out.symm, rfl⟩
  ·have ha := idx_lt hx
   have HP : Hid (aboveP names bl x y = false) := by show _ = _; unfold aboveP; simp [hy]
   rw [idxI_in hx] at I1
   rw [idxI_out hy] at I2
   clear hx hy hc h
   generalize nix names x = a at *
   have g1 : decide ((0 : Int) ≤ a) = true := by simp
   go_enter Tryz.func42, Tryz.ntmps42
   go_wp2_with (first
    | (have _t := tok1; go_at_call 92; refine I1.out.mono ?_; rintro e w1 ⟨rfl, rfl⟩; clear tok1 _t)
    | (go_at_call 92; refine I2.out.mono ?_; rintro e w2 ⟨rfl, rfl⟩))
   go_ret
   exact ⟨ret_bool HP.out.symm, rfl⟩
 ·have HP : Hid (aboveP names bl x y = false) := by show _ = _; unfold aboveP; simp [hx]
  rw [idxI_out hx] at I1
  clear hx hc h
  generalize idxI names y = b at *
  go_enter Tryz.func42, Tryz.ntmps42
  go_wp2_with (first
   | (have _t := tok1; go_at_call 92; refine I1.out.mono ?_; rintro e w1 ⟨rfl, rfl⟩; clear tok1 _t)
   | (go_at_call 92; refine I2.out.mono ?_; rintro e w2 ⟨rfl, rfl⟩))
  go_ret
  exact ⟨ret_bool HP.out.symm, rfl⟩
theorem or_val32 (a b : Nat) (ha : a < 16777216) (hb : b < 16777216) : bits .or .u32 (a : Int) (b : Int) = ((a ||| b : Nat) : Int) := or_val a b ha hb
set_option maxHeartbeats 1000000 in
theorem Down_any (set : Nat) (hs : set < 4294967296) (h : OrdAt w g names bl) : Calls Tryz.prog 75 #[.pointer (some ⟨g, 0, none⟩), .int .u32 set] w fun e w' => e = .returned (.int .u32 (downTo bl set names.length : Nat)) ∧ w = w' := by
 obtain ⟨b, h1, _, hc⟩ := h.sets
 have hf := h.few
 have HC := Lib.hid hc
 have HLO := Lib.hid h.lo
 clear hc h
 go_enter Tryz.func75, Tryz.ntmps75
 go_wp2
 go_loop [5, 13] (fun v i => ∃ k : Nat, k ≤ names.length ∧ v = .int .u32 (downTo bl set k : Nat) ∧ i = .int .i64 k) (fun _ i => names.length - (intOf i).toNat)
 case atStart => exact ⟨0, Nat.zero_le _, rfl, rfl⟩
 case round =>
  obtain ⟨k, hk, rfl, rfl⟩ := hrel
  by_cases hlt : k < names.length
  ·have hx := HC.out k hlt
   have hlo := downTo_lo HLO.out set k
   have HH := Lib.hid (has_any set k w hs (by omega))
   have hsn : downTo bl set (k + 1) = if set.testBit k = true then downTo bl set k ||| bl.getD k 0 else downTo bl set k := rfl
   have hv := or_val _ _ hlo (HLO.out k)
   by_cases hb : set.testBit k = true
   ·rw [if_pos hb] at hsn
    rw [hb] at HH
    have HS := Lib.hid hsn
    clear hsn hb
    generalize downTo bl set k ||| bl.getD k 0 = z at *
    generalize downTo bl set k = y at *
    generalize bl.getD k 0 = x at *
    go_wp2_with (go_at_call 111; refine HH.out.mono ?_; rintro e w1 ⟨rfl, rfl⟩)
    go_round
    case rel => exact ⟨k + 1, by omega, by rw [HS.out], by go_num⟩
    case measure => simp [intOf]; omega
   ·rw [if_neg hb] at hsn
    have hb' : set.testBit k = false := by simpa using hb
    rw [hb'] at HH
    have HS := Lib.hid hsn
    clear hsn hb hb' hv
    generalize downTo bl set k = y at *
    generalize bl.getD k 0 = x at *
    go_wp2_with (go_at_call 111; refine HH.out.mono ?_; rintro e w1 ⟨rfl, rfl⟩)
    go_round
    case rel => exact ⟨k + 1, by omega, by rw [HS.out], by go_num⟩
    case measure => simp [intOf]; omega
  ·have HK : Hid (k = names.length) := by show _ = _; omega
   go_wp2
   go_ret
   exact ⟨ret_int (by rw [HK.out]), rfl⟩
set_option maxHeartbeats 1000000 in
theorem Up_any (set : Nat) (hs : set < 4294967296) (h : OrdAt w g names bl) : Calls Tryz.prog 127 #[.pointer (some ⟨g, 0, none⟩), .int .u32 set] w fun e w' => e = .returned (.int .u32 (upperTo bl set names.length : Nat)) ∧ w = w' := by
 obtain ⟨b, h1, _, hc⟩ := h.sets
 have hf := h.few
 have HC := Lib.hid hc
 have HLO := Lib.hid h.lo
 clear hc h
 go_enter Tryz.func127, Tryz.ntmps127
 go_wp2
 go_loop [5, 13] (fun v i => ∃ k : Nat, k ≤ names.length ∧ v = .int .u32 (upperTo bl set k : Nat) ∧ i = .int .i64 k) (fun _ i => names.length - (intOf i).toNat)
 case atStart => exact ⟨0, Nat.zero_le _, rfl, rfl⟩
 case round =>
  obtain ⟨k, hk, rfl, rfl⟩ := hrel
  by_cases hlt : k < names.length
  ·have hx := HC.out k hlt
   have hlo := upperTo_lo bl set k (by omega)
   have hand := u32_and_nat (bl.getD k 0) set (lo_32 HLO.out k) hs
   have hsn : upperTo bl set (k + 1) = if bl.getD k 0 &&& set = 0 then upperTo bl set k else upperTo bl set k ||| bitN k := rfl
   have hv := or_val _ _ hlo (pow_lo (show k < 24 by omega))
   by_cases hb : bl.getD k 0 &&& set = 0
   ·rw [if_pos hb] at hsn
    rw [hb] at hand
    have HS := Lib.hid hsn
    clear hsn hb hv
    generalize upperTo bl set k = y at *
    generalize bl.getD k 0 = x at *
    go_wp2
    go_round
    case rel => exact ⟨k + 1, by omega, by rw [HS.out], by go_num⟩
    case measure => simp [intOf]; omega
   ·rw [if_neg hb] at hsn
    have hne : (((bl.getD k 0 &&& set : Nat) : Int) != 0) = true := by rw [bne_iff_ne]; intro e; exact hb (by omega)
    have HS := Lib.hid hsn
    clear hsn hb
    generalize upperTo bl set k ||| bitN k = z at *
    generalize upperTo bl set k = y at *
    generalize bl.getD k 0 &&& set = q at *
    generalize bl.getD k 0 = x at *
    go_wp2_with (go_at_call 165; refine (bit_any k _ (by omega)).mono ?_; rintro e w1 ⟨rfl, rfl⟩)
    go_round
    case rel => exact ⟨k + 1, by omega, by rw [HS.out], by go_num⟩
    case measure => simp [intOf]; omega
  ·have HK : Hid (k = names.length) := by show _ = _; omega
   go_wp2
   go_ret
   exact ⟨ret_int (by rw [HK.out]), rfl⟩
end
theorem Tryz.infoStrings : (Tryz.prog.info? 29).map (fun i => (i.zero, i.size, i.bytes)) = some (some (.slice none 0 0), 1, 24) := by kernel_rfl
theorem own_apart2 {w : World} {b1 b2 e1 e2 s1 s2 n1 n2 : Nat} {v1 v2 : Value} {xs1 xs2 : List Value} (h : w.ownsRow b1 e1 s1 v1 n1 xs1) (h' : w.ownsRow b2 e2 s2 v2 n2 xs2) (hne : e1 ≠ e2) : v1.ownBlock = none ∨ v1.ownBlock ≠ v2.ownBlock := by
 rcases h.2 with ⟨hv, _⟩ | ⟨g, cap, cur, hv, _, hg, _⟩
 ·left; rw [hv]; rfl
 ·right
  rcases h'.2 with ⟨hv', _⟩ | ⟨g', cap', cur', hv', _, hg', _⟩
  ·rw [hv, hv']; simp [Value.ownBlock]
  ·rw [hv, hv']
   intro e
   have e2 : g = g' := by simpa [Value.ownBlock] using e
   subst e2
   rw [hg] at hg'
   simp only [Option.some.injEq, Obj.cells.injEq] at hg'
   exact hne hg'.2.1
def OwnLL (w : World) (base : Nat) (v : Value) (L : List (List Tx)) : Prop := ∃ cs : List Value, cs.length = L.length ∧ w.ownsRow base 29 1 v L.length cs ∧ ∀ j (hj : j < L.length), ∃ u, cs[j]? = some u ∧ OwnL w base u L[j]
theorem ownLL_nil (w : World) (base : Nat) : OwnLL w base (.slice none 0 0) [] := ⟨[], rfl, World.ownsRow_nil _ _ _ _, fun j hj => by simp at hj⟩
theorem OwnLL.below {w w' : World} {base : Nat} {v : Value} {L : List (List Tx)} (h : OwnLL w base v L) (hb : Below w.heap.size w w') (hB : base ≤ w.heap.size) : OwnLL w' base v L :=
 let ⟨cs, hl, ho, hc⟩ := h
 ⟨cs, hl, own_below ho hb hB, fun j hj => let ⟨u, e, hu⟩ := hc j hj; ⟨u, e, own_below hu hb hB⟩⟩
theorem OwnLL.snoc {w w' : World} {base : Nat} {v v' u : Value} {L : List (List Tx)} {l : List Tx} {cs : List Value} (hl : cs.length = L.length) (ho : w.ownsRow base 29 1 v L.length cs) (hc : ∀ j (hj : j < L.length), ∃ u, cs[j]? = some u ∧ OwnL w base u L[j]) (hu : OwnL w base u l)
  (hown : w'.ownsRow base 29 1 v' (L.length + 1) (cs ++ [u])) (hg : w.grownBy w' v.ownBlock) : OwnLL w' base v' (L ++ [l]) := by
 have keep : ∀ {x : Value} {m : List Tx}, OwnL w base x m → OwnL w' base x m := fun {x m} h => World.ownsRow.kept h hg (own_apart2 h ho (by decide))
 refine ⟨cs ++ [u], by simp [hl], by rw [List.length_append]; exact hown, fun j hj => ?_⟩
 by_cases e : j < L.length
 ·obtain ⟨x, h1, h2⟩ := hc j e
  refine ⟨x, ?_, ?_⟩
  ·rw [List.getElem?_append_left (by omega)]; exact h1
  ·rw [List.getElem_append_left e]; exact keep h2
 ·have ej : j = L.length := by simp at hj; omega
  subst ej
  refine ⟨u, ?_, ?_⟩
  ·rw [List.getElem?_append_right (by omega)]; simp [hl]
  ·simp; exact keep hu
theorem ownLL_slice {w : World} {base : Nat} {v : Value} {L : List (List Tx)} (h : OwnLL w base v L) : ∃ A c, v = .slice A L.length c := let ⟨_, _, ho, _⟩ := h; own_slice ho
end Go.Proofs.YtgffbgmieppckaaGreatDoor
namespace Go.Proofs.YtgffbgmieppckaaGreatDoor
set_option maxRecDepth 100000
open Go.ChangeShapes Go.WideShapes Go.ChangeAt Go.RowKit Go.Maps Go.WideMaps Go.ChangeMaps
def hcell (h : Tx × Nat) : List Value := [.string (bs h.1), .int .u32 (h.2 : Nat)]
def hcells (l : List (Tx × Nat)) : List Value := l.flatMap hcell
theorem hcells_snoc (l : List (Tx × Nat)) (p : Tx × Nat) : hcells (l ++ [p]) = hcells l ++ hcell p := by simp [hcells]
theorem hcells_at : ∀ (l : List (Tx × Nat)) (j : Nat) (h : j < l.length), (hcells l)[j * 2]? = some (.string (bs l[j].1)) ∧ (hcells l)[j * 2 + 1]? = some (.int .u32 (l[j].2 : Nat))
 | p :: r, 0, _ => ⟨rfl, rfl⟩
 | p :: r, j + 1, h => by
  have ih := hcells_at r j (by simpa using h)
  have e : hcells (p :: r) = .string (bs p.1) :: .int .u32 (p.2 : Nat) :: hcells r := rfl
  rw [e, show (j + 1) * 2 = j * 2 + 1 + 1 by omega]
  simpa using ih
def OwnH (w : World) (base : Nat) (v : Value) (l : List (Tx × Nat)) : Prop := w.ownsRow base 265 2 v l.length (hcells l)
def HAt (w : World) (A : Option Addr) (c : Nat) (l : List (Tx × Nat)) : Prop := l.length ≤ c ∧ ∀ j (hj : j < l.length), ∃ g, A = some ⟨g, 0, none⟩ ∧ g < w.heap.size ∧ w.cell? ⟨g, j * 2, none⟩ = some (.string (bs l[j].1)) ∧ w.cell? ⟨g, j * 2 + 1, none⟩ = some (.int .u32 (l[j].2 : Nat))
theorem HAt.below {w w' : World} {A : Option Addr} {c : Nat} {l : List (Tx × Nat)} (h : HAt w A c l) (hb : Below w.heap.size w w') : HAt w' A c l :=
 ⟨h.1, fun j hj => let ⟨g, e, hl, hc, hd⟩ := h.2 j hj; ⟨g, e, Nat.lt_of_lt_of_le hl hb.size, (hb.cell (p := ⟨g, j * 2, none⟩) hl).trans hc, (hb.cell (p := ⟨g, j * 2 + 1, none⟩) hl).trans hd⟩⟩
theorem hAt_of {w : World} {base c : Nat} {A : Option Addr} {l : List (Tx × Nat)} (h : OwnH w base (.slice A l.length c) l) : HAt w A c l :=
 ⟨own_cap h, fun j hj => by
  obtain ⟨g, cap', e, _, hl, _, hc⟩ := own_form h (by omega)
  have eA : A = some ⟨g, 0, none⟩ := by injection e
  exact ⟨g, eA, hl, hc _ _ (hcells_at l j hj).1, hc _ _ (hcells_at l j hj).2⟩⟩
theorem Tryz.infoHolder : (Tryz.prog.info? 265).map (fun i => (i.zero, i.size, i.bytes)) = some (some (.agg #[.string ⟨#[]⟩, .int .u32 0]), 2, 24) := by kernel_rfl
def dsCells (l : List (Int × Nat)) : List Value := l.flatMap fun p => [.int .i64 p.1, .int .u32 (p.2 : Nat)]
theorem dsCells_length (l : List (Int × Nat)) : (dsCells l).length = l.length * 2 := by
 induction l with
 | nil => rfl
 | cons a l ih => simp only [dsCells, List.flatMap_cons, List.length_append] at ih ⊢; rw [ih]; simp; omega
theorem dsCells_snoc (l : List (Int × Nat)) (p : Int × Nat) : dsCells (l ++ [p]) = dsCells l ++ [.int .i64 p.1, .int .u32 (p.2 : Nat)] := by simp [dsCells]
theorem dsCells_at : ∀ (l : List (Int × Nat)) (j : Nat) (h : j < l.length), (dsCells l)[j * 2]? = some (.int .i64 l[j].1) ∧ (dsCells l)[j * 2 + 1]? = some (.int .u32 (l[j].2 : Nat))
 | p :: r, 0, _ => ⟨rfl, rfl⟩
 | p :: r, j + 1, h => by
  have ih := dsCells_at r j (by simpa using h)
  have e : dsCells (p :: r) = .int .i64 p.1 :: .int .u32 (p.2 : Nat) :: dsCells r := rfl
  rw [e, show (j + 1) * 2 = j * 2 + 1 + 1 by omega]
  simpa using ih
def OwnDS (w : World) (base : Nat) (v : Value) (l : List (Int × Nat)) : Prop := w.ownsRow base 171 2 v l.length (dsCells l)
theorem dsAt_of {w : World} {base c : Nat} {A : Option Addr} {l : List (Int × Nat)} (h : OwnDS w base (.slice A l.length c) l) (hr : ∀ p ∈ l, p.2 < 4294967296) : StAt w A c l :=
 ⟨own_cap h, fun j hj => by
  obtain ⟨g, cap', e, _, hl, _, hc⟩ := own_form h (by omega)
  have eA : A = some ⟨g, 0, none⟩ := by injection e
  exact ⟨g, eA, hl, hc _ _ (dsCells_at l j hj).1, hc _ _ (dsCells_at l j hj).2, hr _ (List.getElem_mem hj)⟩⟩
theorem Tryz.infoDSet : (Tryz.prog.info? 171).map (fun i => (i.zero, i.size, i.bytes)) = some (some (.agg #[.int .i64 0, .int .u32 0]), 2, 16) := by kernel_rfl
def loanR : Value → Option (DataW Unit × List MemPlace)
 | .agg cs => match cs.toList with
  | [.int .i64 a, .int .i64 b] => some (.agg [.lit (.int .i64 a), .lit (.int .i64 b)], [])
  | _ => none
 | _ => none
theorem loanR_mk (a b : Int) : loanR (.agg #[.int .i64 a, .int .i64 b]) = some (.agg [.lit (.int .i64 a), .lit (.int .i64 b)], []) := rfl
def loanD (l : List (Tx × Int × Int)) : DataW Unit := l.foldl (fun D h => D.put (.string h.1) (.agg [.lit (.int .i64 h.2.1), .lit (.int .i64 h.2.2)])) (.map [])
theorem loanD_snoc (l : List (Tx × Int × Int)) (h : Tx × Int × Int) : loanD (l ++ [h]) = (loanD l).put (.string h.1) (.agg [.lit (.int .i64 h.2.1), .lit (.int .i64 h.2.2)]) := by simp [loanD]
theorem loanD_map (l : List (Tx × Int × Int)) : IsMap (loanD l) := by
 suffices H : ∀ (l : List (Tx × Int × Int)) (D : DataW Unit), IsMap D → IsMap (l.foldl (fun D h => D.put (.string h.1) (.agg [.lit (.int .i64 h.2.1), .lit (.int .i64 h.2.2)])) D) from H l _ isMap_empty
 intro l
 induction l with
 | nil => intro D h; exact h
 | cons a r ih => intro D h; exact ih _ (h.put _ _)
theorem loanD_has (l : List (Tx × Int × Int)) (t : Tx) : Maps.has (loanD l) (.string t) = decide (t ∈ l.map (·.1)) := by
 suffices H : ∀ (l : List (Tx × Int × Int)) (D : DataW Unit), IsMap D → Maps.has (l.foldl (fun D h => D.put (.string h.1) (.agg [.lit (.int .i64 h.2.1), .lit (.int .i64 h.2.2)])) D) (.string t) = (Maps.has D (.string t) || decide (t ∈ l.map (·.1))) by
  have := H l _ isMap_empty
  unfold loanD
  rw [this]
  rfl
 intro l
 induction l with
 | nil => intro D _; simp
 | cons a r ih =>
  intro D h
  rw [List.foldl_cons, ih _ (h.put _ _)]
  by_cases e : t = a.1
  ·have e1 : Maps.has (D.put (.string a.1) (.agg [.lit (.int .i64 a.2.1), .lit (.int .i64 a.2.2)])) (.string t) = true := by rw [e]; exact has_put_same h (by exact trivial) _
   have e2 : decide (t ∈ (a :: r).map (·.1)) = true := decide_eq_true (by rw [List.map_cons, e]; exact List.mem_cons_self)
   rw [e1, e2, Bool.true_or, Bool.or_true]
  ·have e1 : Maps.has (D.put (.string a.1) (.agg [.lit (.int .i64 a.2.1), .lit (.int .i64 a.2.2)])) (.string t) = Maps.has D (.string t) := has_put_other (by intro e2; injection e2 with e3; exact e e3) _
   have e2 : decide (t ∈ (a :: r).map (·.1)) = decide (t ∈ r.map (·.1)) := by
    rw [List.map_cons, decide_eq_decide, List.mem_cons]
    exact ⟨fun h => h.resolve_left e, .inr⟩
   rw [e1, e2]
theorem rt_row_ne {w : World} {base e s n b : Nat} {v : Value} {xs : List Value} {cs : Array Value} {t : TypeId} {fz : Nat × Nat} (h : w.ownsRow base e s v n xs) (r : w.heap[b]? = some (.cells cs t fz)) (hne : t ≠ e) : v.ownBlock ≠ some b := by
 rcases h.2 with ⟨hv, _⟩ | ⟨g, cap, cur, hv, _, hg, _⟩
 ·rw [hv]; simp [Value.ownBlock]
 ·rw [hv]
  intro e2
  have e3 : g = b := by simpa [Value.ownBlock] using e2
  subst e3
  rw [hg] at r
  simp only [Option.some.injEq, Obj.cells.injEq] at r
  exact hne r.2.1.symm
theorem rt_rows {w : World} {b1 b2 e1 e2 s1 s2 n1 n2 : Nat} {v1 v2 : Value} {xs1 xs2 : List Value} (h : w.ownsRow b1 e1 s1 v1 n1 xs1) (h' : w.ownsRow b2 e2 s2 v2 n2 xs2) (hne : e1 ≠ e2) : v1.ownBlock = none ∨ v1.ownBlock ≠ v2.ownBlock := by
 rcases h'.2 with ⟨hv', _⟩ | ⟨g', cap', cur', hv', _, hg', _⟩
 ·rcases h.2 with ⟨hv, _⟩ | ⟨g, cap, cur, hv, _, hg, _⟩
  ·left; rw [hv]; rfl
  ·right; rw [hv, hv']; simp [Value.ownBlock]
 ·right
  rw [hv']
  exact rt_row_ne h hg' (fun e => hne e.symm)
theorem rt_row_map {w : World} {base e s n b : Nat} {v : Value} {xs : List Value} {es : Array MapEntry} {cl : Nat} (h : w.ownsRow base e s v n xs) (r : w.heap[b]? = some (.map es cl)) : v.ownBlock ≠ some b := by
 rcases h.2 with ⟨hv, _⟩ | ⟨g, cap, cur, hv, _, hg, _⟩
 ·rw [hv]; simp [Value.ownBlock]
 ·rw [hv]
  intro e2
  have e3 : g = b := by simpa [Value.ownBlock] using e2
  subst e3
  rw [hg] at r
  cases r
theorem OwnLL.kept {w w' : World} {base : Nat} {v : Value} {L : List (List Tx)} {row : Option Nat} (h : OwnLL w base v L) (hg : w.grownBy w' row)
  (h1 : ∀ (u : Value) (n : Nat) (xs : List Value), w.ownsRow base 29 1 u n xs → u.ownBlock = none ∨ u.ownBlock ≠ row) (h2 : ∀ (u : Value) (n : Nat) (xs : List Value), w.ownsRow base 9 1 u n xs → u.ownBlock = none ∨ u.ownBlock ≠ row) : OwnLL w' base v L :=
 let ⟨cs, hl, ho, hc⟩ := h
 ⟨cs, hl, World.ownsRow.kept ho hg (h1 _ _ _ ho), fun j hj => let ⟨u, e, hu⟩ := hc j hj; ⟨u, e, World.ownsRow.kept hu hg (h2 _ _ _ hu)⟩⟩
theorem rbox (w : World) (o : Obj) : Below w.heap.size w (w.alloc o) := (Below.refl _ _).alloc (Nat.le_refl _) _
structure RtA (w0 W : World) (b o : Nat) (r : Rt) (vU vP vS vD vA : Value) (m : Nat) : Prop where
 row : W.heap[b]? = some (.cells #[.pointer (some ⟨o, 0, none⟩), vU, vP, vS, vD, vA, .map (some m)] 148 (0, 0))
 lo : w0.heap.size ≤ b
 oU : OwnH W w0.heap.size vU r.users
 oP : OwnH W w0.heap.size vP r.perms
 apU : ∀ g, vU.ownBlock = some g → vP.ownBlock = some g → False
 oS : OwnDS W w0.heap.size vS r.stat
 oD : OwnDS W w0.heap.size vD r.dyn
 apS : ∀ g, vS.ownBlock = some g → vD.ownBlock = some g → False
 oA : OwnLL W w0.heap.size vA r.apart
 mp : W.ownsMap Tryz.prog 9 loanR m r.loans.length (loanD r.loans)
 mlo : w0.heap.size ≤ m
 be : Below w0.heap.size w0 W
theorem ap_or {o1 o2 : Option Nat} (h : ∀ g, o1 = some g → o2 = some g → False) : o1 = none ∨ o1 ≠ o2 := by
 cases o1 with
 | none => exact .inl rfl
 | some g => exact .inr fun e => h g rfl e.symm
section
variable {w0 W W1 : World} {b o m : Nat} {r : Rt} {vU vP vS vD vA : Value}
theorem RtA.lt (R : RtA w0 W b o r vU vP vS vD vA m) : b < W.heap.size := (Array.getElem?_eq_some_iff.1 R.row).1
theorem RtA.below (R : RtA w0 W b o r vU vP vS vD vA m) (hb : Below W.heap.size W W1) : RtA w0 W1 b o r vU vP vS vD vA m where
 row := (hb.block _ R.lt).trans R.row
 lo := R.lo
 oU := own_below R.oU hb R.be.size
 oP := own_below R.oP hb R.be.size
 apU := R.apU
 oS := own_below R.oS hb R.be.size
 oD := own_below R.oD hb R.be.size
 apS := R.apS
 oA := R.oA.below hb R.be.size
 mp := by
  have hl := R.mp.lt
  obtain ⟨es, clock, h1, q⟩ := R.mp
  exact ⟨es, clock, (hb.block _ hl).trans h1, q⟩
 mlo := R.mlo
 be := below_then R.be hb R.be.size
theorem RtA.q0 (R : RtA w0 W b o r vU vP vS vD vA m) : W.cell? ⟨b, 0, none⟩ = some (.pointer (some ⟨o, 0, none⟩)) := by rw [cell_of_row _ _ _ _ _ _ R.row]; rfl
theorem RtA.q1 (R : RtA w0 W b o r vU vP vS vD vA m) : W.cell? ⟨b, 1, none⟩ = some vU := by rw [cell_of_row _ _ _ _ _ _ R.row]; rfl
theorem RtA.q2 (R : RtA w0 W b o r vU vP vS vD vA m) : W.cell? ⟨b, 2, none⟩ = some vP := by rw [cell_of_row _ _ _ _ _ _ R.row]; rfl
theorem RtA.q3 (R : RtA w0 W b o r vU vP vS vD vA m) : W.cell? ⟨b, 3, none⟩ = some vS := by rw [cell_of_row _ _ _ _ _ _ R.row]; rfl
theorem RtA.q4 (R : RtA w0 W b o r vU vP vS vD vA m) : W.cell? ⟨b, 4, none⟩ = some vD := by rw [cell_of_row _ _ _ _ _ _ R.row]; rfl
theorem RtA.q5 (R : RtA w0 W b o r vU vP vS vD vA m) : W.cell? ⟨b, 5, none⟩ = some vA := by rw [cell_of_row _ _ _ _ _ _ R.row]; rfl
theorem RtA.q6 (R : RtA w0 W b o r vU vP vS vD vA m) : W.cell? ⟨b, 6, none⟩ = some (.map (some m)) := by rw [cell_of_row _ _ _ _ _ _ R.row]; rfl
theorem RtA.fz (R : RtA w0 W b o r vU vP vS vD vA m) (j : Nat) : W.frozen? ⟨b, j, none⟩ = false := by simp [World.frozen?, R.row]
end
end Go.Proofs.YtgffbgmieppckaaGreatDoor
