/-
  An order's Below: the names that a name is above, in new memory.
-/
import Derived.Test.YteplbbikjcjheaaOrd4
namespace Go.Proofs.Yteplbbikjcjheaa
set_option maxRecDepth 100000
open Go.ChangeShapes Go.WideShapes Go.ChangeAt Go.RowKit

def belowL (names : List Tx) (bl : List Nat) (x : Tx) : List Tx := if x ∈ names then belowTo names bl (idx names x) names.length else []
def BelowTo (names : List Tx) (bl : List Nat) (x : Tx) (w : World) (e : Ending) (w' : World) : Prop := ∃ v, e = .returned v ∧ OwnL w' w.heap.size v (belowL names bl x) ∧ Below w.heap.size w w'
theorem belowTo_mk {names : List Tx} {bl : List Nat} {x : Tx} {w w' : World} {v : Value} {l : List Tx} (hl : l = belowL names bl x) (h : OwnL w' w.heap.size v l) (hb : Below w.heap.size w w') : BelowTo names bl x w (.returned v) w' := by
  subst hl; exact ⟨v, rfl, h, hb⟩
set_option maxHeartbeats 2000000 in
theorem Below_any (g : Nat) (names : List Tx) (bl : List Nat) (w : World) (x : Tx) (h : OrdAt w g names bl) :
    Calls Try.prog 22 #[.pointer (some ⟨g, 0, none⟩), .string (bs x)] w (BelowTo names bl x w) := by
  have i1 := OIndex_any g names bl w x h
  by_cases hx : x ∈ names
  · obtain ⟨i0, hi, hz0, hz1, hz2⟩ := info_parts Try.infoString
    rw [idxI_in hx] at i1
    have I1 := Lib.hid i1
    have ha := idx_lt hx
    have HBL : Hid (belowL names bl x = belowTo names bl (idx names x) names.length) := by show _ = _; unfold belowL; rw [if_pos hx]
    have HO := Lib.hid h
    have hf := h.few
    obtain ⟨A, c, h0, hL⟩ := h.list
    obtain ⟨b, h1, hbl, hc⟩ := h.sets
    have hgl := h.lt
    have HL := Lib.hid hL
    have HC := Lib.hid hc
    have HLO := Lib.hid h.lo
    have hcc := hL.1
    clear h hx i1 hL hc
    generalize idx names x = a at *
    have hai : (a : Int) < names.length := by omega
    have ha0 : (0 : Int) ≤ a := by omega
    have hneg : decide ((a : Int) < 0) = false := by simp
    go_enter Try.func22, Try.ntmps22
    go_wp2_with (go_at_call 19; refine I1.out.mono ?_; rintro e w1 ⟨rfl, rfl⟩)
    go_loopw [6, 19] (fun v i wr => ∃ k : Nat, k ≤ names.length ∧ i = .int .i64 k ∧ Hid (OwnL wr w.heap.size v (belowTo names bl a k)) ∧ Hid (Below w.heap.size w wr)) (fun _ i _ => names.length - (intOf i).toNat)
    case atStart => exact ⟨0, Nat.zero_le _, rfl, World.ownsRow_nil _ _ _ _, Below.refl _ _⟩
    case round =>
      obtain ⟨k, hk, rfl, HW, HB⟩ := hrel
      have hbz := HB.out.size
      by_cases hlt : k < names.length
      · obtain ⟨gN, rfl, hgN, hxk⟩ := HL.out.2 k hlt
        have hx1 := (HB.out.cell (p := ⟨gN, k, none⟩) hgN).trans hxk
        have hx2 := (HB.out.cell (p := ⟨g, 1, none⟩) hgl).trans h1
        have hx3 := (HB.out.cell (p := ⟨b, a, none⟩) hbl).trans (HC.out a ha)
        have HH := Lib.hid (fun W => has_any (bl.getD a 0) k W (lo_32 HLO.out a) (by omega))
        have hsn : belowTo names bl a (k + 1) = if rel bl a k = true then belowTo names bl a k ++ [names.getD k []] else belowTo names bl a k := rfl
        have hgd : names.getD k [] = names[k] := by simp [List.getD_eq_getElem?_getD, hlt]
        rw [hgd] at hsn
        have hln := belowTo_len names bl a k
        clear hgd hxk
        obtain ⟨A6, c6, rfl⟩ := own_slice HW.out
        by_cases hr : rel bl a k = true
        · rw [if_pos hr] at hsn
          have HHT : Hid (∀ W, Calls Try.prog 47 #[.int .u32 (bl.getD a 0 : Nat), .int .i64 k] W fun e w' => e = .returned (.bool true) ∧ W = w') := fun W => by
            have := HH.out W
            rwa [show (bl.getD a 0).testBit k = true from hr] at this
          have HS := Lib.hid hsn
          clear hsn hr HH
          generalize bl.getD a 0 = s at *
          generalize names[k] = y at *
          go_wp2_with (first
            | (go_at_call 47; refine (HHT.out _).mono ?_; rintro e w3 ⟨rfl, rfl⟩)
            | (at_builtin; go_must (refine wpList_append_own _ rfl (.tmp 33) (.tmp 35) 25 rfl w.heap.size 9 i0 _ 1 16 Try.underlying25 hi hz0 hz1 hz2 rfl (by decide) _ _ _ rfl (HW.out.alloc _) ⟨wr.heap.size, 0, none⟩ 1 1 [.string (bs y)] rfl rfl (cells_new _ _ _) (by intro u hu; simp at hu; subst hu; rfl) (by unfold maxLen; omega) (by omega) (by simp; omega) ?_); intro v' w4 hown' hg' _))
          have hg2 : wr.grownBy w4 (Value.slice A6 (belowTo names bl a k).length c6).ownBlock := (World.grownBy_alloc _ _ _).andThen hg' (fun j e => .inr e)
          have HN : Hid (OwnL w4 w.heap.size v' (belowTo names bl a (k + 1))) := by
            show w4.ownsRow _ _ _ _ _ _
            rw [HS.out, List.length_append]
            show w4.ownsRow _ _ _ _ _ (scells _)
            unfold scells
            rw [List.map_append]
            exact hown'
          have HB4 := Lib.hid (HB.out.grown hg2 hbz (fun j e => (HW.out.lt j e).1))
          clear hown' hg' hg2
          go_roundw
          case rel => exact ⟨k + 1, by omega, by go_num, HN, HB4⟩
          case measure => simp [intOf]; omega
        · rw [if_neg hr] at hsn
          have hr' : rel bl a k = false := by simpa using hr
          have HHF : Hid (∀ W, Calls Try.prog 47 #[.int .u32 (bl.getD a 0 : Nat), .int .i64 k] W fun e w' => e = .returned (.bool false) ∧ W = w') := fun W => by
            have := HH.out W
            rwa [show (bl.getD a 0).testBit k = false from hr'] at this
          have HN : Hid (OwnL wr w.heap.size (.slice A6 (belowTo names bl a k).length c6) (belowTo names bl a (k + 1))) := by show OwnL _ _ _ _; rw [hsn]; exact HW.out
          clear hsn hr hr' HH
          generalize bl.getD a 0 = s at *
          go_wp2_with (go_at_call 47; refine (HHF.out _).mono ?_; rintro e w3 ⟨rfl, rfl⟩)
          go_roundw
          case rel => exact ⟨k + 1, by omega, by go_num, HN, HB⟩
          case measure => simp [intOf]; omega
      · have HK : Hid (belowTo names bl a k = belowL names bl x) := by show _ = _; rw [HBL.out]; congr 1; omega
        go_wp2
        go_ret
        exact belowTo_mk HK.out HW.out HB.out
  · have HBL : Hid (([] : List Tx) = belowL names bl x) := by show _ = _; unfold belowL; rw [if_neg hx]
    rw [idxI_out hx] at i1
    have I1 := Lib.hid i1
    clear i1 h hx
    go_enter Try.func22, Try.ntmps22
    go_wp2_with (go_at_call 19; refine I1.out.mono ?_; rintro e w1 ⟨rfl, rfl⟩)
    go_ret
    exact belowTo_mk HBL.out (World.ownsRow_nil _ _ _ _) (Below.refl _ _)
end Go.Proofs.Yteplbbikjcjheaa
