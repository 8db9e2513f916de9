/-
  Dues of raw ones: the first twelve of them, of few times, few documents.
-/
import Derived.Test.YtkalfhhdljndfaaCk9
import Derived.Test.YtkalfhhdljndfaaArgD
import Derived.Test.YtkalfhhdljndfaaKeep
import Derived.WalkSpells
import Derived.Laws.DeepStrings4
namespace Go.Proofs.Ytkalfhhdljndfaa
set_option maxRecDepth 100000
open Go.ChangeShapes Go.WideShapes Go.ChangeAt Go.RowKit

def dueC (raw : Bool) (x : DueT) : DueT := if raw = true then (x.1, x.2.1.take 4, x.2.2) else (within x.1 4, x.2.1.take 4, within x.2.2 4)
def duesL (raw : Bool) (l : List DueT) : List DueT := (l.take 12).map (dueC raw)
def DuesTo (l : List DueT) (w : World) (e : Ending) (w' : World) : Prop := Below w.heap.size w w' ∧ ∃ v, e = .returned v ∧ w'.ownsRow w.heap.size 27 3 v l.length (dcells l)
theorem dcells_app (l m : List DueT) : dcells (l ++ m) = dcells l ++ dcells m := by simp [dcells]
set_option maxHeartbeats 8000000 in
theorem Dues_any (v : Value) (l : List DueT) (raw : Bool) (w : World) (h : DuesAt w v l) :
    Calls Try.prog 4 #[v, .bool raw] w (DuesTo (duesL raw l) w) := by
  obtain ⟨A, c, rfl, hlc, hcm, hcell⟩ := h
  obtain ⟨i0, hi, hz0, hz1, hz2⟩ := info_parts Try.infoDue
  have HCL := Lib.hid hcell
  clear hcell
  go_enter Try.func4, Try.ntmps4
  go_upto_region 3 with fail
  go_loopw [5, 6] (fun o i wr => ∃ k : Nat, k ≤ 12 ∧ k ≤ l.length ∧ i = .int .i64 k ∧ Hid (wr.ownsRow w.heap.size 27 3 o k (dcells ((l.take k).map (dueC raw)))) ∧ Hid (Below w.heap.size w wr)) (fun _ i _ => 12 - (intOf i).toNat)
  case atStart => exact ⟨0, by omega, Nat.zero_le _, rfl, World.ownsRow_nil _ _ _ _, Below.refl _ _⟩
  case round =>
    obtain ⟨k, hk, hkl, rfl, HO, HB⟩ := hrel
    have hbz := HB.out.size
    by_cases hlt : k < 12 ∧ k < l.length
    case neg =>
      have HD : Hid (wr.ownsRow w.heap.size 27 3 u5 (duesL raw l).length (dcells (duesL raw l))) := by
        have e : (l.take k).map (dueC raw) = duesL raw l := by
          unfold duesL
          rcases (by omega : k = 12 ∨ k = l.length) with rfl | rfl
          · rfl
          · rw [List.take_length, List.take_of_length_le (by omega)]
        have e2 : (duesL raw l).length = k := by rw [← e, List.length_map, List.length_take]; omega
        have h0 := HO.out
        rw [e] at h0
        show World.ownsRow _ _ _ _ _ _ _
        rw [e2]; exact h0
      clear HO
      by_cases hll : k < l.length
      · have hll' : (k : Int) < l.length := by omega
        have h12 : ¬ (k : Int) < 12 := by omega
        go_wp2
        go_ret
        exact ⟨HB.out, _, rfl, HD.out⟩
      · have hll' : ¬ (k : Int) < l.length := by omega
        go_wp2
        go_ret
        exact ⟨HB.out, _, rfl, HD.out⟩
    obtain ⟨hk12, hkll⟩ := hlt
    have hll' : (k : Int) < l.length := by omega
    have h12 : (k : Int) < 12 := by omega
    obtain ⟨b, off, rfl, hbl, hd0, hd1, hd2, hw0, hw2, hs1⟩ := HCL.out k hkll
    have y0 := (HB.out.cell (p := ⟨b, off + k * 3, none⟩) hbl).trans hd0
    have y1 := (HB.out.cell (p := ⟨b, off + k * 3 + 1, none⟩) hbl).trans hd1
    have y2 := (HB.out.cell (p := ⟨b, off + k * 3 + 2, none⟩) hbl).trans hd2
    have HSN : Hid ((l.take (k + 1)).map (dueC raw) = (l.take k).map (dueC raw) ++ [dueC raw l[k]]) := by
      show _ = _
      rw [List.take_succ_eq_append_getElem hkll, List.map_append]; rfl
    generalize l[k] = x at *
    obtain ⟨xt, xd, xi⟩ := x
    simp only at y0 y1 y2 hw0 hw2 hs1
    clear hd0 hd1 hd2
    have TX := Lib.hid (fun W => Text_any (bs xd) 4 W (by show xd.toArray.size ≤ _; simpa using hs1) (by omega))
    have HT : Hid ((bs xd).data.toList.take 4 = xd.take 4) := by show _ = _; rw [list_bs]
    rw [HT.out] at TX
    have WT := Lib.hid (fun W => Within_any xt 4 W hw0 (by omega) (by omega))
    have WI := Lib.hid (fun W => Within_any xi 4 W hw2 (by omega) (by omega))
    go_upto_if 27 with (go_at_call 8; refine (TX.out _).mono ?_; rintro e w1 ⟨rfl, rfl⟩)
    clear y0 y1 y2 TX HT
    obtain ⟨z, hz⟩ : ∃ z : DueT, z = dueC raw (xt, xd, xi) := ⟨_, rfl⟩
    have HZ := Lib.hid hz
    clear hz
    go_cut [35] (fun _ wx => Hid (wx.heap[wr.heap.size]? = some (.cells #[.int .i64 z.1, .string (bs z.2.1), .int .i64 z.2.2] 27 (0, 0))) ∧ Hid (Below wr.heap.size wr wx))
    case first =>
      cases raw
      · have h1 : z = (within xt 4, xd.take 4, within xi 4) := HZ.out
        subst h1
        generalize xd.take 4 = xc at *
        generalize within xt 4 = tt at *
        generalize within xi 4 = ii at *
        go_upto_region 8 with fail
        have RT := heap_alloc_new wr (.cells #[.int .i64 xt, .string (bs xc), .int .i64 xi] 27)
        have hbx := box_b wr (.cells #[.int .i64 xt, .string (bs xc), .int .i64 xi] 27)
        generalize wr.alloc (.cells #[.int .i64 xt, .string (bs xc), .int .i64 xi] 27) = w1 at *
        have x0 := cell_of_row _ _ 0 _ _ _ RT; have x1 := cell_of_row _ _ 1 _ _ _ RT; have x2 := cell_of_row _ _ 2 _ _ _ RT
        have f0 := fzc_of RT 0; have f1 := fzc_of RT 1; have f2 := fzc_of RT 2
        have HRW : Hid (((w1.setCell ⟨wr.heap.size, 0, none⟩ (.int .i64 tt)).setCell ⟨wr.heap.size, 2, none⟩ (.int .i64 ii)).heap[wr.heap.size]? = some (.cells #[.int .i64 tt, .string (bs xc), .int .i64 ii] 27 (0, 0))) := by
          have := heap_set (j := 2) (heap_set (j := 0) RT (.int .i64 tt)) (.int .i64 ii)
          show _ = _
          simpa using this
        have HBW : Hid (Below wr.heap.size wr ((w1.setCell ⟨wr.heap.size, 0, none⟩ (.int .i64 tt)).setCell ⟨wr.heap.size, 2, none⟩ (.int .i64 ii))) := set_below (set_below hbx hbx.size (by omega)) (by simpa [World.setCell] using hbx.size) (by omega)
        go_region_law (first
          | (go_simp; go_at_call_of 9 (Value.int .i64 xt); refine (WT.out _).mono ?_; rintro e w2 ⟨rfl, rfl⟩)
          | (go_simp; go_at_call_of 9 (Value.int .i64 xi); refine (WI.out _).mono ?_; rintro e w2 ⟨rfl, rfl⟩))
        all_goals
          go_wp2_with fail
          go_meet
          exact ⟨HRW.out, below_drew HBW.out⟩
      · have h1 : z = (xt, xd.take 4, xi) := HZ.out
        subst h1
        go_wp2
        go_meet
        exact ⟨heap_alloc_new _ _, box_b _ _⟩
    case rest =>
    obtain ⟨HR, HBx⟩ := hcut
    rename_i K9 hK9
    refine hK9 _ _ ?_
    clear hK9 WT WI
    obtain ⟨wx, rfl⟩ : ∃ X : World, X = wc := ⟨_, rfl⟩
    have x0 := cell_of_row _ _ 0 _ _ _ HR.out; have x1 := cell_of_row _ _ 1 _ _ _ HR.out; have x2 := cell_of_row _ _ 2 _ _ _ HR.out
    have HO2 := Lib.hid (own_below HO.out HBx.out hbz)
    have HB2 := Lib.hid (below_then HB.out HBx.out hbz)
    have hb2 := HB2.out.size
    rw [← HZ.out] at HSN
    clear HR HO HZ
    obtain ⟨Ao, co, rfl⟩ := own_slice HO2.out
    go_wp2_with (at_builtin; go_must (refine wpList_append_own _ rfl (.tmp 36) (.tmp 38) 22 rfl w.heap.size 27 i0 _ 3 32 Try.underlying22 hi hz0 hz1 hz2 rfl (by decide) _ _ _ rfl (World.ownsRow.alloc HO2.out _) ⟨wx.heap.size, 0, none⟩ 1 1 (encD z) rfl rfl (cells_new _ _ _) (dcell_one _ _ _) (by unfold maxLen; omega) (by omega) (by simp; omega) ?_); intro v' w6 hown' hg' _)
    have hg2 := (World.grownBy_alloc wx (.cells (encD z).toArray 27) _).andThen hg' (fun j e => .inr e)
    have HB6 := Lib.hid (HB2.out.grown hg2 hb2 (fun j e => (World.ownsRow.lt HO2.out j e).1))
    have HN : Hid (w6.ownsRow w.heap.size 27 3 v' (k + 1) (dcells ((l.take (k + 1)).map (dueC raw)))) := by
      show World.ownsRow _ _ _ _ _ _ _
      rw [HSN.out, dcells_app]
      have e1 : dcells [z] = encD z := by simp [dcells]
      rw [e1]
      exact hown'
    go_roundw
    case rel => exact ⟨k + 1, by omega, by omega, by go_num, HN, HB6⟩
    case measure => simp [intOf]; omega
end Go.Proofs.Ytkalfhhdljndfaa
