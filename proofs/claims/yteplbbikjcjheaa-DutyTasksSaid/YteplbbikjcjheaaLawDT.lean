/-
  DutyTasks: the walk.
-/
import Derived.Test.YteplbbikjcjheaaDuty6
import Derived.Test.YteplbbikjcjheaaDuty3
namespace Go.Proofs.Yteplbbikjcjheaa
set_option maxRecDepth 100000
open Go.ChangeShapes Go.WideShapes Go.ChangeAt Go.RowKit

set_option maxHeartbeats 2000000 in
theorem tasks_walk (w : World) (v : Value) (zs : List Int) (hz : IntsAt w v zs) (t : Int) (ht : (Lit.int .i64 t).wf = true) (u : Value) (Z : List (List Int)) (hZ : RowsAt2 w u Z) :
    Calls Try.prog 6 #[v, .int .i64 t, u] w (TrueOn w) := by
  obtain ⟨i0, hi, hz0, hz1, hz2⟩ := info_parts Try.infoStrings
  obtain ⟨A, c, rfl, hzl, hzc⟩ := hZ
  have HZ := Lib.hid hzc
  have HV := Lib.hid hz
  clear hzc hz
  unfold maxLen at hzl
  go_enter Try.func6, Try.ntmps6
  go_wp2
  go_loopw [7, 8] (fun v i wr => ∃ k : Nat, k ≤ 4 ∧ k ≤ Z.length ∧ i = .int .i64 k ∧ Hid (OwnLL wr w.heap.size v (tkLL Z k)) ∧ Hid (Below w.heap.size w wr)) (fun _ i _ => 4 - (intOf i).toNat)
  case atStart => exact ⟨0, Nat.zero_le _, Nat.zero_le _, rfl, ownLL_nil _ _, Below.refl _ _⟩
  case round =>
    obtain ⟨k, hk, hkz, rfl, HO, HB⟩ := hrel
    have hbz := HB.out.size
    have hend : ¬ (k < Z.length ∧ k < 4) → ∃ k', k' ≤ 4 ∧ k = k' := fun _ => ⟨k, hk, rfl⟩
    by_cases h1 : k < Z.length ∧ k < 4
    · obtain ⟨h1, h2⟩ := h1
      have g1 : decide (k < Z.length) = true := by simpa using h1
      have h2i : (k : Int) < 4 := by omega
      obtain ⟨g, off, x, rfl, hgl, hc, hrow⟩ := HZ.out k h1
      have x1 := (HB.out.cell (p := ⟨g, off + k, none⟩) hgl).trans hc
      have hsn : tkLL Z (k + 1) = tkLL Z k ++ [tkL Z[k]] := by unfold tkLL; rw [List.take_succ_eq_append_getElem h1, List.map_append]; rfl
      have hl0 : (tkLL Z k).length = k := by unfold tkLL; rw [List.length_map, List.length_take]; omega
      have TK := Lib.hid (Tk_any x Z[k] wr (hrow.below HB.out))
      have HSN := Lib.hid hsn
      have HL0 := Lib.hid hl0
      clear hsn hl0 hc hrow
      generalize Z[k] = z at *
      generalize tkLL Z k = cur at *
      generalize tkL z = T at *
      obtain ⟨cs, hcl, hO, hcs⟩ := HO.out
      rw [HL0.out] at hO hcl
      have HCS := Lib.hid hcs
      have HCL := Lib.hid hcl
      clear hcs hcl HO hend
      obtain ⟨A6, c6, rfl⟩ := own_slice hO
      go_wp2_with (first
        | (go_at_call 35; refine TK.out.mono ?_; rintro e w1 ⟨u1, rfl, o1, hb1⟩; obtain ⟨E1, e1, rfl⟩ := ownL_slice o1; have ho1 := own_below hO hb1 hbz; have hb1z := hb1.size)
        | (at_builtin; go_must (refine wpList_append_own _ rfl (.tmp 20) (.tmp 26) 65 rfl w.heap.size 25 i0 _ 1 24 Try.underlying65 hi hz0 hz1 hz2 rfl (by decide) _ k cs rfl (ho1.alloc _) ⟨w1.heap.size, 0, none⟩ 1 1 [.slice E1 T.length e1] rfl rfl (cells_new _ _ _) (by intro u hu; simp at hu; subst hu; rfl) (by unfold maxLen; omega) (by omega) (by simp; omega) ?_); intro v' w4 hown' hg' _; obtain ⟨A5, c5, rfl⟩ := own_slice hown'))
      have hbx : Below w1.heap.size w1 (w1.alloc (.cells #[.slice E1 T.length e1] 25)) := (Below.refl _ _).alloc (Nat.le_refl _) _
      have HO4 : Hid (OwnLL w4 w.heap.size (.slice A5 (k + 1) c5) (tkLL Z (k + 1))) := by
        show OwnLL _ _ _ _
        rw [HSN.out]
        refine OwnLL.snoc (w := w1.alloc (.cells #[.slice E1 T.length e1] 25)) (cs := cs) (u := .slice E1 T.length e1) (by rw [HCL.out, HL0.out]) (by rw [HL0.out]; exact ho1.alloc _) (fun j hj => ?_) ?_ (by rw [HL0.out]; exact hown') hg'
        · obtain ⟨y, h1, h2⟩ := HCS.out j hj
          exact ⟨y, h1, own_below (own_below h2 hb1 hbz) hbx (Nat.le_trans hbz hb1z)⟩
        · exact own_below (own_mono2 o1 hbz) hbx (Nat.le_trans hbz hb1z)
      have hb2 := below_then HB.out hb1 hbz
      have HB4 : Hid (Below w.heap.size w w4) := (hb2.alloc hb2.size _).grown hg' (Nat.le_trans hb2.size (by simp)) (fun j e => (ho1.lt j e).1)
      go_roundw
      case rel => exact ⟨k + 1, by omega, by omega, by go_num, HO4, HB4⟩
      case measure => simp [intOf]; omega
    · have key : (decide (k < Z.length) = false) ∨ (decide (k < Z.length) = true ∧ decide ((k : Int) < 4) = false) := by
        by_cases h : k < Z.length
        · right; exact ⟨by simpa using h, by simp; omega⟩
        · left; simpa using h
      have hL1 := tkLL_len Z hk
      have hL2 := tkLL_each (Z := Z) (k := k)
      generalize tkLL Z k = L at *
      obtain ⟨B, d, rfl⟩ := ownLL_slice HO.out
      have LA := Lib.hid (llAt_of HO.out)
      obtain ⟨w0, rfl⟩ : ∃ w0 : World, w0 = wr := ⟨_, rfl⟩
      have NM := Lib.hid (fun W => Name_any 6 t W ht (by omega) (by omega))
      have TV := Lib.hid (fun W (hW : Below w.heap.size w W) => Tk_any v zs W (HV.out.below hW))
      have hD1 := tkL_len zs
      have hD2 := tkL_size (zs := zs)
      generalize tkL zs = D at *
      generalize tkT 6 t = T at *
      have TA := Lib.hid (fun W E e (hW : Below w0.heap.size w0 W) (hE : ListAt W E e D) => Tasks_any D T L B E d e W hE (by omega) (fun x hx => by rw [hD2 x hx]; omega) (LA.out.below hW) (by omega) (fun l hl => by have := (hL2 l hl).1; omega) (fun l hl x hx => by rw [(hL2 l hl).2 x hx]; omega))
      have RA := Lib.hid (fun W E e (hW : Below w0.heap.size w0 W) (hE : ListAt W E e D) => RTasks_any D T L B E d e W hE (by omega) (LA.out.below hW) (by omega) (fun l hl => by have := (hL2 l hl).1; omega))
      clear hL2 hD2 LA HO hend h1 ht
      generalize mayB D T L = b at *
      have hbb : (b == b) = true := by simp
      have tok : True := trivial
      rcases key with g1 | ⟨g1, g2⟩
      all_goals
        go_wp2_with (first
          | (go_at_call 36; refine (NM.out _).mono ?_; rintro e w1 ⟨rfl, hb1⟩; have h1 := below_then HB.out hb1 hbz)
          | (have _t := tok; go_at_call 35; refine (TV.out _ h1).mono ?_; rintro e w2 ⟨u2, rfl, o2, hb2⟩; have h2 := below_then h1 hb2 h1.size; obtain ⟨E2, e2, rfl⟩ := ownL_slice o2; have h02 := below_then hb1 hb2 hb1.size; clear tok _t)
          | (go_at_call 37; refine (TA.out _ E2 e2 h02 (listAt_of o2)).mono ?_; rintro e w3 ⟨rfl, hb3⟩; have h3 := below_then h2 hb3 h2.size; have h03 := below_then h02 hb3 h02.size)
          | (go_at_call 35; refine (TV.out _ h3).mono ?_; rintro e w4 ⟨u4, rfl, o4, hb4⟩; have h4 := below_then h3 hb4 h3.size; obtain ⟨E4, e4, rfl⟩ := ownL_slice o4; have h04 := below_then h03 hb4 h03.size)
          | (go_at_call 38; refine (RA.out _ E4 e4 h04 (listAt_of o4)).mono ?_; rintro e w5 ⟨rfl, rfl⟩)
          | (go_at_call 34; refine (wakes05 _).mono ?_; rintro e w6 ⟨rfl, hb6⟩; have h6 := below_then h4 hb6 h4.size))
        go_ret
        exact ⟨rfl, h6⟩
end Go.Proofs.Yteplbbikjcjheaa
