/-
  DutyAlike: the walk.
-/
import Derived.Test.YteplbbikjcjheaaDuty6
import Derived.Test.YteplbbikjcjheaaDuty3
namespace Go.Proofs.Yteplbbikjcjheaa
set_option maxRecDepth 100000
open Go.ChangeShapes Go.WideShapes Go.ChangeAt Go.RowKit

theorem one_str (W : World) (S : Tx) : ListAt (W.alloc (.cells #[.string (bs S)] 9)) (some ⟨W.heap.size, 0, none⟩) 1 [S] := by
  have R := heap_alloc_new W (.cells #[.string (bs S)] 9)
  refine ⟨Nat.le_refl _, fun j hj => ?_⟩
  simp at hj
  subst hj
  exact ⟨_, rfl, by simp, by rw [cell_of_row _ _ _ _ _ _ R]; rfl⟩
theorem two_str (W : World) (S T : Tx) : ListAt (W.alloc (.cells #[.string (bs S), .string (bs T)] 9)) (some ⟨W.heap.size, 0, none⟩) 2 [S, T] := by
  have R := heap_alloc_new W (.cells #[.string (bs S), .string (bs T)] 9)
  refine ⟨Nat.le_refl _, fun j hj => ?_⟩
  simp at hj
  obtain rfl | rfl : j = 0 ∨ j = 1 := by omega
  · exact ⟨_, rfl, by simp, by rw [cell_of_row _ _ _ _ _ _ R]; rfl⟩
  · exact ⟨_, rfl, by simp, by rw [cell_of_row _ _ _ _ _ _ R]; rfl⟩
set_option maxHeartbeats 4000000 in
theorem alike_walk (w : World) (a : Int) (ha : (Lit.int .i64 a).wf = true) (t : Int) (ht : (Lit.int .i64 t).wf = true) (u : Value) (Z : List (List Int)) (hZ : RowsAt2 w u Z) :
    Calls Try.prog 8 #[.int .i64 a, .int .i64 t, u] w (TrueOn w) := by
  obtain ⟨i0, hi, hz0, hz1, hz2⟩ := info_parts Try.infoStrings
  obtain ⟨A, c, rfl, hzl, hzc⟩ := hZ
  have HZ := Lib.hid hzc
  clear hzc
  unfold maxLen at hzl
  go_enter Try.func8, Try.ntmps8
  go_wp2
  go_loopw [7, 8] (fun v i wr => ∃ k : Nat, k ≤ 4 ∧ k ≤ Z.length ∧ i = .int .i64 k ∧ Hid (OwnLL wr w.heap.size v (tkLL Z k)) ∧ Hid (Below w.heap.size w wr)) (fun _ i _ => 4 - (intOf i).toNat)
  case atStart => exact ⟨0, Nat.zero_le _, Nat.zero_le _, rfl, ownLL_nil _ _, Below.refl _ _⟩
  case round =>
    obtain ⟨k, hk, hkz, rfl, HO, HB⟩ := hrel
    have hbz := HB.out.size
    have hend : ¬ (k < Z.length ∧ k < 4) → ∃ k', k' ≤ 4 ∧ k = k' := fun _ => ⟨k, hk, rfl⟩
    by_cases h1 : k < Z.length ∧ k < 4
    · obtain ⟨h1, h2⟩ := h1
      have g1 : decide (k < Z.length) = true := by simpa using h1
      have h2i : (k : Int) < 4 := by omega
      obtain ⟨g, off, x, rfl, hgl, hc, hrow⟩ := HZ.out k h1
      have x1 := (HB.out.cell (p := ⟨g, off + k, none⟩) hgl).trans hc
      have hsn : tkLL Z (k + 1) = tkLL Z k ++ [tkL Z[k]] := by unfold tkLL; rw [List.take_succ_eq_append_getElem h1, List.map_append]; rfl
      have hl0 : (tkLL Z k).length = k := by unfold tkLL; rw [List.length_map, List.length_take]; omega
      have TK := Lib.hid (Tk_any x Z[k] wr (hrow.below HB.out))
      have HSN := Lib.hid hsn
      have HL0 := Lib.hid hl0
      clear hsn hl0 hc hrow
      generalize Z[k] = z at *
      generalize tkLL Z k = cur at *
      generalize tkL z = T at *
      obtain ⟨cs, hcl, hO, hcs⟩ := HO.out
      rw [HL0.out] at hO hcl
      have HCS := Lib.hid hcs
      have HCL := Lib.hid hcl
      clear hcs hcl HO hend
      obtain ⟨A6, c6, rfl⟩ := own_slice hO
      go_wp2_with (first
        | (go_at_call 35; refine TK.out.mono ?_; rintro e w1 ⟨u1, rfl, o1, hb1⟩; obtain ⟨E1, e1, rfl⟩ := ownL_slice o1; have ho1 := own_below hO hb1 hbz; have hb1z := hb1.size)
        | (at_builtin; go_must (refine wpList_append_own _ rfl (.tmp 21) (.tmp 27) 65 rfl w.heap.size 25 i0 _ 1 24 Try.underlying65 hi hz0 hz1 hz2 rfl (by decide) _ k cs rfl (ho1.alloc _) ⟨w1.heap.size, 0, none⟩ 1 1 [.slice E1 T.length e1] rfl rfl (cells_new _ _ _) (by intro u hu; simp at hu; subst hu; rfl) (by unfold maxLen; omega) (by omega) (by simp; omega) ?_); intro v' w4 hown' hg' _; obtain ⟨A5, c5, rfl⟩ := own_slice hown'))
      have hbx : Below w1.heap.size w1 (w1.alloc (.cells #[.slice E1 T.length e1] 25)) := (Below.refl _ _).alloc (Nat.le_refl _) _
      have HO4 : Hid (OwnLL w4 w.heap.size (.slice A5 (k + 1) c5) (tkLL Z (k + 1))) := by
        show OwnLL _ _ _ _
        rw [HSN.out]
        refine OwnLL.snoc (w := w1.alloc (.cells #[.slice E1 T.length e1] 25)) (cs := cs) (u := .slice E1 T.length e1) (by rw [HCL.out, HL0.out]) (by rw [HL0.out]; exact ho1.alloc _) (fun j hj => ?_) ?_ (by rw [HL0.out]; exact hown') hg'
        · obtain ⟨y, h1, h2⟩ := HCS.out j hj
          exact ⟨y, h1, own_below (own_below h2 hb1 hbz) hbx (Nat.le_trans hbz hb1z)⟩
        · exact own_below (own_mono2 o1 hbz) hbx (Nat.le_trans hbz hb1z)
      have hb2 := below_then HB.out hb1 hbz
      have HB4 : Hid (Below w.heap.size w w4) := (hb2.alloc hb2.size _).grown hg' (Nat.le_trans hb2.size (by simp)) (fun j e => (ho1.lt j e).1)
      go_roundw
      case rel => exact ⟨k + 1, by omega, by omega, by go_num, HO4, HB4⟩
      case measure => simp [intOf]; omega
    · have key : (decide (k < Z.length) = false) ∨ (decide (k < Z.length) = true ∧ decide ((k : Int) < 4) = false) := by
        by_cases h : k < Z.length
        · right; exact ⟨by simpa using h, by simp; omega⟩
        · left; simpa using h
      have hL1 := tkLL_len Z hk
      have hL2 := tkLL_each (Z := Z) (k := k)
      generalize tkLL Z k = L at *
      obtain ⟨B, d, rfl⟩ := ownLL_slice HO.out
      have LA := Lib.hid (llAt_of HO.out)
      obtain ⟨w0, rfl⟩ : ∃ w0 : World, w0 = wr := ⟨_, rfl⟩
      have NA := Lib.hid (fun W => Name_any 5 a W ha (by omega) (by omega))
      have NT := Lib.hid (fun W => Name_any 5 t W ht (by omega) (by omega))
      have hS : (tkT 5 a).length = 2 := rfl
      have hT : (tkT 5 t).length = 2 := rfl
      generalize tkT 5 a = S at *
      generalize tkT 5 t = T at *
      have TA := Lib.hid (fun W E e D x (hW : Below w0.heap.size w0 W) (hE : ListAt W E e D) (hD : D.length ≤ 2) (hD2 : ∀ y ∈ D, y.length = 2) => Tasks_any D x L B E d e W hE (by omega) (fun x hx => by rw [hD2 x hx]; omega) (LA.out.below hW) (by omega) (fun l hl => by have := (hL2 l hl).1; omega) (fun l hl x hx => by rw [(hL2 l hl).2 x hx]; omega))
      have hal : ∀ (W : World) (o : Obj), Below W.heap.size W (W.alloc o) := fun W o => (Below.refl _ _).alloc (Nat.le_refl _) _
      have T1 : Hid (∀ W, Below w0.heap.size w0 W → Calls Try.prog 37 #[.slice (some ⟨W.heap.size, 0, none⟩) 1 1, .string (bs S), .slice B L.length d] (W.alloc (.cells #[.string (bs S)] 9)) fun e w' => e = .returned (.bool true) ∧ Below W.heap.size W w') := fun W hW => by
        have h := TA.out _ _ _ [S] S (below_then hW (hal W (.cells #[.string (bs S)] 9)) hW.size) (one_str W S) (by simp) (fun y hy => by rw [List.mem_singleton.1 hy]; exact hS)
        rw [may_self] at h
        exact h.mono fun e w' ⟨he, hb⟩ => ⟨he, below_then (hal W _) hb (hal W _).size⟩
      have T2 : Hid (∀ W, Below w0.heap.size w0 W → Calls Try.prog 37 #[.slice none 0 0, .string (bs S), .slice B L.length d] W fun e w' => e = .returned (.bool true) ∧ Below W.heap.size W w') := fun W hW => by
        have h := TA.out W none 0 [] S hW ⟨Nat.le_refl _, fun j hj => by simp at hj⟩ (by simp) (fun y hy => by simp at hy)
        rw [may_nil] at h
        exact h
      have T3 : Hid (∀ W, Below w0.heap.size w0 W → Calls Try.prog 37 #[.slice (some ⟨W.heap.size, 0, none⟩) 1 1, .string (bs T), .slice B L.length d] (W.alloc (.cells #[.string (bs S)] 9)) fun e w' => e = .returned (.bool (mayB [S] T L)) ∧ Below W.heap.size W w') := fun W hW => by
        have h := TA.out _ _ _ [S] T (below_then hW (hal W (.cells #[.string (bs S)] 9)) hW.size) (one_str W S) (by simp) (fun y hy => by rw [List.mem_singleton.1 hy]; exact hS)
        exact h.mono fun e w' ⟨he, hb⟩ => ⟨he, below_then (hal W _) hb (hal W _).size⟩
      have T4 : Hid (∀ W, Below w0.heap.size w0 W → Calls Try.prog 37 #[.slice (some ⟨W.heap.size, 0, none⟩) 1 1, .string (bs S), .slice B L.length d] (W.alloc (.cells #[.string (bs T)] 9)) fun e w' => e = .returned (.bool (mayB [S] T L)) ∧ Below W.heap.size W w') := fun W hW => by
        have h := TA.out _ _ _ [T] S (below_then hW (hal W (.cells #[.string (bs T)] 9)) hW.size) (one_str W T) (by simp) (fun y hy => by rw [List.mem_singleton.1 hy]; exact hT)
        rw [← may_both S T L] at h
        exact h.mono fun e w' ⟨he, hb⟩ => ⟨he, below_then (hal W _) hb (hal W _).size⟩
      have T5 : Hid (∀ W, Below w0.heap.size w0 W → Calls Try.prog 37 #[.slice (some ⟨W.heap.size, 0, none⟩) 2 2, .string ⟨#[111, 116, 104, 101, 114]⟩, .slice B L.length d] (W.alloc (.cells #[.string (bs S), .string (bs T)] 9)) fun e w' => e = .returned (.bool true) ∧ Below W.heap.size W w') := fun W hW => by
        have h := TA.out _ _ _ [S, T] [111, 116, 104, 101, 114] (below_then hW (hal W (.cells #[.string (bs S), .string (bs T)] 9)) hW.size) (two_str W S T) (by simp) (fun y hy => by
          rcases List.mem_cons.1 hy with e | hy
          · rw [e]; exact hS
          · rw [List.mem_singleton.1 hy]; exact hT)
        rw [may_out (fun l hl hm => by have := (hL2 l hl).2 _ hm; simp at this)] at h
        exact h.mono fun e w' ⟨he, hb⟩ => ⟨he, below_then (hal W _) hb (hal W _).size⟩
      clear hL2 LA HO hend h1 ht ha TA hal hS hT
      generalize mayB [S] T L = b at *
      have hbb : (b == b) = true := by simp
      have tok1 : True := trivial
      have tokN : True := trivial
      have tok3 : True := trivial
      rcases key with g1 | ⟨g1, g2⟩
      all_goals
        go_wp2_with (first
          | (have _t := tokN; go_at_call 36; refine (NA.out _).mono ?_; rintro e w1 ⟨rfl, hb1⟩; have h1 := below_then HB.out hb1 hbz; clear tokN _t)
          | (go_at_call 36; refine (NT.out _).mono ?_; rintro e w2 ⟨rfl, hb2⟩; have h2 := below_then h1 hb2 h1.size; have h02 := below_then hb1 hb2 hb1.size)
          | (have _t := tok1; go_at_call 37; refine (T1.out w2 h02).mono ?_; rintro e w3 ⟨rfl, hb3⟩; have h3 := below_then h2 hb3 h2.size; have h03 := below_then h02 hb3 h02.size; clear tok1 _t)
          | (go_at_call_of 37 (Value.slice none 0 0); refine (T2.out w3 h03).mono ?_; rintro e w4 ⟨rfl, hb4⟩; have h4 := below_then h3 hb4 h3.size; have h04 := below_then h03 hb4 h03.size)
          | (have _t := tok3; go_at_call 37; refine (T3.out w4 h04).mono ?_; rintro e w5 ⟨rfl, hb5⟩; have h5 := below_then h4 hb5 h4.size; have h05 := below_then h04 hb5 h04.size; clear tok3 _t)
          | (go_at_call_of 37 (Value.string (bs S)); refine (T4.out w5 h05).mono ?_; rintro e w6 ⟨rfl, hb6⟩; have h6 := below_then h5 hb6 h5.size; have h06 := below_then h05 hb6 h05.size)
          | (go_at_call 37; refine (T5.out w6 h06).mono ?_; rintro e w7 ⟨rfl, hb7⟩; have h7 := below_then h6 hb7 h6.size)
          | (go_at_call 34; refine (wakes05 _).mono ?_; rintro e w8 ⟨rfl, hb8⟩; have h8 := below_then h7 hb8 h7.size))
        go_ret
        exact ⟨rfl, h8⟩
end Go.Proofs.Yteplbbikjcjheaa
