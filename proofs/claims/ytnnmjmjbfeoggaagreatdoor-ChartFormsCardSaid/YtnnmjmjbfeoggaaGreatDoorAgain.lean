/-
  againColumn: the column of the first word that stood before; isTime.
-/
import Derived.Test.YtnnmjmjbfeoggaaGreatDoorRd4
import Derived.Test.YtnnmjmjbfeoggaaGreatDoorDigits
import Derived.Test.YtnnmjmjbfeoggaaGreatDoorSameL
import Derived.Maps.OwnSet
namespace Go.Proofs.YtnnmjmjbfeoggaaGreatDoor
set_option maxRecDepth 100000
open Go.ChangeShapes Go.WideShapes Go.ChangeAt Go.RowKit Go.Maps Go.WideMaps Go.ChangeMaps

/-- the column of the first word that was seen; 0: none -/
def againP (seen : List Tx) : List (Nat × Tx) → Nat
  | [] => 0
  | (c, t) :: r => if t ∈ seen then c else againP (seen ++ [t]) r
/-- words in the cells of the block g, from o on -/
def WAt (w : World) (g o : Nat) (ws : List (Nat × Tx)) : Prop := ∀ j (h : j < ws.length), w.cell? ⟨g, o + j * 2, none⟩ = some (.string (bs ws[j].2)) ∧ w.cell? ⟨g, o + j * 2 + 1, none⟩ = some (.int .i64 ws[j].1) ∧ ws[j].2.length ≤ maxLen
theorem WAt.below {w w' : World} {g o : Nat} {ws : List (Nat × Tx)} (h : WAt w g o ws) (hg : g < w.heap.size) (hb : Below w.heap.size w w') : WAt w' g o ws := fun j hj =>
  ⟨(hb.cell hg).trans (h j hj).1, (hb.cell hg).trans (h j hj).2.1, (h j hj).2.2⟩
theorem againP_drop (seen : List Tx) (ws : List (Nat × Tx)) (k : Nat) (h : k < ws.length) : againP seen (ws.drop k) = if ws[k].2 ∈ seen then ws[k].1 else againP (seen ++ [ws[k].2]) (ws.drop (k + 1)) := by
  rw [List.drop_eq_getElem_cons h]; rfl
def IntB (n : Nat) (w : World) (e : Ending) (w' : World) : Prop := e = .returned (.int .i64 n) ∧ Below w.heap.size w w'
theorem intB_mk {n m : Nat} {w w' : World} (h : n = m) (hb : Below w.heap.size w w') : IntB m w (.returned (.int .i64 n)) w' := by subst h; exact ⟨rfl, hb⟩
theorem isTime_any (n : Int) (w : World) : Calls Tryz.prog 174 #[.int .i64 n] w fun e w' => e = .returned (.bool (decide (0 < n) && decide (n ≤ 1073741824))) ∧ w = w' := by
  go_enter Tryz.func174, Tryz.ntmps174
  go_wp2
  all_goals
    go_ret
    refine ⟨ret_bool ?_, rfl⟩
    (try simp_all) <;> omega

set_option maxHeartbeats 2000000 in
theorem again_none (g o cap : Nat) (ws : List (Nat × Tx)) (w : World) (h : WAt w g o ws) (hg : g < w.heap.size) (hm : ws.length ≤ 1099511627776) (_hc : ws.length ≤ cap) :
    Calls Tryz.prog 173 #[.slice (some ⟨g, o, none⟩) ws.length cap, .slice none 0 0] w (IntB (againP [] ws) w) := by
  have hmm := fun n => makeMap_hint 245 9 246 n Tryz.underlying245
  go_enter Tryz.func173, Tryz.ntmps173
  go_wp2
  refine wp_loop_rounds 1 ?_
  rw [rounds_succ]
  go_wp2
  go_loopw [30] (fun i wr => ∃ (k : Nat) (seen : List Tx), k ≤ ws.length ∧ i = .int .i64 k ∧ Hid (againP [] ws = againP seen (ws.drop k)) ∧ wr.ownsMap Tryz.prog 9 unitElem w.heap.size seen.length (setL seen) ∧ Below w.heap.size w wr ∧ seen.length ≤ k + 1) (fun i _ => ws.length - (intOf i).toNat)
  case atStart => exact ⟨0, [], Nat.zero_le _, rfl, rfl, World.ownsMap_made _ _ _ _, (Below.refl _ _).alloc (Nat.le_refl _) _, by simp⟩
  case round =>
    obtain ⟨k, seen, hk, rfl, HA, hown, hbw, hsl⟩ := hrel
    by_cases hlt : k < ws.length
    · obtain ⟨x1, x2, x3⟩ := (h.below hg hbw) k hlt
      have ha := againP_drop seen ws k hlt
      have hs := has_setL seen ws[k].2
      have hkey : keyOf Tryz.prog 9 (.string (bs ws[k].2)) = some (.string ws[k].2) := keyOf_string_mk Tryz.underlying9 x3
      by_cases hin : ws[k].2 ∈ seen
      · rw [if_pos hin] at ha
        have HE : Hid (againP [] ws = ws[k].1) := HA.out.trans ha
        rw [decide_eq_true hin] at hs
        clear HA ha hin x3
        generalize ws[k] = W at *
        obtain ⟨wc, wt⟩ := W
        have HS := Lib.hid hs
        clear hs
        go_wp2_with (at_lookup; refine wpList_lookup_own_unit _ rfl _ _ 245 rfl 9 246 Tryz.lawS Tryz.underlying245 (Tryz.zeroU _) w.heap.size seen.length _ rfl (hown.alloc _) _ _ rfl hkey ?_; rw [HS.out])
        go_ret
        exact intB_mk HE.out.symm ((hbw.alloc hbw.size _).alloc (by have := hbw.size; simp; omega) _)
      · rw [if_neg hin] at ha
        have HE : Hid (againP [] ws = againP (seen ++ [ws[k].2]) (ws.drop (k + 1))) := HA.out.trans ha
        rw [decide_eq_false hin] at hs
        clear HA ha hin x3
        generalize ws[k] = W at *
        obtain ⟨wc, wt⟩ := W
        have HS := Lib.hid hs
        clear hs
        have hbs := hbw.size
        go_wp2_with (first
          | (at_lookup; refine wpList_lookup_own_unit _ rfl _ _ 245 rfl 9 246 Tryz.lawS Tryz.underlying245 (Tryz.zeroU _) w.heap.size seen.length _ rfl (hown.alloc _) _ _ rfl hkey ?_; rw [HS.out])
          | (at_mapUpdate; refine wpList_mapUpdate_own _ rfl _ _ _ 245 rfl 9 246 Tryz.lawS Tryz.underlying245 (unitElem (H := Unit)) w.heap.size seen.length _ rfl ((hown.alloc _).alloc _) (by unfold maxLen; omega) _ _ _ rfl rfl hkey _ [] unitElem_mk ?_; intro w1 hown1 hgrow1))
        go_roundw
        case rel =>
          refine ⟨k + 1, seen ++ [wt], by omega, by go_num, HE.out, ?_, ?_, by simp; omega⟩
          · rw [setL_snoc, List.length_append]; exact hown1
          · exact ((hbw.alloc hbs _).alloc (by simp; omega) _).grown hgrow1 (by simp; omega) (fun j hj => by cases hj; exact Nat.le_refl _)
        case measure => simp [intOf]; omega
    · go_wp2
      go_ret
      refine intB_mk ?_ hbw
      have := HA.out
      rw [List.drop_of_length_le (by omega)] at this
      exact this.symm
set_option maxHeartbeats 2000000 in
theorem again_one (g o cap : Nat) (ws : List (Nat × Tx)) (w : World) (h : WAt w g o ws) (hg : g < w.heap.size) (hm : ws.length ≤ 1099511627776) (_hc : ws.length ≤ cap) (x : Nat) (y : Tx) (hx : x < w.heap.size) (hc0 : w.cell? ⟨x, 0, none⟩ = some (.string (bs y))) (hy : (bs y).size ≤ maxLen) :
    Calls Tryz.prog 173 #[.slice (some ⟨g, o, none⟩) ws.length cap, .slice (some ⟨x, 0, none⟩) 1 1] w (IntB (againP [y] ws) w) := by
  have hmm := fun n => makeMap_hint 245 9 246 n Tryz.underlying245
  have hkey0 : keyOf Tryz.prog 9 (.string (bs y)) = some (.string y) := keyOf_string_mk Tryz.underlying9 hy
  have hc0' : (w.alloc (.map #[] 0)).cell? ⟨x, 0, none⟩ = some (.string (bs y)) := (World.cell?_alloc_lt _ _ _ hx).trans hc0
  clear hy
  go_enter Tryz.func173, Tryz.ntmps173
  go_wp2
  refine wp_loop_rounds 2 ?_
  rw [rounds_succ]
  go_wp2_with (at_mapUpdate; refine wpList_mapUpdate_own _ rfl _ _ _ 245 rfl 9 246 Tryz.lawS Tryz.underlying245 (unitElem (H := Unit)) w.heap.size 0 _ rfl (World.ownsMap_made _ _ _ _) (by unfold maxLen; omega) _ _ _ rfl rfl hkey0 _ [] unitElem_mk ?_; intro w0 hown0 hgrow0)
  rw [rounds_succ]
  go_wp2
  go_loopw [30] (fun i wr => ∃ (k : Nat) (seen : List Tx), k ≤ ws.length ∧ i = .int .i64 k ∧ Hid (againP [y] ws = againP seen (ws.drop k)) ∧ wr.ownsMap Tryz.prog 9 unitElem w.heap.size seen.length (setL seen) ∧ Below w.heap.size w wr ∧ seen.length ≤ k + 1) (fun i _ => ws.length - (intOf i).toNat)
  case atStart => exact ⟨0, [y], Nat.zero_le _, rfl, rfl, hown0, ((Below.refl _ _).alloc (Nat.le_refl _) _).grown hgrow0 (by simp) (fun j hj => by cases hj; exact Nat.le_refl _), by simp⟩
  case round =>
    obtain ⟨k, seen, hk, rfl, HA, hown, hbw, hsl⟩ := hrel
    by_cases hlt : k < ws.length
    · obtain ⟨x1, x2, x3⟩ := (h.below hg hbw) k hlt
      have ha := againP_drop seen ws k hlt
      have hs := has_setL seen ws[k].2
      have hkey : keyOf Tryz.prog 9 (.string (bs ws[k].2)) = some (.string ws[k].2) := keyOf_string_mk Tryz.underlying9 x3
      by_cases hin : ws[k].2 ∈ seen
      · rw [if_pos hin] at ha
        have HE : Hid (againP [y] ws = ws[k].1) := HA.out.trans ha
        rw [decide_eq_true hin] at hs
        clear HA ha hin x3
        generalize ws[k] = W at *
        obtain ⟨wc, wt⟩ := W
        have HS := Lib.hid hs
        clear hs
        go_wp2_with (at_lookup; refine wpList_lookup_own_unit _ rfl _ _ 245 rfl 9 246 Tryz.lawS Tryz.underlying245 (Tryz.zeroU _) w.heap.size seen.length _ rfl (hown.alloc _) _ _ rfl hkey ?_; rw [HS.out])
        go_ret
        exact intB_mk HE.out.symm ((hbw.alloc hbw.size _).alloc (by have := hbw.size; simp; omega) _)
      · rw [if_neg hin] at ha
        have HE : Hid (againP [y] ws = againP (seen ++ [ws[k].2]) (ws.drop (k + 1))) := HA.out.trans ha
        rw [decide_eq_false hin] at hs
        clear HA ha hin x3
        generalize ws[k] = W at *
        obtain ⟨wc, wt⟩ := W
        have HS := Lib.hid hs
        clear hs
        have hbs := hbw.size
        go_wp2_with (first
          | (at_lookup; refine wpList_lookup_own_unit _ rfl _ _ 245 rfl 9 246 Tryz.lawS Tryz.underlying245 (Tryz.zeroU _) w.heap.size seen.length _ rfl (hown.alloc _) _ _ rfl hkey ?_; rw [HS.out])
          | (at_mapUpdate; refine wpList_mapUpdate_own _ rfl _ _ _ 245 rfl 9 246 Tryz.lawS Tryz.underlying245 (unitElem (H := Unit)) w.heap.size seen.length _ rfl ((hown.alloc _).alloc _) (by unfold maxLen; omega) _ _ _ rfl rfl hkey _ [] unitElem_mk ?_; intro w1 hown1 hgrow1))
        go_roundw
        case rel =>
          refine ⟨k + 1, seen ++ [wt], by omega, by go_num, HE.out, ?_, ?_, by simp; omega⟩
          · rw [setL_snoc, List.length_append]; exact hown1
          · exact ((hbw.alloc hbs _).alloc (by simp; omega) _).grown hgrow1 (by simp; omega) (fun j hj => by cases hj; exact Nat.le_refl _)
        case measure => simp [intOf]; omega
    · go_wp2
      go_ret
      refine intB_mk ?_ hbw
      have := HA.out
      rw [List.drop_of_length_le (by omega)] at this
      exact this.symm
end Go.Proofs.YtnnmjmjbfeoggaaGreatDoor
