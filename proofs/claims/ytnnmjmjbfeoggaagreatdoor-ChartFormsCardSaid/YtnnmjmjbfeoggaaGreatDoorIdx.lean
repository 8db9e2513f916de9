/-
  slices.Index and slices.Contains of texts.
-/
import Derived.Test.YtnnmjmjbfeoggaaGreatDoorSameL
namespace Go.Proofs.YtnnmjmjbfeoggaaGreatDoor
set_option maxRecDepth 100000
open Go.ChangeShapes Go.WideShapes Go.ChangeAt Go.RowKit

theorem beq_tx (a c : Tx) : ((bs a).toList == (bs c).toList) = (a == c) := by rw [Lib.toList_data, Lib.toList_data, list_bs, list_bs]
/-- the place of a text; -1: none -/
def idxI (l : List Tx) (x : Tx) : Int := if x ∈ l then (l.idxOf x : Int) else -1
theorem idxOf_at {l : List Tx} {x : Tx} {k : Nat} (h : k < l.length) (e : x = l[k]) (hn : x ∉ l.take k) : l.idxOf x = k := by
  have hs : l = l.take k ++ l[k] :: l.drop (k + 1) := by rw [← List.drop_eq_getElem_cons h, List.take_append_drop]
  rw [hs, List.idxOf_append, if_neg hn, ← e, List.idxOf_cons_self, List.length_take]
  omega
set_option maxHeartbeats 1000000 in
theorem IndexX_any (l : List Tx) (x : Tx) (A : Option Addr) (c : Nat) (w : World) (h : ListAt w A c l) (hl : l.length ≤ 1000000) :
    Calls Tryz.prog 153 #[.slice A l.length c, .string (bs x)] w fun e w' => e = .returned (.int .i64 (idxI l x)) ∧ w = w' := by
  have hc := h.1
  have h := h.2
  go_enter Tryz.func153, Tryz.ntmps153
  go_wp2
  go_loop [5, 8] (fun _ i => ∃ k : Nat, k ≤ l.length ∧ i = .int .i64 k ∧ Hid (x ∉ l.take k)) (fun _ i => l.length - (intOf i).toNat)
  case atStart => exact ⟨0, Nat.zero_le _, rfl, by show ¬ _; simp⟩
  case round =>
    obtain ⟨k, hk, rfl, HI⟩ := hrel
    by_cases hlt : k < l.length
    · obtain ⟨b, rfl, _, hx⟩ := h k hlt
      have hsn : l.take (k + 1) = l.take k ++ [l[k]] := by rw [List.take_succ_eq_append_getElem hlt]
      have hme : l[k] ∈ l := List.getElem_mem hlt
      clear h
      by_cases he : x = l[k]
      · have HM : Hid (idxI l x = k) := by show _ = _; unfold idxI; rw [if_pos (by rw [he]; exact hme), idxOf_at hlt he HI.out]
        have hb : ((bs x).toList == (bs l[k]).toList) = true := by rw [beq_tx]; simp [he]
        clear he hme hsn
        generalize bs l[k] = y at *
        go_wp2
        go_ret
        exact ⟨ret_int HM.out.symm, rfl⟩
      · have HT : Hid (x ∉ l.take (k + 1)) := by
          show ¬ _
          rw [hsn, List.mem_append]
          exact fun hh => hh.elim HI.out (fun h => he (List.mem_singleton.1 h))
        have hb : ((bs x).toList == (bs l[k]).toList) = false := by rw [beq_tx]; simp [he]
        clear he hme hsn
        generalize bs l[k] = y at *
        go_wp2
        go_round
        case rel => exact ⟨k + 1, by omega, by go_num, HT⟩
        case measure => simp [intOf]; omega
    · have HT : Hid (idxI l x = -1) := by have := HI.out; rw [List.take_of_length_le (by omega)] at this; show _ = _; unfold idxI; rw [if_neg this]
      clear h
      go_wp2
      go_ret
      exact ⟨ret_int HT.out.symm, rfl⟩
theorem idxI_ge (l : List Tx) (x : Tx) : decide (0 ≤ idxI l x) = decide (x ∈ l) := by
  unfold idxI; split
  · rename_i h; simp [h]
  · rename_i h; simp [h]
theorem Contains_str (l : List Tx) (x : Tx) (A : Option Addr) (c : Nat) (w : World) (h : ListAt w A c l) (hl : l.length ≤ 1000000) :
    Calls Tryz.prog 119 #[.slice A l.length c, .string (bs x)] w fun e w' => e = .returned (.bool (decide (x ∈ l))) ∧ w = w' := by
  have HI := Lib.hid (IndexX_any l x A c w h hl)
  have HG := Lib.hid (idxI_ge l x)
  clear h
  go_enter Tryz.func119, Tryz.ntmps119
  go_wp2_with (go_at_call 153; refine HI.out.mono ?_; rintro e w1 ⟨rfl, rfl⟩)
  go_ret
  exact ⟨ret_bool HG.out, rfl⟩
end Go.Proofs.YtnnmjmjbfeoggaaGreatDoor
