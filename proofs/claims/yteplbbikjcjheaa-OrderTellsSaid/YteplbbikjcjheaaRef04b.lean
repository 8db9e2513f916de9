/-
  The document's order: Index, Above, Down, Up.
-/
import Derived.Test.YteplbbikjcjheaaOrd4
namespace Go.Proofs.Yteplbbikjcjheaa
set_option maxRecDepth 100000
open Go.ChangeShapes Go.WideShapes Go.ChangeAt Go.RowKit

/-- the document's order in memory -/
structure OrdD (w : World) (g : Nat) (names : List Tx) (bl : List Nat) : Prop where
  few : names.length ≤ 24
  lo : Lo bl
  lt : g < w.heap.size
  list : ∃ A c, w.cell? ⟨g, 0, none⟩ = some (.slice A names.length c) ∧ ListAt w A c names
  sets : ∃ B d, w.cell? ⟨g, 1, none⟩ = some (.slice B names.length d) ∧ names.length ≤ d ∧ ∀ j, j < names.length → ∃ h, B = some ⟨h, 0, none⟩ ∧ h < w.heap.size ∧ w.cell? ⟨h, j, none⟩ = some (.int .u32 (bl.getD j 0 : Nat))
theorem OrdD.below {w w' : World} {g : Nat} {names : List Tx} {bl : List Nat} (h : OrdD w g names bl) (hb : Below w.heap.size w w') : OrdD w' g names bl :=
  ⟨h.few, h.lo, Nat.lt_of_lt_of_le h.lt hb.size,
   let ⟨A, c, e, hL⟩ := h.list; ⟨A, c, (hb.cell (p := ⟨g, 0, none⟩) h.lt).trans e, hL.below hb⟩,
   let ⟨B, d, e, hd, hc⟩ := h.sets; ⟨B, d, (hb.cell (p := ⟨g, 1, none⟩) h.lt).trans e, hd, fun j hj => let ⟨k, e, hk, hx⟩ := hc j hj; ⟨k, e, Nat.lt_of_lt_of_le hk hb.size, (hb.cell (p := ⟨k, j, none⟩) hk).trans hx⟩⟩⟩
section
variable (g : Nat) (names : List Tx) (w : World)
set_option maxHeartbeats 1000000 in
/-- Index wants the names alone -/
theorem RIndex_any (A : Option Addr) (c : Nat) (x : Tx) (h0 : w.cell? ⟨g, 0, none⟩ = some (.slice A names.length c)) (h : ListAt w A c names) (hl : names.length ≤ 1000000) : Calls Try.prog 20 #[.pointer (some ⟨g, 0, none⟩), .string (bs x)] w fun e w' => e = .returned (.int .i64 (idxI names x)) ∧ w = w' := by
  have hc := h.1
  have h := h.2
  go_enter Try.func20, Try.ntmps20
  go_wp2
  go_loop [11] (fun i => ∃ k : Nat, k ≤ names.length ∧ i = .int .i64 k ∧ Hid (x ∉ names.take k)) (fun i => names.length - (intOf i).toNat)
  case atStart => exact ⟨0, Nat.zero_le _, rfl, by show ¬ _; simp⟩
  case round =>
    obtain ⟨k, hk, rfl, HI⟩ := hrel
    by_cases hlt : k < names.length
    · obtain ⟨b, rfl, _, hx⟩ := h k hlt
      have hsn : names.take (k + 1) = names.take k ++ [names[k]] := by rw [List.take_succ_eq_append_getElem hlt]
      have hme : names[k] ∈ names := List.getElem_mem hlt
      clear h
      by_cases he : x = names[k]
      · have HM : Hid (idxI names x = k) := by show _ = _; unfold idxI; rw [if_pos (by rw [he]; exact hme), idxOf_at hlt he HI.out]
        have hb : ((bs names[k]).toList == (bs x).toList) = true := by rw [beq_tx]; simp [he]
        clear he hme hsn
        generalize bs names[k] = y at *
        go_wp2
        go_ret
        exact ⟨ret_int HM.out.symm, rfl⟩
      · have HT : Hid (x ∉ names.take (k + 1)) := by
          show ¬ _
          rw [hsn, List.mem_append]
          exact fun hh => hh.elim HI.out (fun h => he (List.mem_singleton.1 h))
        have hb : ((bs names[k]).toList == (bs x).toList) = false := by rw [beq_tx, beq_eq_false_iff_ne]; exact fun e => he e.symm
        clear he hme hsn
        generalize bs names[k] = y at *
        go_wp2
        go_round
        case rel => exact ⟨k + 1, by omega, by go_num, HT⟩
        case measure => simp [intOf]; omega
    · have HT : Hid (idxI names x = -1) := by have := HI.out; rw [List.take_of_length_le (by omega)] at this; show _ = _; unfold idxI; rw [if_neg this]
      clear h
      go_wp2
      go_ret
      exact ⟨ret_int HT.out.symm, rfl⟩
variable (bl : List Nat)
theorem RIdx_any (x : Tx) (h : OrdD w g names bl) : Calls Try.prog 20 #[.pointer (some ⟨g, 0, none⟩), .string (bs x)] w fun e w' => e = .returned (.int .i64 (idxI names x)) ∧ w = w' :=
  let ⟨A, c, h0, hL⟩ := h.list
  RIndex_any g names w A c x h0 hL (by have := h.few; omega)
theorem shr_bit0 (y k : Nat) (hy : y < 4294967296) : (bits .and .u32 ((y : Int) / 2 ^ k) 1 == 1) = y.testBit k := by
  have e : (y : Int) / 2 ^ k = ((y / 2 ^ k : Nat) : Int) := by norm_cast
  have hl : y / 2 ^ k < 4294967296 := Nat.lt_of_le_of_lt (Nat.div_le_self _ _) hy
  have h1 := u32_and_nat (y / 2 ^ k) 1 hl (by omega)
  rw [e, show (1 : Int) = ((1 : Nat) : Int) from rfl, h1, nat_mask1, Nat.testBit_eq_decide_div_mod_eq]
  have : y / 2 ^ k % 2 < 2 := Nat.mod_lt _ (by omega)
  generalize y / 2 ^ k % 2 = x at *
  rcases (by omega : x = 0 ∨ x = 1) with rfl | rfl <;> rfl
set_option maxHeartbeats 1000000 in
theorem RDown_any (set : Nat) (hs : set < 4294967296) (h : OrdD w g names bl) : Calls Try.prog 24 #[.pointer (some ⟨g, 0, none⟩), .int .u32 set] w fun e w' => e = .returned (.int .u32 (downTo bl set names.length : Nat)) ∧ w = w' := by
  obtain ⟨A, c, h0, hL⟩ := h.list
  obtain ⟨B, d, h1, hd, hc⟩ := h.sets
  have hcc := hL.1
  have hf := h.few
  have HC := Lib.hid hc
  have HLO := Lib.hid h.lo
  clear hc h hL
  go_enter Try.func24, Try.ntmps24
  go_wp2
  go_loop [5, 12] (fun v i => ∃ k : Nat, k ≤ names.length ∧ v = .int .u32 (downTo bl set k : Nat) ∧ i = .int .i64 k) (fun _ i => names.length - (intOf i).toNat)
  case atStart => exact ⟨0, Nat.zero_le _, rfl, rfl⟩
  case round =>
    obtain ⟨k, hk, rfl, rfl⟩ := hrel
    by_cases hlt : k < names.length
    · obtain ⟨b, rfl, _, hx⟩ := HC.out k hlt
      have hlo := downTo_lo HLO.out set k
      have hbit := shr_bit0 set k hs
      have hsn : downTo bl set (k + 1) = if set.testBit k = true then downTo bl set k ||| bl.getD k 0 else downTo bl set k := rfl
      have hv := or_val _ _ hlo (HLO.out k)
      by_cases hb : set.testBit k = true
      · rw [if_pos hb] at hsn
        rw [hb] at hbit
        have HS := Lib.hid hsn
        clear hsn hb
        generalize downTo bl set k ||| bl.getD k 0 = z at *
        generalize downTo bl set k = y at *
        generalize bl.getD k 0 = x at *
        go_wp2
        go_round
        case rel => exact ⟨k + 1, by omega, by rw [HS.out], by go_num⟩
        case measure => simp [intOf]; omega
      · rw [if_neg hb] at hsn
        have hb' : set.testBit k = false := by simpa using hb
        rw [hb'] at hbit
        have HS := Lib.hid hsn
        clear hsn hb hb' hv
        generalize downTo bl set k = y at *
        generalize bl.getD k 0 = x at *
        go_wp2
        go_round
        case rel => exact ⟨k + 1, by omega, by rw [HS.out], by go_num⟩
        case measure => simp [intOf]; omega
    · have HK : Hid (k = names.length) := by show _ = _; omega
      go_wp2
      go_ret
      exact ⟨ret_int (by rw [HK.out]), rfl⟩
set_option maxHeartbeats 1000000 in
theorem RAbove_any (x y : Tx) (h : OrdD w g names bl) : Calls Try.prog 16 #[.pointer (some ⟨g, 0, none⟩), .string (bs x), .string (bs y)] w fun e w' => e = .returned (.bool (aboveP names bl x y)) ∧ w = w' := by
  obtain ⟨B, d, h1, hd, hc⟩ := h.sets
  have hf := h.few
  have I1 := Lib.hid (RIdx_any g names w bl x h)
  have I2 := Lib.hid (RIdx_any g names w bl y h)
  have tok1 : True := trivial
  by_cases hx : x ∈ names
  · by_cases hy : y ∈ names
    · have ha := idx_lt hx
      have hb := idx_lt hy
      obtain ⟨k, rfl, _, hca⟩ := hc _ ha
      have hbit := shr_bit0 (bl.getD (idx names x) 0) (idx names y) (lo_32 h.lo _)
      have HP : Hid (aboveP names bl x y = (bl.getD (idx names x) 0).testBit (idx names y)) := by show _ = _; unfold aboveP rel; simp [hx, hy]
      rw [idxI_in hx] at I1
      rw [idxI_in hy] at I2
      clear hx hy hc h
      generalize idx names x = a at *
      generalize idx names y = b at *
      generalize (bl.getD a 0).testBit b = r at *
      generalize bl.getD a 0 = s at *
      have g1 : decide ((0 : Int) ≤ a) = true := by simp
      have g2 : decide ((0 : Int) ≤ b) = true := by simp
      have g3 : (0 : Int) ≤ a := by omega
      have g4 : (a : Int) < names.length := by omega
      go_enter Try.func16, Try.ntmps16
      go_wp2_with (first
        | (have _t := tok1; go_at_call 20; refine I1.out.mono ?_; rintro e w1 ⟨rfl, rfl⟩; clear tok1 _t)
        | (go_at_call 20; refine I2.out.mono ?_; rintro e w2 ⟨rfl, rfl⟩))
      go_ret
      exact ⟨ret_bool HP.out.symm, rfl⟩
    · have ha := idx_lt hx
      have HP : Hid (aboveP names bl x y = false) := by show _ = _; unfold aboveP; simp [hy]
      rw [idxI_in hx] at I1
      rw [idxI_out hy] at I2
      clear hx hy hc h
      generalize idx names x = a at *
      have g1 : decide ((0 : Int) ≤ a) = true := by simp
      go_enter Try.func16, Try.ntmps16
      go_wp2_with (first
        | (have _t := tok1; go_at_call 20; refine I1.out.mono ?_; rintro e w1 ⟨rfl, rfl⟩; clear tok1 _t)
        | (go_at_call 20; refine I2.out.mono ?_; rintro e w2 ⟨rfl, rfl⟩))
      go_ret
      exact ⟨ret_bool HP.out.symm, rfl⟩
  · have HP : Hid (aboveP names bl x y = false) := by show _ = _; unfold aboveP; simp [hx]
    rw [idxI_out hx] at I1
    clear hx hc h
    generalize idxI names y = b at *
    go_enter Try.func16, Try.ntmps16
    go_wp2_with (first
      | (have _t := tok1; go_at_call 20; refine I1.out.mono ?_; rintro e w1 ⟨rfl, rfl⟩; clear tok1 _t)
      | (go_at_call 20; refine I2.out.mono ?_; rintro e w2 ⟨rfl, rfl⟩))
    go_ret
    exact ⟨ret_bool HP.out.symm, rfl⟩
end
end Go.Proofs.Yteplbbikjcjheaa
