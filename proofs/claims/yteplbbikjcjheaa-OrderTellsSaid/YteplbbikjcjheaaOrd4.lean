/-
  An order's calls: Index, Names, Above, Below, Down, Up.
-/
import Derived.Test.YteplbbikjcjheaaOrd3
namespace Go.Proofs.Yteplbbikjcjheaa
set_option maxRecDepth 100000
open Go.ChangeShapes Go.WideShapes Go.ChangeAt Go.RowKit

section
variable (g : Nat) (names : List Tx) (bl : List Nat) (w : World)
theorem OIndex_any (x : Tx) (h : OrdAt w g names bl) : Calls Try.prog 19 #[.pointer (some ⟨g, 0, none⟩), .string (bs x)] w fun e w' => e = .returned (.int .i64 (idxI names x)) ∧ w = w' := by
  obtain ⟨A, c, h0, hL⟩ := h.list
  have HI := Lib.hid (Index_any names x A c w hL (by have := h.few; omega))
  clear h hL
  go_enter Try.func19, Try.ntmps19
  go_wp2_with (go_at_call 46; refine HI.out.mono ?_; rintro e w1 ⟨rfl, rfl⟩)
  go_ret
  exact ⟨rfl, rfl⟩
theorem Names_any (h : OrdAt w g names bl) : Calls Try.prog 18 #[.pointer (some ⟨g, 0, none⟩)] w (CloneTo names w) := by
  obtain ⟨A, c, h0, hL⟩ := h.list
  have HI := Lib.hid (Clone_any names A c w hL (by have := h.few; omega))
  clear h hL
  go_enter Try.func18, Try.ntmps18
  go_wp2_with (go_at_call 44; refine HI.out.mono ?_; rintro e w1 ⟨v, rfl, ho, hb⟩; have HP : Hid (CloneTo names w (.returned v) w1) := ⟨v, rfl, ho, hb⟩)
  go_ret
  exact HP.out
/-- above, by names -/
def aboveP (names : List Tx) (bl : List Nat) (x y : Tx) : Bool := decide (x ∈ names) && decide (y ∈ names) && rel bl (idx names x) (idx names y)
set_option maxHeartbeats 1000000 in
theorem Above_any (x y : Tx) (h : OrdAt w g names bl) : Calls Try.prog 21 #[.pointer (some ⟨g, 0, none⟩), .string (bs x), .string (bs y)] w fun e w' => e = .returned (.bool (aboveP names bl x y)) ∧ w = w' := by
  obtain ⟨k, h1, _, hc⟩ := h.sets
  have hf := h.few
  have I1 := Lib.hid (OIndex_any g names bl w x h)
  have I2 := Lib.hid (OIndex_any g names bl w y h)
  have tok1 : True := trivial
  by_cases hx : x ∈ names
  · by_cases hy : y ∈ names
    · have ha := idx_lt hx
      have hb := idx_lt hy
      have hca := hc _ ha
      have HH := Lib.hid (has_any (bl.getD (idx names x) 0) (idx names y) w (lo_32 h.lo _) (by omega))
      have HP : Hid (aboveP names bl x y = (bl.getD (idx names x) 0).testBit (idx names y)) := by show _ = _; unfold aboveP rel; simp [hx, hy]
      rw [idxI_in hx] at I1
      rw [idxI_in hy] at I2
      clear hx hy hc h
      generalize idx names x = a at *
      generalize idx names y = b at *
      generalize (bl.getD a 0).testBit b = r at *
      generalize bl.getD a 0 = s at *
      have g1 : decide ((0 : Int) ≤ a) = true := by simp
      have g2 : decide ((0 : Int) ≤ b) = true := by simp
      have g3 : (0 : Int) ≤ a := by omega
      have g4 : (a : Int) < names.length := by omega
      go_enter Try.func21, Try.ntmps21
      go_wp2_with (first
        | (have _t := tok1; go_at_call 19; refine I1.out.mono ?_; rintro e w1 ⟨rfl, rfl⟩; clear tok1 _t)
        | (go_at_call 19; refine I2.out.mono ?_; rintro e w2 ⟨rfl, rfl⟩)
        | (go_at_call 47; refine HH.out.mono ?_; rintro e w3 ⟨rfl, rfl⟩))
      go_ret
      exact ⟨ret_bool HP.out.symm, rfl⟩
    · have ha := idx_lt hx
      have HP : Hid (aboveP names bl x y = false) := by show _ = _; unfold aboveP; simp [hy]
      rw [idxI_in hx] at I1
      rw [idxI_out hy] at I2
      clear hx hy hc h
      generalize idx names x = a at *
      have g1 : decide ((0 : Int) ≤ a) = true := by simp
      go_enter Try.func21, Try.ntmps21
      go_wp2_with (first
        | (have _t := tok1; go_at_call 19; refine I1.out.mono ?_; rintro e w1 ⟨rfl, rfl⟩; clear tok1 _t)
        | (go_at_call 19; refine I2.out.mono ?_; rintro e w2 ⟨rfl, rfl⟩))
      go_ret
      exact ⟨ret_bool HP.out.symm, rfl⟩
  · have HP : Hid (aboveP names bl x y = false) := by show _ = _; unfold aboveP; simp [hx]
    rw [idxI_out hx] at I1
    clear hx hc h
    generalize idxI names y = b at *
    go_enter Try.func21, Try.ntmps21
    go_wp2_with (first
      | (have _t := tok1; go_at_call 19; refine I1.out.mono ?_; rintro e w1 ⟨rfl, rfl⟩; clear tok1 _t)
      | (go_at_call 19; refine I2.out.mono ?_; rintro e w2 ⟨rfl, rfl⟩))
    go_ret
    exact ⟨ret_bool HP.out.symm, rfl⟩

theorem or_val32 (a b : Nat) (ha : a < 16777216) (hb : b < 16777216) : bits .or .u32 (a : Int) (b : Int) = ((a ||| b : Nat) : Int) := or_val a b ha hb
set_option maxHeartbeats 1000000 in
theorem Down_any (set : Nat) (hs : set < 4294967296) (h : OrdAt w g names bl) : Calls Try.prog 23 #[.pointer (some ⟨g, 0, none⟩), .int .u32 set] w fun e w' => e = .returned (.int .u32 (downTo bl set names.length : Nat)) ∧ w = w' := by
  obtain ⟨b, h1, _, hc⟩ := h.sets
  have hf := h.few
  have HC := Lib.hid hc
  have HLO := Lib.hid h.lo
  clear hc h
  go_enter Try.func23, Try.ntmps23
  go_wp2
  go_loop [5, 13] (fun v i => ∃ k : Nat, k ≤ names.length ∧ v = .int .u32 (downTo bl set k : Nat) ∧ i = .int .i64 k) (fun _ i => names.length - (intOf i).toNat)
  case atStart => exact ⟨0, Nat.zero_le _, rfl, rfl⟩
  case round =>
    obtain ⟨k, hk, rfl, rfl⟩ := hrel
    by_cases hlt : k < names.length
    · have hx := HC.out k hlt
      have hlo := downTo_lo HLO.out set k
      have HH := Lib.hid (has_any set k w hs (by omega))
      have hsn : downTo bl set (k + 1) = if set.testBit k = true then downTo bl set k ||| bl.getD k 0 else downTo bl set k := rfl
      have hv := or_val _ _ hlo (HLO.out k)
      by_cases hb : set.testBit k = true
      · rw [if_pos hb] at hsn
        rw [hb] at HH
        have HS := Lib.hid hsn
        clear hsn hb
        generalize downTo bl set k ||| bl.getD k 0 = z at *
        generalize downTo bl set k = y at *
        generalize bl.getD k 0 = x at *
        go_wp2_with (go_at_call 47; refine HH.out.mono ?_; rintro e w1 ⟨rfl, rfl⟩)
        go_round
        case rel => exact ⟨k + 1, by omega, by rw [HS.out], by go_num⟩
        case measure => simp [intOf]; omega
      · rw [if_neg hb] at hsn
        have hb' : set.testBit k = false := by simpa using hb
        rw [hb'] at HH
        have HS := Lib.hid hsn
        clear hsn hb hb' hv
        generalize downTo bl set k = y at *
        generalize bl.getD k 0 = x at *
        go_wp2_with (go_at_call 47; refine HH.out.mono ?_; rintro e w1 ⟨rfl, rfl⟩)
        go_round
        case rel => exact ⟨k + 1, by omega, by rw [HS.out], by go_num⟩
        case measure => simp [intOf]; omega
    · have HK : Hid (k = names.length) := by show _ = _; omega
      go_wp2
      go_ret
      exact ⟨ret_int (by rw [HK.out]), rfl⟩
set_option maxHeartbeats 1000000 in
theorem Up_any (set : Nat) (hs : set < 4294967296) (h : OrdAt w g names bl) : Calls Try.prog 25 #[.pointer (some ⟨g, 0, none⟩), .int .u32 set] w fun e w' => e = .returned (.int .u32 (upperTo bl set names.length : Nat)) ∧ w = w' := by
  obtain ⟨b, h1, _, hc⟩ := h.sets
  have hf := h.few
  have HC := Lib.hid hc
  have HLO := Lib.hid h.lo
  clear hc h
  go_enter Try.func25, Try.ntmps25
  go_wp2
  go_loop [5, 13] (fun v i => ∃ k : Nat, k ≤ names.length ∧ v = .int .u32 (upperTo bl set k : Nat) ∧ i = .int .i64 k) (fun _ i => names.length - (intOf i).toNat)
  case atStart => exact ⟨0, Nat.zero_le _, rfl, rfl⟩
  case round =>
    obtain ⟨k, hk, rfl, rfl⟩ := hrel
    by_cases hlt : k < names.length
    · have hx := HC.out k hlt
      have hlo := upperTo_lo bl set k (by omega)
      have hand := u32_and_nat (bl.getD k 0) set (lo_32 HLO.out k) hs
      have hsn : upperTo bl set (k + 1) = if bl.getD k 0 &&& set = 0 then upperTo bl set k else upperTo bl set k ||| bitN k := rfl
      have hv := or_val _ _ hlo (pow_lo (show k < 24 by omega))
      by_cases hb : bl.getD k 0 &&& set = 0
      · rw [if_pos hb] at hsn
        rw [hb] at hand
        have HS := Lib.hid hsn
        clear hsn hb hv
        generalize upperTo bl set k = y at *
        generalize bl.getD k 0 = x at *
        go_wp2
        go_round
        case rel => exact ⟨k + 1, by omega, by rw [HS.out], by go_num⟩
        case measure => simp [intOf]; omega
      · rw [if_neg hb] at hsn
        have hne : (((bl.getD k 0 &&& set : Nat) : Int) != 0) = true := by rw [bne_iff_ne]; intro e; exact hb (by omega)
        have HS := Lib.hid hsn
        clear hsn hb
        generalize upperTo bl set k ||| bitN k = z at *
        generalize upperTo bl set k = y at *
        generalize bl.getD k 0 &&& set = q at *
        generalize bl.getD k 0 = x at *
        go_wp2_with (go_at_call 43; refine (bit_any k _ (by omega)).mono ?_; rintro e w1 ⟨rfl, rfl⟩)
        go_round
        case rel => exact ⟨k + 1, by omega, by rw [HS.out], by go_num⟩
        case measure => simp [intOf]; omega
    · have HK : Hid (k = names.length) := by show _ = _; omega
      go_wp2
      go_ret
      exact ⟨ret_int (by rw [HK.out]), rfl⟩
end
end Go.Proofs.Yteplbbikjcjheaa
