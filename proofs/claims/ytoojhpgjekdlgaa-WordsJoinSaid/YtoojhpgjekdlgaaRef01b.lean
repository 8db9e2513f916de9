/-
  The document's own names and numbers.
-/
import Derived.Test.YtoojhpgjekdlgaaRef01
namespace Go.Proofs.Ytoojhpgjekdlgaa
open Go.ChangeShapes Go.WideShapes Go.ChangeAt Go.RowKit

theorem nameB_of (c : Int) : nameB c = ((decide (97 ≤ c) && decide (c ≤ 122)) || (decide (48 ≤ c) && decide (c ≤ 57)) || (c == 95) || (c == 45)) := rfl
theorem RName_any (s : ByteArray) (w : World) (hs : s.size ≤ maxLen) : Calls Try.prog 18 #[.string s] w fun e w' => e = .returned (.bool (nameL s.data.toList)) ∧ w = w' := by
  unfold maxLen at hs
  go_enter Try.func18, Try.ntmps18
  go_wp2
  go_loop [3] (fun i => ∃ k : Nat, k ≤ s.size ∧ i = .int .i64 k ∧ allB nameB (s.data.toList.take k) = true) (fun i => s.size - (intOf i).toNat)
  case atStart => exact ⟨0, Nat.zero_le _, rfl, rfl⟩
  case round =>
    obtain ⟨k, hk, rfl, hb⟩ := hrel
    have HB := Lib.hid hb
    clear hb
    by_cases hlt : k < s.size
    · have hS := all_split nameB s k hlt
      have hT : allB nameB (s.data.toList.take (k + 1)) = nameB s[k].toNat := by rw [take_snoc s k hlt, allB_snoc, HB.out]; rfl
      have hF : nameB s[k].toNat = false → nameL s.data.toList = false := by
        intro h; unfold nameL; rw [hS, h]; simp
      rw [nameB_of] at hT hF
      have HT := Lib.hid hT; have HF := Lib.hid hF
      clear hS hT hF
      go_wp2
      all_goals first
        | (go_ret
           refine ⟨ret_bool (Eq.symm (HF.out ?_)), rfl⟩
           grind)
        | (go_round
           case rel => exact ⟨k + 1, by omega, by go_num, by rw [HT.out]; grind⟩
           case measure => simp [intOf]; omega)
    · have hA : nameL s.data.toList = (decide (1 ≤ s.size) && decide (s.size ≤ 12)) := by
        unfold nameL
        rw [← List.take_of_length_le (l := s.data.toList) (i := k) (by simp; omega), HB.out]
        rw [List.take_of_length_le (by simp; omega)]; simp
      have HA := Lib.hid hA
      clear hA
      go_wp2
      all_goals
        go_ret
        refine ⟨ret_bool ?_, rfl⟩
        rw [HA.out]
      all_goals grind

def rnum (l : List UInt8) : Int := if isNum l = true then valL l else -1
theorem rnum_no {l : List UInt8} (h : isNum l = false) : Ending.returned (.int .i64 (-1)) = .returned (.int .i64 (rnum l)) := by simp [rnum, h]
theorem RNumber_any (s : ByteArray) (w : World) (hs : s.size ≤ maxLen) : Calls Try.prog 16 #[.string s] w fun e w' => e = .returned (.int .i64 (rnum s.data.toList)) ∧ w = w' := by
  unfold maxLen at hs
  by_cases h1 : s.size < 1
  · have HN : Hid (isNum s.data.toList = false) := by show _ = _; simp [isNum]; omega
    go_enter Try.func16, Try.ntmps16
    go_wp2
    go_ret
    exact ⟨rnum_no HN.out, rfl⟩
  by_cases h2 : 9 < s.size
  · have HN : Hid (isNum s.data.toList = false) := by show _ = _; simp [isNum]; omega
    go_enter Try.func16, Try.ntmps16
    go_wp2
    go_ret
    exact ⟨rnum_no HN.out, rfl⟩
  have h3 : 0 < s.size := by omega
  have hh : s.data.toList.head? = some s[0] := by
    have := drop_cons s 0 h3
    rw [List.drop_zero] at this
    rw [this]; rfl
  by_cases h4 : (s[0].toNat : Int) = 48 ∧ 1 < s.size
  · have HN : Hid (isNum s.data.toList = false) := by
      show _ = _
      have : s[0] = 48 := UInt8.toNat_inj.1 (show s[0].toNat = 48 by omega)
      simp [isNum, hh, this, h4.2]
    obtain ⟨h5, h6⟩ := h4
    have h7 : ((s[0].toNat : Int) == 48) = true := by simp [h5]
    clear h5 hh
    go_enter Try.func16, Try.ntmps16
    go_wp2
    go_ret
    exact ⟨rnum_no HN.out, rfl⟩
  have HN : Hid (isNum s.data.toList = allB digB s.data.toList) := by
    show _ = _
    have e : (s.data.toList.head? == some (48 : UInt8) && decide (1 < s.data.toList.length)) = false := by
      rw [hh, size_list, Bool.eq_false_iff]
      intro h
      simp only [Bool.and_eq_true, decide_eq_true_eq, beq_iff_eq, Option.some.injEq] at h
      exact h4 ⟨by rw [h.1]; rfl, h.2⟩
    unfold isNum
    rw [e]
    simp; omega
  clear hh
  have main : ∀ (b c : Bool), decide ((1 : Int) < s.size) = b → ((s[0].toNat : Int) == 48) = c → (b && c) = false → Calls Try.prog 16 #[.string s] w fun e w' => e = .returned (.int .i64 (rnum s.data.toList)) ∧ w = w' := by
    intro b c hb hc hbc
    clear h4
    cases b
    all_goals
      try (have hc' : ((s[0].toNat : Int) == 48) = false := by rw [hc]; simpa using hbc)
      clear hbc hc
      go_enter Try.func16, Try.ntmps16
      go_wp2
      go_loop [3, 4] (fun n i => ∃ k : Nat, k ≤ s.size ∧ i = .int .i64 k ∧ n = .int .i64 (valL (s.data.toList.take k)) ∧ allB digB (s.data.toList.take k) = true) (fun _ i => s.size - (intOf i).toNat)
      case atStart => exact ⟨0, Nat.zero_le _, rfl, rfl, rfl⟩
      case round =>
        obtain ⟨k, hk, rfl, rfl, ha⟩ := hrel
        have hv : valL (s.data.toList.take k) < 1000000000 := pow_le_9 (valL_lt ha) (by simp; omega)
        have HA := Lib.hid ha
        clear ha
        by_cases hlt : k < s.size
        · by_cases hd : 48 ≤ (s[k].toNat : Int) ∧ (s[k].toNat : Int) ≤ 57
          · have HD : Hid (digB s[k].toNat = true) := by show _ = _; simp [digB]; omega
            have HS : Hid (valL (s.data.toList.take (k + 1)) = valL (s.data.toList.take k) * 10 + (s[k].toNat - 48)) := by show _ = _; rw [take_snoc s k hlt, valL_snoc]
            obtain ⟨hd1, hd2⟩ := hd
            generalize hn : valL (s.data.toList.take k) = n at hv HS
            have HNN := Lib.hid hn; clear hn
            go_wp2
            go_round
            case rel => exact ⟨k + 1, by omega, by go_num, by rw [HS.out]; congr 1; omega, by rw [take_snoc s k hlt, allB_snoc, HA.out, HD.out]; rfl⟩
            case measure => simp [intOf]; omega
          · have HD : Hid (digB s[k].toNat = false) := by show _ = _; simp [digB]; omega
            by_cases hd1 : (s[k].toNat : Int) < 48
            · clear hd
              go_wp2
              go_ret
              exact ⟨rnum_no (by rw [HN.out, all_split digB s k hlt, HD.out]; simp), rfl⟩
            · have hd2 : 57 < (s[k].toNat : Int) := by omega
              clear hd
              go_wp2
              go_ret
              exact ⟨rnum_no (by rw [HN.out, all_split digB s k hlt, HD.out]; simp), rfl⟩
        · have HT : Hid (s.data.toList.take k = s.data.toList) := by show _ = _; exact List.take_of_length_le (by simp; omega)
          go_wp2
          go_ret
          rw [HT.out] at HA ⊢
          exact ⟨ret_int (by unfold rnum; rw [HN.out, HA.out]; rfl), rfl⟩
  by_cases hb : (1 : Int) < s.size
  · refine main true _ (by simpa using hb) rfl ?_
    rw [Bool.true_and, beq_eq_false_iff_ne]
    exact fun h => h4 ⟨h, by omega⟩
  · exact main false _ (by simpa using hb) rfl rfl
theorem RNumber_yes (s : ByteArray) (n : Nat) (w : World) (hs : s.size ≤ maxLen) (h : isNum s.data.toList = true) (hv : valL s.data.toList = n) :
    Calls Try.prog 16 #[.string s] w fun e w' => e = .returned (.int .i64 n) ∧ w = w' :=
  (RNumber_any s w hs).mono fun e w' ⟨he, hw⟩ => ⟨by rw [he, rnum, if_pos h, hv], hw⟩
theorem RNumber_no (s : ByteArray) (w : World) (hs : s.size ≤ maxLen) (h : isNum s.data.toList = false) :
    Calls Try.prog 16 #[.string s] w fun e w' => e = .returned (.int .i64 (-1)) ∧ w = w' :=
  (RNumber_any s w hs).mono fun e w' ⟨he, hw⟩ => ⟨by rw [he, ← rnum_no h], hw⟩
end Go.Proofs.Ytoojhpgjekdlgaa
