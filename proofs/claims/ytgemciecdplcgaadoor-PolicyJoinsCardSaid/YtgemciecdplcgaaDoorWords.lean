/-
  Contracts of package words.
-/
import Derived.Test.YtgemciecdplcgaaDoorPlain01
import Derived.Below
import Derived.Laws.OwnMore
namespace Go.Proofs.YtgemciecdplcgaaDoor
set_option maxRecDepth 100000
open Go.ChangeShapes Go.WideShapes Go.ChangeAt Go.RowKit

theorem badColumn_any (s : ByteArray) (w : World) (hs : s.size ≤ maxLen) : Calls Tryd.prog 46 #[.string s] w fun e w' => e = .returned (.int .i64 (badCol s.data.toList 0)) ∧ w = w' := by
  unfold maxLen at hs
  go_enter Tryd.func46, Tryd.ntmps46
  go_wp2
  go_loop [3] (fun i => ∃ k : Nat, k ≤ s.size ∧ i = .int .i64 k ∧ badCol s.data.toList 0 = badCol (s.data.toList.drop k) k) (fun i => s.size - (intOf i).toNat)
  case atStart => exact ⟨0, Nat.zero_le _, rfl, rfl⟩
  case round =>
    obtain ⟨k, hk, rfl, hb⟩ := hrel
    have HB := Lib.hid hb
    clear hb
    go_wp2
    · have h : k < s.size := by assumption
      go_ret
      refine ⟨ret_int ?_, rfl⟩
      rw [HB.out, badCol_drop s k h, if_pos ‹_›]; rfl
    · have h : k < s.size := by assumption
      go_round
      case rel => exact ⟨k + 1, by omega, by go_num, by rw [HB.out, badCol_drop s k h, if_neg (by omega)]⟩
      case measure => simp [intOf]; omega
    · have h : k < s.size := by assumption
      go_ret
      refine ⟨ret_int ?_, rfl⟩
      rw [HB.out, badCol_drop s k h, if_pos (.inl ‹_›)]; rfl
    · go_ret
      refine ⟨ret_int ?_, rfl⟩
      rw [HB.out, drop_end s k (by omega)]; rfl

theorem word_drop (s : ByteArray) (k : Nat) (h : k < s.size) : word (s.data.toList.drop k) = if (s[k].toNat : Int) = 32 then [] else s[k] :: word (s.data.toList.drop (k + 1)) := by
  rw [drop_cons s k h]
  by_cases hb : s[k] = 32
  · rw [hb, word_nil_blank]; rfl
  · rw [word_cons hb, if_neg]
    intro e
    apply hb
    apply UInt8.toNat_inj.1
    show s[k].toNat = 32
    omega
theorem wordEnd_any (s : ByteArray) (at_ : Nat) (w : World) (hs : s.size ≤ maxLen) (ha : at_ ≤ s.size) :
    Calls Tryd.prog 47 #[.string s, .int .i64 at_] w fun e w' => e = .returned (.int .i64 (at_ + (word (s.data.toList.drop at_)).length : Nat)) ∧ w = w' := by
  unfold maxLen at hs
  go_enter Tryd.func47, Tryd.ntmps47
  go_wp2
  go_loop [1] (fun i => ∃ k : Nat, k ≤ s.size ∧ i = .int .i64 k ∧ at_ + (word (s.data.toList.drop at_)).length = k + (word (s.data.toList.drop k)).length) (fun i => s.size - (intOf i).toNat)
  case atStart => exact ⟨at_, ha, rfl, rfl⟩
  case round =>
    obtain ⟨k, hk, rfl, hb⟩ := hrel
    have HB := Lib.hid hb
    clear hb
    by_cases hlt : k < s.size
    · by_cases hc : (s[k].toNat : Int) = 32
      · have hd : ((s[k].toNat : Int) != 32) = false := by simp [hc]
        have HW : Hid (word (s.data.toList.drop k) = []) := by rw [word_drop s k hlt, if_pos hc]; exact rfl
        clear hc
        go_wp2
        go_ret
        refine ⟨ret_int ?_, rfl⟩
        have := HB.out; rw [HW.out] at this; simp at this ⊢; omega
      · have hd : ((s[k].toNat : Int) != 32) = true := by simp; omega
        have HW : Hid ((word (s.data.toList.drop k)).length = (word (s.data.toList.drop (k + 1))).length + 1) := by rw [word_drop s k hlt, if_neg hc]; exact rfl
        clear hc
        go_wp2
        go_round
        case rel => exact ⟨k + 1, by omega, by go_num, by rw [HB.out, HW.out]; omega⟩
        case measure => simp [intOf]; omega
    · go_wp2
      go_ret
      refine ⟨ret_int ?_, rfl⟩
      have := HB.out; rw [drop_end s k (by omega)] at this; simp [word, upTo] at this ⊢; omega

theorem Name_any (s : ByteArray) (w : World) (hs : s.size ≤ maxLen) : Calls Tryd.prog 69 #[.string s] w fun e w' => e = .returned (.bool (nameL s.data.toList)) ∧ w = w' := by
  unfold maxLen at hs
  by_cases h1 : s.size < 1
  · go_enter Tryd.func69, Tryd.ntmps69
    go_wp2
    go_ret
    refine ⟨ret_bool ?_, rfl⟩
    simp [nameL]; omega
  by_cases h2 : 12 < s.size
  · go_enter Tryd.func69, Tryd.ntmps69
    go_wp2
    go_ret
    refine ⟨ret_bool ?_, rfl⟩
    simp [nameL]; omega
  have HN : Hid (nameL s.data.toList = allB nameB s.data.toList) := by
    show _ = _
    simp [nameL]; omega
  go_enter Tryd.func69, Tryd.ntmps69
  go_wp2
  go_loop [3] (fun i => ∃ k : Nat, k ≤ s.size ∧ i = .int .i64 k ∧ allB nameB (s.data.toList.take k) = true) (fun i => s.size - (intOf i).toNat)
  case atStart => exact ⟨0, Nat.zero_le _, rfl, rfl⟩
  case round =>
    obtain ⟨k, hk, rfl, hb⟩ := hrel
    have HB := Lib.hid hb
    clear hb
    by_cases hlt : k < s.size
    · rcases bor_cases (a := nameB s[k].toNat) with hd | hd
      · have HD := Lib.hid hd; clear hd
        go_wp2_with (go_at_call 77; refine (nameByte_any _ _).mono ?_; rintro e w' ⟨rfl, rfl⟩; rw [HD.out])
        go_round
        case rel => exact ⟨k + 1, by omega, by go_num, by rw [take_snoc s k hlt, allB_snoc, HB.out, HD.out]; rfl⟩
        case measure => simp [intOf]; omega
      · have HD := Lib.hid hd; clear hd
        go_wp2_with (go_at_call 77; refine (nameByte_any _ _).mono ?_; rintro e w' ⟨rfl, rfl⟩; rw [HD.out])
        go_ret
        refine ⟨ret_bool ?_, rfl⟩
        rw [HN.out, all_split nameB s k hlt, HD.out]; simp
    · go_wp2
      go_ret
      refine ⟨ret_bool ?_, rfl⟩
      rw [HN.out, ← HB.out, List.take_of_length_le (by simp; omega)]

/-- what Number answers -/
def numRes (l : List UInt8) : Go.Value := .tuple #[.int .i64 (if isNum l = true then valL l else 0 : Nat), .bool (isNum l)]
theorem numRes_no {l : List UInt8} (h : isNum l = false) : Ending.returned (.tuple #[.int .i64 0, .bool false]) = .returned (numRes l) := by simp [numRes, h]
theorem numRes_yes {l : List UInt8} (h : isNum l = true) : Ending.returned (.tuple #[.int .i64 (valL l : Nat), .bool true]) = .returned (numRes l) := by simp [numRes, h]
theorem pow_le_9 {n k : Nat} (h : n < 10 ^ k) (hk : k ≤ 9) : n < 1000000000 :=
  Nat.lt_of_lt_of_le h (Nat.pow_le_pow_right (by omega) hk)
theorem Number_any (s : ByteArray) (w : World) (hs : s.size ≤ maxLen) : Calls Tryd.prog 70 #[.string s] w fun e w' => e = .returned (numRes s.data.toList) ∧ w = w' := by
  unfold maxLen at hs
  by_cases h1 : s.size < 1
  · have HN : Hid (isNum s.data.toList = false) := by show _ = _; simp [isNum]; omega
    go_enter Tryd.func70, Tryd.ntmps70
    go_wp2
    go_ret2
    exact ⟨numRes_no HN.out, rfl⟩
  by_cases h2 : 9 < s.size
  · have HN : Hid (isNum s.data.toList = false) := by show _ = _; simp [isNum]; omega
    go_enter Tryd.func70, Tryd.ntmps70
    go_wp2
    go_ret2
    exact ⟨numRes_no HN.out, rfl⟩
  have h3 : 0 < s.size := by omega
  have hh : s.data.toList.head? = some s[0] := by
    have := drop_cons s 0 h3
    rw [List.drop_zero] at this
    rw [this]; rfl
  by_cases h4 : (s[0].toNat : Int) = 48 ∧ 1 < s.size
  · have HN : Hid (isNum s.data.toList = false) := by
      show _ = _
      have : s[0] = 48 := UInt8.toNat_inj.1 (show s[0].toNat = 48 by omega)
      simp [isNum, hh, this, h4.2]
    obtain ⟨h5, h6⟩ := h4
    have h7 : ((s[0].toNat : Int) == 48) = true := by simp [h5]
    clear h5 hh
    go_enter Tryd.func70, Tryd.ntmps70
    go_wp2
    go_ret2
    exact ⟨numRes_no HN.out, rfl⟩
  have HN : Hid (isNum s.data.toList = allB digB s.data.toList) := by
    show _ = _
    have e : (s.data.toList.head? == some (48 : UInt8) && decide (1 < s.data.toList.length)) = false := by
      rw [hh, size_list]
      rw [Bool.eq_false_iff]
      intro h
      simp only [Bool.and_eq_true, decide_eq_true_eq, beq_iff_eq, Option.some.injEq] at h
      exact h4 ⟨by rw [h.1]; rfl, h.2⟩
    unfold isNum
    rw [e]
    simp; omega
  clear hh
  have main : ∀ (b : Bool), ((s[0].toNat : Int) == 48) = b → (b = true → ¬ 1 < s.size) → Calls Tryd.prog 70 #[.string s] w fun e w' => e = .returned (numRes s.data.toList) ∧ w = w' := by
    intro b hb hb1
    have hg : (b && decide ((1 : Int) < s.size)) = false := by
      cases b
      · rfl
      · have := hb1 rfl; simp; omega
    clear h4 hb1
    cases b
    all_goals
      try have hg' : decide ((1 : Int) < s.size) = false := by simpa using hg
      clear hg
      go_enter Tryd.func70, Tryd.ntmps70
      go_wp2
      go_loop [4, 5] (fun n i => ∃ k : Nat, k ≤ s.size ∧ i = .int .i64 k ∧ n = .int .i64 (valL (s.data.toList.take k)) ∧ allB digB (s.data.toList.take k) = true) (fun _ i => s.size - (intOf i).toNat)
      case atStart => exact ⟨0, Nat.zero_le _, rfl, rfl, rfl⟩
      case round =>
        obtain ⟨k, hk, rfl, rfl, ha⟩ := hrel
        have hv : valL (s.data.toList.take k) < 1000000000 := pow_le_9 (valL_lt ha) (by simp; omega)
        have HA := Lib.hid ha
        clear ha
        by_cases hlt : k < s.size
        · by_cases hd : 48 ≤ (s[k].toNat : Int) ∧ (s[k].toNat : Int) ≤ 57
          · have HD : Hid (digB s[k].toNat = true) := by show _ = _; simp [digB]; omega
            have HS : Hid (valL (s.data.toList.take (k + 1)) = valL (s.data.toList.take k) * 10 + (s[k].toNat - 48)) := by show _ = _; rw [take_snoc s k hlt, valL_snoc]
            obtain ⟨hd1, hd2⟩ := hd
            generalize hn : valL (s.data.toList.take k) = n at hv HS
            have HNN := Lib.hid hn; clear hn
            go_wp2_with (go_at_call 78; refine (digit_any _ _).mono ?_; rintro e w' ⟨rfl, rfl⟩; rw [HD.out])
            go_round
            case rel => exact ⟨k + 1, by omega, by go_num, by rw [HS.out]; congr 1; omega, by rw [take_snoc s k hlt, allB_snoc, HA.out, HD.out]; rfl⟩
            case measure => simp [intOf]; omega
          · have HD : Hid (digB s[k].toNat = false) := by show _ = _; simp [digB]; omega
            clear hd
            go_wp2_with (go_at_call 78; refine (digit_any _ _).mono ?_; rintro e w' ⟨rfl, rfl⟩; rw [HD.out])
            go_ret2
            exact ⟨numRes_no (by rw [HN.out, all_split digB s k hlt, HD.out]; simp), rfl⟩
        · have HT : Hid (s.data.toList.take k = s.data.toList) := by show _ = _; exact List.take_of_length_le (by simp; omega)
          go_wp2
          go_ret2
          rw [HT.out] at HA ⊢
          exact ⟨numRes_yes (by rw [HN.out]; exact HA.out), rfl⟩
  rcases bor_cases (a := ((s[0].toNat : Int) == 48)) with h | h
  · exact main _ h (fun _ h1 => h4 ⟨by simpa using h, h1⟩)
  · exact main _ h (fun h => by cases h)
theorem Number_yes (s : ByteArray) (n : Nat) (w : World) (hs : s.size ≤ maxLen) (h : isNum s.data.toList = true) (hv : valL s.data.toList = n) :
    Calls Tryd.prog 70 #[.string s] w fun e w' => e = .returned (.tuple #[.int .i64 n, .bool true]) ∧ w = w' :=
  (Number_any s w hs).mono fun e w' ⟨he, hw⟩ => ⟨by rw [he, ← numRes_yes h, hv], hw⟩
theorem Number_no (s : ByteArray) (w : World) (hs : s.size ≤ maxLen) (h : isNum s.data.toList = false) :
    Calls Tryd.prog 70 #[.string s] w fun e w' => e = .returned (.tuple #[.int .i64 0, .bool false]) ∧ w = w' :=
  (Number_any s w hs).mono fun e w' ⟨he, hw⟩ => ⟨by rw [he, ← numRes_no h], hw⟩
end Go.Proofs.YtgemciecdplcgaaDoor
