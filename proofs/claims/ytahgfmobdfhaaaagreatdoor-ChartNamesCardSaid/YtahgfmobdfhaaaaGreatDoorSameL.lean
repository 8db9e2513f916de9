/-
  Bytes; the plain; words.Split.
-/
import Derived.Test.YtahgfmobdfhaaaaGreatDoorWth
import Derived.WalkKit
import Derived.ProofKit
import Derived.OpenShut
import Derived.BigQuiet
import Derived.BigCall
import Derived.Deep.QuietTactic
import Derived.Lib.Hide
import Derived.Lib.Bytealg
import Derived.Lib.Strings
import Derived.Laws.Externs
import Derived.Outline
import Derived.Below
import Derived.Laws.OwnMore
import Derived.OwnWalk
import Derived.Deep.DeepMust
import Derived.WalkSpells
import Derived.Laws.DeepStrings4
import Derived.Maps.OwnSet
namespace Go.Proofs.YtahgfmobdfhaaaaGreatDoor
set_option maxRecDepth 100000
open Go.ChangeShapes Go.WideShapes Go.ChangeAt Go.RowKit

def digB (c : Int) : Bool := decide (48 ≤ c) && decide (c ≤ 57)
def nameB (c : Int) : Bool := (decide (97 ≤ c) && decide (c ≤ 122)) || digB c || (c == 95) || (c == 45)

theorem digit_any (c : Int) (w : World) : Calls Tryz.prog 102 #[.int .u8 c] w fun e w' => e = .returned (.bool (digB c)) ∧ w = w' := by
  go_enter Tryz.func102, Tryz.ntmps102
  go_wp2
  all_goals (go_ret; refine ⟨ret_bool ?_, rfl⟩)
  all_goals (grind [digB])
theorem nameByte_any (c : Int) (w : World) : Calls Tryz.prog 79 #[.int .u8 c] w fun e w' => e = .returned (.bool (nameB c)) ∧ w = w' := by
  go_enter Tryz.func79, Tryz.ntmps79
  go_wp2_with (go_at_call 102; refine (digit_any _ _).mono ?_; rintro e w' ⟨rfl, rfl⟩)
  all_goals (go_ret; refine ⟨ret_bool ?_, rfl⟩)
  all_goals (grind [nameB])

/-- strings.Cut and what it calls, at a separator of one byte -/
theorem IndexByte_any (s : ByteArray) (c : Int) (w : World) :
    Calls Tryz.prog 121 #[.string s, .int .u8 c] w fun e w' => e = .returned (.int .i64 (Lib.indexByte s.data.toList c.toNat.toUInt8)) ∧ w = w' := by
  go_enter Tryz.func121, Tryz.ntmps121
  go_wp2
  rw [run_callFunc_extern Tryz.func127 (by kernel_rfl) (by kernel_rfl) (by kernel_rfl) (e := Extern.BytealgIndexByte.indexByte) (by kernel_rfl), Lib.run_indexByteString]
  simp only [Result.andThen]
  rw [Oper.upon_value]
  go_wp2
  go_ret
  exact ⟨rfl, rfl⟩
theorem Index_one (s : ByteArray) (c : UInt8) (w : World) :
    Calls Tryz.prog 115 #[.string s, .string ⟨#[c]⟩] w fun e w' => e = .returned (.int .i64 (Lib.indexByte s.data.toList c)) ∧ w = w' := by
  go_enter Tryz.func115, Tryz.ntmps115
  go_wp2_with (go_at_call 121; refine (IndexByte_any _ _ _).mono ?_; rintro e w' ⟨rfl, rfl⟩)
  · have h : ([c] == s.toList) = true := by assumption
    go_ret
    refine ⟨?_, rfl⟩
    have e : s.data.toList = [c] := by rw [← Lib.toList_data]; exact (beq_iff_eq.1 h).symm
    rw [e]
    simp [Lib.indexByte]
  · go_ret
    exact ⟨rfl, rfl⟩
/-- what stands ahead of the first byte c -/
def upTo (c : UInt8) (l : List UInt8) : List UInt8 := l.takeWhile (· != c)
theorem indexByte_upTo (c : UInt8) (l : List UInt8) : (Lib.indexByte l c = -1 ∧ upTo c l = l) ∨ ((upTo c l).length < l.length ∧ Lib.indexByte l c = (upTo c l).length) := by
  induction l with
  | nil => exact .inl ⟨rfl, rfl⟩
  | cons b l ih =>
    unfold Lib.indexByte upTo
    by_cases h : b = c
    · subst h; simp
    · have h1 : (b == c) = false := by simpa using h
      have h2 : (b != c) = true := by simp [h]
      rw [List.takeWhile_cons, h1, if_pos h2]
      unfold upTo at ih
      rcases ih with ⟨e, t⟩ | ⟨t, e⟩
      · left; simp [e, t]
      · right
        have : (Lib.indexByte l c == -1) = false := by rw [beq_eq_false_iff_ne]; omega
        simp [e, t]
theorem upTo_prefix (c : UInt8) (l : List UInt8) : l.take (upTo c l).length = upTo c l := by
  unfold upTo
  exact List.prefix_iff_eq_take.1 (List.takeWhile_prefix _) |>.symm
/-- the post of Cut: the text p, and any rest -/
def CutTo (p : ByteArray) (w : World) (e : Ending) (w' : World) : Prop := ∃ q b n, e = .returned (.tuple #[.string p, .string q, .bool b]) ∧ w' = w.drewN n
theorem cutTo_mk {p p' q : ByteArray} {b : Bool} {w : World} {n : Nat} (h : p' = p) : CutTo p w (.returned (.tuple #[.string p', .string q, .bool b])) (w.drewN n) := ⟨q, b, n, by rw [h], rfl⟩
theorem slCut_one (s : ByteArray) (c : UInt8) (w : World) (hs : s.size ≤ maxLen) :
    Calls Tryz.prog 106 #[.string s, .string ⟨#[c]⟩] w (CutTo (bs (upTo c s.data.toList)) w) := by
  unfold maxLen at hs
  rcases indexByte_upTo c s.data.toList with ⟨e, t⟩ | ⟨t, e⟩
  · have HE := Lib.hid e; have HT := Lib.hid t; clear e t
    go_enter Tryz.func106, Tryz.ntmps106
    go_wp2_with (go_at_call 115; refine (Index_one _ _ _).mono ?_; rintro e w' ⟨rfl, rfl⟩; rw [HE.out])
    go_ret3
    exact cutTo_mk (n := 0) (by rw [HT.out, bs_list])
  · have HE := Lib.hid e; clear e
    rw [size_list] at t
    generalize hk : (upTo c s.data.toList).length = k at t HE
    have HK := Lib.hid hk; clear hk
    go_enter Tryz.func106, Tryz.ntmps106
    go_wp2_with (go_at_call 115; refine (Index_one _ _ _).mono ?_; rintro e w' ⟨rfl, rfl⟩; rw [HE.out])
    have hw : IntKind.i64.wrap ((k : Int) + 1) = (k : Int) + 1 := by rw [IntKind.wrap_i64]; omega
    have h0 : (0 : Int) ≤ (k : Int) + 1 := by omega
    have h1 : ((k : Int) + 1).toNat = k + 1 := by omega
    go_quiet (fail)
    clear hw h0 h1
    go_wp2
    go_ret3
    exact cutTo_mk (by rw [extract_bs, List.drop_zero, Nat.sub_zero, ← HK.out, upTo_prefix])
theorem Cut_one (s : ByteArray) (c : UInt8) (w : World) (hs : s.size ≤ maxLen) :
    Calls Tryz.prog 86 #[.string s, .string ⟨#[c]⟩] w (CutTo (bs (upTo c s.data.toList)) w) := by
  go_enter Tryz.func86, Tryz.ntmps86
  go_wp2_with (go_at_call 106; refine (slCut_one _ _ _ hs).mono ?_; rintro e w' ⟨q, b, n, rfl, rfl⟩)
  go_ret3
  exact cutTo_mk rfl
end Go.Proofs.YtahgfmobdfhaaaaGreatDoor
namespace Go.Proofs.YtahgfmobdfhaaaaGreatDoor
set_option maxRecDepth 100000

/-- the column of the first byte that may not be; 0: none -/
def badCol : List UInt8 → Nat → Nat
  | [], _ => 0
  | b :: r, i => if b.toNat < 32 ∨ 126 < b.toNat then i + 1 else badCol r (i + 1)
theorem badCol_drop (s : ByteArray) (k : Nat) (h : k < s.size) : badCol (s.data.toList.drop k) k = if (s[k].toNat : Int) < 32 ∨ 126 < (s[k].toNat : Int) then k + 1 else badCol (s.data.toList.drop (k + 1)) (k + 1) := by
  rw [drop_cons s k h, badCol]; congr 1; simp; omega
/-- what is ahead of the first blank -/
def word (l : List UInt8) : List UInt8 := upTo 32 l
theorem word_le (l : List UInt8) : (word l).length ≤ l.length := (List.takeWhile_sublist _).length_le
theorem word_nil_blank (r : List UInt8) : word (32 :: r) = [] := by simp [word, upTo]
theorem word_cons {b : UInt8} (h : b ≠ 32) (r : List UInt8) : word (b :: r) = b :: word r := by simp [word, upTo, h]
theorem word_split (l : List UInt8) : l = word l ++ l.drop (word l).length ∧ (l.drop (word l).length = [] ∨ ∃ r, l.drop (word l).length = 32 :: r) := by
  induction l with
  | nil => exact ⟨rfl, .inl rfl⟩
  | cons b r ih =>
    by_cases h : b = 32
    · subst h; rw [word_nil_blank]; exact ⟨rfl, .inr ⟨r, rfl⟩⟩
    · rw [word_cons h]
      refine ⟨?_, ?_⟩
      · conv => lhs; rw [ih.1]
        simp
      · simpa using ih.2

/-- the words of a part, each with its column -/
def toks (l : List UInt8) (c : Nat) : List (Nat × List UInt8) :=
  match l with
  | [] => []
  | b :: r => if b = 32 then toks r (c + 1) else (c, word (b :: r)) :: toks ((b :: r).drop (word (b :: r)).length) (c + (word (b :: r)).length)
termination_by l.length
decreasing_by
  · simp
  · rename_i h
    rw [word_cons h]; simp; omega
theorem toks_nil (c : Nat) : toks [] c = [] := by rw [toks]
theorem toks_blank (r : List UInt8) (c : Nat) : toks (32 :: r) c = toks r (c + 1) := by rw [toks]; simp
theorem toks_word {l : List UInt8} (h : word l ≠ []) (c : Nat) : toks l c = (c, word l) :: toks (l.drop (word l).length) (c + (word l).length) := by
  cases l with
  | nil => exact absurd rfl h
  | cons b r =>
    have hb : b ≠ 32 := by intro e; subst e; exact h (word_nil_blank r)
    rw [toks, if_neg hb]
/-- one step on, whatever stands there -/
theorem toks_step (l : List UInt8) (c : Nat) : toks l c = (if (word l).length = 0 then [] else [(c, word l)]) ++ toks (l.drop ((word l).length + 1)) (c + (word l).length + 1) := by
  have hs := (word_split l).2
  have key : toks (l.drop (word l).length) (c + (word l).length) = toks (l.drop ((word l).length + 1)) (c + (word l).length + 1) := by
    rw [← List.drop_drop]
    rcases hs with h | ⟨r, h⟩
    · rw [h]; simp [toks_nil]
    · rw [h, toks_blank]; rfl
  by_cases h : (word l).length = 0
  · have h0 : word l = [] := List.eq_nil_of_length_eq_zero h
    rw [if_pos h, List.nil_append, ← key, h0]; rfl
  · rw [if_neg h, toks_word (fun e => h (by rw [e]; rfl)), key]; rfl
theorem toks_count (l : List UInt8) : ∀ c, 2 * (toks l c).length ≤ l.length + 1 := by
  suffices H : ∀ n (l : List UInt8), l.length ≤ n → ∀ c, 2 * (toks l c).length ≤ l.length + 1 from H l.length l (Nat.le_refl _)
  intro n
  induction n with
  | zero => intro l h c; have : l = [] := List.eq_nil_of_length_eq_zero (by omega); subst this; simp [toks_nil]
  | succ n ih =>
    intro l h c
    rw [toks_step]
    by_cases hw : (word l).length = 0
    · rw [if_pos hw]
      have := ih (l.drop ((word l).length + 1)) (by simp; omega) (c + (word l).length + 1)
      simp at this ⊢; omega
    · rw [if_neg hw]
      by_cases hl : (word l).length + 1 ≤ l.length
      · have := ih (l.drop ((word l).length + 1)) (by simp; omega) (c + (word l).length + 1)
        simp at this ⊢; omega
      · rw [List.drop_of_length_le (by omega), toks_nil]
        have := word_le l
        simp; omega

/-- a line's part ahead of its comment; its words; its first byte that may not be -/
def partL (l : List UInt8) : List UInt8 := upTo 35 l
def badL (l : List UInt8) : Nat := badCol (partL l) 0
def wordsL (l : List UInt8) : List (Nat × List UInt8) := if badL l = 0 then toks (partL l) 1 else []
theorem partL_le (l : List UInt8) : (partL l).length ≤ l.length := (List.takeWhile_sublist _).length_le

/-- the cells of words -/
def wcell (x : Nat × List UInt8) : List Go.Value := [.string (bs x.2), .int .i64 x.1]
def wcells (l : List (Nat × List UInt8)) : List Go.Value := l.flatMap wcell
theorem wcells_append (l m : List (Nat × List UInt8)) : wcells (l ++ m) = wcells l ++ wcells m := List.flatMap_append

/-- names and numbers -/
def allB (p : Int → Bool) (l : List UInt8) : Bool := l.all fun b => p b.toNat
def nameL (l : List UInt8) : Bool := decide (1 ≤ l.length) && decide (l.length ≤ 12) && allB nameB l
def valL (l : List UInt8) : Nat := l.foldl (fun n b => n * 10 + (b.toNat - 48)) 0
def isNum (l : List UInt8) : Bool := decide (1 ≤ l.length) && decide (l.length ≤ 9) && !(l.head? == some 48 && decide (1 < l.length)) && allB digB l
theorem valL_snoc (l : List UInt8) (b : UInt8) : valL (l ++ [b]) = valL l * 10 + (b.toNat - 48) := by simp [valL]
theorem take_snoc (s : ByteArray) (k : Nat) (h : k < s.size) : s.data.toList.take (k + 1) = s.data.toList.take k ++ [s[k]] := by
  rw [List.take_succ_eq_append_getElem (by simpa using h)]; rfl
theorem allB_snoc (p : Int → Bool) (l : List UInt8) (b : UInt8) : allB p (l ++ [b]) = (allB p l && p b.toNat) := by simp [allB]
theorem valL_lt {l : List UInt8} (h : allB digB l = true) : valL l < 10 ^ l.length := by
  suffices H : ∀ (l : List UInt8), allB digB l = true → ∀ n m : Nat, n < 10 ^ m → l.foldl (fun n b => n * 10 + (b.toNat - 48)) n < 10 ^ (m + l.length) from by unfold valL; simpa using H l h 0 0 (by simp)
  intro l
  induction l with
  | nil => intro _ n m h; simpa using h
  | cons b r ih =>
    intro h n m hn
    simp only [allB, List.all_cons, Bool.and_eq_true] at h
    have hb : b.toNat ≤ 57 := by have := h.1; simp [digB] at this; omega
    rw [List.foldl_cons, List.length_cons, show m + (r.length + 1) = (m + 1) + r.length from by omega]
    exact ih h.2 _ _ (by rw [Nat.pow_succ]; omega)
theorem all_split (p : Int → Bool) (s : ByteArray) (k : Nat) (h : k < s.size) : allB p s.data.toList = (allB p (s.data.toList.take k) && (p s[k].toNat && allB p (s.data.toList.drop (k + 1)))) := by
  conv => lhs; rw [← List.take_append_drop k s.data.toList, drop_cons s k h]
  simp [allB]
end Go.Proofs.YtahgfmobdfhaaaaGreatDoor
namespace Go.Proofs.YtahgfmobdfhaaaaGreatDoor
set_option maxRecDepth 100000
open Go.ChangeShapes Go.WideShapes Go.ChangeAt Go.RowKit

theorem badColumn_any (s : ByteArray) (w : World) (hs : s.size ≤ maxLen) : Calls Tryz.prog 87 #[.string s] w fun e w' => e = .returned (.int .i64 (badCol s.data.toList 0)) ∧ w = w' := by
  unfold maxLen at hs
  go_enter Tryz.func87, Tryz.ntmps87
  go_wp2
  go_loop [3] (fun i => ∃ k : Nat, k ≤ s.size ∧ i = .int .i64 k ∧ badCol s.data.toList 0 = badCol (s.data.toList.drop k) k) (fun i => s.size - (intOf i).toNat)
  case atStart => exact ⟨0, Nat.zero_le _, rfl, rfl⟩
  case round =>
    obtain ⟨k, hk, rfl, hb⟩ := hrel
    have HB := Lib.hid hb
    clear hb
    go_wp2
    · have h : k < s.size := by assumption
      go_ret
      refine ⟨ret_int ?_, rfl⟩
      rw [HB.out, badCol_drop s k h, if_pos ‹_›]; rfl
    · have h : k < s.size := by assumption
      go_round
      case rel => exact ⟨k + 1, by omega, by go_num, by rw [HB.out, badCol_drop s k h, if_neg (by omega)]⟩
      case measure => simp [intOf]; omega
    · have h : k < s.size := by assumption
      go_ret
      refine ⟨ret_int ?_, rfl⟩
      rw [HB.out, badCol_drop s k h, if_pos (.inl ‹_›)]; rfl
    · go_ret
      refine ⟨ret_int ?_, rfl⟩
      rw [HB.out, drop_end s k (by omega)]; rfl

theorem word_drop (s : ByteArray) (k : Nat) (h : k < s.size) : word (s.data.toList.drop k) = if (s[k].toNat : Int) = 32 then [] else s[k] :: word (s.data.toList.drop (k + 1)) := by
  rw [drop_cons s k h]
  by_cases hb : s[k] = 32
  · rw [hb, word_nil_blank]; rfl
  · rw [word_cons hb, if_neg]
    intro e
    apply hb
    apply UInt8.toNat_inj.1
    show s[k].toNat = 32
    omega
theorem wordEnd_any (s : ByteArray) (at_ : Nat) (w : World) (hs : s.size ≤ maxLen) (ha : at_ ≤ s.size) :
    Calls Tryz.prog 88 #[.string s, .int .i64 at_] w fun e w' => e = .returned (.int .i64 (at_ + (word (s.data.toList.drop at_)).length : Nat)) ∧ w = w' := by
  unfold maxLen at hs
  go_enter Tryz.func88, Tryz.ntmps88
  go_wp2
  go_loop [1] (fun i => ∃ k : Nat, k ≤ s.size ∧ i = .int .i64 k ∧ at_ + (word (s.data.toList.drop at_)).length = k + (word (s.data.toList.drop k)).length) (fun i => s.size - (intOf i).toNat)
  case atStart => exact ⟨at_, ha, rfl, rfl⟩
  case round =>
    obtain ⟨k, hk, rfl, hb⟩ := hrel
    have HB := Lib.hid hb
    clear hb
    by_cases hlt : k < s.size
    · by_cases hc : (s[k].toNat : Int) = 32
      · have hd : ((s[k].toNat : Int) != 32) = false := by simp [hc]
        have HW : Hid (word (s.data.toList.drop k) = []) := by rw [word_drop s k hlt, if_pos hc]; exact rfl
        clear hc
        go_wp2
        go_ret
        refine ⟨ret_int ?_, rfl⟩
        have := HB.out; rw [HW.out] at this; simp at this ⊢; omega
      · have hd : ((s[k].toNat : Int) != 32) = true := by simp; omega
        have HW : Hid ((word (s.data.toList.drop k)).length = (word (s.data.toList.drop (k + 1))).length + 1) := by rw [word_drop s k hlt, if_neg hc]; exact rfl
        clear hc
        go_wp2
        go_round
        case rel => exact ⟨k + 1, by omega, by go_num, by rw [HB.out, HW.out]; omega⟩
        case measure => simp [intOf]; omega
    · go_wp2
      go_ret
      refine ⟨ret_int ?_, rfl⟩
      have := HB.out; rw [drop_end s k (by omega)] at this; simp [word, upTo] at this ⊢; omega

theorem Name_any (s : ByteArray) (w : World) (hs : s.size ≤ maxLen) : Calls Tryz.prog 36 #[.string s] w fun e w' => e = .returned (.bool (nameL s.data.toList)) ∧ w = w' := by
  unfold maxLen at hs
  by_cases h1 : s.size < 1
  · go_enter Tryz.func36, Tryz.ntmps36
    go_wp2
    go_ret
    refine ⟨ret_bool ?_, rfl⟩
    simp [nameL]; omega
  by_cases h2 : 12 < s.size
  · go_enter Tryz.func36, Tryz.ntmps36
    go_wp2
    go_ret
    refine ⟨ret_bool ?_, rfl⟩
    simp [nameL]; omega
  have HN : Hid (nameL s.data.toList = allB nameB s.data.toList) := by
    show _ = _
    simp [nameL]; omega
  go_enter Tryz.func36, Tryz.ntmps36
  go_wp2
  go_loop [3] (fun i => ∃ k : Nat, k ≤ s.size ∧ i = .int .i64 k ∧ allB nameB (s.data.toList.take k) = true) (fun i => s.size - (intOf i).toNat)
  case atStart => exact ⟨0, Nat.zero_le _, rfl, rfl⟩
  case round =>
    obtain ⟨k, hk, rfl, hb⟩ := hrel
    have HB := Lib.hid hb
    clear hb
    by_cases hlt : k < s.size
    · rcases bor_cases (a := nameB s[k].toNat) with hd | hd
      · have HD := Lib.hid hd; clear hd
        go_wp2_with (go_at_call 79; refine (nameByte_any _ _).mono ?_; rintro e w' ⟨rfl, rfl⟩; rw [HD.out])
        go_round
        case rel => exact ⟨k + 1, by omega, by go_num, by rw [take_snoc s k hlt, allB_snoc, HB.out, HD.out]; rfl⟩
        case measure => simp [intOf]; omega
      · have HD := Lib.hid hd; clear hd
        go_wp2_with (go_at_call 79; refine (nameByte_any _ _).mono ?_; rintro e w' ⟨rfl, rfl⟩; rw [HD.out])
        go_ret
        refine ⟨ret_bool ?_, rfl⟩
        rw [HN.out, all_split nameB s k hlt, HD.out]; simp
    · go_wp2
      go_ret
      refine ⟨ret_bool ?_, rfl⟩
      rw [HN.out, ← HB.out, List.take_of_length_le (by simp; omega)]

/-- what Number answers -/
def numRes (l : List UInt8) : Go.Value := .tuple #[.int .i64 (if isNum l = true then valL l else 0 : Nat), .bool (isNum l)]
theorem numRes_no {l : List UInt8} (h : isNum l = false) : Ending.returned (.tuple #[.int .i64 0, .bool false]) = .returned (numRes l) := by simp [numRes, h]
theorem numRes_yes {l : List UInt8} (h : isNum l = true) : Ending.returned (.tuple #[.int .i64 (valL l : Nat), .bool true]) = .returned (numRes l) := by simp [numRes, h]
theorem pow_le_9 {n k : Nat} (h : n < 10 ^ k) (hk : k ≤ 9) : n < 1000000000 :=
  Nat.lt_of_lt_of_le h (Nat.pow_le_pow_right (by omega) hk)
theorem Number_any (s : ByteArray) (w : World) (hs : s.size ≤ maxLen) : Calls Tryz.prog 109 #[.string s] w fun e w' => e = .returned (numRes s.data.toList) ∧ w = w' := by
  unfold maxLen at hs
  by_cases h1 : s.size < 1
  · have HN : Hid (isNum s.data.toList = false) := by show _ = _; simp [isNum]; omega
    go_enter Tryz.func109, Tryz.ntmps109
    go_wp2
    go_ret2
    exact ⟨numRes_no HN.out, rfl⟩
  by_cases h2 : 9 < s.size
  · have HN : Hid (isNum s.data.toList = false) := by show _ = _; simp [isNum]; omega
    go_enter Tryz.func109, Tryz.ntmps109
    go_wp2
    go_ret2
    exact ⟨numRes_no HN.out, rfl⟩
  have h3 : 0 < s.size := by omega
  have hh : s.data.toList.head? = some s[0] := by
    have := drop_cons s 0 h3
    rw [List.drop_zero] at this
    rw [this]; rfl
  by_cases h4 : (s[0].toNat : Int) = 48 ∧ 1 < s.size
  · have HN : Hid (isNum s.data.toList = false) := by
      show _ = _
      have : s[0] = 48 := UInt8.toNat_inj.1 (show s[0].toNat = 48 by omega)
      simp [isNum, hh, this, h4.2]
    obtain ⟨h5, h6⟩ := h4
    have h7 : ((s[0].toNat : Int) == 48) = true := by simp [h5]
    clear h5 hh
    go_enter Tryz.func109, Tryz.ntmps109
    go_wp2
    go_ret2
    exact ⟨numRes_no HN.out, rfl⟩
  have HN : Hid (isNum s.data.toList = allB digB s.data.toList) := by
    show _ = _
    have e : (s.data.toList.head? == some (48 : UInt8) && decide (1 < s.data.toList.length)) = false := by
      rw [hh, size_list]
      rw [Bool.eq_false_iff]
      intro h
      simp only [Bool.and_eq_true, decide_eq_true_eq, beq_iff_eq, Option.some.injEq] at h
      exact h4 ⟨by rw [h.1]; rfl, h.2⟩
    unfold isNum
    rw [e]
    simp; omega
  clear hh
  have main : ∀ (b : Bool), ((s[0].toNat : Int) == 48) = b → (b = true → ¬ 1 < s.size) → Calls Tryz.prog 109 #[.string s] w fun e w' => e = .returned (numRes s.data.toList) ∧ w = w' := by
    intro b hb hb1
    have hg : (b && decide ((1 : Int) < s.size)) = false := by
      cases b
      · rfl
      · have := hb1 rfl; simp; omega
    clear h4 hb1
    cases b
    all_goals
      try have hg' : decide ((1 : Int) < s.size) = false := by simpa using hg
      clear hg
      go_enter Tryz.func109, Tryz.ntmps109
      go_wp2
      go_loop [4, 5] (fun n i => ∃ k : Nat, k ≤ s.size ∧ i = .int .i64 k ∧ n = .int .i64 (valL (s.data.toList.take k)) ∧ allB digB (s.data.toList.take k) = true) (fun _ i => s.size - (intOf i).toNat)
      case atStart => exact ⟨0, Nat.zero_le _, rfl, rfl, rfl⟩
      case round =>
        obtain ⟨k, hk, rfl, rfl, ha⟩ := hrel
        have hv : valL (s.data.toList.take k) < 1000000000 := pow_le_9 (valL_lt ha) (by simp; omega)
        have HA := Lib.hid ha
        clear ha
        by_cases hlt : k < s.size
        · by_cases hd : 48 ≤ (s[k].toNat : Int) ∧ (s[k].toNat : Int) ≤ 57
          · have HD : Hid (digB s[k].toNat = true) := by show _ = _; simp [digB]; omega
            have HS : Hid (valL (s.data.toList.take (k + 1)) = valL (s.data.toList.take k) * 10 + (s[k].toNat - 48)) := by show _ = _; rw [take_snoc s k hlt, valL_snoc]
            obtain ⟨hd1, hd2⟩ := hd
            generalize hn : valL (s.data.toList.take k) = n at hv HS
            have HNN := Lib.hid hn; clear hn
            go_wp2_with (go_at_call 102; refine (digit_any _ _).mono ?_; rintro e w' ⟨rfl, rfl⟩; rw [HD.out])
            go_round
            case rel => exact ⟨k + 1, by omega, by go_num, by rw [HS.out]; congr 1; omega, by rw [take_snoc s k hlt, allB_snoc, HA.out, HD.out]; rfl⟩
            case measure => simp [intOf]; omega
          · have HD : Hid (digB s[k].toNat = false) := by show _ = _; simp [digB]; omega
            clear hd
            go_wp2_with (go_at_call 102; refine (digit_any _ _).mono ?_; rintro e w' ⟨rfl, rfl⟩; rw [HD.out])
            go_ret2
            exact ⟨numRes_no (by rw [HN.out, all_split digB s k hlt, HD.out]; simp), rfl⟩
        · have HT : Hid (s.data.toList.take k = s.data.toList) := by show _ = _; exact List.take_of_length_le (by simp; omega)
          go_wp2
          go_ret2
          rw [HT.out] at HA ⊢
          exact ⟨numRes_yes (by rw [HN.out]; exact HA.out), rfl⟩
  rcases bor_cases (a := ((s[0].toNat : Int) == 48)) with h | h
  · exact main _ h (fun _ h1 => h4 ⟨by simpa using h, h1⟩)
  · exact main _ h (fun h => by cases h)
end Go.Proofs.YtahgfmobdfhaaaaGreatDoor
namespace Go.Proofs.YtahgfmobdfhaaaaGreatDoor
set_option maxRecDepth 100000
open Go.ChangeShapes Go.WideShapes Go.ChangeAt Go.RowKit

theorem Tryz.infoWord : (Tryz.prog.info? 149).map (fun i => (i.zero, i.size, i.bytes)) = some (some (.agg #[.string ⟨#[]⟩, .int .i64 0]), 2, 24) := by kernel_rfl

/-- what Split answers: the words, a block of its own; the column -/
def SplitTo (ws : List (Nat × List UInt8)) (bad : Nat) (w : World) (e : Ending) (w' : World) : Prop :=
  ∃ v, e = .returned (.tuple #[v, .int .i64 bad]) ∧ w'.ownsRow w.heap.size 149 2 v ws.length (wcells ws) ∧ Below w.heap.size w w'
theorem splitTo_mk {ws : List (Nat × List UInt8)} {bad : Nat} {w w' : World} {v : Value} {b : Int} (hb : b = bad) (h : w'.ownsRow w.heap.size 149 2 v ws.length (wcells ws)) (hw : Below w.heap.size w w') :
    SplitTo ws bad w (.returned (.tuple #[v, .int .i64 b])) w' := ⟨v, by rw [hb], h, hw⟩
set_option maxHeartbeats 1000000 in
theorem Split_any (s : ByteArray) (w : World) (hs : s.size ≤ maxLen) (hb : badL s.data.toList = 0 → (partL s.data.toList).length ≤ 1099511627776) :
    Calls Tryz.prog 60 #[.string s] w (SplitTo (wordsL s.data.toList) (badL s.data.toList) w) := by
  have hp : (bs (partL s.data.toList)).size ≤ s.size := partL_le _
  have HP : Hid (bs (partL s.data.toList) = bs (upTo 35 s.data.toList)) := rfl
  have HB : Hid (badL s.data.toList = badCol (bs (partL s.data.toList)).data.toList 0) := rfl
  have hw : badL s.data.toList = 0 → wordsL s.data.toList = toks (bs (partL s.data.toList)).data.toList 1 := by
    intro h; simp [wordsL, h]; rfl
  have hw' : badL s.data.toList ≠ 0 → wordsL s.data.toList = [] := by intro h; simp [wordsL, h]
  have hb' : badL s.data.toList = 0 → (bs (partL s.data.toList)).size ≤ 1099511627776 := hb
  clear hb
  generalize hp0 : bs (partL s.data.toList) = p at *
  generalize hb0 : badL s.data.toList = b at *
  generalize hw0 : wordsL s.data.toList = W at *
  clear hp0 hb0 hw0
  have hps : p.size ≤ maxLen := by omega
  unfold maxLen at hps
  by_cases h0 : b = 0
  · subst h0
    have hb := hb' rfl
    obtain rfl := hw rfl
    clear hb' hw hw'
    have hcount := toks_count p.data.toList 1
    rw [size_list] at hcount
    obtain ⟨i0, hi, hz0, hz1, hz2⟩ := info_parts Tryz.infoWord
    go_enter Tryz.func60, Tryz.ntmps60
    go_wp2_with (first
      | (go_at_call 86; refine (Cut_one _ _ _ hs).mono ?_; rintro e w' ⟨q, b, n, rfl, rfl⟩; rw [← HP.out])
      | (go_at_call 87; refine (badColumn_any _ _ (by unfold maxLen; omega)).mono ?_; rintro e w' ⟨rfl, rfl⟩; rw [← HB.out]))
    go_loopw [2, 7] (fun l i wr => ∃ (k : Nat) (acc : List (Nat × List UInt8)), k ≤ p.size + 1 ∧ i = .int .i64 k ∧ Hid (toks p.data.toList 1 = acc ++ toks (p.data.toList.drop k) (k + 1)) ∧
        wr.ownsRow w.heap.size 149 2 l acc.length (wcells acc) ∧ Below w.heap.size w wr) (fun _ i _ => p.size + 1 - (intOf i).toNat)
    case atStart => exact ⟨0, [], by omega, rfl, rfl, World.ownsRow_nil _ _ _ _, below_drewN (Below.refl _ _) _⟩
    case round =>
      obtain ⟨k, acc, hk, rfl, HT, hown, hbw⟩ := hrel
      have hacc : 2 * acc.length ≤ p.size + 1 := by
        have := congrArg List.length HT.out; simp at this; omega
      by_cases hlt : k < p.size
      · generalize hm : (word (p.data.toList.drop k)).length = m
        have HM := Lib.hid hm
        have hmle : k + m ≤ p.size := by
          have := word_le (p.data.toList.drop k); rw [hm] at this; simp at this; omega
        have HS : Hid (toks p.data.toList 1 = acc ++ ((if m = 0 then [] else [(k + 1, word (p.data.toList.drop k))]) ++ toks (p.data.toList.drop (k + m + 1)) (k + m + 2))) := by
          show _ = _
          rw [HT.out, toks_step, List.drop_drop, hm, show k + (m + 1) = k + m + 1 from rfl, show k + 1 + m + 1 = k + m + 2 by omega]
        clear hm
        by_cases hm0 : m = 0
        · subst hm0
          go_wp2_with (go_at_call 88; refine (wordEnd_any _ _ _ (by unfold maxLen; omega) (by omega)).mono ?_; rintro e w' ⟨rfl, rfl⟩; rw [HM.out])
          go_roundw
          case rel => exact ⟨k + 1, acc, by omega, by go_num, by show _ = _; simpa using HS.out, hown, hbw⟩
          case measure => simp [intOf]; omega
        · have hmp : 0 < m := by omega
          have hmi : (k : Int) + m ≤ p.size := by omega
          clear hm0
          go_wp2_with (first
            | (go_at_call 88; refine (wordEnd_any _ _ _ (by unfold maxLen; omega) (by omega)).mono ?_; rintro e w' ⟨rfl, rfl⟩; rw [HM.out])
            | (at_builtin; go_must (refine wpList_append_own _ rfl (.tmp 30) (.tmp 38) 113 rfl w.heap.size 149 i0 _ 2 24 Tryz.underlying113 hi hz0 hz1 hz2 rfl (by decide) _ _ _ rfl (hown.alloc _) ⟨wr.heap.size, 0, none⟩ 1 1 [.string (p.extract k (k + m)), .int .i64 (k + 1)] rfl rfl (cells_new _ _ _) (by intro u hu; simp at hu; rcases hu with rfl | rfl <;> rfl) (by unfold maxLen; omega) (by omega) (by have := hbw.size; simp; omega) ?_); intro v' w1 hown' hg' _))
          have hg2 : (wr.alloc (.cells #[.string (p.extract k (k + m)), .int .i64 (k + 1)] 149)).grownBy w1 u2.ownBlock := hg'
          have hbw1 : Below w.heap.size w w1 := (hbw.alloc hbw.size _).grown hg2 (by have := hbw.size; simp; omega) (fun g hg => (hown.lt g hg).1)
          clear hg'
          go_roundw
          case rel =>
            refine ⟨k + m + 1, acc ++ [(k + 1, word (p.data.toList.drop k))], by omega, by go_num, ?_, ?_, hbw1⟩
            · show _ = _
              have := HS.out
              rw [if_neg (by omega)] at this
              rw [this, List.append_assoc]
            · have e : p.extract k (k + m) = bs (word (p.data.toList.drop k)) := by
                rw [extract_bs, show k + m - k = m by omega, ← HM.out]; exact congrArg bs (upTo_prefix _ _)
              rw [wcells_append, List.length_append]
              rw [e] at hown'
              simpa [wcells, wcell] using hown'
          case measure => simp [intOf]; omega
      · go_wp2
        go_ret2
        have e := HT.out
        rw [drop_end p k (by omega), toks_nil, List.append_nil] at e
        refine splitTo_mk rfl ?_ hbw
        rw [e]; exact hown
  · obtain rfl := hw' h0
    have hb1 : (1 : Int) ≤ b := by omega
    clear hb' hw hw' h0
    go_enter Tryz.func60, Tryz.ntmps60
    go_wp2_with (first
      | (go_at_call 86; refine (Cut_one _ _ _ hs).mono ?_; rintro e w' ⟨q, b, n, rfl, rfl⟩; rw [← HP.out])
      | (go_at_call 87; refine (badColumn_any _ _ (by unfold maxLen; omega)).mono ?_; rintro e w' ⟨rfl, rfl⟩; rw [← HB.out]))
    go_ret2
    exact splitTo_mk rfl (World.ownsRow_nil _ _ _ _) (below_drewN (Below.refl _ _) _)
end Go.Proofs.YtahgfmobdfhaaaaGreatDoor
/-
  Lists of texts in cells.
-/
namespace Go.Proofs.YtahgfmobdfhaaaaGreatDoor
set_option maxRecDepth 100000
open Go.ChangeShapes Go.WideShapes Go.ChangeAt Go.RowKit

abbrev Tx := List UInt8
def scells (l : List Tx) : List Value := l.map fun t => .string (bs t)
theorem Tryz.infoString : (Tryz.prog.info? 9).map (fun i => (i.zero, i.size, i.bytes)) = some (some (.string ⟨#[]⟩), 1, 16) := by kernel_rfl
/-- a list of names in memory of the call's own (base: what was there when it began) -/
def OwnL (w : World) (base : Nat) (v : Value) (l : List Tx) : Prop := w.ownsRow base 9 1 v l.length (scells l)
theorem own_ne {w : World} {base b : Nat} {v : Value} {l : List Tx} (h : OwnL w base v l) (hb : b < base) : v.ownBlock = none ∨ v.ownBlock ≠ some b := by
  right; intro e; have := (h.lt b e).1; omega
theorem strSl_of {w : World} {base : Nat} {A : Option Addr} {c : Nat} {l : List Tx} (h : OwnL w base (.slice A l.length c) l) : l.length ≤ c ∧ ∀ j (hj : j < l.length), ∃ g, A = some ⟨g, 0, none⟩ ∧ base ≤ g ∧ g < w.heap.size ∧ w.cell? ⟨g, j, none⟩ = some (.string (bs l[j])) := by
  by_cases h0 : 0 < l.length
  · obtain ⟨g, cap, hv, hb, hl, hc, hcells⟩ := own_form h h0
    cases hv
    exact ⟨hc, fun j hj => ⟨g, rfl, hb, hl, hcells j _ (by simp [scells, hj])⟩⟩
  · exact ⟨by omega, fun j hj => by omega⟩
/-- a list's cells, wherever they lie -/
def ListAt (w : World) (A : Option Addr) (c : Nat) (l : List Tx) : Prop := l.length ≤ c ∧ ∀ j (hj : j < l.length), ∃ g, A = some ⟨g, 0, none⟩ ∧ g < w.heap.size ∧ w.cell? ⟨g, j, none⟩ = some (.string (bs l[j]))
theorem ListAt.below {w w' : World} {A : Option Addr} {c : Nat} {l : List Tx} (h : ListAt w A c l) (hb : Below w.heap.size w w') : ListAt w' A c l :=
  ⟨h.1, fun j hj => let ⟨g, e, hl, hc⟩ := h.2 j hj; ⟨g, e, Nat.lt_of_lt_of_le hl hb.size, (hb.cell hl).trans hc⟩⟩
theorem listAt_of {w : World} {base : Nat} {A : Option Addr} {c : Nat} {l : List Tx} (h : OwnL w base (.slice A l.length c) l) : ListAt w A c l :=
  ⟨(strSl_of h).1, fun j hj => let ⟨g, e, _, hl, hc⟩ := (strSl_of h).2 j hj; ⟨g, e, hl, hc⟩⟩
end Go.Proofs.YtahgfmobdfhaaaaGreatDoor
namespace Go.Proofs.YtahgfmobdfhaaaaGreatDoor
set_option maxRecDepth 100000
open Go.ChangeShapes Go.WideShapes Go.ChangeAt Go.RowKit Go.Maps Go.WideMaps Go.ChangeMaps

theorem makeMap_hint (t k e : TypeId) (n : Int) (ht : Tryz.prog.underlying t = some (.map k e)) (w : World) : (Instr.makeMap t (some (.int .i64 n))).run Tryz.prog w = .ok (.map (some w.heap.size)) (w.alloc (.map #[] 0)) := by
  simp [Instr.makeMap, run_underlying ht, asInt]
  rfl
theorem Tryz.lawS : Keyed Tryz.prog 9 := string_keyed Tryz.underlying9
theorem Tryz.zeroU (w : World) : (zeroValue 181).run Tryz.prog w = .ok (.agg #[]) w := by kernel_rfl
def setL (seen : List Tx) : DataW Unit := setOf (.agg []) (seen.map Lit.string)
theorem has_setL (seen : List Tx) (t : Tx) : Maps.has (setL seen) (.string t) = decide (t ∈ seen) := by
  unfold setL
  rw [has_setOf _ _ _ (by intro x hx; simp at hx; obtain ⟨y, _, rfl⟩ := hx; exact trivial), List.any_map]
  induction seen with
  | nil => rfl
  | cons a l ih =>
    rw [List.any_cons, ih]
    simp only [Function.comp, Lit.sameKey, List.mem_cons]
    by_cases h : a = t
    · subst h; simp
    · have h' : ¬ t = a := fun e => h e.symm
      have hb : (a == t) = false := by simpa using h
      rw [hb]; simp [h']
theorem setL_snoc (seen : List Tx) (t : Tx) : setL (seen ++ [t]) = (setL seen).put (.string t) (.agg []) := by
  unfold setL; rw [List.map_append]; exact setOf_snoc _ _ _
end Go.Proofs.YtahgfmobdfhaaaaGreatDoor
namespace Go.Proofs.YtahgfmobdfhaaaaGreatDoor
set_option maxRecDepth 100000
open Go.ChangeShapes Go.WideShapes Go.ChangeAt Go.RowKit

end Go.Proofs.YtahgfmobdfhaaaaGreatDoor
