/-
  Plain facts on lines and words: no program in it.
-/
import Derived.Test.YtgemciecdplcgaaDoorBytes
namespace Go.Proofs.YtgemciecdplcgaaDoor
set_option maxRecDepth 100000

/-- the column of the first byte that may not be; 0: none -/
def badCol : List UInt8 → Nat → Nat
  | [], _ => 0
  | b :: r, i => if b.toNat < 32 ∨ 126 < b.toNat then i + 1 else badCol r (i + 1)
theorem badCol_drop (s : ByteArray) (k : Nat) (h : k < s.size) : badCol (s.data.toList.drop k) k = if (s[k].toNat : Int) < 32 ∨ 126 < (s[k].toNat : Int) then k + 1 else badCol (s.data.toList.drop (k + 1)) (k + 1) := by
  rw [drop_cons s k h, badCol]; congr 1; simp; omega
theorem badCol_le (l : List UInt8) (i : Nat) : badCol l i = 0 ∨ (i < badCol l i ∧ badCol l i ≤ i + l.length) := by
  induction l generalizing i with
  | nil => exact .inl rfl
  | cons b r ih =>
    unfold badCol
    split
    · right; simp
    · rcases ih (i + 1) with h | h
      · exact .inl h
      · right; simp only [List.length_cons]; omega

/-- what is ahead of the first blank -/
def word (l : List UInt8) : List UInt8 := upTo 32 l
theorem word_le (l : List UInt8) : (word l).length ≤ l.length := (List.takeWhile_sublist _).length_le
theorem word_nil_blank (r : List UInt8) : word (32 :: r) = [] := by simp [word, upTo]
theorem word_cons {b : UInt8} (h : b ≠ 32) (r : List UInt8) : word (b :: r) = b :: word r := by simp [word, upTo, h]
theorem word_split (l : List UInt8) : l = word l ++ l.drop (word l).length ∧ (l.drop (word l).length = [] ∨ ∃ r, l.drop (word l).length = 32 :: r) := by
  induction l with
  | nil => exact ⟨rfl, .inl rfl⟩
  | cons b r ih =>
    by_cases h : b = 32
    · subst h; rw [word_nil_blank]; exact ⟨rfl, .inr ⟨r, rfl⟩⟩
    · rw [word_cons h]
      refine ⟨?_, ?_⟩
      · conv => lhs; rw [ih.1]
        simp
      · simpa using ih.2

/-- the words of a part, each with its column -/
def toks (l : List UInt8) (c : Nat) : List (Nat × List UInt8) :=
  match l with
  | [] => []
  | b :: r => if b = 32 then toks r (c + 1) else (c, word (b :: r)) :: toks ((b :: r).drop (word (b :: r)).length) (c + (word (b :: r)).length)
termination_by l.length
decreasing_by
  · simp
  · rename_i h
    rw [word_cons h]; simp; omega
theorem toks_nil (c : Nat) : toks [] c = [] := by rw [toks]
theorem toks_blank (r : List UInt8) (c : Nat) : toks (32 :: r) c = toks r (c + 1) := by rw [toks]; simp
theorem toks_word {l : List UInt8} (h : word l ≠ []) (c : Nat) : toks l c = (c, word l) :: toks (l.drop (word l).length) (c + (word l).length) := by
  cases l with
  | nil => exact absurd rfl h
  | cons b r =>
    have hb : b ≠ 32 := by intro e; subst e; exact h (word_nil_blank r)
    rw [toks, if_neg hb]
/-- one step on, whatever stands there -/
theorem toks_step (l : List UInt8) (c : Nat) : toks l c = (if (word l).length = 0 then [] else [(c, word l)]) ++ toks (l.drop ((word l).length + 1)) (c + (word l).length + 1) := by
  have hs := (word_split l).2
  have key : toks (l.drop (word l).length) (c + (word l).length) = toks (l.drop ((word l).length + 1)) (c + (word l).length + 1) := by
    rw [← List.drop_drop]
    rcases hs with h | ⟨r, h⟩
    · rw [h]; simp [toks_nil]
    · rw [h, toks_blank]; rfl
  by_cases h : (word l).length = 0
  · have h0 : word l = [] := List.eq_nil_of_length_eq_zero h
    rw [if_pos h, List.nil_append, ← key, h0]; rfl
  · rw [if_neg h, toks_word (fun e => h (by rw [e]; rfl)), key]; rfl
theorem toks_count (l : List UInt8) : ∀ c, 2 * (toks l c).length ≤ l.length + 1 := by
  suffices H : ∀ n (l : List UInt8), l.length ≤ n → ∀ c, 2 * (toks l c).length ≤ l.length + 1 from H l.length l (Nat.le_refl _)
  intro n
  induction n with
  | zero => intro l h c; have : l = [] := List.eq_nil_of_length_eq_zero (by omega); subst this; simp [toks_nil]
  | succ n ih =>
    intro l h c
    rw [toks_step]
    by_cases hw : (word l).length = 0
    · rw [if_pos hw]
      have := ih (l.drop ((word l).length + 1)) (by simp; omega) (c + (word l).length + 1)
      simp at this ⊢; omega
    · rw [if_neg hw]
      by_cases hl : (word l).length + 1 ≤ l.length
      · have := ih (l.drop ((word l).length + 1)) (by simp; omega) (c + (word l).length + 1)
        simp at this ⊢; omega
      · rw [List.drop_of_length_le (by omega), toks_nil]
        have := word_le l
        simp; omega

/-- a line's part ahead of its comment; its words; its first byte that may not be -/
def partL (l : List UInt8) : List UInt8 := upTo 35 l
def badL (l : List UInt8) : Nat := badCol (partL l) 0
def wordsL (l : List UInt8) : List (Nat × List UInt8) := if badL l = 0 then toks (partL l) 1 else []
theorem partL_le (l : List UInt8) : (partL l).length ≤ l.length := (List.takeWhile_sublist _).length_le

/-- the cells of words -/
def wcell (x : Nat × List UInt8) : List Go.Value := [.string (bs x.2), .int .i64 x.1]
def wcells (l : List (Nat × List UInt8)) : List Go.Value := l.flatMap wcell
theorem wcells_length (l : List (Nat × List UInt8)) : (wcells l).length = l.length * 2 := by
  induction l with
  | nil => rfl
  | cons a l ih => simp only [wcells, List.flatMap_cons, List.length_append] at ih ⊢; rw [ih]; simp [wcell]; omega
theorem wcells_append (l m : List (Nat × List UInt8)) : wcells (l ++ m) = wcells l ++ wcells m := List.flatMap_append

/-- names and numbers -/
def allB (p : Int → Bool) (l : List UInt8) : Bool := l.all fun b => p b.toNat
def nameL (l : List UInt8) : Bool := decide (1 ≤ l.length) && decide (l.length ≤ 12) && allB nameB l
def valL (l : List UInt8) : Nat := l.foldl (fun n b => n * 10 + (b.toNat - 48)) 0
def isNum (l : List UInt8) : Bool := decide (1 ≤ l.length) && decide (l.length ≤ 9) && !(l.head? == some 48 && decide (1 < l.length)) && allB digB l
theorem valL_snoc (l : List UInt8) (b : UInt8) : valL (l ++ [b]) = valL l * 10 + (b.toNat - 48) := by simp [valL]
theorem take_snoc (s : ByteArray) (k : Nat) (h : k < s.size) : s.data.toList.take (k + 1) = s.data.toList.take k ++ [s[k]] := by
  rw [List.take_succ_eq_append_getElem (by simpa using h)]; rfl
theorem allB_snoc (p : Int → Bool) (l : List UInt8) (b : UInt8) : allB p (l ++ [b]) = (allB p l && p b.toNat) := by simp [allB]
theorem valL_lt {l : List UInt8} (h : allB digB l = true) : valL l < 10 ^ l.length := by
  suffices H : ∀ (l : List UInt8), allB digB l = true → ∀ n m : Nat, n < 10 ^ m → l.foldl (fun n b => n * 10 + (b.toNat - 48)) n < 10 ^ (m + l.length) from by unfold valL; simpa using H l h 0 0 (by simp)
  intro l
  induction l with
  | nil => intro _ n m h; simpa using h
  | cons b r ih =>
    intro h n m hn
    simp only [allB, List.all_cons, Bool.and_eq_true] at h
    have hb : b.toNat ≤ 57 := by have := h.1; simp [digB] at this; omega
    rw [List.foldl_cons, List.length_cons, show m + (r.length + 1) = (m + 1) + r.length from by omega]
    exact ih h.2 _ _ (by rw [Nat.pow_succ]; omega)
theorem all_split (p : Int → Bool) (s : ByteArray) (k : Nat) (h : k < s.size) : allB p s.data.toList = (allB p (s.data.toList.take k) && (p s[k].toNat && allB p (s.data.toList.drop (k + 1)))) := by
  conv => lhs; rw [← List.take_append_drop k s.data.toList, drop_cons s k h]
  simp [allB]
end Go.Proofs.YtgemciecdplcgaaDoor
