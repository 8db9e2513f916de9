/-
  WordsPlaces: each word stands in the line at its column, has no blank in it, and blanks or an end around it; they are all that there is: for every text.
-/
import Derived.Test.YtoojhpgjekdlgaaLawSplit
namespace Go.Proofs.Ytoojhpgjekdlgaa
open Go.ChangeShapes Go.WideShapes Go.ChangeAt Go.RowKit

/-- where words stand, from the place a on, i words being ahead -/
def PL (L : List UInt8) : Nat → Nat → List (Nat × List UInt8) → Prop
  | a, _, [] => ∃ e, a ≤ e ∧ e ≤ L.length ∧ (∀ k, a ≤ k → k < e → L[k]? = some 32) ∧ (e = L.length ∨ L[e]? = some 35)
  | a, i, (c, t) :: r => ∃ p, c = p + 1 ∧ a ≤ p ∧ t ≠ [] ∧ p + t.length ≤ L.length ∧ (L.drop p).take t.length = t ∧ (0 < i → p ≠ a) ∧ (∀ k, a ≤ k → k < p → L[k]? = some 32) ∧ okW t ∧ PL L (p + t.length) (i + 1) r
theorem upTo_len (l : List UInt8) : (upTo 35 l).length = l.length ∨ l[(upTo 35 l).length]? = some 35 := by
  induction l with
  | nil => exact .inl rfl
  | cons b l ih =>
    by_cases h : b = 35
    · subst h; right; simp [upTo]
    · have hb : (b != 35) = true := by simpa using h
      have e : upTo 35 (b :: l) = b :: upTo 35 l := by unfold upTo; rw [List.takeWhile_cons, if_pos hb]
      rw [e]
      rcases ih with h1 | h1
      · left; simp [h1]
      · right; simpa using h1
theorem okP_of_zero (l : List UInt8) (i : Nat) (h : badCol l i = 0) : ∀ b ∈ l, 32 ≤ b.toNat ∧ b.toNat ≤ 126 := by
  induction l generalizing i with
  | nil => intro b hb; simp at hb
  | cons b r ih =>
    rw [badCol] at h
    by_cases hb : b.toNat < 32 ∨ 126 < b.toNat
    · rw [if_pos hb] at h; omega
    · rw [if_neg hb] at h
      intro x hx
      rcases List.mem_cons.1 hx with rfl | hx
      · omega
      · exact ih _ h x hx
theorem upTo_noC (c : UInt8) (l : List UInt8) : ∀ b ∈ upTo c l, b ≠ c := by
  induction l with
  | nil => intro b hb; simp [upTo] at hb
  | cons x l ih =>
    intro b hb
    unfold upTo at hb ih
    rw [List.takeWhile_cons] at hb
    split at hb
    · rename_i hx
      rcases List.mem_cons.1 hb with rfl | hb
      · simpa using hx
      · exact ih b hb
    · simp at hb
theorem upTo_ne (l : List UInt8) : ∀ b ∈ upTo 35 l, b ≠ 35 := upTo_noC 35 l
theorem word_ne32 (l : List UInt8) : ∀ b ∈ word l, b ≠ 32 := upTo_noC 32 l
theorem placed (L : List UInt8) (h0 : badL L = 0) : PL L 0 0 (wordsL L) := by
  have hP1 := okP_of_zero (partL L) 0 h0
  have hP2 := upTo_ne L
  have hpre : L.take (partL L).length = partL L := upTo_prefix 35 L
  have hend : (partL L).length = L.length ∨ L[(partL L).length]? = some 35 := upTo_len L
  have hle : (partL L).length ≤ L.length := partL_le L
  have hP2' : ∀ b ∈ partL L, b ≠ 35 := hP2
  unfold wordsL
  rw [h0, if_pos rfl]
  generalize partL L = P at *
  have hget : ∀ k, k < P.length → L[k]? = P[k]? := by
    intro k hk; rw [← hpre, List.getElem?_take, if_pos hk]
  suffices H : ∀ n p a i, P.length ≤ p + n → a ≤ p → a ≤ P.length → (∀ k, a ≤ k → k < p → k < P.length → L[k]? = some 32) → (0 < i → p ≠ a ∨ P.length ≤ p) → PL L a i (toks (P.drop p) (p + 1)) from by
    have := H P.length 0 0 0 (by omega) (Nat.le_refl _) (by omega) (by intro k _ h2; omega) (by intro h; omega)
    simpa using this
  intro n
  induction n with
  | zero =>
    intro p a i hn ha ha2 hb _
    rw [List.drop_of_length_le (by omega), toks_nil]
    exact ⟨P.length, ha2, hle, fun k h1 h2 => hb k h1 (by omega) h2, hend⟩
  | succ n ih =>
    intro p a i hn ha ha2 hb hi
    by_cases hp : P.length ≤ p
    · rw [List.drop_of_length_le hp, toks_nil]
      exact ⟨P.length, ha2, hle, fun k h1 h2 => hb k h1 (by omega) h2, hend⟩
    rw [toks_step, List.drop_drop]
    have hws := word_split (P.drop p)
    have hwl := word_le (P.drop p)
    generalize hm : (word (P.drop p)).length = m at *
    rw [List.length_drop] at hwl
    by_cases hm0 : m = 0
    · subst hm0
      rw [if_pos rfl, List.nil_append]
      have h32 : L[p]? = some 32 := by
        rcases hws.2 with h | ⟨r, h⟩
        · exfalso; have := congrArg List.length h; simp at this; omega
        · rw [List.drop_zero] at h
          rw [hget p (by omega)]
          have := congrArg (·[0]?) h
          simpa using this
      have := ih (p + 1) a i (by omega) (by omega) ha2 (fun k h1 h2 h3 => by
        by_cases hk : k = p
        · rw [hk]; exact h32
        · exact hb k h1 (by omega) h3) (fun _ => by left; omega)
      simpa [Nat.add_assoc] using this
    · rw [if_neg hm0]
      have hsub : ∀ b ∈ word (P.drop p), b ∈ P := fun b hb => List.drop_subset p P ((List.takeWhile_sublist _).subset hb)
      refine ⟨p, rfl, ha, ?_, ?_, ?_, ?_, ?_, ?_, ?_⟩
      · intro e; rw [e] at hm; simp at hm; omega
      · rw [hm]; omega
      · rw [hm]
        have e1 : (P.drop p).take m = word (P.drop p) := by rw [← hm]; exact upTo_prefix _ _
        have e2 : (L.drop p).take m = (P.drop p).take m := by
          rw [← hpre, List.drop_take, List.take_take]
          congr 1; omega
        rw [e2, e1]
      · intro h; rcases hi h with h | h
        · exact h
        · omega
      · intro k h1 h2; exact hb k h1 h2 (by omega)
      · intro b hb'
        have h1 := hP1 b (hsub b hb')
        refine ⟨?_, h1.2, hP2' b (hsub b hb')⟩
        have h2 := word_ne32 _ b hb'
        have : b.toNat ≠ 32 := fun e => h2 (UInt8.toNat_inj.1 e)
        omega
      · rw [hm]
        have := ih (p + m + 1) (p + m) (i + 1) (by omega) (by omega) (by omega) (fun k h1 h2 h3 => by
          have hk : k = p + m := by omega
          subst hk
          rcases hws.2 with h | ⟨r, h⟩
          · exfalso; rw [List.drop_drop] at h; have := congrArg List.length h; simp at this; omega
          · rw [List.drop_drop] at h
            rw [hget _ h3]
            have := congrArg (·[0]?) h
            simpa using this) (fun _ => by left; omega)
        rw [show p + 1 + m + 1 = p + m + 1 + 1 by omega]
        exact this
theorem bad_spot (L : List UInt8) (h : badL L ≠ 0) : ∃ k, badL L = k + 1 ∧ ∃ hk : k < L.length, L[k].toNat < 32 ∨ 126 < L[k].toNat := by
  have hpre : L.take (partL L).length = partL L := upTo_prefix 35 L
  have hle : (partL L).length ≤ L.length := partL_le L
  unfold badL at h ⊢
  suffices H : ∀ (P : List UInt8) (i : Nat), badCol P i ≠ 0 → ∃ k, badCol P i = i + k + 1 ∧ ∃ hk : k < P.length, P[k].toNat < 32 ∨ 126 < P[k].toNat from by
    obtain ⟨k, e, hk, hb⟩ := H _ _ h
    refine ⟨k, by omega, by omega, ?_⟩
    have : (partL L)[k] = L[k]'(by omega) := by
      have h1 := congrArg (·[k]?) hpre
      simp only [List.getElem?_take, hk, if_true] at h1
      rw [List.getElem?_eq_getElem (by omega), List.getElem?_eq_getElem hk] at h1
      exact (Option.some.inj h1).symm
    rw [this] at hb; exact hb
  intro P
  induction P with
  | nil => intro i h; exact absurd rfl h
  | cons b r ih =>
    intro i h
    rw [badCol] at h ⊢
    by_cases hb : b.toNat < 32 ∨ 126 < b.toNat
    · rw [if_pos hb]; exact ⟨0, by omega, by simp, by simpa using hb⟩
    · rw [if_neg hb] at h ⊢
      obtain ⟨k, e, hk, hx⟩ := ih _ h
      exact ⟨k + 1, by omega, by simpa using hk, by simpa using hx⟩
end Go.Proofs.Ytoojhpgjekdlgaa
