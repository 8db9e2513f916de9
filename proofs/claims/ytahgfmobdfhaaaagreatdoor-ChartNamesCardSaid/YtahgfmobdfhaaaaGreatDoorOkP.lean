/-
  The plain: a line that is a rule.
-/
import Derived.Test.YtahgfmobdfhaaaaGreatDoorParse
import Derived.Lib.Join
import Derived.Test.YtahgfmobdfhaaaaGreatDoorSameL
namespace Go.Proofs.YtahgfmobdfhaaaaGreatDoor
set_option maxRecDepth 100000

/-- words with a blank between -/
def joinP (l : List Tx) : Tx := Lib.join l [32]
/-- a byte of a word; a byte of a line ahead of its comment -/
def gb (b : UInt8) : Bool := decide (33 ≤ b.toNat) && decide (b.toNat ≤ 126) && decide (b.toNat ≠ 35)
def gw (t : Tx) : Bool := !t.isEmpty && t.all gb
def OkL (l : Tx) : Prop := ∀ b ∈ l, 32 ≤ b.toNat ∧ b.toNat ≤ 126 ∧ b.toNat ≠ 35
def posn : List Tx → Nat → List (Nat × Tx)
  | [], _ => []
  | a :: r, c => (c, a) :: posn r (c + a.length + 1)
theorem tx_posn (l : List Tx) : ∀ c, tx (posn l c) = l := by
  induction l with
  | nil => intro c; rfl
  | cons a r ih => intro c; show a :: tx (posn r _) = _; rw [ih]
theorem posn_len (l : List Tx) (c : Nat) : (posn l c).length = l.length := by
  have := congrArg List.length (tx_posn l c); simpa [tx] using this
theorem posn_pos (l : List Tx) : ∀ c, 1 ≤ c → ∀ x ∈ posn l c, 1 ≤ x.1 := by
  induction l with
  | nil => intro c _ x hx; simp [posn] at hx
  | cons a r ih =>
    intro c hc x hx
    rw [posn, List.mem_cons] at hx
    rcases hx with rfl | hx
    · exact hc
    · exact ih _ (by omega) x hx
theorem gw_ne {t : Tx} (h : gw t = true) : t ≠ [] := by rintro rfl; simp [gw] at h
theorem gw_ok {t : Tx} (h : gw t = true) : OkL t := by
  intro b hb
  have := h
  simp only [gw, Bool.and_eq_true, List.all_eq_true] at this
  have := this.2 b hb
  simp [gb] at this; omega
theorem gw_no {t : Tx} (h : gw t = true) : ∀ b ∈ t, b ≠ 32 := by
  intro b hb e
  subst e
  have := h
  simp only [gw, Bool.and_eq_true, List.all_eq_true] at this
  have := this.2 _ hb
  simp [gb] at this
theorem word_self {a : Tx} (h : ∀ b ∈ a, b ≠ 32) (r : Tx) : word (a ++ 32 :: r) = a ∧ word a = a := by
  induction a with
  | nil => exact ⟨word_nil_blank r, rfl⟩
  | cons b a ih =>
    have hb : b ≠ 32 := h b (List.mem_cons_self ..)
    obtain ⟨i1, i2⟩ := ih fun x hx => h x (List.mem_cons_of_mem _ hx)
    exact ⟨by rw [List.cons_append, word_cons hb, i1], by rw [word_cons hb, i2]⟩
theorem join_cons2 (a b : Tx) (r : List Tx) : joinP (a :: b :: r) = a ++ 32 :: joinP (b :: r) := by
  simp [joinP, Lib.join]
theorem join_one (a : Tx) : joinP [a] = a := by simp [joinP, Lib.join]
theorem toks_join (l : List Tx) : (∀ t ∈ l, gw t = true) → ∀ c, toks (joinP l) c = posn l c := by
  induction l with
  | nil => intro _ c; exact toks_nil c
  | cons a r ih =>
    intro h c
    have ha := h a (List.mem_cons_self ..)
    have hr := ih fun t ht => h t (List.mem_cons_of_mem _ ht)
    cases r with
    | nil =>
      rw [join_one]
      have hw := (word_self (gw_no ha) []).2
      rw [toks_word (by rw [hw]; exact gw_ne ha), hw, List.drop_of_length_le (Nat.le_refl _), toks_nil]; rfl
    | cons b r =>
      rw [join_cons2]
      have hw := (word_self (gw_no ha) (joinP (b :: r))).1
      rw [toks_word (by rw [hw]; exact gw_ne ha), hw, List.drop_left, toks_blank, hr]; rfl
theorem ok_join (l : List Tx) : (∀ t ∈ l, gw t = true) → OkL (joinP l) := by
  induction l with
  | nil => intro _ b hb; simp [joinP, Lib.join] at hb
  | cons a r ih =>
    intro h
    have ha := gw_ok (h a (List.mem_cons_self ..))
    have hr := ih fun t ht => h t (List.mem_cons_of_mem _ ht)
    cases r with
    | nil => rw [join_one]; exact ha
    | cons b r =>
      rw [join_cons2]
      intro x hx
      rw [List.mem_append, List.mem_cons] at hx
      rcases hx with hx | rfl | hx
      · exact ha x hx
      · decide
      · exact hr x hx
theorem part_ok {l : Tx} (h : OkL l) : partL l = l := by
  unfold partL upTo
  induction l with
  | nil => rfl
  | cons b r ih =>
    have hb := (h b (List.mem_cons_self ..)).2.2
    have h1 : (b != 35) = true := by rw [bne_iff_ne]; rintro rfl; exact hb rfl
    rw [List.takeWhile_cons, if_pos h1, ih fun x hx => h x (List.mem_cons_of_mem _ hx)]
theorem badCol_ok (l : Tx) : OkL l → ∀ i, badCol l i = 0 := by
  induction l with
  | nil => intro _ i; rfl
  | cons b r ih =>
    intro h i
    have := h b (List.mem_cons_self ..)
    rw [badCol, if_neg (by omega)]
    exact ih (fun x hx => h x (List.mem_cons_of_mem _ hx)) _
theorem bad_ok {l : Tx} (h : OkL l) : badL l = 0 := by unfold badL; rw [part_ok h]; exact badCol_ok l h 0
theorem words_join {l : List Tx} (h : ∀ t ∈ l, gw t = true) : badL (joinP l) = 0 ∧ wordsL (joinP l) = posn l 1 := by
  have ho := ok_join l h
  exact ⟨bad_ok ho, by unfold wordsL; rw [if_pos (bad_ok ho), part_ok ho]; exact toks_join l h 1⟩
/-! ### what is wrong, without the columns -/
def dupT (seen : List Tx) : List Tx → Bool
  | [] => false
  | t :: r => decide (t ∈ seen) || dupT (seen ++ [t]) r
theorem again_dup (ws : List (Nat × Tx)) : (∀ x ∈ ws, 1 ≤ x.1) → ∀ seen, (0 < againP seen ws ↔ dupT seen (tx ws) = true) := by
  induction ws with
  | nil => intro _ seen; simp [againP, dupT, tx]
  | cons a r ih =>
    intro h seen
    obtain ⟨c, t⟩ := a
    have hc : 1 ≤ c := h (c, t) (List.mem_cons_self ..)
    have hr := ih (fun x hx => h x (List.mem_cons_of_mem _ hx)) (seen ++ [t])
    rw [againP, show tx ((c, t) :: r) = t :: tx r from rfl, dupT]
    by_cases hm : t ∈ seen
    · rw [if_pos hm]; simp [hm]; omega
    · rw [if_neg hm, hr]; simp [hm]
def listT (r : Ru) (T : List Tx) : List Tx := T.drop (T.length - r.list.length)
def wrongT (r : Ru) (T : List Tx) : Bool :=
  if r.kind = 1 then dupT [r.name] (listT r T)
  else if r.kind = 2 ∨ r.kind = 3 ∨ r.kind = 6 then dupT [] (listT r T)
  else if r.kind = 4 ∨ r.kind = 5 then decide (r.n < 2 ∨ (r.list.length : Int) < r.n) || dupT [] (listT r T)
  else if r.kind = 7 then decide (r.n = 0) || !timeP r.m
  else if r.kind = 11 then !timeP r.n
  else false
theorem tx_drop (ws : List (Nat × Tx)) (n : Nat) : tx (ws.drop n) = (tx ws).drop n := by simp [tx, List.map_drop]
theorem colAt_pos {ws : List (Nat × Tx)} (hp : ∀ x ∈ ws, 1 ≤ x.1) {j : Nat} (h : j < ws.length) : 0 < colAt ws j := by
  rw [colAt_eq h]; have := hp _ (List.getElem_mem h); omega
theorem wrong_T {r : Ru} {ws : List (Nat × Tx)} (hp : ∀ x ∈ ws, 1 ≤ x.1) (hF : Formed ws.length r) : (0 < wrongP r ws ↔ wrongT r (tx ws) = true) := by
  have hl : listT r (tx ws) = tx (listP r ws) := by unfold listT listP; rw [tx_drop, show (tx ws).length = ws.length by simp [tx]]
  have hpl : ∀ x ∈ listP r ws, 1 ≤ x.1 := fun x hx => hp x (List.mem_of_mem_drop hx)
  have hA := again_dup (listP r ws) hpl
  obtain ⟨_, hk, _⟩ := hF
  unfold wrongP wrongT
  rw [hl]
  by_cases h1 : r.kind = 1
  · rw [if_pos h1, if_pos h1]; exact hA _
  rw [if_neg h1, if_neg h1]
  by_cases h2 : r.kind = 2 ∨ r.kind = 3 ∨ r.kind = 6
  · rw [if_pos h2, if_pos h2]; exact hA _
  rw [if_neg h2, if_neg h2]
  by_cases h3 : r.kind = 4 ∨ r.kind = 5
  · rw [if_pos h3, if_pos h3]
    have h2 : 2 ≤ ws.length := by omega
    by_cases hn : r.n < 2 ∨ (r.list.length : Int) < r.n
    · rw [if_pos hn]; have := colAt_pos hp (show 1 < ws.length by omega); simp [hn]; omega
    · rw [if_neg hn, hA]; simp [hn]
  rw [if_neg h3, if_neg h3]
  by_cases h4 : r.kind = 7
  · rw [if_pos h4, if_pos h4]
    have h2 : 4 ≤ ws.length := by omega
    by_cases hn : r.n = 0
    · rw [if_pos hn]; have := colAt_pos hp (show 2 < ws.length by omega); simp [hn]; omega
    · rw [if_neg hn]
      by_cases ht : timeP r.m = false
      · rw [if_pos ht]; have := colAt_pos hp (show 3 < ws.length by omega); simp [ht]; omega
      · rw [if_neg ht]; simp [hn, eq_true_of_ne_false ht]
  rw [if_neg h4, if_neg h4]
  by_cases h5 : r.kind = 11
  · rw [if_pos h5, if_pos h5]
    have h2 : 2 ≤ ws.length := by omega
    by_cases ht : timeP r.n = false
    · rw [if_pos ht]; have := colAt_pos hp (show 1 < ws.length by omega); simp [ht]; omega
    · rw [if_neg ht]; simp [eq_true_of_ne_false ht]
  rw [if_neg h5, if_neg h5]; simp
/-! ### a line of words, read -/
theorem mis_end {ws : List (Nat × Tx)} {s : St} (hp : ∀ x ∈ ws, 1 ≤ x.1) (h1 : 0 < ws.length) : misP ws s = 0 ↔ (ws.length ≤ s.k ∧ s.m = false) := by
  refine ⟨mis_zero hp h1, fun ⟨a, b⟩ => ?_⟩
  unfold misP
  rw [if_neg (by omega), if_pos b]
theorem parse_join {l : List Tx} (hl : l ≠ []) (h : ∀ t ∈ l, gw t = true) {r : Ru} (hr : ruleP l = (r, ⟨l.length, false⟩)) (hw : wrongT r l = false) : parseL (joinP l) = .ok r := by
  obtain ⟨h1, h2⟩ := words_join h
  have ht := tx_posn l 1
  have hlen := posn_len l 1
  have hpos := posn_pos l 1 (Nat.le_refl _)
  have hF : Formed l.length r := by have := formed (T := l) (by rw [hr]) (by rw [hr]; exact Nat.le_refl _); rw [hr] at this; exact this
  unfold parseL
  rw [h1, h2, if_neg (by omega), if_neg (by intro e; rw [e] at hlen; exact hl (List.eq_nil_of_length_eq_zero hlen.symm))]
  have hm : misP (posn l 1) ⟨l.length, false⟩ = 0 := by unfold misP; rw [hlen, if_neg (by simp), if_pos rfl]
  have hwr : ¬ 0 < wrongP r (posn l 1) := by rw [wrong_T hpos (by rw [hlen]; exact hF), ht, hw]; simp
  unfold parseW
  rw [ht, hr, hm, if_neg (by omega), if_neg hwr]
end Go.Proofs.YtahgfmobdfhaaaaGreatDoor
namespace Go.Proofs.YtahgfmobdfhaaaaGreatDoor
set_option maxRecDepth 100000
open Go.ChangeShapes Go.WideShapes Go.ChangeAt Go.RowKit

/-- bytes that stand in a word -/
def okW (l : List UInt8) : Prop := ∀ b ∈ l, 32 < b.toNat ∧ b.toNat ≤ 126 ∧ b ≠ 35
/-- bytes that stand ahead of a comment -/
def okP (l : List UInt8) : Prop := ∀ b ∈ l, 32 ≤ b.toNat ∧ b.toNat ≤ 126 ∧ b ≠ 35
theorem okP_append {l m : List UInt8} (h : okP l) (k : okP m) : okP (l ++ m) := fun b hb => (List.mem_append.1 hb).elim (h b) (k b)
theorem upTo_ok {l : List UInt8} (h : okP l) (r : List UInt8) : upTo 35 (l ++ r) = l ++ upTo 35 r := by
  induction l with
  | nil => rfl
  | cons b l ih =>
    have hb : (b != 35) = true := by simpa using (h b (List.mem_cons_self ..)).2.2
    show List.takeWhile _ (b :: (l ++ r)) = _
    rw [List.takeWhile_cons, if_pos hb]
    exact congrArg (b :: ·) (ih fun x hx => h x (List.mem_cons_of_mem _ hx))
theorem badCol_okP {l : List UInt8} (h : okP l) (r : List UInt8) (i : Nat) : badCol (l ++ r) i = badCol r (i + l.length) := by
  induction l generalizing i with
  | nil => rfl
  | cons b l ih =>
    have hb := h b (List.mem_cons_self ..)
    show badCol (b :: (l ++ r)) i = _
    rw [badCol, if_neg (by omega), ih fun x hx => h x (List.mem_cons_of_mem _ hx)]
    congr 1; simp; omega
theorem word_ok {l : List UInt8} (h : okW l) (r : List UInt8) : word (l ++ r) = l ++ word r := by
  induction l with
  | nil => rfl
  | cons b l ih =>
    have hb : b ≠ 32 := by rintro rfl; have := (h _ (List.mem_cons_self ..)).1; exact absurd this (by decide)
    show word (b :: (l ++ r)) = _
    rw [word_cons hb, ih fun x hx => h x (List.mem_cons_of_mem _ hx)]; rfl
theorem toks_one {l : List UInt8} (h : okW l) (hne : l ≠ []) (c : Nat) : toks l c = [(c, l)] := by
  have hw := word_ok h []
  have e : word [] = [] := rfl
  rw [List.append_nil, e, List.append_nil] at hw
  rw [toks_word (by rw [hw]; exact hne), hw, List.drop_of_length_le (Nat.le_refl _), toks_nil]
/-- a blank parts what is ahead of it from what is behind it -/
theorem toks_append (l r : List UInt8) (c : Nat) : toks (l ++ 32 :: r) c = toks l c ++ toks r (c + l.length + 1) := by
  suffices H : ∀ n (l : List UInt8), l.length ≤ n → ∀ c, toks (l ++ 32 :: r) c = toks l c ++ toks r (c + l.length + 1) from H l.length l (Nat.le_refl _) c
  intro n
  induction n with
  | zero =>
    intro l h c
    have : l = [] := List.eq_nil_of_length_eq_zero (by omega)
    subst this
    rw [List.nil_append, toks_blank, toks_nil]; rfl
  | succ n ih =>
    intro l h c
    have hs := word_split l
    have key : word (l ++ 32 :: r) = word l := by
      have : ∀ m : List UInt8, word (m ++ 32 :: r) = word m := by
        intro m
        induction m with
        | nil => rw [List.nil_append, word_nil_blank]; rfl
        | cons b m im =>
          by_cases hb : b = 32
          · subst hb; rw [List.cons_append, word_nil_blank, word_nil_blank]
          · rw [List.cons_append, word_cons hb, word_cons hb, im]
      exact this l
    rw [toks_step, key]
    by_cases hl : (word l).length + 1 ≤ l.length
    · rw [List.drop_append_of_le_length hl, ih _ (by simp; omega), toks_step l c, List.append_assoc]
      congr 3
      simp; omega
    · have hle := word_le l
      have e : (word l).length = l.length := by omega
      have e2 : word l = l := by
        have := hs.1; rw [e, List.drop_of_length_le (Nat.le_refl _), List.append_nil] at this; exact this.symm
      rw [e2]
      have e3 : (l ++ 32 :: r).drop (l.length + 1) = r := by
        rw [← List.drop_drop, List.drop_left]; rfl
      rw [e3, toks_step l c, e2, List.drop_of_length_le (by omega), toks_nil, List.append_nil]
theorem badCol_zero {l : List UInt8} (h : okP l) (i : Nat) : badCol l i = 0 := by
  have := badCol_okP h [] i; simpa [badCol] using this
end Go.Proofs.YtahgfmobdfhaaaaGreatDoor
