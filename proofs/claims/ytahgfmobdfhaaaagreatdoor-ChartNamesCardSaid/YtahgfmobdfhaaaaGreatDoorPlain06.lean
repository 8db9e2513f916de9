/-
  The plain: lines told.
-/
import Derived.Test.YtahgfmobdfhaaaaGreatDoorOkP
import Derived.Test.YtahgfmobdfhaaaaGreatDoorPrint2
import Derived.Lib.ItoaMem
namespace Go.Proofs.YtahgfmobdfhaaaaGreatDoor
set_option maxRecDepth 100000

end Go.Proofs.YtahgfmobdfhaaaaGreatDoor
namespace Go.Proofs.YtahgfmobdfhaaaaGreatDoor
set_option maxRecDepth 100000

theorem name_le {T : List Tx} {s : St} (h : s.k ≤ T.length) : (nameP T s).2.k ≤ T.length := tk_le h fun e => nameL_ne e
theorem number_le {T : List Tx} {s : St} (h : s.k ≤ T.length) : (numberP T s).2.k ≤ T.length := tk_le h fun e => isNum_ne e
theorem fixed_le {T : List Tx} {x : Tx} {s : St} (hx : x ≠ []) (h : s.k ≤ T.length) : (fixedP T x s).k ≤ T.length := tk_le h fun e => by rw [beq_iff_eq] at e; rw [e]; exact hx
theorem choice_le {T tbl : List Tx} {s : St} (h0 : tbl.head? = some []) (h : s.k ≤ T.length) : (choiceP T tbl s).2.k ≤ T.length := tk_le h fun e => by
  intro e2
  rw [e2] at e
  cases tbl with
  | nil => simp at h0
  | cons a r => simp at h0; subst h0; simp [idx] at e
theorem option_le {T : List Tx} {x : Tx} {s : St} (hx : x ≠ []) (h : s.k ≤ T.length) : (optionP T x s).2.k ≤ T.length := by
  unfold optionP
  split
  · rename_i e; exact name_le (tk_le h fun _ => by rw [e]; exact hx)
  · exact h
theorem fromTo_le {T : List Tx} {s : St} (h : s.k ≤ T.length) : (fromToP T s).2.2.k ≤ T.length :=
  name_le (fixed_le (by decide) (name_le (fixed_le (by decide) h)))
theorem names_le {T : List Tx} {least : Nat} (N : Nat) : ∀ (acc : List Tx) (s : St), s.k ≤ T.length → (namesP T least acc s N).2.k ≤ T.length := by
  induction N with
  | zero => intro _ _ h; exact h
  | succ N ih =>
    intro acc s h
    rw [namesP]
    split
    · exact ih _ _ (name_le h)
    · exact h
theorem rule_le (T : List Tx) : (ruleP T).2.k ≤ T.length := by
  have hc : (choiceP T kindT ⟨0, false⟩).2.k ≤ T.length := choice_le rfl (Nat.zero_le _)
  unfold ruleP
  generalize choiceP T kindT ⟨0, false⟩ = C at hc
  unfold bodyP
  split
  · unfold roleP
    split
    · rename_i _ e; exact names_le _ _ _ (tk_le (name_le hc) fun _ => by rw [e]; decide)
    · exact name_le hc
  split
  · exact names_le _ _ _ (name_le hc)
  split
  · exact names_le _ _ _ (number_le hc)
  split
  · exact names_le _ _ _ hc
  split
  · exact number_le (number_le (name_le hc))
  split
  · exact option_le (by decide) (choice_le rfl (name_le hc))
  split
  · exact option_le (by decide) (option_le (by decide) (fromTo_le (name_le hc)))
  split
  · exact fromTo_le hc
  split
  · exact fromTo_le (number_le hc)
  exact hc

/-- a rule that was read: its list is no longer than its line; its kind is one of the eleven -/
def RuOk (r : Ru) : Prop := r.list.length ≤ 4096 ∧ 1 ≤ r.kind ∧ r.kind ≤ 11
theorem ru_ok {L : Tx} {r : Ru} (h : parseL L = .ok r) (hL : L.length ≤ 4096) : RuOk r := by
  have hb := words_bounds L
  have hct := words_count L
  have hpl := partL_le L
  unfold parseL at h
  split at h
  · cases h
  · rename_i h0
    split at h
    · cases h
    · rename_i hne
      have hlen : (wordsL L).length ≤ L.length := by
        have := hct
        omega
      generalize wordsL L = ws at *
      unfold parseW at h
      split at h
      · cases h
      · rename_i h1
        split at h
        · cases h
        · cases h
          have hpos : 0 < ws.length := List.length_pos_iff.2 hne
          have hM0 : misP ws (ruleP (tx ws)).2 = 0 := by omega
          obtain ⟨_, hm⟩ := mis_zero (fun x hx => (hb x hx).1) hpos hM0
          obtain ⟨f1, f2, _⟩ := formed hm (rule_le (tx ws))
          rw [tx_len] at f1 f2
          refine ⟨by omega, ?_, ?_⟩
          · rcases f2 with f2 | f2 | f2 | f2 | f2 | f2 | f2 | ⟨f2 | f2 | f2, _⟩ | ⟨f2, _⟩ <;> rw [f2] <;> decide
          · rcases f2 with f2 | f2 | f2 | f2 | f2 | f2 | f2 | ⟨f2 | f2 | f2, _⟩ | ⟨f2, _⟩ <;> rw [f2] <;> decide
end Go.Proofs.YtahgfmobdfhaaaaGreatDoor
namespace Go.Proofs.YtahgfmobdfhaaaaGreatDoor
set_option maxRecDepth 100000

/-- the words of the line of a rule -/
def lineP (r : Ru) : List Tx :=
  wordP kindT r.kind ::
    (if r.kind = 1 then r.name :: (if r.list = [] then [] else [62] :: r.list)
    else if r.kind = 2 ∨ r.kind = 3 then r.name :: r.list
    else if r.kind = 4 ∨ r.kind = 5 then Lib.itoa r.n :: r.list
    else if r.kind = 6 then r.list
    else if r.kind = 7 then [r.name, Lib.itoa r.n, Lib.itoa r.m]
    else if r.kind = 8 then [r.name, wordP stateT r.n] ++ optP [105, 110] r.in_
    else if r.kind = 9 then [r.name, [102, 114, 111, 109], r.from_, [116, 111], r.to_] ++ optP [98, 121] r.by_ ++ optP [116, 97, 115, 107] r.task
    else if r.kind = 10 then [[102, 114, 111, 109], r.from_, [116, 111], r.to_]
    else if r.kind = 11 then [Lib.itoa r.n, [102, 114, 111, 109], r.from_, [116, 111], r.to_]
    else [])
/-! ### numbers -/
theorem dig_head {l : Tx} (h : allB digB l = true) : 0 < l.length → l.head? ≠ some 48 → 1 ≤ valL l := by
  intro h0 h1
  cases l with
  | nil => simp at h0
  | cons b r =>
    have hb : digB b.toNat = true := by
      simp only [allB, List.all_cons, Bool.and_eq_true] at h; exact h.1
    have hb2 : 1 ≤ b.toNat - 48 := by
      have : b ≠ 48 := by intro e; apply h1; rw [e]; rfl
      have h3 : b.toNat ≠ 48 := fun e => this (UInt8.toNat_inj.1 e)
      simp [digB] at hb; omega
    suffices H : ∀ (l : Tx) (n : Nat), 1 ≤ n → 1 ≤ l.foldl (fun n b => n * 10 + (b.toNat - 48)) n from by
      unfold valL; rw [List.foldl_cons]; exact H r _ (by omega)
    intro l
    induction l with
    | nil => intro n hn; exact hn
    | cons c l ih => intro n hn; rw [List.foldl_cons]; exact ih _ (by omega)
theorem dec_val : ∀ (m : Nat) (l : Tx), l.length = m + 1 → allB digB l = true → (l.head? ≠ some 48 ∨ m = 0) → Lib.decDigits (valL l) = l := by
  intro m
  induction m with
  | zero =>
    intro l hl hd _
    obtain ⟨b, rfl⟩ : ∃ b, l = [b] := by
      cases l with
      | nil => simp at hl
      | cons b r => cases r with
        | nil => exact ⟨b, rfl⟩
        | cons c r => simp at hl
    have hb : 48 ≤ b.toNat ∧ b.toNat ≤ 57 := by simp [allB, digB] at hd; omega
    have hv : valL [b] = b.toNat - 48 := by simp [valL]
    rw [hv, Lib.decDigits, dif_pos (by omega), show 48 + (b.toNat - 48) = b.toNat by omega]
    simp
  | succ m ih =>
    intro l hl hd hh
    have hne : l ≠ [] := by rintro rfl; simp at hl
    obtain ⟨i, b, rfl⟩ : ∃ i b, l = i ++ [b] := ⟨l.dropLast, l.getLast hne, (List.dropLast_concat_getLast hne).symm⟩
    have hi : i.length = m + 1 := by simpa using hl
    rw [allB_snoc] at hd
    simp only [Bool.and_eq_true] at hd
    have hb : 48 ≤ b.toNat ∧ b.toNat ≤ 57 := by have := hd.2; simp [digB] at this; omega
    have hih : i.head? ≠ some 48 := by
      rcases hh with hh | hh
      · cases i with
        | nil => simp at hi
        | cons a r => simpa using hh
      · omega
    have h1 := dig_head hd.1 (by omega) hih
    rw [valL_snoc, Lib.decDigits, dif_neg (by omega), show (valL i * 10 + (b.toNat - 48)) / 10 = valL i by omega, show (valL i * 10 + (b.toNat - 48)) % 10 = b.toNat - 48 by omega, show 48 + (b.toNat - 48) = b.toNat by omega, ih i hi hd.1 (.inl hih)]
    simp
theorem itoa_num {t : Tx} (h : isNum t = true) : Lib.itoa (numV t) = t := by
  have hn : numV t = (valL t : Int) := by unfold numV; rw [if_pos h]
  rw [hn, Lib.itoa_nonneg]
  simp only [isNum, Bool.and_eq_true, Bool.not_eq_true', decide_eq_true_eq, Bool.and_eq_false_iff, beq_eq_false_iff_ne, decide_eq_false_iff_not] at h
  obtain ⟨⟨⟨h1, _⟩, h2⟩, h3⟩ := h
  refine dec_val (t.length - 1) t (by omega) h3 ?_
  rcases h2 with h2 | h2
  · exact .inl h2
  · exact .inr (by omega)
/-! ### tables -/
theorem idx_get (l : List Tx) (x : Tx) : ∀ i : Nat, (i : Int) ≤ idx l x i → l[(idx l x i).toNat - i]? = some x := by
  induction l with
  | nil => intro i h; simp [idx] at h; omega
  | cons t r ih =>
    intro i h
    rw [idx] at h ⊢
    split
    · rename_i e; subst e; simp
    · rename_i e
      rw [if_neg e] at h
      have hr := idx_rng r x ((i : Int) + 1) (by omega)
      have h2 : ((i + 1 : Nat) : Int) ≤ idx r x ((i + 1 : Nat) : Int) := by
        rw [show ((i + 1 : Nat) : Int) = (i : Int) + 1 by omega]; omega
      have := ih (i + 1) h2
      rw [show ((i + 1 : Nat) : Int) = (i : Int) + 1 by omega] at this h2
      rw [show (idx r x ((i : Int) + 1)).toNat - i = ((idx r x ((i : Int) + 1)).toNat - (i + 1)) + 1 by omega]
      simpa using this
theorem word_idx {tbl : List Tx} {x : Tx} (h : 0 ≤ idx tbl x 0) : wordP tbl (idx tbl x 0) = x := by
  have h1 := idx_get tbl x 0 h
  have h2 := idx_rng tbl x 0 (by omega)
  unfold wordP
  rw [if_neg (by omega)]
  simp at h1
  rw [h1]; rfl
/-! ### how far is read -/
theorem drop_pk {T : List Tx} {k : Nat} {m : Bool} (h : pk T ⟨k, m⟩ ≠ []) : T.drop k = pk T ⟨k, m⟩ :: T.drop (k + 1) := by
  have hl : k < T.length := pk_lt h
  rw [List.drop_eq_getElem_cons hl, ← pk_at (s := ⟨k, m⟩) hl]
theorem names_drop {T : List Tx} {least : Nat} (N : Nat) : ∀ (acc : List Tx) (s : St), (namesP T least acc s N).2.m = false → T.length ≤ (namesP T least acc s N).2.k → (namesP T least acc s N).1 = acc ++ T.drop s.k := by
  induction N with
  | zero => intro acc s _ hk; have hk' : T.length ≤ s.k := hk; rw [List.drop_of_length_le hk']; simp [namesP]
  | succ N ih =>
    intro acc s h hk
    by_cases hc : s.m = false ∧ (acc.length < least ∨ s.k < T.length)
    · have e : namesP T least acc s (N + 1) = namesP T least (acc ++ [(nameP T s).1]) (nameP T s).2 N := by rw [namesP, if_pos hc]
      rw [e] at h hk ⊢
      rw [ih _ _ h hk]
      obtain ⟨_, b, e2⟩ := name_ok (names_ok N _ _ h).1
      rw [e2]
      obtain ⟨k, m⟩ := s
      rw [drop_pk (nameL_ne b)]
      simp [nameP]
    · have e : namesP T least acc s (N + 1) = (acc, s) := by rw [namesP, if_neg hc]
      rw [e] at h hk ⊢
      rw [List.drop_of_length_le hk]; simp
end Go.Proofs.YtahgfmobdfhaaaaGreatDoor
namespace Go.Proofs.YtahgfmobdfhaaaaGreatDoor
set_option maxRecDepth 100000

theorem names_pos {T : List Tx} {s : St} {N : Nat} (h : (namesP T 1 [] s (N + 1)).2.m = false) : s.k < T.length := by
  have hm := (names_ok (N + 1) [] s h).1
  rw [namesP, if_pos ⟨hm, .inl (by simp)⟩] at h
  obtain ⟨_, b, _⟩ := name_ok (names_ok N _ _ h).1
  exact pk_lt (nameL_ne b)
theorem kind_head {T : List Tx} (h : (choiceP T kindT ⟨0, false⟩).2.m = false) : (choiceP T kindT ⟨0, false⟩).2 = ⟨1, false⟩ ∧ (T = wordP kindT (choiceP T kindT ⟨0, false⟩).1 :: T.drop 1) ∧ 0 < (choiceP T kindT ⟨0, false⟩).1 ∧ (choiceP T kindT ⟨0, false⟩).1 < 12 := by
  obtain ⟨_, h0, e⟩ := choice_ok h
  have hlt := idx_rng kindT (pk T ⟨0, false⟩) 0 (by omega)
  rw [show kindT.length = 12 from rfl] at hlt
  have hlt2 : (choiceP T kindT ⟨0, false⟩).1 < 12 := by
    show idx kindT (pk T ⟨0, false⟩) 0 < 12
    omega
  refine ⟨e, ?_, h0, hlt2⟩
  have h1 : (0 : Int) ≤ idx kindT (pk T ⟨0, false⟩) 0 := Int.le_of_lt h0
  have hne : pk T ⟨0, false⟩ ≠ [] := by
    intro e2
    have h0' : (0 : Int) < idx kindT (pk T ⟨0, false⟩) 0 := h0
    rw [e2] at h0'; revert h0'; decide
  have hw : wordP kindT (choiceP T kindT ⟨0, false⟩).1 = pk T ⟨0, false⟩ := word_idx h1
  rw [hw]
  exact drop_pk (k := 0) (m := false) hne
theorem opt_words {T : List Tx} {x : Tx} {k : Nat} (hx : x ≠ []) (h : (optionP T x ⟨k, false⟩).2.m = false) : T.drop k = optP x (optionP T x ⟨k, false⟩).1 ++ T.drop (optionP T x ⟨k, false⟩).2.k := by
  obtain ⟨_, ⟨e1, e2, e3⟩ | ⟨e1, e3⟩⟩ := option_ok h
  · have hne := nameL_ne e2
    rw [e3]
    have h1 : T.drop k = x :: T.drop (k + 1) := by rw [← e1]; exact drop_pk (by rw [e1]; exact hx)
    rw [h1, drop_pk hne]
    unfold optP
    rw [if_neg hne]; rfl
  · rw [e3]; simp [optP]
theorem fromTo_words {T : List Tx} {k : Nat} (h : (fromToP T ⟨k, false⟩).2.2.m = false) : (fromToP T ⟨k, false⟩).2.2 = ⟨k + 4, false⟩ ∧ T.drop k = [102, 114, 111, 109] :: (fromToP T ⟨k, false⟩).1 :: [116, 111] :: (fromToP T ⟨k, false⟩).2.1 :: T.drop (k + 4) := by
  obtain ⟨_, e, b1, b2, b3, b4⟩ := fromTo_ok h
  rw [e]
  refine ⟨rfl, ?_⟩
  have h1 : T.drop k = [102, 114, 111, 109] :: T.drop (k + 1) := by rw [← b1]; exact drop_pk (by rw [b1]; decide)
  have h3 : T.drop (k + 2) = [116, 111] :: T.drop (k + 3) := by rw [← b3]; exact drop_pk (by rw [b3]; decide)
  rw [h1, drop_pk (nameL_ne b2), h3, drop_pk (nameL_ne b4)]
theorem line_read {T : List Tx} (h : (ruleP T).2.m = false) (hk : T.length ≤ (ruleP T).2.k) : lineP (ruleP T).1 = T := by
  have hr := @kind_head T
  unfold ruleP at h hk ⊢
  generalize choiceP T kindT ⟨0, false⟩ = C at h hk hr ⊢
  obtain ⟨c, s⟩ := C
  simp only at hr
  unfold bodyP at h hk ⊢
  simp only at h hk ⊢
  by_cases h1 : c = 1
  · subst h1
    simp only [if_true] at h hk ⊢
    unfold roleP at h hk ⊢
    by_cases hp : pk T (nameP T s).2 = [62]
    · rw [if_pos hp] at h hk ⊢
      have hk' : T.length ≤ (namesP T 1 [] (tk true (nameP T s).2) (T.length + 1)).2.k := hk
      have h' : (namesP T 1 [] (tk true (nameP T s).2) (T.length + 1)).2.m = false := h
      have D := names_drop _ [] _ h' hk'
      have P := names_pos h'
      obtain ⟨a2, _, e2⟩ := tk_ok (names_ok0 h').1
      obtain ⟨a3, b3, e3⟩ := name_ok a2
      obtain ⟨rfl, hT, _⟩ := hr a3
      rw [e2] at D P
      rw [e3] at D P hp
      have D' : (namesP T 1 [] (tk true (nameP T ⟨1, false⟩).2) (T.length + 1)).1 = T.drop 3 := by rw [e2, e3]; exact D
      have hne : T.drop 3 ≠ [] := by intro e; have := congrArg List.length e; simp at this; simp only at P; omega
      show lineP { kind := 1, name := pk T ⟨1, false⟩, list := (namesP T 1 [] (tk true (nameP T ⟨1, false⟩).2) (T.length + 1)).1 } = T
      rw [D']
      have h2 : T.drop 2 = [62] :: T.drop 3 := by rw [← hp]; exact drop_pk (by rw [hp]; decide)
      conv => rhs; rw [hT, drop_pk (nameL_ne b3), h2]
      simp only [lineP, if_true, if_neg hne]
    · rw [if_neg hp] at h hk ⊢
      obtain ⟨a3, b3, e3⟩ := name_ok h
      obtain ⟨rfl, hT, _⟩ := hr a3
      have hk' : T.length ≤ (nameP T ⟨1, false⟩).2.k := hk
      rw [e3] at hk'
      show lineP { kind := 1, name := pk T ⟨1, false⟩ } = T
      conv => rhs; rw [hT, drop_pk (nameL_ne b3), List.drop_of_length_le hk']
      simp only [lineP, if_true]
  rw [if_neg h1] at h hk ⊢
  by_cases h2 : c = 2 ∨ c = 3
  · rw [if_pos h2] at h hk ⊢
    have hk' : T.length ≤ (namesP T 0 [] (nameP T s).2 (T.length + 1)).2.k := hk
    have h' : (namesP T 0 [] (nameP T s).2 (T.length + 1)).2.m = false := h
    have D := names_drop _ [] _ h' hk'
    obtain ⟨a3, b3, e3⟩ := name_ok (names_ok0 h').1
    obtain ⟨rfl, hT, _⟩ := hr a3
    have D' : (namesP T 0 [] (nameP T ⟨1, false⟩).2 (T.length + 1)).1 = T.drop 2 := by rw [D, e3]; rfl
    show lineP { kind := c, name := pk T ⟨1, false⟩, list := (namesP T 0 [] (nameP T ⟨1, false⟩).2 (T.length + 1)).1 } = T
    rw [D']
    conv => rhs; rw [hT, drop_pk (nameL_ne b3)]
    simp only [lineP, if_neg h1, if_pos h2]
  rw [if_neg h2] at h hk ⊢
  by_cases h3 : c = 4 ∨ c = 5
  · rw [if_pos h3] at h hk ⊢
    have hk' : T.length ≤ (namesP T 2 [] (numberP T s).2 (T.length + 1)).2.k := hk
    have h' : (namesP T 2 [] (numberP T s).2 (T.length + 1)).2.m = false := h
    have D := names_drop _ [] _ h' hk'
    obtain ⟨a3, b3, e3⟩ := number_ok (names_ok0 h').1
    obtain ⟨rfl, hT, _⟩ := hr a3
    have D' : (namesP T 2 [] (numberP T ⟨1, false⟩).2 (T.length + 1)).1 = T.drop 2 := by rw [D, e3]; rfl
    show lineP { kind := c, n := numV (pk T ⟨1, false⟩), list := (namesP T 2 [] (numberP T ⟨1, false⟩).2 (T.length + 1)).1 } = T
    rw [D']
    conv => rhs; rw [hT, drop_pk (isNum_ne b3)]
    simp only [lineP, if_neg h1, if_neg h2, if_pos h3, itoa_num b3]
  rw [if_neg h3] at h hk ⊢
  by_cases h4 : c = 6
  · subst h4
    simp only [if_true] at h hk ⊢
    have hk' : T.length ≤ (namesP T 2 [] s (T.length + 1)).2.k := hk
    have h' : (namesP T 2 [] s (T.length + 1)).2.m = false := h
    have D := names_drop _ [] _ h' hk'
    obtain ⟨rfl, hT, _⟩ := hr (names_ok0 h').1
    show lineP { kind := 6, list := (namesP T 2 [] ⟨1, false⟩ (T.length + 1)).1 } = T
    rw [D]
    conv => rhs; rw [hT]
    simp [lineP]
  rw [if_neg h4] at h hk ⊢
  by_cases h5 : c = 7
  · subst h5
    simp only [if_true] at h hk ⊢
    have h' : (numberP T (numberP T (nameP T s).2).2).2.m = false := h
    have hk' : T.length ≤ (numberP T (numberP T (nameP T s).2).2).2.k := hk
    obtain ⟨a1, b1, e1⟩ := number_ok h'
    obtain ⟨a2, b2, e2⟩ := number_ok a1
    obtain ⟨a3, b3, e3⟩ := name_ok a2
    obtain ⟨rfl, hT, _⟩ := hr a3
    rw [e1, e2, e3] at hk'
    rw [e2, e3] at b1
    rw [e3] at b2
    show lineP { kind := 7, name := pk T ⟨1, false⟩, n := numV (pk T (nameP T ⟨1, false⟩).2), m := numV (pk T (numberP T (nameP T ⟨1, false⟩).2).2) } = T
    rw [e2, e3]
    conv => rhs; rw [hT, drop_pk (nameL_ne b3), drop_pk (isNum_ne b2), drop_pk (isNum_ne b1), List.drop_of_length_le hk']
    have i1 := itoa_num b1
    have i2 := itoa_num b2
    try simp only at i1 i2
    simp [lineP, i1, i2]
  rw [if_neg h5] at h hk ⊢
  by_cases h6 : c = 8
  · subst h6
    simp only [if_true] at h hk ⊢
    have h' : (optionP T [105, 110] (choiceP T stateT (nameP T s).2).2).2.m = false := h
    have hk' : T.length ≤ (optionP T [105, 110] (choiceP T stateT (nameP T s).2).2).2.k := hk
    obtain ⟨a1, _⟩ := option_ok h'
    obtain ⟨a2, p2, e2⟩ := choice_ok a1
    obtain ⟨a3, b3, e3⟩ := name_ok a2
    obtain ⟨rfl, hT, _⟩ := hr a3
    rw [e3] at p2 e2
    have w2 : wordP stateT (choiceP T stateT ⟨2, false⟩).1 = pk T ⟨2, false⟩ := word_idx (Int.le_of_lt p2)
    have n2 : pk T ⟨2, false⟩ ≠ [] := by
      intro e
      have p2' : (0 : Int) < idx stateT (pk T ⟨2, false⟩) 0 := p2
      rw [e] at p2'; revert p2'; decide
    rw [e3, e2] at h' hk'
    have O := opt_words (by decide) h'
    rw [List.drop_of_length_le hk', List.append_nil] at O
    show lineP { kind := 8, name := pk T ⟨1, false⟩, n := (choiceP T stateT (nameP T ⟨1, false⟩).2).1, in_ := (optionP T [105, 110] (choiceP T stateT (nameP T ⟨1, false⟩).2).2).1 } = T
    rw [e3, e2]
    conv => rhs; rw [hT, drop_pk (nameL_ne b3), drop_pk n2, O]
    try simp only at w2
    simp [lineP, w2]
  rw [if_neg h6] at h hk ⊢
  by_cases h7 : c = 9
  · subst h7
    simp only [if_true] at h hk ⊢
    have h' : (optionP T [116, 97, 115, 107] (optionP T [98, 121] (fromToP T (nameP T s).2).2.2).2).2.m = false := h
    have hk' : T.length ≤ (optionP T [116, 97, 115, 107] (optionP T [98, 121] (fromToP T (nameP T s).2).2.2).2).2.k := hk
    obtain ⟨a1, _⟩ := option_ok h'
    obtain ⟨a2, _⟩ := option_ok a1
    obtain ⟨a3, _⟩ := fromTo_ok a2
    obtain ⟨a4, b4, e4⟩ := name_ok a3
    obtain ⟨rfl, hT, _⟩ := hr a4
    rw [e4] at h' hk' a1 a2
    obtain ⟨e3, W3⟩ := fromTo_words a2
    rw [e3] at h' hk' a1
    have O1 := opt_words (by decide) a1
    generalize hO : optionP T [98, 121] ⟨1 + 1 + 4, false⟩ = O at *
    obtain ⟨oy, ok, om⟩ := O
    obtain rfl : om = false := a1
    have O2 := opt_words (by decide) h'
    rw [List.drop_of_length_le hk', List.append_nil] at O2
    show lineP { kind := 9, name := pk T ⟨1, false⟩, from_ := (fromToP T (nameP T ⟨1, false⟩).2).1, to_ := (fromToP T (nameP T ⟨1, false⟩).2).2.1, by_ := (optionP T [98, 121] (fromToP T (nameP T ⟨1, false⟩).2).2.2).1, task := (optionP T [116, 97, 115, 107] (optionP T [98, 121] (fromToP T (nameP T ⟨1, false⟩).2).2.2).2).1 } = T
    rw [e4, e3, hO]
    conv => rhs; rw [hT, drop_pk (nameL_ne b4), W3, O1]
    simp only
    rw [O2]
    simp [lineP]
  rw [if_neg h7] at h hk ⊢
  by_cases h8 : c = 10
  · subst h8
    simp only [if_true] at h hk ⊢
    have h' : (fromToP T s).2.2.m = false := h
    have hk' : T.length ≤ (fromToP T s).2.2.k := hk
    obtain ⟨a3, _⟩ := fromTo_ok h'
    obtain ⟨rfl, hT, _⟩ := hr a3
    obtain ⟨e3, W3⟩ := fromTo_words h'
    rw [e3] at hk'
    show lineP { kind := 10, from_ := (fromToP T ⟨1, false⟩).1, to_ := (fromToP T ⟨1, false⟩).2.1 } = T
    conv => rhs; rw [hT, W3, List.drop_of_length_le hk']
    simp [lineP]
  rw [if_neg h8] at h hk ⊢
  by_cases h9 : c = 11
  · subst h9
    simp only [if_true] at h hk ⊢
    have h' : (fromToP T (numberP T s).2).2.2.m = false := h
    have hk' : T.length ≤ (fromToP T (numberP T s).2).2.2.k := hk
    obtain ⟨a3, _⟩ := fromTo_ok h'
    obtain ⟨a4, b4, e4⟩ := number_ok a3
    obtain ⟨rfl, hT, _⟩ := hr a4
    rw [e4] at h' hk'
    obtain ⟨e3, W3⟩ := fromTo_words h'
    rw [e3] at hk'
    show lineP { kind := 11, n := numV (pk T ⟨1, false⟩), from_ := (fromToP T (numberP T ⟨1, false⟩).2).1, to_ := (fromToP T (numberP T ⟨1, false⟩).2).2.1 } = T
    rw [e4]
    conv => rhs; rw [hT, drop_pk (isNum_ne b4), W3, List.drop_of_length_le hk']
    have i1 := itoa_num b4
    try simp only at i1
    simp [lineP, i1]
  rw [if_neg h9] at h hk ⊢
  exfalso
  have h0 := (hr h).2.2
  omega
/-! ### a line's words are words -/
theorem part_mem {L : Tx} {b : UInt8} (h : b ∈ partL L) : b ≠ 35 := by
  unfold partL upTo at h
  have := List.all_eq_true.1 (List.all_takeWhile (l := L) (p := fun x => x != 35)) b h
  simpa using this
theorem bad_zero (l : Tx) : ∀ i, badCol l i = 0 → ∀ b ∈ l, 32 ≤ b.toNat ∧ b.toNat ≤ 126 := by
  induction l with
  | nil => intro _ _ b hb; simp at hb
  | cons a r ih =>
    intro i h b hb
    rw [badCol] at h
    split at h
    · omega
    · rw [List.mem_cons] at hb
      rcases hb with rfl | hb
      · omega
      · exact ih _ h b hb
theorem word_mem {l : Tx} {b : UInt8} (h : b ∈ word l) : b ∈ l ∧ b ≠ 32 := by
  unfold word upTo at h
  refine ⟨(List.takeWhile_sublist _).subset h, ?_⟩
  have := List.all_eq_true.1 (List.all_takeWhile (l := l) (p := fun x => x != 32)) b h
  simpa using this
theorem toks_mem : ∀ (m : Nat) (l : Tx), l.length ≤ m → ∀ c, ∀ x ∈ toks l c, x.2 ≠ [] ∧ ∀ b ∈ x.2, b ∈ l ∧ b ≠ 32 := by
  intro m
  induction m with
  | zero => intro l h c x hx; have : l = [] := List.eq_nil_of_length_eq_zero (by omega); subst this; simp [toks_nil] at hx
  | succ m ih =>
    intro l h c x hx
    rw [toks_step, List.mem_append] at hx
    rcases hx with hx | hx
    · by_cases hw : (word l).length = 0
      · rw [if_pos hw] at hx; simp at hx
      · rw [if_neg hw, List.mem_singleton] at hx
        subst hx
        exact ⟨fun e => hw (by rw [show word l = [] from e]; rfl), fun b hb => word_mem hb⟩
    · have hd : (l.drop ((word l).length + 1)).length ≤ m := by simp; omega
      obtain ⟨e1, e2⟩ := ih _ hd _ x hx
      exact ⟨e1, fun b hb => ⟨List.mem_of_mem_drop (e2 b hb).1, (e2 b hb).2⟩⟩
theorem words_gw (L : Tx) : ∀ t ∈ tx (wordsL L), gw t = true := by
  intro t ht
  unfold wordsL at ht
  split at ht
  · rename_i h0
    simp only [tx, List.mem_map] at ht
    obtain ⟨x, hx, rfl⟩ := ht
    obtain ⟨e1, e2⟩ := toks_mem _ _ (Nat.le_refl _) _ x hx
    have hb := bad_zero _ _ h0
    simp only [gw, Bool.and_eq_true, List.all_eq_true]
    refine ⟨by simpa using e1, fun b hb2 => ?_⟩
    obtain ⟨m1, m2⟩ := e2 b hb2
    have h1 := hb b m1
    have h2 := part_mem m1
    have h3 : b.toNat ≠ 32 := fun e => m2 (UInt8.toNat_inj.1 e)
    have h4 : b.toNat ≠ 35 := fun e => h2 (UInt8.toNat_inj.1 e)
    simp [gb]; omega
  · simp [tx] at ht
/-- A line that is a rule, told: the same rule. -/
theorem parse_told {L : Tx} {r : Ru} (h : parseL L = .ok r) : parseL (joinP (lineP r)) = .ok r ∧ lineP r = tx (wordsL L) := by
  have hg := words_gw L
  have hb := words_bounds L
  unfold parseL at h
  split at h
  · cases h
  split at h
  · cases h
  rename_i hne
  unfold parseW at h
  split at h
  · cases h
  rename_i hm
  split at h
  · cases h
  rename_i hw
  have hr : (ruleP (tx (wordsL L))).1 = r := by injection h
  have hpos : ∀ x ∈ wordsL L, 1 ≤ x.1 := fun x hx => (hb x hx).1
  have h0 : 0 < (wordsL L).length := by
    cases hh : wordsL L with
    | nil => exact absurd hh hne
    | cons a r => simp
  have hm' : misP (wordsL L) (ruleP (tx (wordsL L))).2 = 0 := by omega
  obtain ⟨hk, hm0⟩ := mis_zero hpos h0 hm'
  generalize wordsL L = ws at *
  have hlen : (tx ws).length = ws.length := tx_len ws
  have hk2 := rule_le (tx ws)
  have he : (ruleP (tx ws)).2 = ⟨(tx ws).length, false⟩ := by
    cases hq : (ruleP (tx ws)).2 with
    | mk k m => rw [hq] at hk hm0 hk2; simp only at hk hm0 hk2; subst hm0; congr; omega
  have hl : lineP r = tx ws := by rw [← hr]; exact line_read hm0 (by rw [hlen]; exact hk)
  rw [hl]
  refine ⟨?_, rfl⟩
  have hF : Formed ws.length (ruleP (tx ws)).1 := by
    have := formed (T := tx ws) hm0 hk2; rwa [hlen] at this
  have hw2 : wrongT (ruleP (tx ws)).1 (tx ws) = false := by
    have := wrong_T hpos hF
    cases hh : wrongT (ruleP (tx ws)).1 (tx ws)
    · rfl
    · exact absurd (this.2 hh) hw
  refine parse_join (fun e => ?_) hg (r := r) ?_ (by rw [← hr]; exact hw2)
  · rw [e] at hlen; simp at hlen; omega
  · rw [← he, ← hr]
/-! ### blanks and a comment behind -/
end Go.Proofs.YtahgfmobdfhaaaaGreatDoor
