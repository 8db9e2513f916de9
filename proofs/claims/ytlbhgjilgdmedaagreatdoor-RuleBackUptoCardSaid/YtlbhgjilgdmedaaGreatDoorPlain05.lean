/-
  The words of a rule's line, plainly: a line that is a rule has just the words of its rule.
-/
import Derived.Test.YtlbhgjilgdmedaaGreatDoorNames0
import Derived.Test.YtlbhgjilgdmedaaGreatDoorPrint2
import Derived.Lib.ItoaMem
namespace Go.Proofs.YtlbhgjilgdmedaaGreatDoor
set_option maxRecDepth 100000

/-- the words of the line of a rule -/
def lineP (r : Ru) : List Tx :=
  wordP kindT r.kind ::
    (if r.kind = 1 then r.name :: (if r.list = [] then [] else [62] :: r.list)
    else if r.kind = 2 ∨ r.kind = 3 then r.name :: r.list
    else if r.kind = 4 ∨ r.kind = 5 then Lib.itoa r.n :: r.list
    else if r.kind = 6 then r.list
    else if r.kind = 7 then [r.name, Lib.itoa r.n, Lib.itoa r.m]
    else if r.kind = 8 then [r.name, wordP stateT r.n] ++ optP [105, 110] r.in_
    else if r.kind = 9 then [r.name, [102, 114, 111, 109], r.from_, [116, 111], r.to_] ++ optP [98, 121] r.by_ ++ optP [116, 97, 115, 107] r.task
    else if r.kind = 10 then [[102, 114, 111, 109], r.from_, [116, 111], r.to_]
    else if r.kind = 11 then [Lib.itoa r.n, [102, 114, 111, 109], r.from_, [116, 111], r.to_]
    else [])
/-! ### numbers -/
theorem dig_head {l : Tx} (h : allB digB l = true) : 0 < l.length → l.head? ≠ some 48 → 1 ≤ valL l := by
  intro h0 h1
  cases l with
  | nil => simp at h0
  | cons b r =>
    have hb : digB b.toNat = true := by
      simp only [allB, List.all_cons, Bool.and_eq_true] at h; exact h.1
    have hb2 : 1 ≤ b.toNat - 48 := by
      have : b ≠ 48 := by intro e; apply h1; rw [e]; rfl
      have h3 : b.toNat ≠ 48 := fun e => this (UInt8.toNat_inj.1 e)
      simp [digB] at hb; omega
    suffices H : ∀ (l : Tx) (n : Nat), 1 ≤ n → 1 ≤ l.foldl (fun n b => n * 10 + (b.toNat - 48)) n from by
      unfold valL; rw [List.foldl_cons]; exact H r _ (by omega)
    intro l
    induction l with
    | nil => intro n hn; exact hn
    | cons c l ih => intro n hn; rw [List.foldl_cons]; exact ih _ (by omega)
theorem dec_val : ∀ (m : Nat) (l : Tx), l.length = m + 1 → allB digB l = true → (l.head? ≠ some 48 ∨ m = 0) → Lib.decDigits (valL l) = l := by
  intro m
  induction m with
  | zero =>
    intro l hl hd _
    obtain ⟨b, rfl⟩ : ∃ b, l = [b] := by
      cases l with
      | nil => simp at hl
      | cons b r => cases r with
        | nil => exact ⟨b, rfl⟩
        | cons c r => simp at hl
    have hb : 48 ≤ b.toNat ∧ b.toNat ≤ 57 := by simp [allB, digB] at hd; omega
    have hv : valL [b] = b.toNat - 48 := by simp [valL]
    rw [hv, Lib.decDigits, dif_pos (by omega), show 48 + (b.toNat - 48) = b.toNat by omega]
    simp
  | succ m ih =>
    intro l hl hd hh
    have hne : l ≠ [] := by rintro rfl; simp at hl
    obtain ⟨i, b, rfl⟩ : ∃ i b, l = i ++ [b] := ⟨l.dropLast, l.getLast hne, (List.dropLast_concat_getLast hne).symm⟩
    have hi : i.length = m + 1 := by simpa using hl
    rw [allB_snoc] at hd
    simp only [Bool.and_eq_true] at hd
    have hb : 48 ≤ b.toNat ∧ b.toNat ≤ 57 := by have := hd.2; simp [digB] at this; omega
    have hih : i.head? ≠ some 48 := by
      rcases hh with hh | hh
      · cases i with
        | nil => simp at hi
        | cons a r => simpa using hh
      · omega
    have h1 := dig_head hd.1 (by omega) hih
    rw [valL_snoc, Lib.decDigits, dif_neg (by omega), show (valL i * 10 + (b.toNat - 48)) / 10 = valL i by omega, show (valL i * 10 + (b.toNat - 48)) % 10 = b.toNat - 48 by omega, show 48 + (b.toNat - 48) = b.toNat by omega, ih i hi hd.1 (.inl hih)]
    simp
theorem itoa_num {t : Tx} (h : isNum t = true) : Lib.itoa (numV t) = t := by
  have hn : numV t = (valL t : Int) := by unfold numV; rw [if_pos h]
  rw [hn, Lib.itoa_nonneg]
  simp only [isNum, Bool.and_eq_true, Bool.not_eq_true', decide_eq_true_eq, Bool.and_eq_false_iff, beq_eq_false_iff_ne, decide_eq_false_iff_not] at h
  obtain ⟨⟨⟨h1, _⟩, h2⟩, h3⟩ := h
  refine dec_val (t.length - 1) t (by omega) h3 ?_
  rcases h2 with h2 | h2
  · exact .inl h2
  · exact .inr (by omega)
/-! ### tables -/
theorem idx_get (l : List Tx) (x : Tx) : ∀ i : Nat, (i : Int) ≤ idx l x i → l[(idx l x i).toNat - i]? = some x := by
  induction l with
  | nil => intro i h; simp [idx] at h; omega
  | cons t r ih =>
    intro i h
    rw [idx] at h ⊢
    split
    · rename_i e; subst e; simp
    · rename_i e
      rw [if_neg e] at h
      have hr := idx_rng r x ((i : Int) + 1) (by omega)
      have h2 : ((i + 1 : Nat) : Int) ≤ idx r x ((i + 1 : Nat) : Int) := by
        rw [show ((i + 1 : Nat) : Int) = (i : Int) + 1 by omega]; omega
      have := ih (i + 1) h2
      rw [show ((i + 1 : Nat) : Int) = (i : Int) + 1 by omega] at this h2
      rw [show (idx r x ((i : Int) + 1)).toNat - i = ((idx r x ((i : Int) + 1)).toNat - (i + 1)) + 1 by omega]
      simpa using this
theorem word_idx {tbl : List Tx} {x : Tx} (h : 0 ≤ idx tbl x 0) : wordP tbl (idx tbl x 0) = x := by
  have h1 := idx_get tbl x 0 h
  have h2 := idx_rng tbl x 0 (by omega)
  unfold wordP
  rw [if_neg (by omega)]
  simp at h1
  rw [h1]; rfl
/-! ### how far is read -/
theorem drop_pk {T : List Tx} {k : Nat} {m : Bool} (h : pk T ⟨k, m⟩ ≠ []) : T.drop k = pk T ⟨k, m⟩ :: T.drop (k + 1) := by
  have hl : k < T.length := pk_lt h
  rw [List.drop_eq_getElem_cons hl, ← pk_at (s := ⟨k, m⟩) hl]
theorem names_drop {T : List Tx} {least : Nat} (N : Nat) : ∀ (acc : List Tx) (s : St), (namesP T least acc s N).2.m = false → T.length ≤ (namesP T least acc s N).2.k → (namesP T least acc s N).1 = acc ++ T.drop s.k := by
  induction N with
  | zero => intro acc s _ hk; have hk' : T.length ≤ s.k := hk; rw [List.drop_of_length_le hk']; simp [namesP]
  | succ N ih =>
    intro acc s h hk
    by_cases hc : s.m = false ∧ (acc.length < least ∨ s.k < T.length)
    · have e : namesP T least acc s (N + 1) = namesP T least (acc ++ [(nameP T s).1]) (nameP T s).2 N := by rw [namesP, if_pos hc]
      rw [e] at h hk ⊢
      rw [ih _ _ h hk]
      obtain ⟨_, b, e2⟩ := name_ok (names_ok N _ _ h).1
      rw [e2]
      obtain ⟨k, m⟩ := s
      rw [drop_pk (nameL_ne b)]
      simp [nameP]
    · have e : namesP T least acc s (N + 1) = (acc, s) := by rw [namesP, if_neg hc]
      rw [e] at h hk ⊢
      rw [List.drop_of_length_le hk]; simp
theorem name_le {T : List Tx} {s : St} (h : s.k ≤ T.length) : (nameP T s).2.k ≤ T.length := tk_le h fun e => nameL_ne e
theorem number_le {T : List Tx} {s : St} (h : s.k ≤ T.length) : (numberP T s).2.k ≤ T.length := tk_le h fun e => isNum_ne e
theorem fixed_le {T : List Tx} {x : Tx} {s : St} (hx : x ≠ []) (h : s.k ≤ T.length) : (fixedP T x s).k ≤ T.length := tk_le h fun e => by rw [beq_iff_eq] at e; rw [e]; exact hx
theorem choice_le {T tbl : List Tx} {s : St} (h0 : tbl.head? = some []) (h : s.k ≤ T.length) : (choiceP T tbl s).2.k ≤ T.length := tk_le h fun e => by
  intro e2
  rw [e2] at e
  cases tbl with
  | nil => simp at h0
  | cons a r => simp at h0; subst h0; simp [idx] at e
theorem option_le {T : List Tx} {x : Tx} {s : St} (hx : x ≠ []) (h : s.k ≤ T.length) : (optionP T x s).2.k ≤ T.length := by
  unfold optionP
  split
  · rename_i e; exact name_le (tk_le h fun _ => by rw [e]; exact hx)
  · exact h
theorem fromTo_le {T : List Tx} {s : St} (h : s.k ≤ T.length) : (fromToP T s).2.2.k ≤ T.length :=
  name_le (fixed_le (by decide) (name_le (fixed_le (by decide) h)))
theorem names_le {T : List Tx} {least : Nat} (N : Nat) : ∀ (acc : List Tx) (s : St), s.k ≤ T.length → (namesP T least acc s N).2.k ≤ T.length := by
  induction N with
  | zero => intro _ _ h; exact h
  | succ N ih =>
    intro acc s h
    rw [namesP]
    split
    · exact ih _ _ (name_le h)
    · exact h
theorem rule_le (T : List Tx) : (ruleP T).2.k ≤ T.length := by
  have hc : (choiceP T kindT ⟨0, false⟩).2.k ≤ T.length := choice_le rfl (Nat.zero_le _)
  unfold ruleP
  generalize choiceP T kindT ⟨0, false⟩ = C at hc
  unfold bodyP
  split
  · unfold roleP
    split
    · rename_i _ e; exact names_le _ _ _ (tk_le (name_le hc) fun _ => by rw [e]; decide)
    · exact name_le hc
  split
  · exact names_le _ _ _ (name_le hc)
  split
  · exact names_le _ _ _ (number_le hc)
  split
  · exact names_le _ _ _ hc
  split
  · exact number_le (number_le (name_le hc))
  split
  · exact option_le (by decide) (choice_le rfl (name_le hc))
  split
  · exact option_le (by decide) (option_le (by decide) (fromTo_le (name_le hc)))
  split
  · exact fromTo_le hc
  split
  · exact fromTo_le (number_le hc)
  exact hc
end Go.Proofs.YtlbhgjilgdmedaaGreatDoor
