/-
  The plain: lines told.
-/
import Derived.Test.YtahhepmhdcbplaaGreatDoorPol1
import Derived.Test.YtahhepmhdcbplaaGreatDoorPrint2
import Derived.Lib.ItoaMem
namespace Go.Proofs.YtahhepmhdcbplaaGreatDoor
set_option maxRecDepth 100000

theorem num2 : isNum [50] = true ∧ valL [50] = 2 := by decide
theorem num77 : isNum [55, 55] = true ∧ valL [55, 55] = 77 := by decide
structure NamesH (x y z d : Tx) (v : Int) : Prop where
  nx : nameL x = true
  ny : nameL y = true
  nz : nameL z = true
  xy : x ≠ y
  xz : x ≠ z
  yz : y ≠ z
  nd : isNum d = true
  nv : (valL d : Int) = v
  v1 : 1 ≤ v
  v2 : v ≤ 9
theorem nameB_gb {b : UInt8} (h : nameB b.toNat = true) : gb b = true := by
  simp [nameB, digB, gb] at h ⊢; omega
theorem name_gw {t : Tx} (h : nameL t = true) : gw t = true := by
  simp only [nameL, allB, Bool.and_eq_true, List.all_eq_true, decide_eq_true_eq] at h
  simp only [gw, Bool.and_eq_true, List.all_eq_true]
  refine ⟨?_, fun b hb => nameB_gb (h.2 b hb)⟩
  cases t with
  | nil => simp at h
  | cons a r => rfl
theorem digB_gb {b : UInt8} (h : digB b.toNat = true) : gb b = true := by
  simp [digB, gb] at h ⊢; omega
theorem num_gw {t : Tx} (h : isNum t = true) : gw t = true := by
  simp only [isNum, allB, Bool.and_eq_true, List.all_eq_true, decide_eq_true_eq] at h
  simp only [gw, Bool.and_eq_true, List.all_eq_true]
  refine ⟨?_, fun b hb => digB_gb (h.2 b hb)⟩
  cases t with
  | nil => simp at h
  | cons a r => rfl

theorem rp_role {x y z d : Tx} {v : Int} (h : NamesH x y z d v) : parseL (joinP [[114, 111, 108, 101], x, [62], y, z]) = .ok { kind := 1, name := x, list := [y, z] } := by
  obtain ⟨hx, hy, hz, xy, xz, yz, hd, hv, v1, v2⟩ := h
  have n2 := num2
  have n7 := num77
  refine parse_join (by simp) ?_ ?_ ?_
  · intro t ht
    simp only [List.mem_cons, List.mem_nil_iff, or_false] at ht
    rcases ht with rfl | rfl | rfl | rfl | rfl
    all_goals first | decide | exact name_gw (by assumption) | exact num_gw (by assumption)
  · simp [ruleP, bodyP, choiceP, roleP, userP, ssdP, exclP, lendP, stateP, onP, autoP, afterP, fromToP, fixedP, optionP, nameP, numberP, namesP, pk, tk, idx, kindT, stateT, hx, hy, hz, hd, hv, n2, n7, numV]
  · simp [wrongT, listT, dupT, timeP, xy, xz, yz, Ne.symm xy, Ne.symm xz, Ne.symm yz]
    try omega

theorem rp_user {x y z d : Tx} {v : Int} (h : NamesH x y z d v) : parseL (joinP [[117, 115, 101, 114], x, y]) = .ok { kind := 2, name := x, list := [y] } := by
  obtain ⟨hx, hy, hz, xy, xz, yz, hd, hv, v1, v2⟩ := h
  have n2 := num2
  have n7 := num77
  refine parse_join (by simp) ?_ ?_ ?_
  · intro t ht
    simp only [List.mem_cons, List.mem_nil_iff, or_false] at ht
    rcases ht with rfl | rfl | rfl
    all_goals first | decide | exact name_gw (by assumption) | exact num_gw (by assumption)
  · simp [ruleP, bodyP, choiceP, roleP, userP, ssdP, exclP, lendP, stateP, onP, autoP, afterP, fromToP, fixedP, optionP, nameP, numberP, namesP, pk, tk, idx, kindT, stateT, hx, hy, hz, hd, hv, n2, n7, numV]
  · simp [wrongT, listT, dupT, timeP, xy, xz, yz, Ne.symm xy, Ne.symm xz, Ne.symm yz]
    try omega

theorem rp_perm {x y z d : Tx} {v : Int} (h : NamesH x y z d v) : parseL (joinP [[112, 101, 114, 109], x]) = .ok { kind := 3, name := x } := by
  obtain ⟨hx, hy, hz, xy, xz, yz, hd, hv, v1, v2⟩ := h
  have n2 := num2
  have n7 := num77
  refine parse_join (by simp) ?_ ?_ ?_
  · intro t ht
    simp only [List.mem_cons, List.mem_nil_iff, or_false] at ht
    rcases ht with rfl | rfl
    all_goals first | decide | exact name_gw (by assumption) | exact num_gw (by assumption)
  · simp [ruleP, bodyP, choiceP, roleP, userP, ssdP, exclP, lendP, stateP, onP, autoP, afterP, fromToP, fixedP, optionP, nameP, numberP, namesP, pk, tk, idx, kindT, stateT, hx, hy, hz, hd, hv, n2, n7, numV]
  · simp [wrongT, listT, dupT, timeP, xy, xz, yz, Ne.symm xy, Ne.symm xz, Ne.symm yz]
    try omega

theorem rp_ssd {x y z d : Tx} {v : Int} (h : NamesH x y z d v) : parseL (joinP [[115, 115, 100], [50], x, y]) = .ok { kind := 4, n := 2, list := [x, y] } := by
  obtain ⟨hx, hy, hz, xy, xz, yz, hd, hv, v1, v2⟩ := h
  have n2 := num2
  have n7 := num77
  refine parse_join (by simp) ?_ ?_ ?_
  · intro t ht
    simp only [List.mem_cons, List.mem_nil_iff, or_false] at ht
    rcases ht with rfl | rfl | rfl | rfl
    all_goals first | decide | exact name_gw (by assumption) | exact num_gw (by assumption)
  · simp [ruleP, bodyP, choiceP, roleP, userP, ssdP, exclP, lendP, stateP, onP, autoP, afterP, fromToP, fixedP, optionP, nameP, numberP, namesP, pk, tk, idx, kindT, stateT, hx, hy, hz, hd, hv, n2, n7, numV]
  · simp [wrongT, listT, dupT, timeP, xy, xz, yz, Ne.symm xy, Ne.symm xz, Ne.symm yz]
    try omega

end Go.Proofs.YtahhepmhdcbplaaGreatDoor
namespace Go.Proofs.YtahhepmhdcbplaaGreatDoor
set_option maxRecDepth 100000

theorem name_le {T : List Tx} {s : St} (h : s.k ≤ T.length) : (nameP T s).2.k ≤ T.length := tk_le h fun e => nameL_ne e
theorem number_le {T : List Tx} {s : St} (h : s.k ≤ T.length) : (numberP T s).2.k ≤ T.length := tk_le h fun e => isNum_ne e
theorem fixed_le {T : List Tx} {x : Tx} {s : St} (hx : x ≠ []) (h : s.k ≤ T.length) : (fixedP T x s).k ≤ T.length := tk_le h fun e => by rw [beq_iff_eq] at e; rw [e]; exact hx
theorem choice_le {T tbl : List Tx} {s : St} (h0 : tbl.head? = some []) (h : s.k ≤ T.length) : (choiceP T tbl s).2.k ≤ T.length := tk_le h fun e => by
  intro e2
  rw [e2] at e
  cases tbl with
  | nil => simp at h0
  | cons a r => simp at h0; subst h0; simp [idx] at e
theorem option_le {T : List Tx} {x : Tx} {s : St} (hx : x ≠ []) (h : s.k ≤ T.length) : (optionP T x s).2.k ≤ T.length := by
  unfold optionP
  split
  · rename_i e; exact name_le (tk_le h fun _ => by rw [e]; exact hx)
  · exact h
theorem fromTo_le {T : List Tx} {s : St} (h : s.k ≤ T.length) : (fromToP T s).2.2.k ≤ T.length :=
  name_le (fixed_le (by decide) (name_le (fixed_le (by decide) h)))
theorem names_le {T : List Tx} {least : Nat} (N : Nat) : ∀ (acc : List Tx) (s : St), s.k ≤ T.length → (namesP T least acc s N).2.k ≤ T.length := by
  induction N with
  | zero => intro _ _ h; exact h
  | succ N ih =>
    intro acc s h
    rw [namesP]
    split
    · exact ih _ _ (name_le h)
    · exact h
theorem rule_le (T : List Tx) : (ruleP T).2.k ≤ T.length := by
  have hc : (choiceP T kindT ⟨0, false⟩).2.k ≤ T.length := choice_le rfl (Nat.zero_le _)
  unfold ruleP
  generalize choiceP T kindT ⟨0, false⟩ = C at hc
  unfold bodyP
  split
  · unfold roleP
    split
    · rename_i _ e; exact names_le _ _ _ (tk_le (name_le hc) fun _ => by rw [e]; decide)
    · exact name_le hc
  split
  · exact names_le _ _ _ (name_le hc)
  split
  · exact names_le _ _ _ (number_le hc)
  split
  · exact names_le _ _ _ hc
  split
  · exact number_le (number_le (name_le hc))
  split
  · exact option_le (by decide) (choice_le rfl (name_le hc))
  split
  · exact option_le (by decide) (option_le (by decide) (fromTo_le (name_le hc)))
  split
  · exact fromTo_le hc
  split
  · exact fromTo_le (number_le hc)
  exact hc

/-- a rule that was read: its list is no longer than its line; its kind is one of the eleven -/
def RuOk (r : Ru) : Prop := r.list.length ≤ 4096 ∧ 1 ≤ r.kind ∧ r.kind ≤ 11
theorem ru_ok {L : Tx} {r : Ru} (h : parseL L = .ok r) (hL : L.length ≤ 4096) : RuOk r := by
  have hb := words_bounds L
  have hct := words_count L
  have hpl := partL_le L
  unfold parseL at h
  split at h
  · cases h
  · rename_i h0
    split at h
    · cases h
    · rename_i hne
      have hlen : (wordsL L).length ≤ L.length := by
        have := hct
        omega
      generalize wordsL L = ws at *
      unfold parseW at h
      split at h
      · cases h
      · rename_i h1
        split at h
        · cases h
        · cases h
          have hpos : 0 < ws.length := List.length_pos_iff.2 hne
          have hM0 : misP ws (ruleP (tx ws)).2 = 0 := by omega
          obtain ⟨_, hm⟩ := mis_zero (fun x hx => (hb x hx).1) hpos hM0
          obtain ⟨f1, f2, _⟩ := formed hm (rule_le (tx ws))
          rw [tx_len] at f1 f2
          refine ⟨by omega, ?_, ?_⟩
          · rcases f2 with f2 | f2 | f2 | f2 | f2 | f2 | f2 | ⟨f2 | f2 | f2, _⟩ | ⟨f2, _⟩ <;> rw [f2] <;> decide
          · rcases f2 with f2 | f2 | f2 | f2 | f2 | f2 | f2 | ⟨f2 | f2 | f2, _⟩ | ⟨f2, _⟩ <;> rw [f2] <;> decide
end Go.Proofs.YtahhepmhdcbplaaGreatDoor
namespace Go.Proofs.YtahhepmhdcbplaaGreatDoor
set_option maxRecDepth 100000

/-- the words of the line of a rule -/
def lineP (r : Ru) : List Tx :=
  wordP kindT r.kind ::
    (if r.kind = 1 then r.name :: (if r.list = [] then [] else [62] :: r.list)
    else if r.kind = 2 ∨ r.kind = 3 then r.name :: r.list
    else if r.kind = 4 ∨ r.kind = 5 then Lib.itoa r.n :: r.list
    else if r.kind = 6 then r.list
    else if r.kind = 7 then [r.name, Lib.itoa r.n, Lib.itoa r.m]
    else if r.kind = 8 then [r.name, wordP stateT r.n] ++ optP [105, 110] r.in_
    else if r.kind = 9 then [r.name, [102, 114, 111, 109], r.from_, [116, 111], r.to_] ++ optP [98, 121] r.by_ ++ optP [116, 97, 115, 107] r.task
    else if r.kind = 10 then [[102, 114, 111, 109], r.from_, [116, 111], r.to_]
    else if r.kind = 11 then [Lib.itoa r.n, [102, 114, 111, 109], r.from_, [116, 111], r.to_]
    else [])
/-! ### numbers -/
theorem dig_head {l : Tx} (h : allB digB l = true) : 0 < l.length → l.head? ≠ some 48 → 1 ≤ valL l := by
  intro h0 h1
  cases l with
  | nil => simp at h0
  | cons b r =>
    have hb : digB b.toNat = true := by
      simp only [allB, List.all_cons, Bool.and_eq_true] at h; exact h.1
    have hb2 : 1 ≤ b.toNat - 48 := by
      have : b ≠ 48 := by intro e; apply h1; rw [e]; rfl
      have h3 : b.toNat ≠ 48 := fun e => this (UInt8.toNat_inj.1 e)
      simp [digB] at hb; omega
    suffices H : ∀ (l : Tx) (n : Nat), 1 ≤ n → 1 ≤ l.foldl (fun n b => n * 10 + (b.toNat - 48)) n from by
      unfold valL; rw [List.foldl_cons]; exact H r _ (by omega)
    intro l
    induction l with
    | nil => intro n hn; exact hn
    | cons c l ih => intro n hn; rw [List.foldl_cons]; exact ih _ (by omega)
theorem dec_val : ∀ (m : Nat) (l : Tx), l.length = m + 1 → allB digB l = true → (l.head? ≠ some 48 ∨ m = 0) → Lib.decDigits (valL l) = l := by
  intro m
  induction m with
  | zero =>
    intro l hl hd _
    obtain ⟨b, rfl⟩ : ∃ b, l = [b] := by
      cases l with
      | nil => simp at hl
      | cons b r => cases r with
        | nil => exact ⟨b, rfl⟩
        | cons c r => simp at hl
    have hb : 48 ≤ b.toNat ∧ b.toNat ≤ 57 := by simp [allB, digB] at hd; omega
    have hv : valL [b] = b.toNat - 48 := by simp [valL]
    rw [hv, Lib.decDigits, dif_pos (by omega), show 48 + (b.toNat - 48) = b.toNat by omega]
    simp
  | succ m ih =>
    intro l hl hd hh
    have hne : l ≠ [] := by rintro rfl; simp at hl
    obtain ⟨i, b, rfl⟩ : ∃ i b, l = i ++ [b] := ⟨l.dropLast, l.getLast hne, (List.dropLast_concat_getLast hne).symm⟩
    have hi : i.length = m + 1 := by simpa using hl
    rw [allB_snoc] at hd
    simp only [Bool.and_eq_true] at hd
    have hb : 48 ≤ b.toNat ∧ b.toNat ≤ 57 := by have := hd.2; simp [digB] at this; omega
    have hih : i.head? ≠ some 48 := by
      rcases hh with hh | hh
      · cases i with
        | nil => simp at hi
        | cons a r => simpa using hh
      · omega
    have h1 := dig_head hd.1 (by omega) hih
    rw [valL_snoc, Lib.decDigits, dif_neg (by omega), show (valL i * 10 + (b.toNat - 48)) / 10 = valL i by omega, show (valL i * 10 + (b.toNat - 48)) % 10 = b.toNat - 48 by omega, show 48 + (b.toNat - 48) = b.toNat by omega, ih i hi hd.1 (.inl hih)]
    simp
theorem itoa_num {t : Tx} (h : isNum t = true) : Lib.itoa (numV t) = t := by
  have hn : numV t = (valL t : Int) := by unfold numV; rw [if_pos h]
  rw [hn, Lib.itoa_nonneg]
  simp only [isNum, Bool.and_eq_true, Bool.not_eq_true', decide_eq_true_eq, Bool.and_eq_false_iff, beq_eq_false_iff_ne, decide_eq_false_iff_not] at h
  obtain ⟨⟨⟨h1, _⟩, h2⟩, h3⟩ := h
  refine dec_val (t.length - 1) t (by omega) h3 ?_
  rcases h2 with h2 | h2
  · exact .inl h2
  · exact .inr (by omega)
/-! ### tables -/
theorem idx_get (l : List Tx) (x : Tx) : ∀ i : Nat, (i : Int) ≤ idx l x i → l[(idx l x i).toNat - i]? = some x := by
  induction l with
  | nil => intro i h; simp [idx] at h; omega
  | cons t r ih =>
    intro i h
    rw [idx] at h ⊢
    split
    · rename_i e; subst e; simp
    · rename_i e
      rw [if_neg e] at h
      have hr := idx_rng r x ((i : Int) + 1) (by omega)
      have h2 : ((i + 1 : Nat) : Int) ≤ idx r x ((i + 1 : Nat) : Int) := by
        rw [show ((i + 1 : Nat) : Int) = (i : Int) + 1 by omega]; omega
      have := ih (i + 1) h2
      rw [show ((i + 1 : Nat) : Int) = (i : Int) + 1 by omega] at this h2
      rw [show (idx r x ((i : Int) + 1)).toNat - i = ((idx r x ((i : Int) + 1)).toNat - (i + 1)) + 1 by omega]
      simpa using this
theorem word_idx {tbl : List Tx} {x : Tx} (h : 0 ≤ idx tbl x 0) : wordP tbl (idx tbl x 0) = x := by
  have h1 := idx_get tbl x 0 h
  have h2 := idx_rng tbl x 0 (by omega)
  unfold wordP
  rw [if_neg (by omega)]
  simp at h1
  rw [h1]; rfl
/-! ### how far is read -/
theorem drop_pk {T : List Tx} {k : Nat} {m : Bool} (h : pk T ⟨k, m⟩ ≠ []) : T.drop k = pk T ⟨k, m⟩ :: T.drop (k + 1) := by
  have hl : k < T.length := pk_lt h
  rw [List.drop_eq_getElem_cons hl, ← pk_at (s := ⟨k, m⟩) hl]
theorem names_drop {T : List Tx} {least : Nat} (N : Nat) : ∀ (acc : List Tx) (s : St), (namesP T least acc s N).2.m = false → T.length ≤ (namesP T least acc s N).2.k → (namesP T least acc s N).1 = acc ++ T.drop s.k := by
  induction N with
  | zero => intro acc s _ hk; have hk' : T.length ≤ s.k := hk; rw [List.drop_of_length_le hk']; simp [namesP]
  | succ N ih =>
    intro acc s h hk
    by_cases hc : s.m = false ∧ (acc.length < least ∨ s.k < T.length)
    · have e : namesP T least acc s (N + 1) = namesP T least (acc ++ [(nameP T s).1]) (nameP T s).2 N := by rw [namesP, if_pos hc]
      rw [e] at h hk ⊢
      rw [ih _ _ h hk]
      obtain ⟨_, b, e2⟩ := name_ok (names_ok N _ _ h).1
      rw [e2]
      obtain ⟨k, m⟩ := s
      rw [drop_pk (nameL_ne b)]
      simp [nameP]
    · have e : namesP T least acc s (N + 1) = (acc, s) := by rw [namesP, if_neg hc]
      rw [e] at h hk ⊢
      rw [List.drop_of_length_le hk]; simp
end Go.Proofs.YtahhepmhdcbplaaGreatDoor
