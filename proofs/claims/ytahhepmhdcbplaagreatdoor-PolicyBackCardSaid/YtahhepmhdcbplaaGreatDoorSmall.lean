/-
  What rules of a text print as; a read rule is small.
-/
import Derived.Test.YtahhepmhdcbplaaGreatDoorPolP
import Derived.Test.YtahhepmhdcbplaaGreatDoorPol1
namespace Go.Proofs.YtahhepmhdcbplaaGreatDoor

theorem toks_sum : ∀ (n : Nat) (l : Tx), l.length ≤ n → ∀ c, (joinP (tx (toks l c))).length ≤ l.length := by
  intro n
  induction n with
  | zero =>
    intro l h c
    have : l = [] := List.eq_nil_of_length_eq_zero (by omega)
    subst this
    simp [toks_nil, tx, joinP, Lib.join]
  | succ n ih =>
    intro l h c
    by_cases hl : l = []
    · subst hl; simp [toks_nil, tx, joinP, Lib.join]
    have hpos : 0 < l.length := List.length_pos_iff.2 hl
    have hw : (word l).length ≤ l.length := (List.takeWhile_sublist _).length_le
    rw [toks_step]
    have i := ih (l.drop ((word l).length + 1)) (by simp; omega) (c + (word l).length + 1)
    by_cases hd : l.drop ((word l).length + 1) = []
    · rw [hd, toks_nil, List.append_nil]
      split
      · simp [tx, joinP, Lib.join]
      · show (joinP [word l]).length ≤ _
        rw [join_one]; exact hw
    · have hdl := List.length_pos_iff.2 hd
      generalize toks (l.drop ((word l).length + 1)) (c + (word l).length + 1) = T at i ⊢
      rw [List.length_drop] at i hdl
      split
      · rw [List.nil_append]; omega
      · cases T with
        | nil =>
          show (joinP [word l]).length ≤ _
          rw [join_one]; exact hw
        | cons x T =>
          show (joinP (word l :: x.2 :: tx T)).length ≤ _
          rw [join_cons2]
          have i2 : (joinP (x.2 :: tx T)).length ≤ l.length - ((word l).length + 1) := i
          simp only [List.length_append, List.length_cons]
          omega
theorem told_len {L : Tx} {r : Ru} (h : parseL L = .ok r) : (joinP (lineP r)).length ≤ L.length := by
  rw [(parse_told h).2]
  unfold wordsL
  split
  · exact Nat.le_trans (toks_sum _ _ (Nat.le_refl _) _) (partL_le L)
  · simp [tx, joinP, Lib.join]
/-- the bytes of lines, an end of line behind each -/
def linesLen (ls : List Tx) : Nat := (ls.map (·.length + 1)).sum
theorem linesLen_all : ∀ s : Tx, linesLen (linesL s) = s.length + 1
  | [] => rfl
  | c :: r => by
    have ih := linesLen_all r
    by_cases hc : c = 10
    · subst hc; rw [lines_end]; simp only [linesLen, List.map_cons, List.sum_cons, List.length_nil, List.length_cons] at ih ⊢; omega
    · obtain ⟨a, t, e⟩ := lines_ne r
      rw [e] at ih
      rw [lines_cons hc e]; simp only [linesLen, List.map_cons, List.sum_cons, List.length_cons] at ih ⊢; omega
/-- Rules read from lines: each told and read again is itself, the lines told are no longer than those read, the numbers ascend. -/
theorem pol_told : ∀ (ls : List Tx) (n : Nat) (acc l : List (Ru × Nat)), polL ls n acc = .ok l → ∃ us : List (Ru × Nat), l = acc ++ us ∧ (∀ x ∈ us, parseL (joinP (lineP x.1)) = .ok x.1 ∧ n ≤ x.2) ∧
    linesLen (us.map (fun x => joinP (lineP x.1))) ≤ linesLen ls ∧ us.Pairwise (fun x y => x.2 < y.2)
  | [], n, acc, l, h => by
    rw [polL] at h; cases h
    exact ⟨[], by simp, by simp, by simp [linesLen], List.Pairwise.nil⟩
  | t :: r, n, acc, l, h => by
    rw [polL] at h
    split at h
    · cases h
    · obtain ⟨us, e, h1, h2, h3⟩ := pol_told r (n + 1) acc l h
      refine ⟨us, e, fun x hx => ⟨(h1 x hx).1, by have := (h1 x hx).2; omega⟩, ?_, h3⟩
      simp only [linesLen, List.map_cons, List.sum_cons] at h2 ⊢; omega
    · rename_i u hu
      split at h
      · cases h
      · obtain ⟨us, e, h1, h2, h3⟩ := pol_told r (n + 1) (acc ++ [(u, n)]) l h
        refine ⟨(u, n) :: us, by rw [e]; simp, ?_, ?_, ?_⟩
        · intro x hx
          rcases List.mem_cons.1 hx with rfl | hx
          · exact ⟨(parse_told hu).1, Nat.le_refl _⟩
          · exact ⟨(h1 x hx).1, by have := (h1 x hx).2; omega⟩
        · have := told_len hu
          simp only [linesLen, List.map_cons, List.sum_cons] at h2 ⊢; omega
        · exact List.Pairwise.cons (fun y hy => by have := (h1 y hy).2; show n < y.2; omega) h3
/-- rules told, a line each -/
def flatP (us : List Ru) : Tx := us.flatMap fun u => joinP (lineP u) ++ [10]
theorem flat_len (us : List Ru) : (flatP us).length = linesLen (us.map fun u => joinP (lineP u)) := by
  induction us with
  | nil => rfl
  | cons u us ih => simp only [flatP, linesLen, List.flatMap_cons, List.map_cons, List.sum_cons, List.length_append, List.length_cons, List.length_nil] at ih ⊢; omega
theorem step_told : ∀ (us : List Ru) (p : Tx), (∀ u ∈ us, parseL (joinP (lineP u)) = .ok u) → us.foldl lineStep (some p) = some (p ++ flatP us)
  | [], p, _ => by simp [flatP]
  | u :: us, p, h => by
    have hu : printP u = some (joinP (lineP u)) := printP_some.2 ⟨rfl, h u (List.mem_cons_self ..)⟩
    rw [List.foldl_cons, show lineStep (some p) u = some (p ++ joinP (lineP u) ++ [10]) by simp [lineStep, hu], step_told us _ (fun x hx => h x (List.mem_cons_of_mem _ hx))]
    simp [flatP]
theorem linesOf_told {us : List Ru} (h : ∀ u ∈ us, parseL (joinP (lineP u)) = .ok u) : linesOf us = some (flatP us) := by
  unfold linesOf; rw [step_told us [] h, List.nil_append]
theorem join_plain : ∀ {l : List Tx}, (∀ t ∈ l, gw t = true) → ∀ c ∈ joinP l, c ≠ 10
  | [], _ => by simp [joinP, Lib.join]
  | [a], h => by
    rw [join_one]
    intro c hc e
    subst e
    have := h a (List.mem_cons_self ..)
    simp only [gw, Bool.and_eq_true, List.all_eq_true] at this
    exact absurd (this.2 _ hc) (by decide)
  | a :: b :: r, h => by
    have ih := join_plain (l := b :: r) fun t ht => h t (List.mem_cons_of_mem _ ht)
    rw [join_cons2]
    intro c hc e
    subst e
    rcases List.mem_append.1 hc with hc | hc
    · have := h a (List.mem_cons_self ..)
      simp only [gw, Bool.and_eq_true, List.all_eq_true] at this
      exact absurd (this.2 _ hc) (by decide)
    · rcases List.mem_cons.1 hc with hc | hc
      · exact absurd hc (by decide)
      · exact ih _ hc rfl
theorem told_plain {u : Ru} (h : parseL (joinP (lineP u)) = .ok u) : ∀ c ∈ joinP (lineP u), c ≠ 10 :=
  join_plain (l := lineP u) (by rw [(parse_told h).2]; exact words_gw _)
theorem flat_lines : ∀ us : List Ru, (∀ u ∈ us, parseL (joinP (lineP u)) = .ok u) → linesL (flatP us) = us.map (fun u => joinP (lineP u)) ++ [[]]
  | [], _ => rfl
  | u :: us, h => by
    have e : flatP (u :: us) = joinP (lineP u) ++ 10 :: flatP us := by simp [flatP]
    rw [e, lines_more, lines_plain (told_plain (h u (List.mem_cons_self ..))), flat_lines us fun x hx => h x (List.mem_cons_of_mem _ hx)]; rfl
/-- rules, each with its place -/
def numP : List Ru → Nat → List (Ru × Nat)
  | [], _ => []
  | u :: us, n => (u, n) :: numP us (n + 1)
theorem pol_again : ∀ (us : List Ru) (n : Nat) (acc : List (Ru × Nat)), (∀ u ∈ us, parseL (joinP (lineP u)) = .ok u) → acc.length + us.length ≤ 160 → polL (us.map (fun u => joinP (lineP u)) ++ [[]]) n acc = .ok (acc ++ numP us n)
  | [], n, acc, _, _ => by
    show polL [[]] n acc = _
    rw [polL, parse_nil]; simp [polL, numP]
  | u :: us, n, acc, h, hl => by
    rw [List.map_cons, List.cons_append, polL, h u (List.mem_cons_self ..)]
    simp only [List.length_cons] at hl
    show (if acc.length = 160 then _ else _) = _
    rw [if_neg (by omega), pol_again us (n + 1) _ (fun x hx => h x (List.mem_cons_of_mem _ hx)) (by simp only [List.length_append, List.length_cons, List.length_nil]; omega)]
    simp [numP]
theorem num_map : ∀ (us : List Ru) (n : Nat), (numP us n).map (·.1) = us
  | [], _ => rfl
  | u :: us, n => by rw [numP, List.map_cons, num_map us (n + 1)]
theorem num_at : ∀ (us : List Ru) (n i : Nat) (h : i < (numP us n).length), (numP us n)[i].2 = n + i
  | u :: us, n, 0, _ => rfl
  | u :: us, n, i + 1, h => by
    have := num_at us (n + 1) i (by simp only [numP, List.length_cons] at h; omega)
    simp only [numP, List.getElem_cons_succ, this]; omega
/-- A text's rules, told: a text no longer than it and one byte, which is read as the same rules, a line each; told again it is that text. -/
theorem polT_told {s : Tx} {l : List (Ru × Nat)} (h : polT s = .ok l) (hl : l.length ≤ 160) (hs : s.length ≤ 4000) :
    linesOf (l.map (·.1)) = some (flatP (l.map (·.1))) ∧ (flatP (l.map (·.1))).length ≤ s.length + 1 ∧ polT (flatP (l.map (·.1))) = .ok (numP (l.map (·.1)) 1) ∧ l.Pairwise (fun x y => x.2 < y.2) := by
  unfold polT at h
  split at h
  · cases h
  obtain ⟨us, e, h1, h2, h3⟩ := pol_told _ _ _ _ h
  rw [List.nil_append] at e
  subst e
  have ht : ∀ u ∈ l.map (·.1), parseL (joinP (lineP u)) = .ok u := by
    intro u hu
    obtain ⟨x, hx, rfl⟩ := List.mem_map.1 hu
    exact (h1 x hx).1
  have hle : (flatP (l.map (·.1))).length ≤ s.length + 1 := by
    rw [flat_len, List.map_map]
    rw [linesLen_all] at h2
    exact h2
  refine ⟨linesOf_told ht, hle, ?_, h3⟩
  unfold polT
  rw [if_neg (by omega), flat_lines _ ht]
  exact pol_again _ 1 [] ht (by simpa using hl)
theorem pol_le : ∀ (ls : List Tx) (n : Nat) (acc l : List (Ru × Nat)), polL ls n acc = .ok l → acc.length ≤ 160 → l.length ≤ 160
  | [], n, acc, l, h, ha => by rw [polL] at h; cases h; exact ha
  | t :: r, n, acc, l, h, ha => by
    rw [polL] at h
    split at h
    · cases h
    · exact pol_le r _ acc l h ha
    · split at h
      · cases h
      · exact pol_le r _ _ l h (by simp only [List.length_append, List.length_cons, List.length_nil]; omega)
theorem polT_le {s : Tx} {l : List (Ru × Nat)} (h : polT s = .ok l) : l.length ≤ 160 := by
  unfold polT at h
  split at h
  · cases h
  exact pol_le _ _ _ _ h (by simp)
end Go.Proofs.YtahhepmhdcbplaaGreatDoor
namespace Go.Proofs.YtahhepmhdcbplaaGreatDoor
set_option maxRecDepth 100000

theorem sum_join : ∀ l : List Tx, sumL l ≤ (joinP l).length + 1
  | [] => by simp [sumL]
  | [a] => by rw [join_one]; simp only [sumL]; omega
  | a :: b :: r => by
    have ih := sum_join (b :: r)
    rw [join_cons2, List.length_append, List.length_cons]
    rw [show sumL (a :: b :: r) = a.length + 1 + sumL (b :: r) from rfl]; omega
theorem opt_ge (x y : Tx) : y.length ≤ sumL (optP x y) := by
  unfold optP
  split
  · rename_i e; simp [e]
  · simp only [sumL]; omega
theorem numV_lt (t : Tx) : 0 ≤ numV t ∧ numV t < 1000000000 := by
  unfold numV
  split
  · rename_i h
    simp only [isNum, Bool.and_eq_true, decide_eq_true_eq] at h
    obtain ⟨⟨⟨h1, h2⟩, _⟩, h4⟩ := h
    have hv := valL_lt h4
    have hp : 10 ^ t.length ≤ 10 ^ 9 := Nat.pow_le_pow_right (by omega) h2
    omega
  · omega
theorem idx_in (x : Tx) : ∀ (tbl : List Tx) (i : Int), 0 ≤ i → -1 ≤ idx tbl x i ∧ idx tbl x i ≤ i + tbl.length
  | [], i, _ => by simp only [idx, List.length_nil]; omega
  | t :: r, i, h => by
    have ih := idx_in x r (i + 1) (by omega)
    simp only [idx, List.length_cons]
    split
    · omega
    · omega
theorem rule_tot (T : List Tx) : totR (ruleP T).1 ≤ sumL (lineP (ruleP T).1) ∧ (-1 ≤ (ruleP T).1.n ∧ (ruleP T).1.n < 1000000000) ∧ (-1 ≤ (ruleP T).1.m ∧ (ruleP T).1.m < 1000000000) := by
  unfold ruleP
  generalize choiceP T kindT ⟨0, false⟩ = c
  obtain ⟨kd, s⟩ := c
  unfold bodyP
  simp only
  split
  · unfold roleP
    split
    · simp only [lineP, totR, sumL, List.length_nil]
      refine ⟨?_, by omega, by omega⟩
      simp only [if_true]
      split
      · rename_i e; simp only [e, sumL]; omega
      · simp only [sumL]; omega
    · simp only [lineP, totR, sumL, List.length_nil]
      refine ⟨?_, by omega, by omega⟩
      simp only [if_true, sumL]; omega
  · rename_i h1
    split
    · rename_i h2
      simp only [userP, lineP, totR, sumL, List.length_nil]
      refine ⟨?_, by omega, by omega⟩
      simp only [h1, h2, if_false, if_true, sumL]; omega
    · rename_i h2
      split
      · rename_i h3
        have hb := numV_lt (pk T s)
        simp only [ssdP, numberP, lineP, totR, sumL, List.length_nil]
        refine ⟨?_, by omega, by omega⟩
        simp only [h1, h2, h3, if_false, if_true, sumL]; omega
      · rename_i h3
        split
        · simp only [exclP, lineP, totR, sumL, List.length_nil]
          refine ⟨?_, by omega, by omega⟩
          simp only [show ¬ (6 : Int) = 1 by decide, show ¬ ((6 : Int) = 2 ∨ (6 : Int) = 3) by decide, show ¬ ((6 : Int) = 4 ∨ (6 : Int) = 5) by decide, if_false, if_true]; omega
        · split
          · have hb := numV_lt (pk T (nameP T s).2)
            have hc := numV_lt (pk T (numberP T (nameP T s).2).2)
            simp only [lendP, numberP, lineP, totR, sumL, List.length_nil] at hb hc ⊢
            refine ⟨?_, by omega, by omega⟩
            simp only [show ¬ (7 : Int) = 1 by decide, show ¬ ((7 : Int) = 2 ∨ (7 : Int) = 3) by decide, show ¬ ((7 : Int) = 4 ∨ (7 : Int) = 5) by decide, show ¬ (7 : Int) = 6 by decide, if_false, if_true, sumL]; omega
          · split
            · have hb := idx_in (pk T (nameP T s).2) stateT 0 (by omega)
              have hl : stateT.length = 5 := rfl
              simp only [stateP, choiceP, lineP, totR, sumL, List.length_nil] at hb ⊢
              have ho := opt_ge [105, 110] (optionP T [105, 110] (tk (decide (0 < idx stateT (pk T (nameP T s).2) 0)) (nameP T s).2)).1
              refine ⟨?_, by omega, by omega⟩
              simp only [show ¬ (8 : Int) = 1 by decide, show ¬ ((8 : Int) = 2 ∨ (8 : Int) = 3) by decide, show ¬ ((8 : Int) = 4 ∨ (8 : Int) = 5) by decide, show ¬ (8 : Int) = 6 by decide, show ¬ (8 : Int) = 7 by decide, if_false, if_true, sumL, List.cons_append, List.nil_append]; omega
            · split
              · simp only [onP, lineP, totR, sumL, List.length_nil]
                have h1 := opt_ge [98, 121] (optionP T [98, 121] (fromToP T (nameP T s).2).2.2).1
                have h2 := opt_ge [116, 97, 115, 107] (optionP T [116, 97, 115, 107] (optionP T [98, 121] (fromToP T (nameP T s).2).2.2).2).1
                refine ⟨?_, by omega, by omega⟩
                simp only [show ¬ (9 : Int) = 1 by decide, show ¬ ((9 : Int) = 2 ∨ (9 : Int) = 3) by decide, show ¬ ((9 : Int) = 4 ∨ (9 : Int) = 5) by decide, show ¬ (9 : Int) = 6 by decide, show ¬ (9 : Int) = 7 by decide, show ¬ (9 : Int) = 8 by decide, if_false, if_true, sumL, List.cons_append, List.nil_append, sum_app]; omega
              · split
                · simp only [autoP, lineP, totR, sumL, List.length_nil]
                  refine ⟨?_, by omega, by omega⟩
                  simp only [show ¬ (10 : Int) = 1 by decide, show ¬ ((10 : Int) = 2 ∨ (10 : Int) = 3) by decide, show ¬ ((10 : Int) = 4 ∨ (10 : Int) = 5) by decide, show ¬ (10 : Int) = 6 by decide, show ¬ (10 : Int) = 7 by decide, show ¬ (10 : Int) = 8 by decide, show ¬ (10 : Int) = 9 by decide, if_false, if_true, sumL]; omega
                · split
                  · have hb := numV_lt (pk T s)
                    simp only [afterP, numberP, lineP, totR, sumL, List.length_nil] at hb ⊢
                    refine ⟨?_, by omega, by omega⟩
                    simp only [show ¬ (11 : Int) = 1 by decide, show ¬ ((11 : Int) = 2 ∨ (11 : Int) = 3) by decide, show ¬ ((11 : Int) = 4 ∨ (11 : Int) = 5) by decide, show ¬ (11 : Int) = 6 by decide, show ¬ (11 : Int) = 7 by decide, show ¬ (11 : Int) = 8 by decide, show ¬ (11 : Int) = 9 by decide, show ¬ (11 : Int) = 10 by decide, if_false, if_true, sumL]; omega
                  · simp only [totR, sumL, List.length_nil]
                    exact ⟨by omega, by omega, by omega⟩
theorem parse_rule {L : Tx} {r : Ru} (h : parseL L = .ok r) : (ruleP (tx (wordsL L))).1 = r := by
  unfold parseL at h
  split at h
  · cases h
  split at h
  · cases h
  unfold parseW at h
  split at h
  · cases h
  split at h
  · cases h
  injection h
theorem small_of {r : Ru} (h : parseL (joinP (lineP r)) = .ok r) (hl : (joinP (lineP r)).length ≤ 8192) : Small r := by
  have hr := parse_rule h
  have ht := rule_tot (tx (wordsL (joinP (lineP r))))
  rw [hr] at ht
  have hs := sum_join (lineP r)
  exact ⟨by omega, by omega, by omega⟩
end Go.Proofs.YtahhepmhdcbplaaGreatDoor
