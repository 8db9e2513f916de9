import Derived.Test.YtgffbgmieppckaaGreatDoorPrint2
import Derived.Test.YtgffbgmieppckaaGreatDoorShelf2
import Derived.Shelf.Strings.Split
import Derived.OwnWalk
import Derived.Deep.DeepMust
import Derived.Test.YtgffbgmieppckaaGreatDoorOwn
import Derived.Test.YtgffbgmieppckaaGreatDoorSm0
import Derived.Lib.Builder
import Derived.Lib.AppendStr
import Derived.Lib.Hide
import Derived.Test.YtgffbgmieppckaaGreatDoorRdrJ
import Derived.Test.YtgffbgmieppckaaGreatDoorPol6
import Derived.Test.YtgffbgmieppckaaGreatDoorSameEq
import Derived.Test.YtgffbgmieppckaaGreatDoorRtJ
namespace Go.Proofs.YtgffbgmieppckaaGreatDoor
theorem toks_sum : ∀ (n : Nat) (l : Tx), l.length ≤ n → ∀ c, (joinP (tx (toks l c))).length ≤ l.length := by
 intro n
 induction n with
 | zero =>
  intro l h c
  have : l = [] := List.eq_nil_of_length_eq_zero (by omega)
  subst this
  simp [toks_nil, tx, joinP, Lib.join]
 | succ n ih =>
  intro l h c
  by_cases hl : l = []
  ·subst hl; simp [toks_nil, tx, joinP, Lib.join]
  have hpos : 0 < l.length := List.length_pos_iff.2 hl
  have hw : (word l).length ≤ l.length := (List.takeWhile_sublist _).length_le
  rw [toks_step]
  have i := ih (l.drop ((word l).length + 1)) (by simp; omega) (c + (word l).length + 1)
  by_cases hd : l.drop ((word l).length + 1) = []
  ·rw [hd, toks_nil, List.append_nil]
   split
   ·simp [tx, joinP, Lib.join]
   ·show (joinP [word l]).length ≤ _
    rw [join_one]; exact hw
  ·have hdl := List.length_pos_iff.2 hd
   generalize toks (l.drop ((word l).length + 1)) (c + (word l).length + 1) = T at i ⊢
   rw [List.length_drop] at i hdl
   split
   ·rw [List.nil_append]; omega
   ·cases T with
    | nil =>
     show (joinP [word l]).length ≤ _
     rw [join_one]; exact hw
    | cons x T =>
     show (joinP (word l :: x.2 :: tx T)).length ≤ _
     rw [join_cons2]
     have i2 : (joinP (x.2 :: tx T)).length ≤ l.length - ((word l).length + 1) := i
     simp only [List.length_append, List.length_cons]
     omega
theorem told_len {L : Tx} {r : Ru} (h : parseL L = .ok r) : (joinP (lineP r)).length ≤ L.length := by
 rw [(parse_told h).2]
 unfold wordsL
 split
 ·exact Nat.le_trans (toks_sum _ _ (Nat.le_refl _) _) (partL_le L)
 ·simp [tx, joinP, Lib.join]
def linesLen (ls : List Tx) : Nat := (ls.map (·.length + 1)).sum
theorem linesLen_all : ∀ s : Tx, linesLen (linesL s) = s.length + 1
 | [] => rfl
 | c :: r => by
  have ih := linesLen_all r
  by_cases hc : c = 10
  ·subst hc; rw [lines_end]; simp only [linesLen, List.map_cons, List.sum_cons, List.length_nil, List.length_cons] at ih ⊢; omega
  ·obtain ⟨a, t, e⟩ := lines_ne r
   rw [e] at ih
   rw [lines_cons hc e]; simp only [linesLen, List.map_cons, List.sum_cons, List.length_cons] at ih ⊢; omega
theorem pol_told : ∀ (ls : List Tx) (n : Nat) (acc l : List (Ru × Nat)), polL ls n acc = .ok l → ∃ us : List (Ru × Nat), l = acc ++ us ∧ (∀ x ∈ us, parseL (joinP (lineP x.1)) = .ok x.1 ∧ n ≤ x.2) ∧
  linesLen (us.map (fun x => joinP (lineP x.1))) ≤ linesLen ls ∧ us.Pairwise (fun x y => x.2 < y.2)
 | [], n, acc, l, h => by
  rw [polL] at h; cases h
  exact ⟨[], by simp, by simp, by simp [linesLen], List.Pairwise.nil⟩
 | t :: r, n, acc, l, h => by
  rw [polL] at h
  split at h
  ·cases h
  ·obtain ⟨us, e, h1, h2, h3⟩ := pol_told r (n + 1) acc l h
   refine ⟨us, e, fun x hx => ⟨(h1 x hx).1, by have := (h1 x hx).2; omega⟩, ?_, h3⟩
   simp only [linesLen, List.map_cons, List.sum_cons] at h2 ⊢; omega
  ·rename_i u hu
   split at h
   ·cases h
   ·obtain ⟨us, e, h1, h2, h3⟩ := pol_told r (n + 1) (acc ++ [(u, n)]) l h
    refine ⟨(u, n) :: us, by rw [e]; simp, ?_, ?_, ?_⟩
    ·intro x hx
     rcases List.mem_cons.1 hx with rfl | hx
     ·exact ⟨(parse_told hu).1, Nat.le_refl _⟩
     ·exact ⟨(h1 x hx).1, by have := (h1 x hx).2; omega⟩
    ·have := told_len hu
     simp only [linesLen, List.map_cons, List.sum_cons] at h2 ⊢; omega
    ·exact List.Pairwise.cons (fun y hy => by have := (h1 y hy).2; show n < y.2; omega) h3
theorem sum_join : ∀ l : List Tx, sumL l ≤ (joinP l).length + 1
 | [] => by simp [sumL]
 | [a] => by rw [join_one]; simp only [sumL]; omega
 | a :: b :: r => by
  have ih := sum_join (b :: r)
  rw [join_cons2, List.length_append, List.length_cons]
  rw [show sumL (a :: b :: r) = a.length + 1 + sumL (b :: r) from rfl]; omega
theorem opt_ge (x y : Tx) : y.length ≤ sumL (optP x y) := by
 unfold optP
 split
 ·rename_i e; simp [e]
 ·simp only [sumL]; omega
theorem numV_lt (t : Tx) : 0 ≤ numV t ∧ numV t < 1000000000 := by
 unfold numV
 split
 ·rename_i h
  simp only [isNum, Bool.and_eq_true, decide_eq_true_eq] at h
  obtain ⟨⟨⟨h1, h2⟩, _⟩, h4⟩ := h
  have hv := valL_lt h4
  have hp : 10 ^ t.length ≤ 10 ^ 9 := Nat.pow_le_pow_right (by omega) h2
  omega
 ·omega
theorem idx_in (x : Tx) : ∀ (tbl : List Tx) (i : Int), 0 ≤ i → -1 ≤ idx tbl x i ∧ idx tbl x i ≤ i + tbl.length
 | [], i, _ => by simp only [idx, List.length_nil]; omega
 | t :: r, i, h => by
  have ih := idx_in x r (i + 1) (by omega)
  simp only [idx, List.length_cons]
  split
  ·omega
  ·omega
theorem rule_tot (T : List Tx) : totR (ruleP T).1 ≤ sumL (lineP (ruleP T).1) ∧ (-1 ≤ (ruleP T).1.n ∧ (ruleP T).1.n < 1000000000) ∧ (-1 ≤ (ruleP T).1.m ∧ (ruleP T).1.m < 1000000000) := by
 unfold ruleP
 generalize choiceP T kindT ⟨0, false⟩ = c
 obtain ⟨kd, s⟩ := c
 unfold bodyP
 simp only
 split
 ·unfold roleP
  split
  ·simp only [lineP, totR, sumL, List.length_nil]
   refine ⟨?_, by omega, by omega⟩
   simp only [if_true]
   split
   ·rename_i e; simp only [e, sumL]; omega
   ·simp only [sumL]; omega
  ·simp only [lineP, totR, sumL, List.length_nil]
   refine ⟨?_, by omega, by omega⟩
   simp only [if_true, sumL]; omega
 ·rename_i h1
  split
  ·rename_i h2
   simp only [userP, lineP, totR, sumL, List.length_nil]
   refine ⟨?_, by omega, by omega⟩
   simp only [h1, h2, if_false, if_true, sumL]; omega
  ·rename_i h2
   split
   ·rename_i h3
    have hb := numV_lt (pk T s)
    simp only [ssdP, numberP, lineP, totR, sumL, List.length_nil]
    refine ⟨?_, by omega, by omega⟩
    simp only [h1, h2, h3, if_false, if_true, sumL]; omega
   ·rename_i h3
    split
    ·simp only [exclP, lineP, totR, sumL, List.length_nil]
     refine ⟨?_, by omega, by omega⟩
     simp only [show ¬ (6 : Int) = 1 by decide, show ¬ ((6 : Int) = 2 ∨ (6 : Int) = 3) by decide, show ¬ ((6 : Int) = 4 ∨ (6 : Int) = 5) by decide, if_false, if_true]; omega
    ·split
     ·have hb := numV_lt (pk T (nameP T s).2)
      have hc := numV_lt (pk T (numberP T (nameP T s).2).2)
      simp only [lendP, numberP, lineP, totR, sumL, List.length_nil] at hb hc ⊢
      refine ⟨?_, by omega, by omega⟩
      simp only [show ¬ (7 : Int) = 1 by decide, show ¬ ((7 : Int) = 2 ∨ (7 : Int) = 3) by decide, show ¬ ((7 : Int) = 4 ∨ (7 : Int) = 5) by decide, show ¬ (7 : Int) = 6 by decide, if_false, if_true, sumL]; omega
     ·split
      ·have hb := idx_in (pk T (nameP T s).2) stateT 0 (by omega)
       have hl : stateT.length = 5 := rfl
       simp only [stateP, choiceP, lineP, totR, sumL, List.length_nil] at hb ⊢
       have ho := opt_ge [105, 110] (optionP T [105, 110] (tk (decide (0 < idx stateT (pk T (nameP T s).2) 0)) (nameP T s).2)).1
       refine ⟨?_, by omega, by omega⟩
       simp only [show ¬ (8 : Int) = 1 by decide, show ¬ ((8 : Int) = 2 ∨ (8 : Int) = 3) by decide, show ¬ ((8 : Int) = 4 ∨ (8 : Int) = 5) by decide, show ¬ (8 : Int) = 6 by decide, show ¬ (8 : Int) = 7 by decide, if_false, if_true, sumL, List.cons_append, List.nil_append]; omega
      ·split
       ·simp only [onP, lineP, totR, sumL, List.length_nil]
        have h1 := opt_ge [98, 121] (optionP T [98, 121] (fromToP T (nameP T s).2).2.2).1
        have h2 := opt_ge [116, 97, 115, 107] (optionP T [116, 97, 115, 107] (optionP T [98, 121] (fromToP T (nameP T s).2).2.2).2).1
        refine ⟨?_, by omega, by omega⟩
        simp only [show ¬ (9 : Int) = 1 by decide, show ¬ ((9 : Int) = 2 ∨ (9 : Int) = 3) by decide, show ¬ ((9 : Int) = 4 ∨ (9 : Int) = 5) by decide, show ¬ (9 : Int) = 6 by decide, show ¬ (9 : Int) = 7 by decide, show ¬ (9 : Int) = 8 by decide, if_false, if_true, sumL, List.cons_append, List.nil_append, sum_app]; omega
       ·split
        ·simp only [autoP, lineP, totR, sumL, List.length_nil]
         refine ⟨?_, by omega, by omega⟩
         simp only [show ¬ (10 : Int) = 1 by decide, show ¬ ((10 : Int) = 2 ∨ (10 : Int) = 3) by decide, show ¬ ((10 : Int) = 4 ∨ (10 : Int) = 5) by decide, show ¬ (10 : Int) = 6 by decide, show ¬ (10 : Int) = 7 by decide, show ¬ (10 : Int) = 8 by decide, show ¬ (10 : Int) = 9 by decide, if_false, if_true, sumL]; omega
        ·split
         ·have hb := numV_lt (pk T s)
          simp only [afterP, numberP, lineP, totR, sumL, List.length_nil] at hb ⊢
          refine ⟨?_, by omega, by omega⟩
          simp only [show ¬ (11 : Int) = 1 by decide, show ¬ ((11 : Int) = 2 ∨ (11 : Int) = 3) by decide, show ¬ ((11 : Int) = 4 ∨ (11 : Int) = 5) by decide, show ¬ (11 : Int) = 6 by decide, show ¬ (11 : Int) = 7 by decide, show ¬ (11 : Int) = 8 by decide, show ¬ (11 : Int) = 9 by decide, show ¬ (11 : Int) = 10 by decide, if_false, if_true, sumL]; omega
         ·simp only [totR, sumL, List.length_nil]
          exact ⟨by omega, by omega, by omega⟩
theorem parse_rule {L : Tx} {r : Ru} (h : parseL L = .ok r) : (ruleP (tx (wordsL L))).1 = r := by
 unfold parseL at h
 split at h
 ·cases h
 split at h
 ·cases h
 unfold parseW at h
 split at h
 ·cases h
 split at h
 ·cases h
 injection h
theorem small_of {r : Ru} (h : parseL (joinP (lineP r)) = .ok r) (hl : (joinP (lineP r)).length ≤ 8192) : Small r := by
 have hr := parse_rule h
 have ht := rule_tot (tx (wordsL (joinP (lineP r))))
 rw [hr] at ht
 have hs := sum_join (lineP r)
 exact ⟨by omega, by omega, by omega⟩
end Go.Proofs.YtgffbgmieppckaaGreatDoor
namespace Go.Proofs.YtgffbgmieppckaaGreatDoor
set_option maxRecDepth 100000
open Go.ChangeShapes Go.WideShapes Go.ChangeAt Go.RowKit
theorem lines_le {x : Tx} : ∀ {ls : List Tx}, x ∈ ls → x.length ≤ linesLen ls
 | a :: ls, h => by
  simp only [linesLen, List.map_cons, List.sum_cons]
  rcases List.mem_cons.1 h with rfl | h
  ·omega
  ·have := lines_le h
   unfold linesLen at this
   omega
theorem pol_facts (s : Tx) : (polT s).l.length ≤ 160 ∧ ∀ x ∈ (polT s).l, Small x.1 ∧ x.1.list.length ≤ 4096 ∧ printP x.1 ≠ none := by
 cases hp : polT s with
 | limit => exact ⟨Nat.zero_le _, fun x hx => by cases hx⟩
 | bad a b c => exact ⟨Nat.zero_le _, fun x hx => by cases hx⟩
 | ok l =>
  have h0 := polT_all hp
  refine ⟨h0.2, fun x hx => ?_⟩
  have h := hp
  unfold polT at h
  split at h
  ·cases h
  ·obtain ⟨us, e, h1, h2, _⟩ := pol_told _ _ _ _ h
   rw [List.nil_append] at e
   subst e
   rw [linesLen_all] at h2
   have h3 : (joinP (lineP x.1)).length ≤ linesLen (l.map fun x => joinP (lineP x.1)) := lines_le (List.mem_map_of_mem (f := fun x : Ru × Nat => joinP (lineP x.1)) hx)
   refine ⟨small_of (h1 x hx).1 (by omega), (h0.1 x hx).1, ?_⟩
   rw [printP_some.2 ⟨rfl, (h1 x hx).1⟩]
   simp
theorem RComp_pol {s : Tx} (acc : List RL) (A : Option Addr) (cap base : Nat) (w : World) (hR : RowsAt w base (.slice A acc.length cap) acc) (he : acc.map er = (polT s).l) (hg : HandleAt w) (ht : TabAt w) :
  Calls Tryz.prog 17 #[.slice A acc.length cap] w (RcTo (some (rtL (polT s).l)) w) := by
 obtain ⟨h1, h2⟩ := pol_facts s
 rw [← he] at h1 h2
 have h3 : ∀ x ∈ acc, Small x.1 ∧ x.1.list.length ≤ 4096 := fun x hx => ⟨(h2 (er x) (List.mem_map_of_mem hx)).1, (h2 (er x) (List.mem_map_of_mem hx)).2.1⟩
 have h := RComp_any acc A cap w (rIn_of hR) (by rw [List.length_map] at h1; omega) (own_cap hR.1) (fun x hx => (h3 x hx).1) (fun x hx => (h3 x hx).2)
  (fun x hx B c e => own_LIn (by rw [← e]; exact hR.2 x hx)) hg ht
 rw [rtR_ok (fun x hx => (h2 x hx).2.2), he] at h
 exact h
end Go.Proofs.YtgffbgmieppckaaGreatDoor
