import Derived.Test.YtaoinedndnleoaaGreatOwnSome
import Derived.Test.YtaoinedndnleoaaGreatShelf2
import Derived.Shelf.Strings.Split
import Derived.OwnWalk
import Derived.Deep.DeepMust
import Derived.Test.YtaoinedndnleoaaGreatArgI
import Derived.Test.YtaoinedndnleoaaGreatSm0
import Derived.Lib.Builder
import Derived.Lib.AppendStr
import Derived.Lib.Hide
import Derived.Deep.Matrix
import Derived.Lib.BitFns
import Derived.Test.YtaoinedndnleoaaGreatSh0
import Derived.Lib.Tables
namespace Go.Proofs.YtaoinedndnleoaaGreat
theorem toks_sum : ∀ (n : Nat) (l : Tx), l.length ≤ n → ∀ c, (joinP (tx (toks l c))).length ≤ l.length := by
 intro n
 induction n with
 | zero =>
  intro l h c
  have : l = [] := List.eq_nil_of_length_eq_zero (by omega)
  subst this
  simp [toks_nil, tx, joinP, Lib.join]
 | succ n ih =>
  intro l h c
  by_cases hl : l = []
  ·subst hl; simp [toks_nil, tx, joinP, Lib.join]
  have hpos : 0 < l.length := List.length_pos_iff.2 hl
  have hw : (word l).length ≤ l.length := (List.takeWhile_sublist _).length_le
  rw [toks_step]
  have i := ih (l.drop ((word l).length + 1)) (by simp; omega) (c + (word l).length + 1)
  by_cases hd : l.drop ((word l).length + 1) = []
  ·rw [hd, toks_nil, List.append_nil]
   split
   ·simp [tx, joinP, Lib.join]
   ·show (joinP [word l]).length ≤ _
    rw [join_one]; exact hw
  ·have hdl := List.length_pos_iff.2 hd
   generalize toks (l.drop ((word l).length + 1)) (c + (word l).length + 1) = T at i ⊢
   rw [List.length_drop] at i hdl
   split
   ·rw [List.nil_append]; omega
   ·cases T with
    | nil =>
     show (joinP [word l]).length ≤ _
     rw [join_one]; exact hw
    | cons x T =>
     show (joinP (word l :: x.2 :: tx T)).length ≤ _
     rw [join_cons2]
     have i2 : (joinP (x.2 :: tx T)).length ≤ l.length - ((word l).length + 1) := i
     simp only [List.length_append, List.length_cons]
     omega
theorem told_len {L : Tx} {r : Ru} (h : parseL L = .ok r) : (joinP (lineP r)).length ≤ L.length := by
 rw [(parse_told h).2]
 unfold wordsL
 split
 ·exact Nat.le_trans (toks_sum _ _ (Nat.le_refl _) _) (partL_le L)
 ·simp [tx, joinP, Lib.join]
def linesLen (ls : List Tx) : Nat := (ls.map (·.length + 1)).sum
theorem linesLen_all : ∀ s : Tx, linesLen (linesL s) = s.length + 1
 | [] => rfl
 | c :: r => by
  have ih := linesLen_all r
  by_cases hc : c = 10
  ·subst hc; rw [lines_end]; simp only [linesLen, List.map_cons, List.sum_cons, List.length_nil, List.length_cons] at ih ⊢; omega
  ·obtain ⟨a, t, e⟩ := lines_ne r
   rw [e] at ih
   rw [lines_cons hc e]; simp only [linesLen, List.map_cons, List.sum_cons, List.length_cons] at ih ⊢; omega
theorem pol_told : ∀ (ls : List Tx) (n : Nat) (acc l : List (Ru × Nat)), polL ls n acc = .ok l → ∃ us : List (Ru × Nat), l = acc ++ us ∧ (∀ x ∈ us, parseL (joinP (lineP x.1)) = .ok x.1 ∧ n ≤ x.2) ∧
  linesLen (us.map (fun x => joinP (lineP x.1))) ≤ linesLen ls ∧ us.Pairwise (fun x y => x.2 < y.2)
 | [], n, acc, l, h => by
  rw [polL] at h; cases h
  exact ⟨[], by simp, by simp, by simp [linesLen], List.Pairwise.nil⟩
 | t :: r, n, acc, l, h => by
  rw [polL] at h
  split at h
  ·cases h
  ·obtain ⟨us, e, h1, h2, h3⟩ := pol_told r (n + 1) acc l h
   refine ⟨us, e, fun x hx => ⟨(h1 x hx).1, by have := (h1 x hx).2; omega⟩, ?_, h3⟩
   simp only [linesLen, List.map_cons, List.sum_cons] at h2 ⊢; omega
  ·rename_i u hu
   split at h
   ·cases h
   ·obtain ⟨us, e, h1, h2, h3⟩ := pol_told r (n + 1) (acc ++ [(u, n)]) l h
    refine ⟨(u, n) :: us, by rw [e]; simp, ?_, ?_, ?_⟩
    ·intro x hx
     rcases List.mem_cons.1 hx with rfl | hx
     ·exact ⟨(parse_told hu).1, Nat.le_refl _⟩
     ·exact ⟨(h1 x hx).1, by have := (h1 x hx).2; omega⟩
    ·have := told_len hu
     simp only [linesLen, List.map_cons, List.sum_cons] at h2 ⊢; omega
    ·exact List.Pairwise.cons (fun y hy => by have := (h1 y hy).2; show n < y.2; omega) h3
theorem sum_join : ∀ l : List Tx, sumL l ≤ (joinP l).length + 1
 | [] => by simp [sumL]
 | [a] => by rw [join_one]; simp only [sumL]; omega
 | a :: b :: r => by
  have ih := sum_join (b :: r)
  rw [join_cons2, List.length_append, List.length_cons]
  rw [show sumL (a :: b :: r) = a.length + 1 + sumL (b :: r) from rfl]; omega
theorem opt_ge (x y : Tx) : y.length ≤ sumL (optP x y) := by
 unfold optP
 split
 ·rename_i e; simp [e]
 ·simp only [sumL]; omega
theorem numV_lt (t : Tx) : 0 ≤ numV t ∧ numV t < 1000000000 := by
 unfold numV
 split
 ·rename_i h
  simp only [isNum, Bool.and_eq_true, decide_eq_true_eq] at h
  obtain ⟨⟨⟨h1, h2⟩, _⟩, h4⟩ := h
  have hv := valL_lt h4
  have hp : 10 ^ t.length ≤ 10 ^ 9 := Nat.pow_le_pow_right (by omega) h2
  omega
 ·omega
theorem idx_in (x : Tx) : ∀ (tbl : List Tx) (i : Int), 0 ≤ i → -1 ≤ idx tbl x i ∧ idx tbl x i ≤ i + tbl.length
 | [], i, _ => by simp only [idx, List.length_nil]; omega
 | t :: r, i, h => by
  have ih := idx_in x r (i + 1) (by omega)
  simp only [idx, List.length_cons]
  split
  ·omega
  ·omega
theorem rule_tot (T : List Tx) : totR (ruleP T).1 ≤ sumL (lineP (ruleP T).1) ∧ (-1 ≤ (ruleP T).1.n ∧ (ruleP T).1.n < 1000000000) ∧ (-1 ≤ (ruleP T).1.m ∧ (ruleP T).1.m < 1000000000) := by
 unfold ruleP
 generalize choiceP T kindT ⟨0, false⟩ = c
 obtain ⟨kd, s⟩ := c
 unfold bodyP
 simp only
 split
 ·unfold roleP
  split
  ·simp only [lineP, totR, sumL, List.length_nil]
   refine ⟨?_, by omega, by omega⟩
   simp only [if_true]
   split
   ·rename_i e; simp only [e, sumL]; omega
   ·simp only [sumL]; omega
  ·simp only [lineP, totR, sumL, List.length_nil]
   refine ⟨?_, by omega, by omega⟩
   simp only [if_true, sumL]; omega
 ·rename_i h1
  split
  ·rename_i h2
   simp only [userP, lineP, totR, sumL, List.length_nil]
   refine ⟨?_, by omega, by omega⟩
   simp only [h1, h2, if_false, if_true, sumL]; omega
  ·rename_i h2
   split
   ·rename_i h3
    have hb := numV_lt (pk T s)
    simp only [ssdP, numberP, lineP, totR, sumL, List.length_nil]
    refine ⟨?_, by omega, by omega⟩
    simp only [h1, h2, h3, if_false, if_true, sumL]; omega
   ·rename_i h3
    split
    ·simp only [exclP, lineP, totR, sumL, List.length_nil]
     refine ⟨?_, by omega, by omega⟩
     simp only [show ¬ (6 : Int) = 1 by decide, show ¬ ((6 : Int) = 2 ∨ (6 : Int) = 3) by decide, show ¬ ((6 : Int) = 4 ∨ (6 : Int) = 5) by decide, if_false, if_true]; omega
    ·split
     ·have hb := numV_lt (pk T (nameP T s).2)
      have hc := numV_lt (pk T (numberP T (nameP T s).2).2)
      simp only [lendP, numberP, lineP, totR, sumL, List.length_nil] at hb hc ⊢
      refine ⟨?_, by omega, by omega⟩
      simp only [show ¬ (7 : Int) = 1 by decide, show ¬ ((7 : Int) = 2 ∨ (7 : Int) = 3) by decide, show ¬ ((7 : Int) = 4 ∨ (7 : Int) = 5) by decide, show ¬ (7 : Int) = 6 by decide, if_false, if_true, sumL]; omega
     ·split
      ·have hb := idx_in (pk T (nameP T s).2) stateT 0 (by omega)
       have hl : stateT.length = 5 := rfl
       simp only [stateP, choiceP, lineP, totR, sumL, List.length_nil] at hb ⊢
       have ho := opt_ge [105, 110] (optionP T [105, 110] (tk (decide (0 < idx stateT (pk T (nameP T s).2) 0)) (nameP T s).2)).1
       refine ⟨?_, by omega, by omega⟩
       simp only [show ¬ (8 : Int) = 1 by decide, show ¬ ((8 : Int) = 2 ∨ (8 : Int) = 3) by decide, show ¬ ((8 : Int) = 4 ∨ (8 : Int) = 5) by decide, show ¬ (8 : Int) = 6 by decide, show ¬ (8 : Int) = 7 by decide, if_false, if_true, sumL, List.cons_append, List.nil_append]; omega
      ·split
       ·simp only [onP, lineP, totR, sumL, List.length_nil]
        have h1 := opt_ge [98, 121] (optionP T [98, 121] (fromToP T (nameP T s).2).2.2).1
        have h2 := opt_ge [116, 97, 115, 107] (optionP T [116, 97, 115, 107] (optionP T [98, 121] (fromToP T (nameP T s).2).2.2).2).1
        refine ⟨?_, by omega, by omega⟩
        simp only [show ¬ (9 : Int) = 1 by decide, show ¬ ((9 : Int) = 2 ∨ (9 : Int) = 3) by decide, show ¬ ((9 : Int) = 4 ∨ (9 : Int) = 5) by decide, show ¬ (9 : Int) = 6 by decide, show ¬ (9 : Int) = 7 by decide, show ¬ (9 : Int) = 8 by decide, if_false, if_true, sumL, List.cons_append, List.nil_append, sum_app]; omega
       ·split
        ·simp only [autoP, lineP, totR, sumL, List.length_nil]
         refine ⟨?_, by omega, by omega⟩
         simp only [show ¬ (10 : Int) = 1 by decide, show ¬ ((10 : Int) = 2 ∨ (10 : Int) = 3) by decide, show ¬ ((10 : Int) = 4 ∨ (10 : Int) = 5) by decide, show ¬ (10 : Int) = 6 by decide, show ¬ (10 : Int) = 7 by decide, show ¬ (10 : Int) = 8 by decide, show ¬ (10 : Int) = 9 by decide, if_false, if_true, sumL]; omega
        ·split
         ·have hb := numV_lt (pk T s)
          simp only [afterP, numberP, lineP, totR, sumL, List.length_nil] at hb ⊢
          refine ⟨?_, by omega, by omega⟩
          simp only [show ¬ (11 : Int) = 1 by decide, show ¬ ((11 : Int) = 2 ∨ (11 : Int) = 3) by decide, show ¬ ((11 : Int) = 4 ∨ (11 : Int) = 5) by decide, show ¬ (11 : Int) = 6 by decide, show ¬ (11 : Int) = 7 by decide, show ¬ (11 : Int) = 8 by decide, show ¬ (11 : Int) = 9 by decide, show ¬ (11 : Int) = 10 by decide, if_false, if_true, sumL]; omega
         ·simp only [totR, sumL, List.length_nil]
          exact ⟨by omega, by omega, by omega⟩
theorem parse_rule {L : Tx} {r : Ru} (h : parseL L = .ok r) : (ruleP (tx (wordsL L))).1 = r := by
 unfold parseL at h
 split at h
 ·cases h
 split at h
 ·cases h
 unfold parseW at h
 split at h
 ·cases h
 split at h
 ·cases h
 injection h
theorem small_of {r : Ru} (h : parseL (joinP (lineP r)) = .ok r) (hl : (joinP (lineP r)).length ≤ 8192) : Small r := by
 have hr := parse_rule h
 have ht := rule_tot (tx (wordsL (joinP (lineP r))))
 rw [hr] at ht
 have hs := sum_join (lineP r)
 exact ⟨by omega, by omega, by omega⟩
theorem idx_spot {l : List Tx} {x : Tx} (h : idxI l x ≠ -1) : ∃ m : Nat, idxI l x = m ∧ m < l.length ∧ l[m]? = some x := by
 have h1 := idxI_lt l x
 have h2 := (idxI_mem h).2
 refine ⟨(idxI l x).toNat, by omega, by omega, h2⟩
def okK (ks : List Int) : Prop := ∀ x ∈ ks, 1 ≤ x ∧ x ≤ 4
theorem okK_getD {ks : List Int} (h : okK ks) {k : Nat} (hk : k < ks.length) : 1 ≤ ks.getD k 0 ∧ ks.getD k 0 ≤ 4 := by
 rw [List.getD_eq_getElem?_getD, List.getElem?_eq_getElem hk, Option.getD_some]
 exact h _ (List.getElem_mem hk)
theorem stay_no {k : Int} (h : 1 ≤ k ∧ k ≤ 4) : stayB k = decide (k < 3) := by
 unfold stayB
 rcases (by omega : k = 1 ∨ k = 2 ∨ k = 3 ∨ k = 4) with rfl | rfl | rfl | rfl <;> rfl
def badSt (ks : List Int) (k p : Int) : Prop := (0 ≤ p ∧ 3 ≤ ks.getD p.toNat 0) ∨ (3 ≤ k ∧ (p < 0 ∨ ks.getD p.toNat 0 ≠ 1))
instance (ks : List Int) (k p : Int) : Decidable (badSt ks k p) := inferInstanceAs (Decidable (_ ∨ _))
theorem stand_doc {ks : List Int} {k p : Int} (hk : 1 ≤ k ∧ k ≤ 4) (hks : okK ks) (hp : -1 ≤ p ∧ p < ks.length) : standB ks k p = false ↔ badSt ks k p := by
 unfold standB badSt
 rw [stay_no hk]
 by_cases h0 : p = -1
 ·subst h0
  by_cases h3 : k < 3
  ·simp [h3] <;> omega
  ·simp [h3] <;> omega
 ·have hb := okK_getD hks (k := p.toNat) (by omega)
  rw [stay_no hb]
  generalize ks.getD p.toNat 0 = y at *
  by_cases h3 : k < 3
  ·simp [h3, h0]; omega
  ·have : ¬ p < 0 := by omega
   simp [h3, h0, this]; omega
def kindD : List (Ru × Nat) → Tx → Int
 | [], _ => 0
 | x :: r, s => if x.1.kind = 8 ∧ x.1.name = s then x.1.n else kindD r s
theorem idxI_hd (a : Tx) (l : List Tx) : idxI (a :: l) a = 0 := by unfold idxI; simp
theorem idxI_tl {a x : Tx} (l : List Tx) (h : a ≠ x) (hm : x ∈ l) : idxI (a :: l) x = idxI l x + 1 := by
 unfold idxI
 rw [if_pos (List.mem_cons_of_mem _ hm), if_pos hm, List.idxOf_cons]
 have hb : (a == x) = false := beq_eq_false_iff_ne.2 h
 rw [hb]
 show ((l.idxOf x + 1 : Nat) : Int) = _
 omega
theorem kindD_eq : ∀ (l : List (Ru × Nat)) (s : Tx), s ∈ nmS (stsOf l) → kindD l s = knS (stsOf l) (idxI (nmS (stsOf l)) s)
 | [], s, h => by simp [stsOf, nmS] at h
 | x :: r, s, h => by
  rw [kindD, sts_cons]
  rw [sts_cons] at h
  by_cases h8 : x.1.kind = 8
  ·rw [if_pos h8] at h ⊢
   by_cases hn : x.1.name = s
   ·rw [if_pos ⟨h8, hn⟩, ← hn]
    show _ = knS (x :: stsOf r) (idxI (x.1.name :: nmS (stsOf r)) x.1.name)
    rw [idxI_hd]
    rfl
   ·rw [if_neg fun e => hn e.2]
    have hm : s ∈ nmS (stsOf r) := (List.mem_cons.1 h).resolve_left fun e => hn e.symm
    show _ = knS (x :: stsOf r) (idxI (x.1.name :: nmS (stsOf r)) s)
    rw [idxI_tl _ hn hm, kindD_eq r s hm]
    have := (idx_spot (l := nmS (stsOf r)) (x := s) (by unfold idxI; rw [if_pos hm]; omega))
    obtain ⟨m, e, _⟩ := this
    rw [e]
    unfold knS
    rw [show ((m : Int) + 1).toNat = m + 1 by omega, show (m : Int).toNat = m by omega]
    rfl
  ·rw [if_neg h8] at h ⊢
   rw [if_neg fun e => h8 e.1]
   exact kindD_eq r s h
theorem kindD_ok {l : List (Ru × Nat)} (h : ∀ x ∈ l, RuF x.1) : ∀ s, 0 ≤ kindD l s ∧ kindD l s ≤ 4 := by
 intro s
 induction l with
 | nil => exact ⟨Int.le_refl _, (by decide : (0 : Int) ≤ 4)⟩
 | cons x r ih =>
  rw [kindD]
  split
  ·rename_i h8
   have := (h x List.mem_cons_self).st h8.1
   omega
  ·exact ih fun y hy => h y (List.mem_cons_of_mem _ hy)
theorem knS_ok {l : List (Ru × Nat)} (h : ∀ x ∈ l, RuF x.1) {s : Tx} (hs : s ∈ nmS (stsOf l)) : 1 ≤ knS (stsOf l) (idxI (nmS (stsOf l)) s) ∧ knS (stsOf l) (idxI (nmS (stsOf l)) s) ≤ 4 := by
 obtain ⟨m, e, hm, _⟩ := idx_spot (l := nmS (stsOf l)) (x := s) (by unfold idxI; rw [if_pos hs]; omega)
 rw [e]
 unfold knS
 have hl : m < (stsOf l).length := by simpa [nmS] using hm
 rw [show (m : Int).toNat = m by omega, List.getD_eq_getElem?_getD, List.getElem?_map, List.getElem?_eq_getElem hl]
 have hx := List.mem_filter.1 (List.getElem_mem hl : (stsOf l)[m] ∈ stsOf l)
 have := (h _ hx.1).st (by simpa using hx.2)
 exact ⟨this.2.1, this.2.2⟩
theorem trErr_doc {l : List (Ru × Nat)} (h : ∀ x ∈ l, RuF x.1) (c : Ch) (r : Ru) :
  trErr (stsOf l) c r = if 48 ≤ c.trans.length then 5 else if idxI (nmS (stsOf l)) r.from_ = -1 ∨ idxI (nmS (stsOf l)) r.to_ = -1 then 3 else if 3 ≤ kindD l r.from_ then 1 else 0 := by
 unfold trErr frS toS
 by_cases h1 : 48 ≤ c.trans.length
 ·rw [if_pos h1, if_pos h1]
 rw [if_neg h1, if_neg h1]
 by_cases h2 : idxI (nmS (stsOf l)) r.from_ = -1 ∨ idxI (nmS (stsOf l)) r.to_ = -1
 ·rw [if_pos h2, if_pos h2]
 rw [if_neg h2, if_neg h2]
 have hm : r.from_ ∈ nmS (stsOf l) := (idxI_mem (fun e => h2 (.inl e))).1
 have hk := knS_ok h hm
 rw [kindD_eq l _ hm, stay_no hk]
 congr 1
 simp
theorem stErr_doc (c : Ch) (r : Ru) (hk : 1 ≤ r.n ∧ r.n ≤ 4) (hks : okK c.kinds) (hf : ChF c) :
  stErr c r = if idxI c.names r.name ≠ -1 then 4 else if 24 ≤ c.names.length then 5 else if r.in_ ≠ [] ∧ idxI c.names r.in_ = -1 then 3 else if badSt c.kinds r.n (idxI c.names r.in_) then 1 else 0 := by
 unfold stErr
 have e : r.name ∈ c.names ↔ idxI c.names r.name ≠ -1 := ⟨fun h => by unfold idxI; rw [if_pos h]; omega, fun h => (idxI_mem h).1⟩
 have hi := idxI_lt c.names r.in_
 have := hf.kl
 by_cases h1 : r.name ∈ c.names
 ·rw [if_pos h1, if_pos (e.1 h1)]
 rw [if_neg h1, if_neg (fun h => h1 (e.2 h))]
 by_cases h2 : 24 ≤ c.names.length
 ·rw [if_pos h2, if_pos h2]
 rw [if_neg h2, if_neg h2]
 by_cases h3 : r.in_ ≠ [] ∧ idxI c.names r.in_ = -1
 ·rw [if_pos h3, if_pos h3]
 rw [if_neg h3, if_neg h3]
 by_cases h4 : badSt c.kinds r.n (idxI c.names r.in_)
 ·rw [if_pos ((stand_doc hk hks (by omega)).2 h4), if_pos h4]
 ·rw [if_neg (fun h => h4 ((stand_doc hk hks (by omega)).1 h)), if_neg h4]
theorem okK_snoc {ks : List Int} {k : Int} (h : okK ks) (hk : 1 ≤ k ∧ k ≤ 4) : okK (ks ++ [k]) := fun x hx => by
 rcases List.mem_append.1 hx with h1 | h1
 ·exact h x h1
 ·rw [List.mem_singleton.1 h1]; exact hk
end Go.Proofs.YtaoinedndnleoaaGreat
namespace Go.Proofs.YtaoinedndnleoaaGreat
set_option maxRecDepth 100000
open Go.ChangeShapes Go.WideShapes Go.ChangeAt Go.RowKit
theorem scells_oneZ (l : List Tx) : ∀ u ∈ scells l, u.oneCell' = true := by
 intro u hu
 simp only [scells, List.mem_map] at hu
 obtain ⟨t, _, rfl⟩ := hu
 rfl
theorem scells_lenZ (l : List Tx) : (scells l).length = l.length * 1 := by simp [scells]
def CopyTxTo (l : List Tx) (w : World) (e : Ending) (w' : World) : Prop := ∃ v, e = .returned v ∧ OwnL w' w.heap.size v l ∧ Below w.heap.size w w'
set_option maxHeartbeats 2000000 in
theorem CopyTx_any (l : List Tx) (g cap : Nat) (w : World) (h : ListAt w (some ⟨g, 0, none⟩) cap l) (ha : l.length ≤ 1000) :
  Calls Tryz.prog 64 #[.slice (some ⟨g, 0, none⟩) l.length cap] w (CopyTxTo l w) := by
 obtain ⟨i0, hi, hz0, hz1, hz2⟩ := info_parts Tryz.infoString
 have hc : ∀ j u, (scells l)[j]? = some u → w.cell? ((⟨g, 0, none⟩ : Addr).add j) = some u := fun j u hu => by
  have hj : j < l.length := by
   have := (List.getElem?_eq_some_iff.1 hu).1
   rw [scells_lenZ] at this; omega
  obtain ⟨g', e, _, hx⟩ := h.2 j hj
  obtain rfl : g = g' := by simpa using e
  have hadd : (⟨g, 0, none⟩ : Addr).add j = ⟨g, j, none⟩ := by unfold Addr.add; split <;> simp_all
  rw [hadd, hx]
  simpa [scells, hj] using hu
 have HC := Lib.hid hc
 have HO := Lib.hid (scells_oneZ l)
 have HL := Lib.hid (scells_lenZ l)
 have HE : Hid (∀ v W, W.ownsRow w.heap.size 9 1 v l.length (scells l) → OwnL W w.heap.size v l) := fun v W h => h
 clear h hc
 generalize scells l = xs at *
 go_enter Tryz.func64, Tryz.ntmps64
 go_wp2_with (at_builtin; go_must (refine wpList_append_own _ rfl (.const (.slice none 0 0)) (.tmp 3) 25 rfl w.heap.size 9 i0 _ 1 16 Tryz.underlying25 hi hz0 hz1 hz2 rfl (by decide) (.slice none 0 0) 0 [] rfl (World.ownsRow_nil _ _ _ _) ⟨g, 0, none⟩ l.length cap xs rfl HL.out HC.out HO.out (by unfold maxLen; omega) (by omega) (Nat.le_refl _) ?_); intro v' w4 hown' hg' _)
 have hg2 : w.grownBy w4 none := hg'
 go_ret
 refine ⟨v', rfl, HE.out _ _ (by simpa using hown'), hg2.os, hg2.tape, hg2.output, hg2.size, fun j hj => hg2.block j hj (by simp)⟩
end Go.Proofs.YtaoinedndnleoaaGreat
namespace Go.Proofs.YtaoinedndnleoaaGreat
structure CutG (G : Prop) : Prop where
 out : G
end Go.Proofs.YtaoinedndnleoaaGreat
namespace Go.Proofs.YtaoinedndnleoaaGreat
set_option maxRecDepth 100000
open Go.ChangeShapes Go.WideShapes Go.ChangeAt Go.RowKit
def U32sAt (W : World) (v : Value) (rs : List Nat) : Prop := ∃ A cap, v = .slice A rs.length cap ∧ rs.length ≤ maxLen ∧
 ∀ k (h : k < rs.length), ∃ b off, A = some ⟨b, off, none⟩ ∧ b < W.heap.size ∧ W.cell? ⟨b, off + k, none⟩ = some (.int .u32 (rs[k] : Nat)) ∧ rs[k] < 4294967296
def RowsAt2 (W : World) (v : Value) (Z : List (List Int)) : Prop := ∃ A cap, v = .slice A Z.length cap ∧ Z.length ≤ maxLen ∧
 ∀ k (h : k < Z.length), ∃ b off u, A = some ⟨b, off, none⟩ ∧ b < W.heap.size ∧ W.cell? ⟨b, off + k, none⟩ = some u ∧ IntsAt W u Z[k]
end Go.Proofs.YtaoinedndnleoaaGreat
namespace Go.Proofs.YtaoinedndnleoaaGreat
set_option maxRecDepth 100000
abbrev TxT := List UInt8
def othersP (task : TxT) (L : List (List TxT)) : List TxT := L.flatMap fun l => if task ∈ l then l.filter (· != task) else []
def mayB (done : List TxT) (task : TxT) (L : List (List TxT)) : Bool := !done.any fun d => decide (d ∈ othersP task L)
theorem others_take {task : TxT} {L : List (List TxT)} {k : Nat} (h : k < L.length) : othersP task (L.take (k + 1)) = othersP task (L.take k) ++ if task ∈ L[k] then L[k].filter (· != task) else [] := by
 unfold othersP
 rw [List.take_succ_eq_append_getElem h, List.flatMap_append]
 simp
theorem filter_take {task : TxT} {l : List TxT} {k : Nat} (h : k < l.length) : (l.take (k + 1)).filter (· != task) = (l.take k).filter (· != task) ++ if l[k] = task then [] else [l[k]] := by
 rw [List.take_succ_eq_append_getElem h, List.filter_append]
 by_cases e : l[k] = task
 ·simp [e]
 ·simp [e]
def fI {α : Type} (p : α → Bool) (l : List α) : Int := match l.findIdx? p with
 | some k => k
 | none => -1
theorem fI_hit {α : Type} {p : α → Bool} {l : List α} {k : Nat} (hk : k < l.length) (h : p l[k] = true) (hn : ∀ j (hj : j < k), p l[j] = false) : fI p l = k := by
 unfold fI
 have : l.findIdx? p = some k := by
  rw [List.findIdx?_eq_some_iff_getElem]
  exact ⟨hk, h, fun j hj => by simp [hn j hj]⟩
 rw [this]
theorem fI_miss {α : Type} {p : α → Bool} {l : List α} (hn : ∀ j (hj : j < l.length), p l[j] = false) : fI p l = -1 := by
 unfold fI
 have : l.findIdx? p = none := by
  rw [List.findIdx?_eq_none_iff]
  intro x hx
  obtain ⟨j, hj, rfl⟩ := List.getElem_of_mem hx
  exact hn j hj
 rw [this]
theorem fI_any {α : Type} (p : α → Bool) (l : List α) : decide (0 ≤ fI p l) = l.any p := by
 unfold fI
 cases e : l.findIdx? p with
 | none =>
  rw [List.findIdx?_eq_none_iff] at e
  have : l.any p = false := List.any_eq_false.2 (fun x hx => by simp [e x hx])
  rw [this]; rfl
 | some k =>
  rw [List.findIdx?_eq_some_iff_getElem] at e
  obtain ⟨hk, h1, _⟩ := e
  have : l.any p = true := List.any_eq_true.2 ⟨_, List.getElem_mem hk, h1⟩
  rw [this]; simp
end Go.Proofs.YtaoinedndnleoaaGreat
namespace Go.Proofs.YtaoinedndnleoaaGreat
set_option maxRecDepth 100000
open Go.ChangeShapes Go.WideShapes Go.ChangeAt Go.RowKit Go.Maps Go.WideMaps Go.ChangeMaps
def LLAt (w : World) (A : Option Addr) (c : Nat) (L : List (List Tx)) : Prop := L.length ≤ c ∧ ∀ j (hj : j < L.length), ∃ g B d, A = some ⟨g, 0, none⟩ ∧ g < w.heap.size ∧ w.cell? ⟨g, j, none⟩ = some (.slice B L[j].length d) ∧ ListAt w B d L[j]
theorem LLAt.below {w w' : World} {A : Option Addr} {c : Nat} {L : List (List Tx)} (h : LLAt w A c L) (hb : Below w.heap.size w w') : LLAt w' A c L :=
 ⟨h.1, fun j hj => let ⟨g, B, d, e, hl, hc, hL⟩ := h.2 j hj; ⟨g, B, d, e, Nat.lt_of_lt_of_le hl hb.size, (hb.cell (p := ⟨g, j, none⟩) hl).trans hc, hL.below hb⟩⟩
def SetAt (w : World) (b n : Nat) (O : List Tx) : Prop := w.ownsMap Tryz.prog 9 unitElem b n (setL O)
theorem SetAt.lt {w : World} {b n : Nat} {O : List Tx} (h : SetAt w b n O) : b < w.heap.size := by
 obtain ⟨es, clock, h1, _⟩ := h
 exact (Array.getElem?_eq_some_iff.1 h1).1
theorem SetAt.below {w w' : World} {b n : Nat} {O : List Tx} (h : SetAt w b n O) (hb : Below w.heap.size w w') : SetAt w' b n O := by
 have hl := h.lt
 obtain ⟨es, clock, h1, r⟩ := h
 exact ⟨es, clock, (hb.block _ hl).trans h1, r⟩
theorem SetAt.le {w : World} {b n m : Nat} {O : List Tx} (h : SetAt w b n O) (hn : n ≤ m) : SetAt w b m O := by
 obtain ⟨es, clock, h1, h2, h3, h4⟩ := h
 exact ⟨es, clock, h1, h2, Nat.le_trans h3 hn, h4⟩
theorem neq_tx (a c : Tx) : ((bs a).toList != (bs c).toList) = (a != c) := by unfold bne; rw [beq_tx]
def ApartTo (O : List Tx) (w : World) (e : Ending) (w' : World) : Prop := ∃ b n, e = .returned (.map (some b)) ∧ SetAt w' b n O ∧ w.heap.size ≤ b ∧ Below w.heap.size w w'
theorem apartTo_mk {O P : List Tx} {w w' : World} {b n : Nat} (hO : P = O) (h1 : SetAt w' b n P) (h2 : w.heap.size ≤ b) (h3 : Below w.heap.size w w') : ApartTo O w (.returned (.map (some b))) w' := by
 subst hO; exact ⟨b, n, rfl, h1, h2, h3⟩
set_option maxHeartbeats 2000000 in
theorem apartFrom_any (task : Tx) (L : List (List Tx)) (A : Option Addr) (c : Nat) (w : World) (h : LLAt w A c L) (hL : L.length ≤ 100) (hl : ∀ l ∈ L, l.length ≤ 100) (ht : ∀ l ∈ L, ∀ x ∈ l, x.length ≤ 1000) :
  Calls Tryz.prog 84 #[.string (bs task), .slice A L.length c] w (ApartTo (othersP task L) w) := by
 have HL := Lib.hid h
 have hcc := h.1
 clear h
 have hmm := makeMap_none 150 9 153 Tryz.underlying150
 go_enter Tryz.func84, Tryz.ntmps84
 go_wp2
 go_loopw [13] (fun i wr => ∃ k : Nat, k ≤ L.length ∧ i = .int .i64 k ∧ Hid (SetAt wr w.heap.size (100 * k) (othersP task (L.take k))) ∧ Hid (Below w.heap.size w wr)) (fun i _ => L.length - (intOf i).toNat)
 case atStart => exact ⟨0, Nat.zero_le _, rfl, World.ownsMap_made _ _ _ _, (Below.refl _ _).alloc (Nat.le_refl _) _⟩
 case round =>
  obtain ⟨k, hk, rfl, HS, HB⟩ := hrel
  by_cases hlt : k < L.length
  ·obtain ⟨g, B, d, rfl, hgl, xw, hLk⟩ := HL.out.2 k hlt
   have x1 := (HB.out.cell (p := ⟨g, k, none⟩) hgl).trans xw
   have hot := others_take (task := task) hlt
   have hlk := hl _ (List.getElem_mem hlt)
   have htk := ht _ (List.getElem_mem hlt)
   generalize L[k] = l at *
   have CN := Lib.hid (fun W (hW : Below w.heap.size w W) => Contains_str l task B d W (hLk.below hW) (by omega))
   have hcl := hLk.1
   have HLk := Lib.hid hLk
   clear hLk xw
   by_cases hin : task ∈ l
   ·rw [if_pos hin] at hot
    rw [decide_eq_true hin] at CN
    have HOT := Lib.hid hot
    clear hot hin
    obtain ⟨w0, rfl⟩ : ∃ w0 : World, w0 = wr := ⟨_, rfl⟩
    go_wp2_with (go_at_call 118; refine (CN.out _ HB.out).mono ?_; rintro e w1 ⟨rfl, rfl⟩)
    go_loopw [23] (fun i wr => ∃ j : Nat, j ≤ l.length ∧ i = .int .i64 j ∧ Hid (SetAt wr w.heap.size (100 * k + j) (othersP task (L.take k) ++ (l.take j).filter (· != task))) ∧ Hid (Below w.heap.size w wr)) (fun i _ => l.length - (intOf i).toNat)
    case atStart => exact ⟨0, Nat.zero_le _, rfl, by show SetAt _ _ _ _; simpa using HS.out, HB⟩
    case round =>
     obtain ⟨j, hj, rfl, HS2, HB2⟩ := hrel
     by_cases hjl : j < l.length
     ·obtain ⟨gl, rfl, hgl2, y1⟩ := (HLk.out.below HB2.out).2 j hjl
      have hft := filter_take (task := task) hjl
      have hxl := htk _ (List.getElem_mem hjl)
      generalize l[j] = x at *
      have hne := neq_tx x task
      have hbz := HB2.out.size
      by_cases he : x = task
      ·rw [if_pos he, List.append_nil] at hft
       have hb : ((bs x).toList != (bs task).toList) = false := by rw [hne]; simp [he]
       have hbe : ((bs x).toList == (bs task).toList) = true := by rw [beq_tx]; simp [he]
       have HS3 : Hid (SetAt wr w.heap.size (100 * k + (j + 1)) (othersP task (L.take k) ++ (l.take (j + 1)).filter (· != task))) := by
        show SetAt _ _ _ _
        rw [hft]; exact HS2.out.le (by omega)
       clear hft he hne
       go_wp2
       go_roundw
       case rel => exact ⟨j + 1, by omega, by go_num, HS3, HB2⟩
       case measure => simp [intOf]; omega
      ·rw [if_neg he] at hft
       have hb : ((bs x).toList != (bs task).toList) = true := by rw [hne]; simp [he]
       have hbe : ((bs x).toList == (bs task).toList) = false := by rw [beq_tx]; simp [he]
       have hkey : keyOf Tryz.prog 9 (.string (bs x)) = some (.string x) := keyOf_string_mk Tryz.underlying9 (by rw [size_bs]; unfold maxLen; omega)
       have hS2 := HS2.out
       unfold SetAt at hS2
       have HFT := Lib.hid hft
       clear hft he hne
       go_wp2_with (at_mapUpdate; go_must (refine wpList_mapUpdate_own _ rfl _ _ _ 150 rfl 9 153 Tryz.lawS Tryz.underlying150 (unitElem (H := Unit)) w.heap.size (100 * k + j) _ rfl hS2 (by unfold maxLen; omega) _ _ _ rfl rfl hkey _ [] unitElem_mk ?_); intro w1 hown1 hgrow1)
       have HB3 : Hid (Below w.heap.size w w1) := HB2.out.grown hgrow1 hbz (fun j hj => by cases hj; exact Nat.le_refl _)
       have HS3 : Hid (SetAt w1 w.heap.size (100 * k + (j + 1)) (othersP task (L.take k) ++ (l.take (j + 1)).filter (· != task))) := by
        show SetAt _ _ _ _
        have e : othersP task (L.take k) ++ (l.take (j + 1)).filter (· != task) = (othersP task (L.take k) ++ (l.take j).filter (· != task)) ++ [x] := by
         rw [HFT.out, List.append_assoc]
        rw [e]
        unfold SetAt
        rw [setL_snoc]
        exact hown1
       go_roundw
       case rel => exact ⟨j + 1, by omega, by go_num, HS3, HB3⟩
       case measure => simp [intOf]; omega
     ·have HS3 : Hid (SetAt wr w.heap.size (100 * (k + 1)) (othersP task (L.take (k + 1)))) := by
       show SetAt _ _ _ _
       have e : j = l.length := by omega
       have h := HS2.out
       rw [e, List.take_length] at h
       rw [HOT.out]
       exact h.le (by omega)
      go_wp2
      go_roundw
      case rel => exact ⟨k + 1, by omega, by go_num, HS3, HB2⟩
      case measure => simp [intOf]; omega
   ·rw [if_neg hin, List.append_nil] at hot
    rw [decide_eq_false hin] at CN
    have HS3 : Hid (SetAt wr w.heap.size (100 * (k + 1)) (othersP task (L.take (k + 1)))) := by
     show SetAt _ _ _ _
     rw [hot]; exact HS.out.le (by omega)
    clear hot hin
    go_wp2_with (go_at_call 118; refine (CN.out _ HB.out).mono ?_; rintro e w1 ⟨rfl, rfl⟩)
    go_roundw
    case rel => exact ⟨k + 1, by omega, by go_num, HS3, HB⟩
    case measure => simp [intOf]; omega
  ·have HE : Hid (othersP task (L.take k) = othersP task L) := by show _ = _; rw [List.take_of_length_le (by omega)]
   go_wp2
   go_ret
   exact apartTo_mk HE.out HS.out (Nat.le_refl _) HB.out
theorem did_any (O : List Tx) (b n pb : Nat) (d : Tx) (w : World) (hS : SetAt w b n O) (hd : d.length ≤ 1000) (hc : w.cell? ⟨pb, 0, none⟩ = some (.map (some b))) :
  Calls Tryz.prog 86 #[.string (bs d), .pointer (some ⟨pb, 0, none⟩)] w fun e w' => e = .returned (.bool (decide (d ∈ O))) ∧ Below w.heap.size w w' := by
 have hkey : keyOf Tryz.prog 9 (.string (bs d)) = some (.string d) := keyOf_string_mk Tryz.underlying9 (by rw [size_bs]; unfold maxLen; omega)
 have hs := has_setL O d
 have HS := Lib.hid hs
 have hown := hS
 unfold SetAt at hown
 clear hs hd
 go_enter Tryz.func86, Tryz.ntmps86
 go_wp2_with (at_lookup; refine wpList_lookup_own_unit _ rfl _ _ 150 rfl 9 153 Tryz.lawS Tryz.underlying150 (Tryz.zeroU _) b n _ rfl (by first | exact hown | exact hown.alloc _) _ _ rfl hkey ?_; rw [HS.out])
 go_ret
 exact ⟨rfl, (Below.refl _ _).alloc (Nat.le_refl _) _⟩
set_option maxHeartbeats 1000000 in
theorem IdxDid_any (O l : List Tx) (b n pb : Nat) (A : Option Addr) (c : Nat) (w : World) (hS : SetAt w b n O) (hp : pb < w.heap.size) (hc : w.cell? ⟨pb, 0, none⟩ = some (.map (some b))) (h : ListAt w A c l) (hl : l.length ≤ 1000000) (ht : ∀ x ∈ l, x.length ≤ 1000) :
  Calls Tryz.prog 119 #[.slice A l.length c, .func (.func 86) #[] #[.pointer (some ⟨pb, 0, none⟩)]] w fun e w' => e = .returned (.int .i64 (fI (fun d => decide (d ∈ O)) l)) ∧ Below w.heap.size w w' := by
 have HL := Lib.hid h
 have HS := Lib.hid hS
 have hcc := h.1
 clear h hS
 go_enter Tryz.func119, Tryz.ntmps119
 go_wp2
 go_loopw [5, 8] (fun _ i wr => ∃ k : Nat, k ≤ l.length ∧ i = .int .i64 k ∧ Hid (Below w.heap.size w wr) ∧ Hid (∀ j (_ : j < k) (h : j < l.length), decide (l[j] ∈ O) = false)) (fun _ i _ => l.length - (intOf i).toNat)
 case atStart => exact ⟨0, Nat.zero_le _, rfl, Below.refl _ _, fun j hj _ => by omega⟩
 case round =>
  obtain ⟨k, hk, rfl, HB, HI⟩ := hrel
  by_cases hlt : k < l.length
  ·obtain ⟨g, rfl, hgl, x1⟩ := (HL.out.below HB.out).2 k hlt
   have hc2 := (HB.out.cell (p := ⟨pb, 0, none⟩) hp).trans hc
   have CL := Lib.hid (did_any O b n pb l[k] wr (HS.out.below HB.out) (ht _ (List.getElem_mem hlt)) hc2)
   have HH : Hid (decide (l[k] ∈ O) = true → fI (fun d => decide (d ∈ O)) l = k) := fun hb => fI_hit hlt hb fun j hj => HI.out j hj (by omega)
   have HT : Hid (decide (l[k] ∈ O) = false → ∀ j (_ : j < k + 1) (h : j < l.length), decide (l[j] ∈ O) = false) := fun hb j hj h => by
    by_cases e : j = k
    ·subst e; exact hb
    ·exact HI.out j (by omega) h
   clear hc2
   generalize l[k] = x at *
   cases hq : decide (x ∈ O)
   ·have HT2 := Lib.hid (HT.out hq)
    rw [hq] at CL
    clear hq HH HT HI
    go_wp2_with (go_at_call 86; refine CL.out.mono ?_; rintro e w2 ⟨rfl, hb2⟩)
    have HB2 := Lib.hid (below_then HB.out hb2 HB.out.size)
    go_roundw
    case rel => exact ⟨k + 1, by omega, by go_num, HB2, HT2⟩
    case measure => simp [intOf]; omega
   ·have HE := Lib.hid (HH.out hq)
    rw [hq] at CL
    clear hq HH HT HI
    go_wp2_with (go_at_call 86; refine CL.out.mono ?_; rintro e w2 ⟨rfl, hb2⟩)
    go_ret
    exact ⟨ret_int HE.out.symm, below_then HB.out hb2 HB.out.size⟩
  ·have HE : Hid (fI (fun d => decide (d ∈ O)) l = -1) := fI_miss fun j hj => HI.out j (by omega) hj
   clear HI
   go_wp2
   go_ret
   exact ⟨ret_int HE.out.symm, HB.out⟩
theorem ConDid_any (O l : List Tx) (b n pb : Nat) (A : Option Addr) (c : Nat) (w : World) (hS : SetAt w b n O) (hp : pb < w.heap.size) (hc : w.cell? ⟨pb, 0, none⟩ = some (.map (some b))) (h : ListAt w A c l) (hl : l.length ≤ 1000000) (ht : ∀ x ∈ l, x.length ≤ 1000) :
  Calls Tryz.prog 85 #[.slice A l.length c, .func (.func 86) #[] #[.pointer (some ⟨pb, 0, none⟩)]] w fun e w' => e = .returned (.bool (l.any fun d => decide (d ∈ O))) ∧ Below w.heap.size w w' := by
 have IX := Lib.hid (IdxDid_any O l b n pb A c w hS hp hc h hl ht)
 have HA := Lib.hid (fI_any (fun d => decide (d ∈ O)) l)
 clear h hS hc ht
 generalize fI (fun d => decide (d ∈ O)) l = r at *
 go_enter Tryz.func85, Tryz.ntmps85
 go_wp2_with (go_at_call 119; refine IX.out.mono ?_; rintro e w2 ⟨rfl, hb2⟩)
 go_ret
 exact ⟨ret_bool HA.out, hb2⟩
theorem Tasks_any (done : List Tx) (task : Tx) (L : List (List Tx)) (A B : Option Addr) (c d : Nat) (w : World) (hd : ListAt w B d done) (hdl : done.length ≤ 1000000) (hdt : ∀ x ∈ done, x.length ≤ 1000) (h : LLAt w A c L) (hL : L.length ≤ 100) (hl : ∀ l ∈ L, l.length ≤ 100) (ht : ∀ l ∈ L, ∀ x ∈ l, x.length ≤ 1000) :
  Calls Tryz.prog 50 #[.slice B done.length d, .string (bs task), .slice A L.length c] w fun e w' => e = .returned (.bool (mayB done task L)) ∧ Below w.heap.size w w' := by
 have AF := Lib.hid (apartFrom_any task L A c w h hL hl ht)
 have HM : Hid (mayB done task L = !(done.any fun d => decide (d ∈ othersP task L))) := rfl
 have HD := Lib.hid hd
 have HDT := Lib.hid hdt
 have hmf : ∀ (fn : Fn) (first cap : Array Value) (w : World), (Instr.makeFunc fn first cap).run Tryz.prog w = .ok (.func fn first cap) w := fun _ _ _ _ => rfl
 clear h hL hl ht hd hdt
 generalize othersP task L = O at *
 go_enter Tryz.func50, Tryz.ntmps50
 go_upto_region 2 with (go_at_call 84; refine AF.out.mono ?_; rintro e w1 ⟨b, n, rfl, hs1, hbb, hb1⟩)
 have hbz : Below w1.heap.size w1 (w1.alloc (.cells #[.map (some b)] 150)) := (Below.refl _ _).alloc (Nat.le_refl _) _
 have R := heap_alloc_new w1 (.cells #[.map (some b)] 150)
 have CD := Lib.hid (ConDid_any O done b n w1.heap.size B d _ (hs1.below hbz) (by simp) (by rw [cell_of_row _ _ _ _ _ _ R]; rfl) (HD.out.below (below_then hb1 hbz hb1.size)) hdl HDT.out)
 have HBZ := Lib.hid (below_then hb1 hbz hb1.size)
 clear R hbz hs1
 generalize (done.any fun d => decide (d ∈ O)) = r at *
 go_wp2_with (go_at_call 85; refine CD.out.mono ?_; rintro e w2 ⟨rfl, hb2⟩)
 go_ret
 exact ⟨ret_bool HM.out.symm, below_then HBZ.out hb2 HBZ.out.size⟩
end Go.Proofs.YtaoinedndnleoaaGreat
namespace Go.Proofs.YtaoinedndnleoaaGreat
set_option maxRecDepth 100000
open Go.ChangeShapes Go.WideShapes Go.ChangeAt Go.RowKit
theorem has_shr (s k : Nat) (hs : s < 4294967296) (hk : k < 32) : (bits .and .u32 ((s : Int) / 2 ^ k) 1 == 1) = s.testBit k := by
 have e : (s : Int) / 2 ^ k = ((s / 2 ^ k : Nat) : Int) := by norm_cast
 have hlt : s / 2 ^ k < 4294967296 := Nat.lt_of_le_of_lt (Nat.div_le_self _ _) hs
 have ha := u32_and_nat (s / 2 ^ k) 1 hlt (by omega)
 rw [Nat.and_one_is_mod] at ha
 have ha : bits .and .u32 ((s / 2 ^ k : Nat) : Int) 1 = (((s / 2 ^ k) % 2 : Nat) : Int) := by simpa using ha
 rw [e, ha, cnt_bit]
 cases s.testBit k <;> rfl
end Go.Proofs.YtaoinedndnleoaaGreat
