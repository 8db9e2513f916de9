/-
  A rule that was read of a line is small: plain.
-/
import Derived.Test.YtkalfhhdljndfaaGreatDoorPolS
import Derived.Test.YtkalfhhdljndfaaGreatDoorOrd1
import Derived.Test.YtkalfhhdljndfaaGreatDoorRuleSt
import Derived.Test.YtkalfhhdljndfaaGreatDoorRef01b
import Derived.Test.YtkalfhhdljndfaaGreatDoorRtL
import Derived.Test.YtkalfhhdljndfaaGreatDoorPrint2
import Derived.Deep.Upon
import Derived.Lib.SliceRun
namespace Go.Proofs.YtkalfhhdljndfaaGreatDoor
set_option maxRecDepth 100000

theorem sum_join : ∀ l : List Tx, sumL l ≤ (joinP l).length + 1
  | [] => by simp [sumL]
  | [a] => by rw [join_one]; simp only [sumL]; omega
  | a :: b :: r => by
    have ih := sum_join (b :: r)
    rw [join_cons2, List.length_append, List.length_cons]
    rw [show sumL (a :: b :: r) = a.length + 1 + sumL (b :: r) from rfl]; omega
theorem opt_ge (x y : Tx) : y.length ≤ sumL (optP x y) := by
  unfold optP
  split
  · rename_i e; simp [e]
  · simp only [sumL]; omega
theorem numV_lt (t : Tx) : 0 ≤ numV t ∧ numV t < 1000000000 := by
  unfold numV
  split
  · rename_i h
    simp only [isNum, Bool.and_eq_true, decide_eq_true_eq] at h
    obtain ⟨⟨⟨h1, h2⟩, _⟩, h4⟩ := h
    have hv := valL_lt h4
    have hp : 10 ^ t.length ≤ 10 ^ 9 := Nat.pow_le_pow_right (by omega) h2
    omega
  · omega
theorem idx_in (x : Tx) : ∀ (tbl : List Tx) (i : Int), 0 ≤ i → -1 ≤ idx tbl x i ∧ idx tbl x i ≤ i + tbl.length
  | [], i, _ => by simp only [idx, List.length_nil]; omega
  | t :: r, i, h => by
    have ih := idx_in x r (i + 1) (by omega)
    simp only [idx, List.length_cons]
    split
    · omega
    · omega
theorem rule_tot (T : List Tx) : totR (ruleP T).1 ≤ sumL (lineP (ruleP T).1) ∧ (-1 ≤ (ruleP T).1.n ∧ (ruleP T).1.n < 1000000000) ∧ (-1 ≤ (ruleP T).1.m ∧ (ruleP T).1.m < 1000000000) := by
  unfold ruleP
  generalize choiceP T kindT ⟨0, false⟩ = c
  obtain ⟨kd, s⟩ := c
  unfold bodyP
  simp only
  split
  · unfold roleP
    split
    · simp only [lineP, totR, sumL, List.length_nil]
      refine ⟨?_, by omega, by omega⟩
      simp only [if_true]
      split
      · rename_i e; simp only [e, sumL]; omega
      · simp only [sumL]; omega
    · simp only [lineP, totR, sumL, List.length_nil]
      refine ⟨?_, by omega, by omega⟩
      simp only [if_true, sumL]; omega
  · rename_i h1
    split
    · rename_i h2
      simp only [userP, lineP, totR, sumL, List.length_nil]
      refine ⟨?_, by omega, by omega⟩
      simp only [h1, h2, if_false, if_true, sumL]; omega
    · rename_i h2
      split
      · rename_i h3
        have hb := numV_lt (pk T s)
        simp only [ssdP, numberP, lineP, totR, sumL, List.length_nil]
        refine ⟨?_, by omega, by omega⟩
        simp only [h1, h2, h3, if_false, if_true, sumL]; omega
      · rename_i h3
        split
        · simp only [exclP, lineP, totR, sumL, List.length_nil]
          refine ⟨?_, by omega, by omega⟩
          simp only [show ¬ (6 : Int) = 1 by decide, show ¬ ((6 : Int) = 2 ∨ (6 : Int) = 3) by decide, show ¬ ((6 : Int) = 4 ∨ (6 : Int) = 5) by decide, if_false, if_true]; omega
        · split
          · have hb := numV_lt (pk T (nameP T s).2)
            have hc := numV_lt (pk T (numberP T (nameP T s).2).2)
            simp only [lendP, numberP, lineP, totR, sumL, List.length_nil] at hb hc ⊢
            refine ⟨?_, by omega, by omega⟩
            simp only [show ¬ (7 : Int) = 1 by decide, show ¬ ((7 : Int) = 2 ∨ (7 : Int) = 3) by decide, show ¬ ((7 : Int) = 4 ∨ (7 : Int) = 5) by decide, show ¬ (7 : Int) = 6 by decide, if_false, if_true, sumL]; omega
          · split
            · have hb := idx_in (pk T (nameP T s).2) stateT 0 (by omega)
              have hl : stateT.length = 5 := rfl
              simp only [stateP, choiceP, lineP, totR, sumL, List.length_nil] at hb ⊢
              have ho := opt_ge [105, 110] (optionP T [105, 110] (tk (decide (0 < idx stateT (pk T (nameP T s).2) 0)) (nameP T s).2)).1
              refine ⟨?_, by omega, by omega⟩
              simp only [show ¬ (8 : Int) = 1 by decide, show ¬ ((8 : Int) = 2 ∨ (8 : Int) = 3) by decide, show ¬ ((8 : Int) = 4 ∨ (8 : Int) = 5) by decide, show ¬ (8 : Int) = 6 by decide, show ¬ (8 : Int) = 7 by decide, if_false, if_true, sumL, List.cons_append, List.nil_append]; omega
            · split
              · simp only [onP, lineP, totR, sumL, List.length_nil]
                have h1 := opt_ge [98, 121] (optionP T [98, 121] (fromToP T (nameP T s).2).2.2).1
                have h2 := opt_ge [116, 97, 115, 107] (optionP T [116, 97, 115, 107] (optionP T [98, 121] (fromToP T (nameP T s).2).2.2).2).1
                refine ⟨?_, by omega, by omega⟩
                simp only [show ¬ (9 : Int) = 1 by decide, show ¬ ((9 : Int) = 2 ∨ (9 : Int) = 3) by decide, show ¬ ((9 : Int) = 4 ∨ (9 : Int) = 5) by decide, show ¬ (9 : Int) = 6 by decide, show ¬ (9 : Int) = 7 by decide, show ¬ (9 : Int) = 8 by decide, if_false, if_true, sumL, List.cons_append, List.nil_append, sum_app]; omega
              · split
                · simp only [autoP, lineP, totR, sumL, List.length_nil]
                  refine ⟨?_, by omega, by omega⟩
                  simp only [show ¬ (10 : Int) = 1 by decide, show ¬ ((10 : Int) = 2 ∨ (10 : Int) = 3) by decide, show ¬ ((10 : Int) = 4 ∨ (10 : Int) = 5) by decide, show ¬ (10 : Int) = 6 by decide, show ¬ (10 : Int) = 7 by decide, show ¬ (10 : Int) = 8 by decide, show ¬ (10 : Int) = 9 by decide, if_false, if_true, sumL]; omega
                · split
                  · have hb := numV_lt (pk T s)
                    simp only [afterP, numberP, lineP, totR, sumL, List.length_nil] at hb ⊢
                    refine ⟨?_, by omega, by omega⟩
                    simp only [show ¬ (11 : Int) = 1 by decide, show ¬ ((11 : Int) = 2 ∨ (11 : Int) = 3) by decide, show ¬ ((11 : Int) = 4 ∨ (11 : Int) = 5) by decide, show ¬ (11 : Int) = 6 by decide, show ¬ (11 : Int) = 7 by decide, show ¬ (11 : Int) = 8 by decide, show ¬ (11 : Int) = 9 by decide, show ¬ (11 : Int) = 10 by decide, if_false, if_true, sumL]; omega
                  · simp only [totR, sumL, List.length_nil]
                    exact ⟨by omega, by omega, by omega⟩
theorem parse_rule {L : Tx} {r : Ru} (h : parseL L = .ok r) : (ruleP (tx (wordsL L))).1 = r := by
  unfold parseL at h
  split at h
  · cases h
  split at h
  · cases h
  unfold parseW at h
  split at h
  · cases h
  split at h
  · cases h
  injection h
theorem small_of {r : Ru} (h : parseL (joinP (lineP r)) = .ok r) (hl : (joinP (lineP r)).length ≤ 8192) : Small r := by
  have hr := parse_rule h
  have ht := rule_tot (tx (wordsL (joinP (lineP r))))
  rw [hr] at ht
  have hs := sum_join (lineP r)
  exact ⟨by omega, by omega, by omega⟩
end Go.Proofs.YtkalfhhdljndfaaGreatDoor
/-
  What rules that were read are like.
-/
namespace Go.Proofs.YtkalfhhdljndfaaGreatDoor
set_option maxRecDepth 100000
open Go.ChangeShapes Go.WideShapes Go.ChangeAt Go.RowKit

theorem lines_le {x : Tx} : ∀ {ls : List Tx}, x ∈ ls → x.length ≤ linesLen ls
  | a :: ls, h => by
    simp only [linesLen, List.map_cons, List.sum_cons]
    rcases List.mem_cons.1 h with rfl | h
    · omega
    · have := lines_le h
      unfold linesLen at this
      omega
theorem pol_facts (s : Tx) : (polT s).l.length ≤ 160 ∧ ∀ x ∈ (polT s).l, Small x.1 ∧ x.1.list.length ≤ 4096 ∧ printP x.1 ≠ none := by
  cases hp : polT s with
  | limit => exact ⟨Nat.zero_le _, fun x hx => by cases hx⟩
  | bad a b c => exact ⟨Nat.zero_le _, fun x hx => by cases hx⟩
  | ok l =>
    have h0 := polT_all hp
    refine ⟨h0.2, fun x hx => ?_⟩
    have h := hp
    unfold polT at h
    split at h
    · cases h
    · obtain ⟨us, e, h1, h2, _⟩ := pol_told _ _ _ _ h
      rw [List.nil_append] at e
      subst e
      rw [linesLen_all] at h2
      have h3 : (joinP (lineP x.1)).length ≤ linesLen (l.map fun x => joinP (lineP x.1)) := lines_le (List.mem_map_of_mem (f := fun x : Ru × Nat => joinP (lineP x.1)) hx)
      refine ⟨small_of (h1 x hx).1 (by omega), (h0.1 x hx).1, ?_⟩
      rw [printP_some.2 ⟨rfl, (h1 x hx).1⟩]
      simp
end Go.Proofs.YtkalfhhdljndfaaGreatDoor
/-
  Package rights: Compile of the rules of a text.
-/
namespace Go.Proofs.YtkalfhhdljndfaaGreatDoor
set_option maxRecDepth 100000
open Go.ChangeShapes Go.WideShapes Go.ChangeAt Go.RowKit

theorem RComp_pol {s : Tx} (acc : List RL) (A : Option Addr) (cap base : Nat) (w : World) (hR : RowsAt w base (.slice A acc.length cap) acc) (he : acc.map er = (polT s).l) (hg : HandleAt w) (ht : TabAt w) :
    Calls Tryz.prog 13 #[.slice A acc.length cap] w (RcTo (some (rtL (polT s).l)) w) := by
  obtain ⟨h1, h2⟩ := pol_facts s
  rw [← he] at h1 h2
  have h3 : ∀ x ∈ acc, Small x.1 ∧ x.1.list.length ≤ 4096 := fun x hx => ⟨(h2 (er x) (List.mem_map_of_mem hx)).1, (h2 (er x) (List.mem_map_of_mem hx)).2.1⟩
  have h := RComp_any acc A cap w (rIn_of hR) (by rw [List.length_map] at h1; omega) (own_cap hR.1) (fun x hx => (h3 x hx).1) (fun x hx => (h3 x hx).2)
    (fun x hx B c e => own_LIn (by rw [← e]; exact hR.2 x hx)) hg ht
  rw [rtR_ok (fun x hx => (h2 x hx).2.2), he] at h
  exact h
end Go.Proofs.YtkalfhhdljndfaaGreatDoor
/-
  The letters of a rule that was read are letters of its text.
-/
namespace Go.Proofs.YtkalfhhdljndfaaGreatDoor
set_option maxRecDepth 100000

theorem lines_mem : ∀ (s : List UInt8) (L : List UInt8), L ∈ linesL s → ∀ c ∈ L, c ∈ s
  | [], L, hL, c, hc => by
    simp [linesL] at hL
    subst hL
    cases hc
  | b :: r, L, hL, c, hc => by
    have ih := lines_mem r
    by_cases hb : b = 10
    · subst hb
      rw [lines_end] at hL
      rcases List.mem_cons.1 hL with rfl | hL
      · cases hc
      · exact List.mem_cons_of_mem _ (ih L hL c hc)
    · obtain ⟨a, t, h⟩ := lines_ne r
      rw [lines_cons hb h] at hL
      rw [h] at ih
      rcases List.mem_cons.1 hL with rfl | hL
      · rcases List.mem_cons.1 hc with rfl | hc
        · exact List.mem_cons_self
        · exact List.mem_cons_of_mem _ (ih a List.mem_cons_self c hc)
      · exact List.mem_cons_of_mem _ (ih L (List.mem_cons_of_mem _ hL) c hc)
theorem words_mem {L : List UInt8} {x : Nat × List UInt8} (hx : x ∈ wordsL L) : ∀ c ∈ x.2, c ∈ L := by
  intro c hc
  unfold wordsL at hx
  split at hx
  · obtain ⟨_, e2⟩ := toks_mem _ _ (Nat.le_refl _) _ x hx
    have := (e2 c hc).1
    unfold partL at this
    exact (List.takeWhile_sublist _).subset this
  · cases hx
theorem read_name {L : List UInt8} {r : Ru} (h : parseL L = .ok r) (hk : r.kind = 2 ∨ r.kind = 3) : ∀ c ∈ r.name, c ∈ L := by
  have h2 := (parse_told h).2
  have hm : r.name ∈ lineP r := by
    unfold lineP
    rw [if_neg (by omega), if_pos hk]
    simp
  rw [h2] at hm
  simp only [tx, List.mem_map] at hm
  obtain ⟨x, hx, e⟩ := hm
  rw [← e]
  exact words_mem hx
theorem pol_from {ls : List (List UInt8)} : ∀ {n : Nat} {acc l : List (Ru × Nat)}, polL ls n acc = .ok l → ∀ x ∈ l, x ∈ acc ∨ ∃ L ∈ ls, parseL L = .ok x.1 := by
  induction ls with
  | nil => intro n acc l h x hx; rw [polL] at h; injection h with h; subst h; exact .inl hx
  | cons t r ih =>
    intro n acc l h x hx
    rw [polL] at h
    have up : (∃ L ∈ r, parseL L = .ok x.1) → ∃ L ∈ t :: r, parseL L = .ok x.1 := fun ⟨L, h1, h2⟩ => ⟨L, List.mem_cons_of_mem _ h1, h2⟩
    cases hp : parseL t with
    | bad c k => rw [hp] at h; cases h
    | empty =>
      rw [hp] at h
      exact (ih h x hx).imp_right up
    | ok u =>
      rw [hp] at h
      simp only at h
      split at h
      · cases h
      · rcases ih h x hx with h3 | h3
        · rcases List.mem_append.1 h3 with h4 | h4
          · exact .inl h4
          · rw [List.mem_singleton.1 h4]; exact .inr ⟨t, List.mem_cons_self, hp⟩
        · exact .inr (up h3)
/-- the rules of a text (none, if it has none): a user's or a permission's name has the text's letters -/
theorem polT_name {s : List UInt8} {x : Ru × Nat} (hx : x ∈ (polT s).l) (hk : x.1.kind = 2 ∨ x.1.kind = 3) : ∀ c ∈ x.1.name, c ∈ s := by
  intro c hc
  unfold polT at hx
  split at hx
  · cases hx
  · cases hq : polL (linesL s) 1 [] with
    | limit => rw [hq] at hx; cases hx
    | bad a b k => rw [hq] at hx; cases hx
    | ok l =>
      rw [hq] at hx
      rcases pol_from hq x hx with h | ⟨L, hL, hp⟩
      · cases h
      · exact lines_mem s L hL c (read_name hp hk c hc)
/-- whom nobody's rule names -/
theorem rtHas_no {l : List (Tx × Nat)} {x : Tx} (h : x ∉ l.map (·.1)) : rtHas l x = 0 := by
  unfold rtHas
  cases hf : l.find? fun h => h.1 == x with
  | none => rfl
  | some y =>
    exfalso
    have h1 := List.find?_some hf
    have h2 := List.mem_of_find?_eq_some hf
    exact h (List.mem_map.2 ⟨y, h2, by simpa using h1⟩)
end Go.Proofs.YtkalfhhdljndfaaGreatDoor
/-
  Rights that were made of rules: each user's and each permission's rule is told as it is.
-/
namespace Go.Proofs.YtkalfhhdljndfaaGreatDoor
set_option maxRecDepth 100000

theorem rtHas_mid {l m : List (Tx × Nat)} {x : Tx} {s : Nat} (h : x ∉ l.map (·.1)) : rtHas (l ++ (x, s) :: m) x = s := by
  unfold rtHas
  rw [List.find?_append]
  have h0 : l.find? (fun h => h.1 == x) = none := by
    rw [List.find?_eq_none]
    intro y hy e
    exact h (List.mem_map.2 ⟨y, hy, by simpa using e⟩)
  rw [h0]
  simp
theorem hldE_zero {ns : List Tx} {l : List (Tx × Nat)} {x : Ru} {most : Nat} (h : hldE ns l x most = 0) : x.name ∉ l.map (·.1) ∧ (rtSet ns x.list 0).isSome = true := by
  unfold hldE at h
  split at h
  · cases h
  · rename_i h1
    split at h
    · cases h
    · split at h
      · cases h
      · rename_i h3
        refine ⟨by simpa using h1, ?_⟩
        cases hs : rtSet ns x.list 0 with
        | none => rw [hs] at h3; simp at h3
        | some s => rfl
/-- what the rules behind add -/
theorem rtTake_more {ns : List Tx} : ∀ {l : List (Ru × Nat)} {r0 r : Rt}, rtTake ns l r0 = .ok r → (∃ m, r.users = r0.users ++ m) ∧ ∃ m, r.perms = r0.perms ++ m
  | [], r0, r, h => by
    rw [rtTake] at h
    injection h with h
    subst h
    exact ⟨⟨[], by simp⟩, ⟨[], by simp⟩⟩
  | x :: l, r0, r, h => by
    by_cases he : rtE ns r0 x.1 = 0
    · rw [rtTake_next he] at h
      obtain ⟨⟨m1, h1⟩, ⟨m2, h2⟩⟩ := rtTake_more h
      rcases kinds27 x.1.kind with hk | hk | hk | hk | hk | hk | hk
      · rw [(rtE2 (names := ns) (r := r0) hk).2] at h1 h2
        exact ⟨⟨_, by rw [h1, List.append_assoc]⟩, ⟨m2, h2⟩⟩
      · rw [(rtE3 (names := ns) (r := r0) hk).2] at h1 h2
        exact ⟨⟨m1, h1⟩, ⟨_, by rw [h2, List.append_assoc]⟩⟩
      · rw [(rtE4 (names := ns) (r := r0) hk).2] at h1 h2; exact ⟨⟨m1, h1⟩, ⟨m2, h2⟩⟩
      · rw [(rtE5 (names := ns) (r := r0) hk).2] at h1 h2; exact ⟨⟨m1, h1⟩, ⟨m2, h2⟩⟩
      · rw [(rtE6 (names := ns) (r := r0) hk).2] at h1 h2; exact ⟨⟨m1, h1⟩, ⟨m2, h2⟩⟩
      · rw [(rtE7 (names := ns) (r := r0) hk).2] at h1 h2; exact ⟨⟨m1, h1⟩, ⟨m2, h2⟩⟩
      · rw [(rtE0 (names := ns) (r := r0) hk).2] at h1 h2; exact ⟨⟨m1, h1⟩, ⟨m2, h2⟩⟩
    · rw [rtTake_bad he] at h; cases h
theorem rtTake_told {ns : List Tx} : ∀ {l : List (Ru × Nat)} {r0 r : Rt}, rtTake ns l r0 = .ok r → ∀ x ∈ l, (x.1.kind = 2 → (rtSet ns x.1.list 0).isSome = true ∧ rtHas r.users x.1.name = (rtSet ns x.1.list 0).getD 0) ∧ (x.1.kind = 3 → (rtSet ns x.1.list 0).isSome = true ∧ rtHas r.perms x.1.name = (rtSet ns x.1.list 0).getD 0)
  | x :: l, r0, r, h, y, hy => by
    by_cases he : rtE ns r0 x.1 = 0
    · rw [rtTake_next he] at h
      rcases List.mem_cons.1 hy with rfl | hy
      · obtain ⟨⟨m1, h1⟩, ⟨m2, h2⟩⟩ := rtTake_more h
        constructor
        · intro hk
          obtain ⟨e1, e2⟩ := rtE2 (names := ns) (r := r0) hk
          rw [e1] at he
          obtain ⟨f1, f2⟩ := hldE_zero he
          rw [e2] at h1
          refine ⟨f2, ?_⟩
          rw [h1, List.append_assoc, List.singleton_append]
          exact rtHas_mid f1
        · intro hk
          obtain ⟨e1, e2⟩ := rtE3 (names := ns) (r := r0) hk
          rw [e1] at he
          obtain ⟨f1, f2⟩ := hldE_zero he
          rw [e2] at h2
          refine ⟨f2, ?_⟩
          rw [h2, List.append_assoc, List.singleton_append]
          exact rtHas_mid f1
      · exact rtTake_told h y hy
    · rw [rtTake_bad he] at h; cases h
theorem rtTake_perms {ns : List Tx} : ∀ {l : List (Ru × Nat)} {r0 r : Rt}, rtTake ns l r0 = .ok r → ∀ y ∈ r.perms.map (·.1), y ∈ r0.perms.map (·.1) ∨ ∃ x ∈ l, x.1.kind = 3 ∧ x.1.name = y
  | [], r0, r, h, y, hy => by
    rw [rtTake] at h
    injection h with h
    subst h
    exact .inl hy
  | x :: l, r0, r, h, y, hy => by
    by_cases he : rtE ns r0 x.1 = 0
    · rw [rtTake_next he] at h
      rcases rtTake_perms h y hy with h9 | ⟨z, hz, h1, h2⟩
      · rcases kinds27 x.1.kind with hk | hk | hk | hk | hk | hk | hk
        · rw [(rtE2 (names := ns) (r := r0) hk).2] at h9; exact .inl h9
        · rw [(rtE3 (names := ns) (r := r0) hk).2] at h9
          simp only [List.map_append, List.map_cons, List.map_nil, List.mem_append, List.mem_singleton] at h9
          rcases h9 with h9 | h9
          · exact .inl h9
          · exact .inr ⟨x, List.mem_cons_self, hk, h9.symm⟩
        · rw [(rtE4 (names := ns) (r := r0) hk).2] at h9; exact .inl h9
        · rw [(rtE5 (names := ns) (r := r0) hk).2] at h9; exact .inl h9
        · rw [(rtE6 (names := ns) (r := r0) hk).2] at h9; exact .inl h9
        · rw [(rtE7 (names := ns) (r := r0) hk).2] at h9; exact .inl h9
        · rw [(rtE0 (names := ns) (r := r0) hk).2] at h9; exact .inl h9
      · exact .inr ⟨z, List.mem_cons_of_mem _ hz, h1, h2⟩
    · rw [rtTake_bad he] at h; cases h
/-- who has no letter h and no y is not nobody, nor nothing -/
theorem no_nobody {s : List UInt8} {ns : List Tx} {ps : List Pr} {r : Rt} (h : rtL (polT s).l = .ok (ns, ps, r)) (h1 : (104 : UInt8) ∉ s) (h2 : (121 : UInt8) ∉ s) :
    rtHas r.users [110, 111, 98, 111, 100, 121] = 0 ∧ rtHas r.perms [110, 111, 116, 104, 105, 110, 103] = 0 := by
  obtain ⟨_, _, _, ht, _⟩ := rtL_facts h
  constructor
  · refine rtHas_no fun hm => ?_
    rcases rtTake_users ht _ hm with h9 | ⟨x, hx, hk, e⟩
    · cases h9
    · exact h2 (polT_name hx (.inl hk) 121 (by rw [e]; decide))
  · refine rtHas_no fun hm => ?_
    rcases rtTake_perms ht _ hm with h9 | ⟨x, hx, hk, e⟩
    · cases h9
    · exact h1 (polT_name hx (.inr hk) 104 (by rw [e]; decide))
/-- the set of roles, bit by bit -/
theorem rtSet_bit {ns : List Tx} : ∀ {l : List Tx} {s z : Nat}, rtSet ns l s = some z → ∀ j, z.testBit j = (s.testBit j || l.any fun y => nix ns y == j)
  | [], s, z, h, j => by
    rw [rtSet] at h
    injection h with h
    subst h
    simp
  | x :: r, s, z, h, j => by
    by_cases hx : x ∈ ns
    · rw [rtSet_in hx] at h
      rw [rtSet_bit h j, Nat.testBit_or, pow_bit, List.any_cons, Bool.or_assoc]
    · rw [rtSet_out hx] at h; cases h
theorem rtSet_all {ns : List Tx} : ∀ {l : List Tx} {s z : Nat}, rtSet ns l s = some z → ∀ y ∈ l, y ∈ ns
  | x :: r, s, z, h, y, hy => by
    by_cases hx : x ∈ ns
    · rw [rtSet_in hx] at h
      rcases List.mem_cons.1 hy with rfl | hy
      · exact hx
      · exact rtSet_all h y hy
    · rw [rtSet_out hx] at h; cases h
/-- a permission is given to those that are above one of its roles -/
theorem gives_bit {ns : List Tx} {bl : List Nat} {l : List Tx} {z : Nat} (h : rtSet ns l 0 = some z) (hn : ns.Nodup) {i : Nat} (hi : i < ns.length) :
    (upperTo bl z ns.length).testBit i = l.any fun y => aboveP ns bl ns[i] y := by
  rw [upperTo_bit, decide_eq_true hi, Bool.true_and]
  have hb := rtSet_bit h
  have ha := rtSet_all h
  rw [Bool.eq_iff_iff, decide_eq_true_eq, List.any_eq_true]
  have hz : bl.getD i 0 &&& z ≠ 0 ↔ ∃ j, (bl.getD i 0).testBit j = true ∧ z.testBit j = true := by
    rw [Ne, and_zero]
    constructor
    · intro h9
      apply Classical.byContradiction
      intro h8
      apply h9
      intro j
      cases h1 : (bl.getD i 0).testBit j
      · rfl
      · cases h2 : z.testBit j
        · rfl
        · exact absurd ⟨j, h1, h2⟩ h8
    · rintro ⟨j, h1, h2⟩ h9
      have := h9 j
      rw [h1, h2] at this
      cases this
  rw [hz]
  constructor
  · rintro ⟨j, h1, h2⟩
    rw [hb j] at h2
    simp only [Nat.zero_testBit, Bool.false_or, List.any_eq_true] at h2
    obtain ⟨y, hy, e⟩ := h2
    refine ⟨y, hy, ?_⟩
    unfold aboveP
    have e2 : nix ns y = j := by simpa using e
    rw [decide_eq_true (List.getElem_mem hi), decide_eq_true (ha y hy), nix_get hn hi, e2]
    exact h1
  · rintro ⟨y, hy, e⟩
    unfold aboveP at e
    rw [decide_eq_true (List.getElem_mem hi), decide_eq_true (ha y hy), nix_get hn hi] at e
    refine ⟨nix ns y, by rw [Bool.true_and, Bool.true_and] at e; exact e, ?_⟩
    rw [hb]
    simp only [Nat.zero_testBit, Bool.false_or, List.any_eq_true]
    exact ⟨y, hy, by simp⟩
end Go.Proofs.YtkalfhhdljndfaaGreatDoor
/-
  Package rights: Order, Static, Perms, Gives.
-/
namespace Go.Proofs.YtkalfhhdljndfaaGreatDoor
set_option maxRecDepth 100000
open Go.ChangeShapes Go.WideShapes Go.ChangeAt Go.RowKit

section
variable (b : Nat) (w : World)
theorem Order_any (o : Nat) (hc : w.cell? ⟨b, 0, none⟩ = some (.pointer (some ⟨o, 0, none⟩))) :
    Calls Tryz.prog 15 #[.pointer (some ⟨b, 0, none⟩)] w fun e w' => e = .returned (.pointer (some ⟨o, 0, none⟩)) ∧ w = w' := by
  go_enter Tryz.func15, Tryz.ntmps15
  go_wp2
  go_ret
  exact ⟨rfl, rfl⟩
set_option maxHeartbeats 1000000 in
theorem Gives_any (l : List (Tx × Nat)) (x : Tx) (A : Option Addr) (c o : Nat) (names : List Tx) (bl : List Nat) (hc0 : w.cell? ⟨b, 0, none⟩ = some (.pointer (some ⟨o, 0, none⟩))) (hc : w.cell? ⟨b, 2, none⟩ = some (.slice A l.length c)) (hb : b < w.heap.size) (h : HAt w A c l) (hl : l.length ≤ 1000) (hO : OrdAt w o names bl) (hs : ∀ p ∈ l, p.2 < 16777216) :
    Calls Tryz.prog 17 #[.pointer (some ⟨b, 0, none⟩), .string (bs x)] w fun e w' => e = .returned (.int .u32 (upperTo bl (rtHas l x) names.length : Nat)) ∧ Below w.heap.size w w' := by
  have RO : Hid (∀ W, Below w.heap.size w W → Calls Tryz.prog 59 #[.slice A l.length c, .string (bs x)] W fun e w' => e = .returned (.int .u32 (rtHas l x : Nat)) ∧ Below W.heap.size W w') := fun W hW => rolesOf_any l x A c W (h.below hW) hl
  have hlt := rtHas_lt hs x
  have UP : Hid (∀ W, Below w.heap.size w W → Calls Tryz.prog 58 #[.pointer (some ⟨o, 0, none⟩), .int .u32 (rtHas l x : Nat)] W fun e w' => e = .returned (.int .u32 (upperTo bl (rtHas l x) names.length : Nat)) ∧ W = w') := fun W hW => Up_any o names bl W (rtHas l x) (by omega) (hO.below hW)
  clear h hO hlt hs
  generalize upperTo bl (rtHas l x) names.length = up at *
  generalize rtHas l x = hv at *
  go_enter Tryz.func17, Tryz.ntmps17
  go_upto_region 1 with fail
  go_region_with (first
    | (go_at_call 59; refine (RO.out _ (by first | exact Below.refl _ _ | exact below_drew (Below.refl _ _))).mono ?_; rintro e W2 ⟨rfl, hb2'⟩; have hb2 : Below w.heap.size w W2 := (by first | exact hb2' | exact below_then (below_drew (Below.refl _ _)) hb2' (Nat.le_refl _)); have s3 := (hb2.cell (p := ⟨b, 0, none⟩) hb).trans hc0)
    | (go_at_call 58; refine (UP.out _ hb2).mono ?_; rintro e W3 ⟨rfl, rfl⟩))
  all_goals
    go_wp2
    go_ret
    first | exact ⟨rfl, hb2⟩ | exact ⟨rfl, below_drew hb2⟩
end
end Go.Proofs.YtkalfhhdljndfaaGreatDoor
