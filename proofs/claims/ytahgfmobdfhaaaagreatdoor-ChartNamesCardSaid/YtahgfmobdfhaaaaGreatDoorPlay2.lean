/-
  A rule that was read of a line is small: plain.
-/
import Derived.Test.YtahgfmobdfhaaaaGreatDoorPolS
import Derived.Test.YtahgfmobdfhaaaaGreatDoorSh2
import Derived.Test.YtahgfmobdfhaaaaGreatDoorRuleSt
import Derived.Test.YtahgfmobdfhaaaaGreatDoorCh7
import Derived.Test.YtahgfmobdfhaaaaGreatDoorPol5
import Derived.Test.YtahgfmobdfhaaaaGreatDoorOwn
import Derived.Test.YtahgfmobdfhaaaaGreatDoorRd4
import Derived.Deep.RegionWith
import Derived.Deep.DeepCutAuto
namespace Go.Proofs.YtahgfmobdfhaaaaGreatDoor
set_option maxRecDepth 100000

theorem sum_join : ∀ l : List Tx, sumL l ≤ (joinP l).length + 1
  | [] => by simp [sumL]
  | [a] => by rw [join_one]; simp only [sumL]; omega
  | a :: b :: r => by
    have ih := sum_join (b :: r)
    rw [join_cons2, List.length_append, List.length_cons]
    rw [show sumL (a :: b :: r) = a.length + 1 + sumL (b :: r) from rfl]; omega
theorem opt_ge (x y : Tx) : y.length ≤ sumL (optP x y) := by
  unfold optP
  split
  · rename_i e; simp [e]
  · simp only [sumL]; omega
theorem numV_lt (t : Tx) : 0 ≤ numV t ∧ numV t < 1000000000 := by
  unfold numV
  split
  · rename_i h
    simp only [isNum, Bool.and_eq_true, decide_eq_true_eq] at h
    obtain ⟨⟨⟨h1, h2⟩, _⟩, h4⟩ := h
    have hv := valL_lt h4
    have hp : 10 ^ t.length ≤ 10 ^ 9 := Nat.pow_le_pow_right (by omega) h2
    omega
  · omega
theorem idx_in (x : Tx) : ∀ (tbl : List Tx) (i : Int), 0 ≤ i → -1 ≤ idx tbl x i ∧ idx tbl x i ≤ i + tbl.length
  | [], i, _ => by simp only [idx, List.length_nil]; omega
  | t :: r, i, h => by
    have ih := idx_in x r (i + 1) (by omega)
    simp only [idx, List.length_cons]
    split
    · omega
    · omega
theorem rule_tot (T : List Tx) : totR (ruleP T).1 ≤ sumL (lineP (ruleP T).1) ∧ (-1 ≤ (ruleP T).1.n ∧ (ruleP T).1.n < 1000000000) ∧ (-1 ≤ (ruleP T).1.m ∧ (ruleP T).1.m < 1000000000) := by
  unfold ruleP
  generalize choiceP T kindT ⟨0, false⟩ = c
  obtain ⟨kd, s⟩ := c
  unfold bodyP
  simp only
  split
  · unfold roleP
    split
    · simp only [lineP, totR, sumL, List.length_nil]
      refine ⟨?_, by omega, by omega⟩
      simp only [if_true]
      split
      · rename_i e; simp only [e, sumL]; omega
      · simp only [sumL]; omega
    · simp only [lineP, totR, sumL, List.length_nil]
      refine ⟨?_, by omega, by omega⟩
      simp only [if_true, sumL]; omega
  · rename_i h1
    split
    · rename_i h2
      simp only [userP, lineP, totR, sumL, List.length_nil]
      refine ⟨?_, by omega, by omega⟩
      simp only [h1, h2, if_false, if_true, sumL]; omega
    · rename_i h2
      split
      · rename_i h3
        have hb := numV_lt (pk T s)
        simp only [ssdP, numberP, lineP, totR, sumL, List.length_nil]
        refine ⟨?_, by omega, by omega⟩
        simp only [h1, h2, h3, if_false, if_true, sumL]; omega
      · rename_i h3
        split
        · simp only [exclP, lineP, totR, sumL, List.length_nil]
          refine ⟨?_, by omega, by omega⟩
          simp only [show ¬ (6 : Int) = 1 by decide, show ¬ ((6 : Int) = 2 ∨ (6 : Int) = 3) by decide, show ¬ ((6 : Int) = 4 ∨ (6 : Int) = 5) by decide, if_false, if_true]; omega
        · split
          · have hb := numV_lt (pk T (nameP T s).2)
            have hc := numV_lt (pk T (numberP T (nameP T s).2).2)
            simp only [lendP, numberP, lineP, totR, sumL, List.length_nil] at hb hc ⊢
            refine ⟨?_, by omega, by omega⟩
            simp only [show ¬ (7 : Int) = 1 by decide, show ¬ ((7 : Int) = 2 ∨ (7 : Int) = 3) by decide, show ¬ ((7 : Int) = 4 ∨ (7 : Int) = 5) by decide, show ¬ (7 : Int) = 6 by decide, if_false, if_true, sumL]; omega
          · split
            · have hb := idx_in (pk T (nameP T s).2) stateT 0 (by omega)
              have hl : stateT.length = 5 := rfl
              simp only [stateP, choiceP, lineP, totR, sumL, List.length_nil] at hb ⊢
              have ho := opt_ge [105, 110] (optionP T [105, 110] (tk (decide (0 < idx stateT (pk T (nameP T s).2) 0)) (nameP T s).2)).1
              refine ⟨?_, by omega, by omega⟩
              simp only [show ¬ (8 : Int) = 1 by decide, show ¬ ((8 : Int) = 2 ∨ (8 : Int) = 3) by decide, show ¬ ((8 : Int) = 4 ∨ (8 : Int) = 5) by decide, show ¬ (8 : Int) = 6 by decide, show ¬ (8 : Int) = 7 by decide, if_false, if_true, sumL, List.cons_append, List.nil_append]; omega
            · split
              · simp only [onP, lineP, totR, sumL, List.length_nil]
                have h1 := opt_ge [98, 121] (optionP T [98, 121] (fromToP T (nameP T s).2).2.2).1
                have h2 := opt_ge [116, 97, 115, 107] (optionP T [116, 97, 115, 107] (optionP T [98, 121] (fromToP T (nameP T s).2).2.2).2).1
                refine ⟨?_, by omega, by omega⟩
                simp only [show ¬ (9 : Int) = 1 by decide, show ¬ ((9 : Int) = 2 ∨ (9 : Int) = 3) by decide, show ¬ ((9 : Int) = 4 ∨ (9 : Int) = 5) by decide, show ¬ (9 : Int) = 6 by decide, show ¬ (9 : Int) = 7 by decide, show ¬ (9 : Int) = 8 by decide, if_false, if_true, sumL, List.cons_append, List.nil_append, sum_app]; omega
              · split
                · simp only [autoP, lineP, totR, sumL, List.length_nil]
                  refine ⟨?_, by omega, by omega⟩
                  simp only [show ¬ (10 : Int) = 1 by decide, show ¬ ((10 : Int) = 2 ∨ (10 : Int) = 3) by decide, show ¬ ((10 : Int) = 4 ∨ (10 : Int) = 5) by decide, show ¬ (10 : Int) = 6 by decide, show ¬ (10 : Int) = 7 by decide, show ¬ (10 : Int) = 8 by decide, show ¬ (10 : Int) = 9 by decide, if_false, if_true, sumL]; omega
                · split
                  · have hb := numV_lt (pk T s)
                    simp only [afterP, numberP, lineP, totR, sumL, List.length_nil] at hb ⊢
                    refine ⟨?_, by omega, by omega⟩
                    simp only [show ¬ (11 : Int) = 1 by decide, show ¬ ((11 : Int) = 2 ∨ (11 : Int) = 3) by decide, show ¬ ((11 : Int) = 4 ∨ (11 : Int) = 5) by decide, show ¬ (11 : Int) = 6 by decide, show ¬ (11 : Int) = 7 by decide, show ¬ (11 : Int) = 8 by decide, show ¬ (11 : Int) = 9 by decide, show ¬ (11 : Int) = 10 by decide, if_false, if_true, sumL]; omega
                  · simp only [totR, sumL, List.length_nil]
                    exact ⟨by omega, by omega, by omega⟩
theorem parse_rule {L : Tx} {r : Ru} (h : parseL L = .ok r) : (ruleP (tx (wordsL L))).1 = r := by
  unfold parseL at h
  split at h
  · cases h
  split at h
  · cases h
  unfold parseW at h
  split at h
  · cases h
  split at h
  · cases h
  injection h
theorem small_of {r : Ru} (h : parseL (joinP (lineP r)) = .ok r) (hl : (joinP (lineP r)).length ≤ 8192) : Small r := by
  have hr := parse_rule h
  have ht := rule_tot (tx (wordsL (joinP (lineP r))))
  rw [hr] at ht
  have hs := sum_join (lineP r)
  exact ⟨by omega, by omega, by omega⟩
end Go.Proofs.YtahgfmobdfhaaaaGreatDoor
/-
  What rules that were read are like.
-/
namespace Go.Proofs.YtahgfmobdfhaaaaGreatDoor
set_option maxRecDepth 100000
open Go.ChangeShapes Go.WideShapes Go.ChangeAt Go.RowKit

theorem lines_le {x : Tx} : ∀ {ls : List Tx}, x ∈ ls → x.length ≤ linesLen ls
  | a :: ls, h => by
    simp only [linesLen, List.map_cons, List.sum_cons]
    rcases List.mem_cons.1 h with rfl | h
    · omega
    · have := lines_le h
      unfold linesLen at this
      omega
theorem pol_facts (s : Tx) : (polT s).l.length ≤ 160 ∧ ∀ x ∈ (polT s).l, Small x.1 ∧ x.1.list.length ≤ 4096 ∧ printP x.1 ≠ none := by
  cases hp : polT s with
  | limit => exact ⟨Nat.zero_le _, fun x hx => by cases hx⟩
  | bad a b c => exact ⟨Nat.zero_le _, fun x hx => by cases hx⟩
  | ok l =>
    have h0 := polT_all hp
    refine ⟨h0.2, fun x hx => ?_⟩
    have h := hp
    unfold polT at h
    split at h
    · cases h
    · obtain ⟨us, e, h1, h2, _⟩ := pol_told _ _ _ _ h
      rw [List.nil_append] at e
      subst e
      rw [linesLen_all] at h2
      have h3 : (joinP (lineP x.1)).length ≤ linesLen (l.map fun x => joinP (lineP x.1)) := lines_le (List.mem_map_of_mem (f := fun x : Ru × Nat => joinP (lineP x.1)) hx)
      refine ⟨small_of (h1 x hx).1 (by omega), (h0.1 x hx).1, ?_⟩
      rw [printP_some.2 ⟨rfl, (h1 x hx).1⟩]
      simp
end Go.Proofs.YtahgfmobdfhaaaaGreatDoor
/-
  chart.Compile of the rules of a text.
-/
namespace Go.Proofs.YtahgfmobdfhaaaaGreatDoor
set_option maxRecDepth 100000
open Go.ChangeShapes Go.WideShapes Go.ChangeAt Go.RowKit

theorem Comp_pol {s : Tx} (acc : List RL) (A : Option Addr) (cap base : Nat) (w : World) (hR : RowsAt w base (.slice A acc.length cap) acc) (he : acc.map er = (polT s).l) (hg : HandleAt w) (ht : TabAt w) :
    Calls Tryz.prog 6 #[.slice A acc.length cap] w (CompTo (compL (polT s).l) w) := by
  obtain ⟨h1, h2⟩ := pol_facts s
  rw [← he] at h1 h2
  have h3 : ∀ x ∈ acc, Small x.1 ∧ x.1.list.length ≤ 4096 := fun x hx => ⟨(h2 (er x) (List.mem_map_of_mem hx)).1, (h2 (er x) (List.mem_map_of_mem hx)).2.1⟩
  have h := Compile_any acc A cap w (rIn_of hR) (by rw [List.length_map] at h1; omega) (own_cap hR.1) (fun x hx => (h3 x hx).1) (fun x hx => by have := (h3 x hx).2; omega)
    (fun x hx B c e => own_LIn (by rw [← e]; exact hR.2 x hx)) hg ht
  rwa [compR_ok (fun x hx => (h2 x hx).2.2), he] at h
end Go.Proofs.YtahgfmobdfhaaaaGreatDoor
/-
  The document's Compile, plainly: the same as package chart's, of rules that were read.
-/
namespace Go.Proofs.YtahgfmobdfhaaaaGreatDoor
set_option maxRecDepth 100000

theorem idx_spot {l : List Tx} {x : Tx} (h : idxI l x ≠ -1) : ∃ m : Nat, idxI l x = m ∧ m < l.length ∧ l[m]? = some x := by
  have h1 := idxI_lt l x
  have h2 := (idxI_mem h).2
  refine ⟨(idxI l x).toNat, by omega, by omega, h2⟩
/-- may a state not stand where it is, as the document asks? -/
def badSt (ks : List Int) (k p : Int) : Prop := (0 ≤ p ∧ 3 ≤ ks.getD p.toNat 0) ∨ (3 ≤ k ∧ (p < 0 ∨ ks.getD p.toNat 0 ≠ 1))
instance (ks : List Int) (k p : Int) : Decidable (badSt ks k p) := inferInstanceAs (Decidable (_ ∨ _))
end Go.Proofs.YtahgfmobdfhaaaaGreatDoor
/-
  The states and the transitions of a chart, in the order of their rules: plainly.
-/
namespace Go.Proofs.YtahgfmobdfhaaaaGreatDoor
set_option maxRecDepth 100000

section
variable {α : Type} (p : α → Bool)
theorem filt_at (l : List α) (k : Nat) (h : k < l.length) (hp : p l[k] = true) : (l.filter p)[((l.take k).filter p).length]? = some l[k] := by
  have e : l.filter p = (l.take k).filter p ++ l[k] :: (l.drop (k + 1)).filter p := by
    conv => lhs; rw [← List.take_append_drop k l, List.drop_eq_getElem_cons h, List.filter_append, List.filter_cons, if_pos hp]
  rw [e, List.getElem?_append_right (Nat.le_refl _), Nat.sub_self]
  rfl
theorem filt_yes (l : List α) (k : Nat) (h : k < l.length) (hp : p l[k] = true) : ((l.take (k + 1)).filter p).length = ((l.take k).filter p).length + 1 := by
  rw [List.take_succ_eq_append_getElem h, List.filter_append, List.filter_cons, if_pos hp]; simp
theorem filt_no (l : List α) (k : Nat) (h : k < l.length) (hp : p l[k] = false) : ((l.take (k + 1)).filter p).length = ((l.take k).filter p).length := by
  rw [List.take_succ_eq_append_getElem h, List.filter_append, List.filter_cons, if_neg (by rw [hp]; decide)]; simp
end
theorem pol_fields (s : Tx) : ∀ x ∈ (polT s).l, RuF x.1 := by
  intro x hx
  cases hp : polT s with
  | limit => rw [hp] at hx; cases hx
  | bad a b c => rw [hp] at hx; cases hx
  | ok l =>
    rw [hp] at hx
    have h := hp
    unfold polT at h
    split at h
    · cases h
    · obtain ⟨us, e, h1, h2, _⟩ := pol_told _ _ _ _ h
      rw [List.nil_append] at e
      subst e
      exact parse_fields (h1 x hx).1
/-- how many states, how many transitions are behind k rules -/
def nSt (l : List (Ru × Nat)) (k : Nat) : Nat := (stsOf (l.take k)).length
def nTr (l : List (Ru × Nat)) (k : Nat) : Nat := (trsOf (l.take k)).length
structure StOk (c : Ch) (j : Nat) (r : Ru) : Prop where
  lt : j < c.names.length
  nm : c.names[j]? = some r.name
  kn : c.kinds[j]? = some r.n
  pa : ∃ i, c.parents[j]? = some i ∧ ((r.in_ = [] ∧ i = -1) ∨ (r.in_ ≠ [] ∧ ∃ m : Nat, i = m ∧ m < j ∧ c.names[m]? = some r.in_))
structure TrOk (c : Ch) (j : Nat) (r : Ru) : Prop where
  lt : j < c.trans.length
  tr : ∃ f t : Nat, c.trans[j]? = some ⟨r.kind, f, t, r.name, r.by_, r.task, r.n⟩ ∧ f < c.names.length ∧ t < c.names.length ∧ c.names[f]? = some r.from_ ∧ c.names[t]? = some r.to_
theorem st_at {l : List (Ru × Nat)} {c : Ch} (h : compL l = .ok c) (hf : ∀ x ∈ l, RuF x.1) (k : Nat) (hk : k < l.length) (h8 : l[k].1.kind = 8) :
    StOk c (nSt l k) l[k].1 ∧ nSt l (k + 1) = nSt l k + 1 ∧ nTr l (k + 1) = nTr l k := by
  have o := comp_ok h
  have hnm : c.names = nmS (stsOf l) := by rw [o.nm]; rfl
  have hp : decide (l[k].1.kind ∈ [(8 : Int)]) = true := by simp [h8]
  have h0 := filt_at (fun x : Ru × Nat => decide (x.1.kind ∈ [(8 : Int)])) l k hk hp
  have hlt : nSt l k < (stsOf l).length := (List.getElem?_eq_some_iff.1 h0).1
  have h1 : (stsOf l)[nSt l k] = l[k] := (List.getElem?_eq_some_iff.1 h0).2
  have hs := o.st (nSt l k) hlt
  simp only [show ({} : Ch).names.length = 0 from rfl, Nat.zero_add] at hs
  rw [h1] at hs
  have hsl : c.names.length = (stsOf l).length := by rw [hnm]; simp [nmS]
  have hlt2 : nSt l k < c.names.length := by rw [hsl]; exact hlt
  refine ⟨⟨hlt2, hs.nm, hs.kn, _, hs.pa, ?_⟩, filt_yes _ l k hk hp, filt_no _ l k hk (decide_eq_false (by unfold isTr; omega))⟩
  have hne : ∀ y ∈ c.names, nameL y = true := fun y hy => by
    rw [hnm] at hy
    obtain ⟨z, hz, rfl⟩ := List.mem_map.1 hy
    have hm := List.mem_filter.1 hz
    exact ((hf z hm.1).st (by simpa using hm.2)).1
  by_cases hi : idxI (c.names.take (nSt l k)) l[k].1.in_ = -1
  · rcases hs.ni with h9 | h9
    · exact .inl ⟨h9, hi⟩
    · exact absurd hi h9
  · obtain ⟨m, e, hm, hx⟩ := idx_spot hi
    rw [List.length_take] at hm
    rw [List.getElem?_take_of_lt (by omega)] at hx
    refine .inr ⟨fun e9 => ?_, m, e, by omega, hx⟩
    have := hne _ (List.mem_of_getElem? hx)
    rw [e9] at this
    exact absurd this (by decide)
theorem tr_at {l : List (Ru × Nat)} {c : Ch} (h : compL l = .ok c) (k : Nat) (hk : k < l.length) (ht : isTr l[k].1) :
    TrOk c (nTr l k) l[k].1 ∧ nTr l (k + 1) = nTr l k + 1 ∧ nSt l (k + 1) = nSt l k := by
  have o := comp_ok h
  have hnm : c.names = nmS (stsOf l) := by rw [o.nm]; rfl
  have hp : decide (isTr l[k].1) = true := decide_eq_true ht
  have h0 := filt_at (fun x : Ru × Nat => decide (isTr x.1)) l k hk hp
  have hm : l[k] ∈ trsOf l := List.mem_filter.2 ⟨List.getElem_mem hk, hp⟩
  obtain ⟨k1, k2, _⟩ := o.tk _ hm
  have htr : c.trans = (trsOf l).map fun x => trOf (stsOf l) x.1 := by rw [o.tr]; rfl
  have hx : c.trans[nTr l k]? = some (trOf (stsOf l) l[k].1) := by
    rw [htr, List.getElem?_map]
    have h1 : (trsOf l)[nTr l k]? = some l[k] := h0
    rw [h1]; rfl
  obtain ⟨f, ef, hfl, hfx⟩ := idx_spot k1
  obtain ⟨t, et, htl, htx⟩ := idx_spot k2
  rw [← hnm] at hfl hfx htl htx
  refine ⟨⟨(List.getElem?_eq_some_iff.1 hx).1, f, t, ?_, hfl, htl, hfx, htx⟩, filt_yes _ l k hk hp, filt_no _ l k hk (decide_eq_false (by rcases ht with e | e | e <;> simp [e]))⟩
  rw [hx]
  unfold trOf frS toS
  rw [ef, et]
theorem no_at {l : List (Ru × Nat)} (k : Nat) (hk : k < l.length) (h8 : l[k].1.kind ≠ 8) (ht : ¬ isTr l[k].1) : nSt l (k + 1) = nSt l k ∧ nTr l (k + 1) = nTr l k :=
  ⟨filt_no _ l k hk (by simp [h8]), filt_no _ l k hk (by simp [ht])⟩
theorem n_end {l : List (Ru × Nat)} {c : Ch} (h : compL l = .ok c) : nSt l l.length = c.names.length ∧ nTr l l.length = c.trans.length := by
  have o := comp_ok h
  have hnm : c.names = nmS (stsOf l) := by rw [o.nm]; rfl
  have htr : c.trans = (trsOf l).map fun x => trOf (stsOf l) x.1 := by rw [o.tr]; rfl
  unfold nSt nTr
  rw [List.take_length, hnm, htr]
  simp [nmS]
end Go.Proofs.YtahgfmobdfhaaaaGreatDoor
/-
  The maker of a plan's texts: the number that is next; a name. Of texts only how much they hold, and how many lines end in them.
-/
namespace Go.Proofs.YtahgfmobdfhaaaaGreatDoor
set_option maxRecDepth 100000
open Go.ChangeShapes Go.WideShapes Go.ChangeAt Go.RowKit

theorem wp_end {P : Program} {s : Code} {Q : Exit → Act → World → Prop} {a : Act} {w : World} (h : ∀ K : Act → World → Prop, (K = fun a w => Q .normal a w) → s.wp P (Exit.then K Q) a w) : s.wp P Q a w :=
  wp_mono (h _ rfl) (fun e a w hq => by cases e <;> exact hq)
/-- how many lines end in a text -/
def nl (t : ByteArray) : Nat := t.data.toList.count 10
theorem nl_app (a b : ByteArray) : nl (a ++ b) = nl a + nl b := by simp [nl, ByteArray.data_append]
theorem nl_lit (l : Array UInt8) : nl ⟨l⟩ = l.toList.count 10 := rfl
theorem sz_lit (l : Array UInt8) : (⟨l⟩ : ByteArray).size = l.size := rfl

/-- where a maker stands: its plan's numbers came in; so many were taken -/
def Mk (W0 : World) (v : Value) (b k : Nat) (w : World) : Prop := Below W0.heap.size W0 w ∧ W0.heap.size ≤ b ∧ w.heap[b]? = some (.cells #[v, .int .i64 k] 52 (0, 0))
def NTo (W0 : World) (v : Value) (b k : Nat) (of : Int) (w : World) (e : Ending) (w' : World) : Prop := ∃ r : Nat, e = .returned (.int .i64 r) ∧ (r : Int) < of ∧ Mk W0 v b (k + 1) w' ∧ w.grownBy w' (some b)
theorem nTo_mk {W0 : World} {v : Value} {b k : Nat} {of x : Int} {w w' : World} (h0 : 0 ≤ x) (h1 : x < of) (h2 : Mk W0 v b (k + 1) w') (h3 : w.grownBy w' (some b)) : NTo W0 v b k of w (.returned (.int .i64 x)) w' :=
  ⟨x.toNat, by rw [Int.toNat_of_nonneg h0], by rw [Int.toNat_of_nonneg h0]; exact h1, h2, h3⟩
theorem mk_step {W0 : World} {v : Value} {b k : Nat} {w : World} (h : Mk W0 v b k w) : Mk W0 v b (k + 1) (w.setCell ⟨b, 1, none⟩ (.int .i64 ((k : Int) + 1))) := by
  obtain ⟨h1, h2, h3⟩ := h
  exact ⟨h1.grown (grown_setCell _ _ _ _) h1.size (fun j hj => by cases hj; exact h2), h2, by simpa using heap_set (j := 1) h3 (.int .i64 ((k : Int) + 1))⟩
theorem Mk.drewN {W0 : World} {v : Value} {b k : Nat} {w : World} (h : Mk W0 v b k w) (n : Nat) : Mk W0 v b k (w.drewN n) := ⟨below_drewN h.1 n, h.2.1, h.2.2⟩
theorem grown_drew' {w w' : World} {r : Option Nat} (n : Nat) (h : (w.drewN n).grownBy w' r) : w.grownBy w' r := ⟨h.os, h.tape, h.output, h.size, h.block⟩
theorem Mk.below {W0 : World} {v : Value} {b k : Nat} {w w' : World} (h : Mk W0 v b k w) (hb : Below w.heap.size w w') : Mk W0 v b k w' :=
  ⟨below_then h.1 hb h.1.size, h.2.1, (hb.block _ (Array.getElem?_eq_some_iff.1 h.2.2).1).trans h.2.2⟩
theorem StrAt.drewN {w : World} {t : Nat} {l : List Tx} (h : StrAt w t l) (n : Nat) : StrAt (w.drewN n) t l := h
theorem Mk.alloc {W0 : World} {v : Value} {b k : Nat} {w : World} (h : Mk W0 v b k w) (O : Obj) : Mk W0 v b k (w.alloc O) :=
  ⟨h.1.alloc h.1.size _, h.2.1, (heap_alloc_old _ _ (Array.getElem?_eq_some_iff.1 h.2.2).1).trans h.2.2⟩
set_option maxHeartbeats 2000000 in
theorem n_any (W0 : World) (v : Value) (zs : List Int) (hz : IntsAt W0 v zs) (b k : Nat) (of : Int) (w : World) (h : Mk W0 v b k w) (hk : k ≤ 1000000) (h1 : 1 ≤ of) (h2 : of ≤ 1000) :
    Calls Tryz.prog 20 #[.pointer (some ⟨b, 0, none⟩), .int .i64 of] w (NTo W0 v b k of w) := by
  obtain ⟨A, cap, rfl, hm, hx⟩ := hz
  have q0 : w.cell? ⟨b, 0, none⟩ = some (.slice A zs.length cap) := by rw [cell_of_row _ _ _ _ _ _ h.2.2]; rfl
  have q1 : w.cell? ⟨b, 1, none⟩ = some (.int .i64 k) := by rw [cell_of_row _ _ _ _ _ _ h.2.2]; rfl
  have f1 : w.frozen? ⟨b, 1, none⟩ = false := by simp [World.frozen?, h.2.2]
  have HS := fun n => Lib.hid (mk_step (h.drewN n))
  have ek : IntKind.i64.wrap ((k : Int) + 1) = (k : Int) + 1 := by rw [IntKind.wrap_i64]; omega
  by_cases hlt : k < zs.length
  · obtain ⟨g, off, rfl, hgl, hc, hwf⟩ := hx k hlt
    have hc' : w.cell? ⟨g, off + k, none⟩ = some (.int .i64 zs[k]) := (h.1.cell (p := ⟨g, off + k, none⟩) hgl).trans hc
    have hw := fun W => Within_any zs[k] of W hwf h1 (by omega)
    have hb := within_bd zs[k] of h1
    have HW := Lib.hid hw
    clear hw hx hc h hwf
    generalize zs[k] = x at *
    generalize zs.length = l at *
    go_enter Tryz.func20, Tryz.ntmps20
    go_wp2
    go_quiet (fail)
    go_wp2
    go_quiet (fail)
    go_wp2_with (go_at_call 51; refine (HW.out _).mono ?_; rintro e w1 ⟨rfl, rfl⟩)
    go_ret
    exact nTo_mk hb.1 hb.2 (HS _).out (grown_drew' _ (grown_setCell _ _ _ _))
  · have hw := fun W => Within_any 0 of W (by decide) h1 (by omega)
    have hb := within_bd 0 of h1
    have HW := Lib.hid hw
    clear hw hx h
    generalize zs.length = l at *
    go_enter Tryz.func20, Tryz.ntmps20
    go_wp2
    go_quiet (fail)
    go_wp2_with (go_at_call 51; refine (HW.out _).mono ?_; rintro e w1 ⟨rfl, rfl⟩)
    go_ret
    exact nTo_mk hb.1 hb.2 (HS _).out (grown_drew' _ (grown_setCell _ _ _ _))
/-- a text of some size without an end of a line -/
def NmTo (n : Nat) (w : World) (e : Ending) (w' : World) : Prop := ∃ t : ByteArray, e = .returned (.string t) ∧ t.size = n ∧ nl t = 0 ∧ w = w'
theorem abc_at (m : Nat) (h : m < 12) : (ByteArray.mk #[97, 98, 99, 100, 101, 102, 103, 104, 105, 106, 107, 108]).extract m 12 = bs ([97, 98, 99, 100, 101, 102, 103, 104, 105, 106, 107, 108].drop m) := by
  rw [extract_bs]
  have : ∀ m, m < 12 → List.take (12 - m) (List.drop m (ByteArray.mk #[97, 98, 99, 100, 101, 102, 103, 104, 105, 106, 107, 108]).data.toList) = List.drop m [97, 98, 99, 100, 101, 102, 103, 104, 105, 106, 107, 108] := by decide
  rw [this m h]
theorem abc_nl : ∀ m, m < 12 → ∀ l ∈ [([97, 98, 99, 100, 101, 102, 103, 104, 105, 106, 107, 108] : List UInt8).drop m], (l.take 1).length = 1 ∧ (l.take 1).count 10 = 0 := by decide
/-- the letter of a number -/
def abc (n : Nat) : ByteArray := bs ((([97, 98, 99, 100, 101, 102, 103, 104, 105, 106, 107, 108] : List UInt8).drop (n % 12)).take 1)
theorem abc_sz (n : Nat) : (abc n).size = 1 := (abc_nl (n % 12) (Nat.mod_lt _ (by omega)) _ (List.mem_singleton.2 rfl)).1
theorem abc_no (n : Nat) : nl (abc n) = 0 := (abc_nl (n % 12) (Nat.mod_lt _ (by omega)) _ (List.mem_singleton.2 rfl)).2
theorem nmv_any (h : ByteArray) (hs : h.size = 1) (n : Nat) (hn : n ≤ 1000000) (w : World) : Calls Tryz.prog 21 #[.string h, .int .i64 n] w fun e w' => e = .returned (.string (h ++ abc n)) ∧ w = w' := by
  have hm : (n : Int).tmod 12 = ((n % 12 : Nat) : Int) := by rw [Int.tmod_eq_emod_of_nonneg (by omega)]; omega
  have hlt : n % 12 < 12 := Nat.mod_lt _ (by omega)
  unfold abc
  generalize n % 12 = m at *
  have hab := abc_at m hlt
  have hsz : (bs ([97, 98, 99, 100, 101, 102, 103, 104, 105, 106, 107, 108].drop m)).size = 12 - m := by rw [size_bs]; simp
  have hmi : (m : Int) ≤ 12 := by omega
  go_enter Tryz.func21, Tryz.ntmps21
  go_wp2
  go_ret
  have hx : ∀ l : List UInt8, (bs l).extract 0 1 = bs (l.take 1) := fun l => by rw [extract_bs]; rfl
  rw [hx]
  exact ⟨rfl, rfl⟩
theorem nm_any (h : ByteArray) (hs : h.size = 1) (h0 : nl h = 0) (n : Nat) (hn : n ≤ 1000000) (w : World) : Calls Tryz.prog 21 #[.string h, .int .i64 n] w (NmTo 2 w) :=
  (nmv_any h hs n hn w).mono fun _ _ ⟨he, hw⟩ => ⟨_, he, by rw [ByteArray.size_append, hs, abc_sz], by rw [nl_app, h0, abc_no], hw⟩
end Go.Proofs.YtahgfmobdfhaaaaGreatDoor
/-
  The maker's people: some text of some lines.
-/
namespace Go.Proofs.YtahgfmobdfhaaaaGreatDoor
set_option maxRecDepth 100000
open Go.ChangeShapes Go.WideShapes Go.ChangeAt Go.RowKit

/-- some text, of so many bytes and lines at most; the maker went on -/
def TxTo (W0 : World) (v : Value) (b L R K : Nat) (_w : World) (e : Ending) (w' : World) : Prop := ∃ (t : ByteArray) (k : Nat), e = .returned (.string t) ∧ t.size ≤ L ∧ nl t ≤ R ∧ k ≤ K ∧ Mk W0 v b k w' ∧ Below W0.heap.size W0 w'
theorem txTo_mk {W0 : World} {v : Value} {b L R K : Nat} {w w' : World} {t : ByteArray} {k : Nat} (h1 : t.size ≤ L) (h2 : nl t ≤ R) (h3 : k ≤ K) (h4 : Mk W0 v b k w') : TxTo W0 v b L R K w (.returned (.string t)) w' := ⟨t, k, rfl, h1, h2, h3, h4, h4.1⟩
theorem nl_digs (n : Nat) : nl (bs (digs n)) = 0 := by
  have key : ∀ m, m < 10 → ([dgt m] : List UInt8).count 10 = 0 := by decide
  have : ∀ n, (digs n).count 10 = 0 := by
    intro n
    induction n using Nat.strongRecOn with
    | ind n ih =>
      rw [digs]
      split
      · exact key n (by omega)
      · rw [List.count_append, ih (n / 10) (by omega), key (n % 10) (by omega)]
  exact this n
end Go.Proofs.YtahgfmobdfhaaaaGreatDoor
