import Derived.Test.YtgffbgmieppckaaGreatDoorPolS
import Derived.Test.YtgffbgmieppckaaGreatDoorRt0
import Derived.Test.YtgffbgmieppckaaGreatDoorRuleSt
import Derived.Test.YtgffbgmieppckaaGreatDoorInts
import Derived.Test.YtgffbgmieppckaaGreatDoorSe8
import Derived.Test.YtgffbgmieppckaaGreatDoorWth
import Derived.LaidEql
import Derived.Lib.IfaceEq
import Derived.Stop.Asserts
import Derived.RowKitTokens
import Derived.Test.YtgffbgmieppckaaGreatDoorRt4
import Derived.Test.YtgffbgmieppckaaGreatDoorAs
import Derived.Test.YtgffbgmieppckaaGreatDoorParse
import Derived.Test.YtgffbgmieppckaaGreatDoorOwn
import Derived.Deep.RegionWith
import Derived.StillTailTactics
import Derived.Test.YtgffbgmieppckaaGreatDoorSe3
namespace Go.Proofs.YtgffbgmieppckaaGreatDoor
set_option maxRecDepth 100000
theorem sum_join : ∀ l : List Tx, sumL l ≤ (joinP l).length + 1
 | [] => by simp [sumL]
 | [a] => by rw [join_one]; simp only [sumL]; omega
 | a :: b :: r => by
  have ih := sum_join (b :: r)
  rw [join_cons2, List.length_append, List.length_cons]
  rw [show sumL (a :: b :: r) = a.length + 1 + sumL (b :: r) from rfl]; omega
theorem opt_ge (x y : Tx) : y.length ≤ sumL (optP x y) := by
 unfold optP
 split
 ·rename_i e; simp [e]
 ·simp only [sumL]; omega
theorem numV_lt (t : Tx) : 0 ≤ numV t ∧ numV t < 1000000000 := by
 unfold numV
 split
 ·rename_i h
  simp only [isNum, Bool.and_eq_true, decide_eq_true_eq] at h
  obtain ⟨⟨⟨h1, h2⟩, _⟩, h4⟩ := h
  have hv := valL_lt h4
  have hp : 10 ^ t.length ≤ 10 ^ 9 := Nat.pow_le_pow_right (by omega) h2
  omega
 ·omega
theorem idx_in (x : Tx) : ∀ (tbl : List Tx) (i : Int), 0 ≤ i → -1 ≤ idx tbl x i ∧ idx tbl x i ≤ i + tbl.length
 | [], i, _ => by simp only [idx, List.length_nil]; omega
 | t :: r, i, h => by
  have ih := idx_in x r (i + 1) (by omega)
  simp only [idx, List.length_cons]
  split
  ·omega
  ·omega
theorem rule_tot (T : List Tx) : totR (ruleP T).1 ≤ sumL (lineP (ruleP T).1) ∧ (-1 ≤ (ruleP T).1.n ∧ (ruleP T).1.n < 1000000000) ∧ (-1 ≤ (ruleP T).1.m ∧ (ruleP T).1.m < 1000000000) := by
 unfold ruleP
 generalize choiceP T kindT ⟨0, false⟩ = c
 obtain ⟨kd, s⟩ := c
 unfold bodyP
 simp only
 split
 ·unfold roleP
  split
  ·simp only [lineP, totR, sumL, List.length_nil]
   refine ⟨?_, by omega, by omega⟩
   simp only [if_true]
   split
   ·rename_i e; simp only [e, sumL]; omega
   ·simp only [sumL]; omega
  ·simp only [lineP, totR, sumL, List.length_nil]
   refine ⟨?_, by omega, by omega⟩
   simp only [if_true, sumL]; omega
 ·rename_i h1
  split
  ·rename_i h2
   simp only [userP, lineP, totR, sumL, List.length_nil]
   refine ⟨?_, by omega, by omega⟩
   simp only [h1, h2, if_false, if_true, sumL]; omega
  ·rename_i h2
   split
   ·rename_i h3
    have hb := numV_lt (pk T s)
    simp only [ssdP, numberP, lineP, totR, sumL, List.length_nil]
    refine ⟨?_, by omega, by omega⟩
    simp only [h1, h2, h3, if_false, if_true, sumL]; omega
   ·rename_i h3
    split
    ·simp only [exclP, lineP, totR, sumL, List.length_nil]
     refine ⟨?_, by omega, by omega⟩
     simp only [show ¬ (6 : Int) = 1 by decide, show ¬ ((6 : Int) = 2 ∨ (6 : Int) = 3) by decide, show ¬ ((6 : Int) = 4 ∨ (6 : Int) = 5) by decide, if_false, if_true]; omega
    ·split
     ·have hb := numV_lt (pk T (nameP T s).2)
      have hc := numV_lt (pk T (numberP T (nameP T s).2).2)
      simp only [lendP, numberP, lineP, totR, sumL, List.length_nil] at hb hc ⊢
      refine ⟨?_, by omega, by omega⟩
      simp only [show ¬ (7 : Int) = 1 by decide, show ¬ ((7 : Int) = 2 ∨ (7 : Int) = 3) by decide, show ¬ ((7 : Int) = 4 ∨ (7 : Int) = 5) by decide, show ¬ (7 : Int) = 6 by decide, if_false, if_true, sumL]; omega
     ·split
      ·have hb := idx_in (pk T (nameP T s).2) stateT 0 (by omega)
       have hl : stateT.length = 5 := rfl
       simp only [stateP, choiceP, lineP, totR, sumL, List.length_nil] at hb ⊢
       have ho := opt_ge [105, 110] (optionP T [105, 110] (tk (decide (0 < idx stateT (pk T (nameP T s).2) 0)) (nameP T s).2)).1
       refine ⟨?_, by omega, by omega⟩
       simp only [show ¬ (8 : Int) = 1 by decide, show ¬ ((8 : Int) = 2 ∨ (8 : Int) = 3) by decide, show ¬ ((8 : Int) = 4 ∨ (8 : Int) = 5) by decide, show ¬ (8 : Int) = 6 by decide, show ¬ (8 : Int) = 7 by decide, if_false, if_true, sumL, List.cons_append, List.nil_append]; omega
      ·split
       ·simp only [onP, lineP, totR, sumL, List.length_nil]
        have h1 := opt_ge [98, 121] (optionP T [98, 121] (fromToP T (nameP T s).2).2.2).1
        have h2 := opt_ge [116, 97, 115, 107] (optionP T [116, 97, 115, 107] (optionP T [98, 121] (fromToP T (nameP T s).2).2.2).2).1
        refine ⟨?_, by omega, by omega⟩
        simp only [show ¬ (9 : Int) = 1 by decide, show ¬ ((9 : Int) = 2 ∨ (9 : Int) = 3) by decide, show ¬ ((9 : Int) = 4 ∨ (9 : Int) = 5) by decide, show ¬ (9 : Int) = 6 by decide, show ¬ (9 : Int) = 7 by decide, show ¬ (9 : Int) = 8 by decide, if_false, if_true, sumL, List.cons_append, List.nil_append, sum_app]; omega
       ·split
        ·simp only [autoP, lineP, totR, sumL, List.length_nil]
         refine ⟨?_, by omega, by omega⟩
         simp only [show ¬ (10 : Int) = 1 by decide, show ¬ ((10 : Int) = 2 ∨ (10 : Int) = 3) by decide, show ¬ ((10 : Int) = 4 ∨ (10 : Int) = 5) by decide, show ¬ (10 : Int) = 6 by decide, show ¬ (10 : Int) = 7 by decide, show ¬ (10 : Int) = 8 by decide, show ¬ (10 : Int) = 9 by decide, if_false, if_true, sumL]; omega
        ·split
         ·have hb := numV_lt (pk T s)
          simp only [afterP, numberP, lineP, totR, sumL, List.length_nil] at hb ⊢
          refine ⟨?_, by omega, by omega⟩
          simp only [show ¬ (11 : Int) = 1 by decide, show ¬ ((11 : Int) = 2 ∨ (11 : Int) = 3) by decide, show ¬ ((11 : Int) = 4 ∨ (11 : Int) = 5) by decide, show ¬ (11 : Int) = 6 by decide, show ¬ (11 : Int) = 7 by decide, show ¬ (11 : Int) = 8 by decide, show ¬ (11 : Int) = 9 by decide, show ¬ (11 : Int) = 10 by decide, if_false, if_true, sumL]; omega
         ·simp only [totR, sumL, List.length_nil]
          exact ⟨by omega, by omega, by omega⟩
theorem parse_rule {L : Tx} {r : Ru} (h : parseL L = .ok r) : (ruleP (tx (wordsL L))).1 = r := by
 unfold parseL at h
 split at h
 ·cases h
 split at h
 ·cases h
 unfold parseW at h
 split at h
 ·cases h
 split at h
 ·cases h
 injection h
theorem small_of {r : Ru} (h : parseL (joinP (lineP r)) = .ok r) (hl : (joinP (lineP r)).length ≤ 8192) : Small r := by
 have hr := parse_rule h
 have ht := rule_tot (tx (wordsL (joinP (lineP r))))
 rw [hr] at ht
 have hs := sum_join (lineP r)
 exact ⟨by omega, by omega, by omega⟩
end Go.Proofs.YtgffbgmieppckaaGreatDoor
namespace Go.Proofs.YtgffbgmieppckaaGreatDoor
set_option maxRecDepth 100000
open Go.ChangeShapes Go.WideShapes Go.ChangeAt Go.RowKit
theorem lines_le {x : Tx} : ∀ {ls : List Tx}, x ∈ ls → x.length ≤ linesLen ls
 | a :: ls, h => by
  simp only [linesLen, List.map_cons, List.sum_cons]
  rcases List.mem_cons.1 h with rfl | h
  ·omega
  ·have := lines_le h
   unfold linesLen at this
   omega
theorem pol_facts (s : Tx) : (polT s).l.length ≤ 160 ∧ ∀ x ∈ (polT s).l, Small x.1 ∧ x.1.list.length ≤ 4096 ∧ printP x.1 ≠ none := by
 cases hp : polT s with
 | limit => exact ⟨Nat.zero_le _, fun x hx => by cases hx⟩
 | bad a b c => exact ⟨Nat.zero_le _, fun x hx => by cases hx⟩
 | ok l =>
  have h0 := polT_all hp
  refine ⟨h0.2, fun x hx => ?_⟩
  have h := hp
  unfold polT at h
  split at h
  ·cases h
  ·obtain ⟨us, e, h1, h2, _⟩ := pol_told _ _ _ _ h
   rw [List.nil_append] at e
   subst e
   rw [linesLen_all] at h2
   have h3 : (joinP (lineP x.1)).length ≤ linesLen (l.map fun x => joinP (lineP x.1)) := lines_le (List.mem_map_of_mem (f := fun x : Ru × Nat => joinP (lineP x.1)) hx)
   refine ⟨small_of (h1 x hx).1 (by omega), (h0.1 x hx).1, ?_⟩
   rw [printP_some.2 ⟨rfl, (h1 x hx).1⟩]
   simp
theorem RComp_pol {s : Tx} (acc : List RL) (A : Option Addr) (cap base : Nat) (w : World) (hR : RowsAt w base (.slice A acc.length cap) acc) (he : acc.map er = (polT s).l) (hg : HandleAt w) (ht : TabAt w) :
  Calls Tryz.prog 17 #[.slice A acc.length cap] w (RcTo (some (rtL (polT s).l)) w) := by
 obtain ⟨h1, h2⟩ := pol_facts s
 rw [← he] at h1 h2
 have h3 : ∀ x ∈ acc, Small x.1 ∧ x.1.list.length ≤ 4096 := fun x hx => ⟨(h2 (er x) (List.mem_map_of_mem hx)).1, (h2 (er x) (List.mem_map_of_mem hx)).2.1⟩
 have h := RComp_any acc A cap w (rIn_of hR) (by rw [List.length_map] at h1; omega) (own_cap hR.1) (fun x hx => (h3 x hx).1) (fun x hx => (h3 x hx).2)
  (fun x hx B c e => own_LIn (by rw [← e]; exact hR.2 x hx)) hg ht
 rw [rtR_ok (fun x hx => (h2 x hx).2.2), he] at h
 exact h
theorem sAt_nilS (n : Int) : ¬ sAt [] n < ([] : List Se).length := by simp
theorem wakes13 (w : World) : Calls Tryz.prog 50 #[] w (TrueOn w) := by
 have NW := Lib.hid (NewSe_any w)
 go_enter Tryz.func50, Tryz.ntmps50
 go_wp2_with (first
  | (go_at_call 46; refine NW.out.mono ?_; rintro e w1 ⟨rfl, hm1, hb1⟩; have HM1 := Lib.hid hm1; have HB1 := Lib.hid hb1; have LI := Lib.hid (ListSe_any hm1 (by simp)); clear hm1 hb1)
  | (go_at_call 47; refine LI.out.mono ?_; rintro e w2 ⟨A2, c2, rfl, _, hb2⟩; have HB2 := Lib.hid (below_then HB1.out hb2 HB1.out.size); have CL := Lib.hid (Close_none (HM1.out.below hb2) (by simp) 1 (sAt_nilS 1)); clear hb2)
  | (go_at_call 48; refine CL.out.mono ?_; rintro e w3 ⟨rfl, hb3⟩; have HB3 := Lib.hid (below_then HB2.out hb3 HB2.out.size); clear hb3)
  | (go_at_call 19; refine (ko.keepIsO 3 3 _ (by omega) (by omega)).mono ?_; rintro e w4 ⟨rfl, rfl⟩))
 go_ret
 exact ⟨rfl, HB3.out⟩
def SomS (ns : List Tx) (bl : List Nat) (R : Rt) (w : World) (e : Ending) (w' : World) : Prop := Below w.heap.size w w' ∧ ∃ b o, e = .returned (.tuple #[.pointer (some ⟨b, 0, none⟩), .nilIface]) ∧ b < w'.heap.size ∧ RtS w' b o ns bl R
theorem somS_of {t : Tx} {ns : List Tx} {ps : List Pr} {bl : List Nat} {R : Rt} (ht : rtL (polT t).l = .ok (ns, ps, R)) (hbl : rtBl ns ps = bl) {w w1 w' : World} {e : Ending} (hb : Below w.heap.size w w1) (h : RcTo (some (rtL (polT t).l)) w1 e w') : SomS ns bl R w e w' := by
 rw [ht] at h
 obtain ⟨hb2, b, he, hm⟩ := h
 rw [hbl] at hm
 have hlt : b < w'.heap.size := by obtain ⟨_, _, _, _, _, _, _, _, _, hA, _⟩ := hm; exact hA.lt
 obtain ⟨o, hR⟩ := rtS_of hm
 exact ⟨below_then hb hb2 hb.size, b, o, he, hlt, hR⟩
def snTx : Tx := [117, 115, 101, 114, 32, 117, 97, 10]
def snR : Rt := { users := [([117, 97], 0)], perms := [], stat := [], dyn := [], apart := [], loans := [] }
def rtIs (t : Tx) (ns : List Tx) (ps : List Pr) (R : Rt) : Bool := match rtL (polT t).l with
 | .ok (n, p, r) => decide (n = ns) && decide (p = ps) && decide (r.users = R.users) && decide (r.perms = R.perms) && decide (r.stat = R.stat) && decide (r.dyn = R.dyn) && decide (r.apart = R.apart) && decide (r.loans = R.loans)
 | _ => false
theorem rtIs_at {t : Tx} {ns : List Tx} {ps : List Pr} {R : Rt} (h : rtIs t ns ps R = true) : rtL (polT t).l = .ok (ns, ps, R) := by
 unfold rtIs at h
 cases hq : rtL (polT t).l with
 | bad a b => rw [hq] at h; cases h
 | ok c =>
  obtain ⟨n, p, r⟩ := c
  rw [hq] at h
  simp only [Bool.and_eq_true, decide_eq_true_eq] at h
  obtain ⟨⟨⟨⟨⟨⟨⟨rfl, rfl⟩, h1⟩, h2⟩, h3⟩, h4⟩, h5⟩, h6⟩ := h
  obtain ⟨a, b, c, d, e, f⟩ := r
  obtain ⟨a', b', c', d', e', f'⟩ := R
  simp only at h1 h2 h3 h4 h5 h6
  subst h1 h2 h3 h4 h5 h6
  rfl
theorem sn_at : rtL (polT snTx).l = .ok ([], [], snR) := rtIs_at (by decide +kernel)
theorem sn_bl : rtBl [] [] = [] := by decide +kernel
end Go.Proofs.YtgffbgmieppckaaGreatDoor
