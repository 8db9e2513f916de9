/-
  Package chart: the plain; its small parts; what it makes, in memory; a state that is taken.
-/
import Derived.Test.YtnnmjmjbfeoggaaGreatDoorRdr9
import Derived.Test.YtnnmjmjbfeoggaaGreatDoorIdx
import Derived.Test.YtnnmjmjbfeoggaaGreatDoorSh5
import Derived.Test.YtnnmjmjbfeoggaaGreatDoorSmall
import Derived.BigQuiet
import Derived.Deep.AppendLies
import Derived.Deep.RegionHeld3
import Derived.Deep.RegionLaw
namespace Go.Proofs.YtnnmjmjbfeoggaaGreatDoor
set_option maxRecDepth 100000

/-! ### what a rule that was read has -/
theorem nameR_ok {T : List Tx} {s : Nat × Bool} (h : (nameR T s).2.2 = false) : nameL (nameR T s).1 = true := by
  unfold nameR at h ⊢
  split
  · assumption
  · rename_i hc; rw [if_neg hc] at h; cases h
theorem optR_ok {T : List Tx} {x : Tx} {s : Nat × Bool} (h : (optR T x s).2.2 = false) : (optR T x s).1 = [] ∨ nameL (optR T x s).1 = true := by
  unfold optR at h ⊢
  split
  · rename_i hc; rw [if_pos hc] at h; exact .inr (nameR_ok h)
  · exact .inl rfl
theorem posR_up (x : Tx) : ∀ (l : List Tx) (i : Nat), posR l x i = 0 ∨ ((i : Int) < posR l x i ∧ posR l x i ≤ (i : Int) + l.length)
  | [], i => .inl rfl
  | a :: r, i => by
    have ih := posR_up x r (i + 1)
    simp only [posR, List.length_cons]
    split
    · right; omega
    · rcases ih with h | h
      · exact .inl h
      · right; omega
/-- the fields of a rule of a chart -/
structure RuF (r : Ru) : Prop where
  kd : 1 ≤ r.kind ∧ r.kind ≤ 11
  st : r.kind = 8 → nameL r.name = true ∧ 1 ≤ r.n ∧ r.n ≤ 4
  on : r.kind = 9 → nameL r.name = true ∧ (r.by_ = [] ∨ nameL r.by_ = true) ∧ (r.task = [] ∨ nameL r.task = true) ∧ r.n = 0
  au : r.kind = 10 → r.name = [] ∧ r.by_ = [] ∧ r.task = [] ∧ r.n = 0
  af : r.kind = 11 → r.name = [] ∧ r.by_ = [] ∧ r.task = [] ∧ 1 ≤ r.n ∧ r.n ≤ 1073741824
theorem parse_fields {L : Tx} {r : Ru} (h : parseL L = .ok r) : RuF r := by
  unfold parseL at h
  split at h
  · cases h
  split at h
  · cases h
  rename_i _ hw
  have h0 : 0 < (wordsL L).length := List.length_pos_iff.2 hw
  obtain ⟨a1, a2⟩ := parseW_at (fun x hx => (words_bounds L x hx).1) h0
  have hA : AccR (tx (wordsL L)) := by
    by_cases hA : AccR (tx (wordsL L))
    · exact hA
    · obtain ⟨c, k, e⟩ := a2 hA
      rw [e] at h; cases h
  rw [a1 hA] at h
  injection h with h
  generalize tx (wordsL L) = T at *
  have hm := hA.2.1
  have hk := hA.1
  have hok := hA.2.2
  rcases kd_at T with ⟨_, h2⟩ | ⟨h2, h3, _, h4⟩
  · have := (read_at T).1; rw [hm, h2] at this; cases this
  have hrd : readR T = bodyR T (kdR T) (1, false) := by unfold readR; rw [if_neg (by omega)]
  rw [hrd] at h hm hk hok
  obtain ⟨hkd, _⟩ := list_at h4 (kdR T) hm hk
  generalize kdR T = kd at *
  subst h
  have hwr : wrongK (bodyR T kd (1, false)).1.kind (bodyR T kd (1, false)).1.n (bodyR T kd (1, false)).1.m (bodyR T kd (1, false)).1.list.length = 0 := by
    unfold okB at hok
    rw [Bool.and_eq_true] at hok
    exact of_decide_eq_true hok.1
  rw [hkd] at hwr
  refine ⟨by omega, ?_, ?_, ?_, ?_⟩
  · rw [hkd]; intro e; subst e
    have hm8 : (optR T [105, 110] (skR T (nameR T (1, false)).2)).2.2 = false := hm
    have hs := optR_m hm8
    have hn : (bodyR T 8 (1, false)).1.n = posR stateR (nx T (nameR T (1, false)).2.1 (nameR T (1, false)).2.2) 0 := rfl
    refine ⟨nameR_ok (skR_m hs), ?_⟩
    rw [hn]
    unfold skR at hs
    split at hs
    · cases hs
    · rename_i hp
      rcases posR_up (nx T (nameR T (1, false)).2.1 (nameR T (1, false)).2.2) stateR 0 with h9 | h9
      · exact absurd h9 hp
      · rw [show stateR.length = 4 from rfl] at h9; omega
  · rw [hkd]; intro e; subst e
    have hm9 : (optR T [116, 97, 115, 107] (optR T [98, 121] (fromToR T (nameR T (1, false)).2).2.2).2).2.2 = false := hm
    have h1 := optR_m hm9
    have h2 := optR_m h1
    have h3 := fromToR_m h2
    exact ⟨nameR_ok h3, optR_ok h1, optR_ok hm9, rfl⟩
  · rw [hkd]; intro e; subst e; exact ⟨rfl, rfl, rfl, rfl⟩
  · rw [hkd]; intro e; subst e
    refine ⟨rfl, rfl, rfl, ?_⟩
    unfold wrongK at hwr
    simp only [reduceIte, Int.reduceEq, or_self] at hwr
    split at hwr
    · cases hwr
    · omega

/-! ### the chart -/
structure Tr where
  kind : Int
  from_ : Int
  to_ : Int
  event : Tx
  perm : Tx
  task : Tx
  time : Int
deriving DecidableEq
structure Ch where
  names : List Tx := []
  kinds : List Int := []
  parents : List Int := []
  trans : List Tr := []
def stayB (k : Int) : Bool := k == 1 || k == 2
/-- may a state of a kind stand in another one (-1: in none)? -/
def standB (ks : List Int) (kind p : Int) : Bool := if stayB kind then p == -1 || stayB (ks.getD p.toNat 0) else p != -1 && ks.getD p.toNat 0 == 1
def stErr (c : Ch) (r : Ru) : Int :=
  if r.name ∈ c.names then 4 else if 24 ≤ c.names.length then 5 else if r.in_ ≠ [] ∧ idxI c.names r.in_ = -1 then 3
  else if standB c.kinds r.n (idxI c.names r.in_) = false then 1 else 0
def stAdd (c : Ch) (r : Ru) : Ch := { c with names := c.names ++ [r.name], kinds := c.kinds ++ [r.n], parents := c.parents ++ [idxI c.names r.in_] }
def nmS (sts : List (Ru × Nat)) : List Tx := sts.map (·.1.name)
def frS (sts : List (Ru × Nat)) (r : Ru) : Int := idxI (nmS sts) r.from_
def toS (sts : List (Ru × Nat)) (r : Ru) : Int := idxI (nmS sts) r.to_
def knS (sts : List (Ru × Nat)) (k : Int) : Int := (sts.map (·.1.n)).getD k.toNat 0
def trErr (sts : List (Ru × Nat)) (c : Ch) (r : Ru) : Int :=
  if 48 ≤ c.trans.length then 5 else if frS sts r = -1 ∨ toS sts r = -1 then 3 else if stayB (knS sts (frS sts r)) = false then 1 else 0
def trOf (sts : List (Ru × Nat)) (r : Ru) : Tr := ⟨r.kind, frS sts r, toS sts r, r.name, r.by_, r.task, r.n⟩
def trAdd (sts : List (Ru × Nat)) (c : Ch) (r : Ru) : Ch := { c with trans := c.trans ++ [trOf sts r] }
def isTr (r : Ru) : Prop := r.kind = 9 ∨ r.kind = 10 ∨ r.kind = 11
instance (r : Ru) : Decidable (isTr r) := inferInstanceAs (Decidable (_ ∨ _))
/-- a rule taken: an error's number (0: none), the chart -/
def takeE (sts : List (Ru × Nat)) (c : Ch) (r : Ru) : Int := if r.kind = 8 then stErr c r else if isTr r then trErr sts c r else 0
def takeC (sts : List (Ru × Nat)) (c : Ch) (r : Ru) : Ch := if r.kind = 8 then stAdd c r else if isTr r then trAdd sts c r else c
inductive ChR where
  | arg
  | bad (line : Nat) (code : Int)
  | none
  | ok (c : Ch)
def takeL (sts : List (Ru × Nat)) : List (Ru × Nat) → Ch → ChR
  | [], c => if valB c.kinds c.parents = true then .ok c else .none
  | x :: l, c => if takeE sts c x.1 = 0 then takeL sts l (takeC sts c x.1) else .bad x.2 (takeE sts c x.1)
def stsOf (l : List (Ru × Nat)) : List (Ru × Nat) := l.filter fun x => decide (x.1.kind ∈ [(8 : Int)])
/-- rules that all have a line, as a chart -/
def compL (l : List (Ru × Nat)) : ChR := takeL (stsOf l) l {}
end Go.Proofs.YtnnmjmjbfeoggaaGreatDoor
namespace Go.Proofs.YtnnmjmjbfeoggaaGreatDoor
set_option maxRecDepth 100000

def trsOf (l : List (Ru × Nat)) : List (Ru × Nat) := l.filter fun x => decide (isTr x.1)
/-- lists of one length, not too many of them -/
structure ChF (c : Ch) : Prop where
  kl : c.kinds.length = c.names.length
  pl : c.parents.length = c.names.length
  nl : c.names.length ≤ 24
  tl : c.trans.length ≤ 48
theorem chF_nil : ChF {} := ⟨rfl, rfl, by decide, by decide⟩
theorem idxI_lt (l : List Tx) (x : Tx) : -1 ≤ idxI l x ∧ idxI l x < l.length := by
  unfold idxI
  split
  · rename_i h; have := List.idxOf_lt_length_of_mem h; omega
  · omega
theorem idxI_mem {l : List Tx} {x : Tx} (h : idxI l x ≠ -1) : x ∈ l ∧ l[(idxI l x).toNat]? = some x := by
  unfold idxI at h ⊢
  split
  · rename_i hm
    refine ⟨hm, ?_⟩
    have hl := List.idxOf_lt_length_of_mem hm
    rw [Int.toNat_natCast, List.getElem?_eq_getElem hl, List.getElem_idxOf]
  · rename_i hm; rw [if_neg hm] at h; exact absurd rfl h
theorem st_ok {c : Ch} {r : Ru} (h : stErr c r = 0) : r.name ∉ c.names ∧ c.names.length < 24 ∧ (r.in_ = [] ∨ idxI c.names r.in_ ≠ -1) ∧ standB c.kinds r.n (idxI c.names r.in_) = true := by
  unfold stErr at h
  split at h
  · cases h
  rename_i h1
  split at h
  · cases h
  rename_i h2
  split at h
  · cases h
  rename_i h3
  split at h
  · cases h
  rename_i h4
  refine ⟨h1, by omega, ?_, by simpa using h4⟩
  by_cases e : r.in_ = []
  · exact .inl e
  · exact .inr fun h9 => h3 ⟨e, h9⟩
theorem tr_ok {sts : List (Ru × Nat)} {c : Ch} {r : Ru} (h : trErr sts c r = 0) : c.trans.length < 48 ∧ frS sts r ≠ -1 ∧ toS sts r ≠ -1 ∧ stayB (knS sts (frS sts r)) = true := by
  unfold trErr at h
  split at h
  · cases h
  rename_i h1
  split at h
  · cases h
  rename_i h2
  split at h
  · cases h
  rename_i h3
  exact ⟨by omega, fun e => h2 (.inl e), fun e => h2 (.inr e), by simpa using h3⟩
theorem take_f {sts : List (Ru × Nat)} {c : Ch} {r : Ru} (hf : ChF c) (h : takeE sts c r = 0) : ChF (takeC sts c r) := by
  unfold takeE at h
  unfold takeC
  split at h
  · rename_i h8
    rw [if_pos h8]
    obtain ⟨_, h2, _⟩ := st_ok h
    have := hf.kl; have := hf.pl; have := hf.tl
    exact ⟨by simp [stAdd]; omega, by simp [stAdd]; omega, by simp [stAdd]; omega, by simpa [stAdd]⟩
  · rename_i h8
    rw [if_neg h8]
    split at h
    · rename_i ht
      rw [if_pos ht]
      obtain ⟨h1, _⟩ := tr_ok h
      exact ⟨hf.kl, hf.pl, hf.nl, by simp [trAdd]; omega⟩
    · rename_i ht; rw [if_neg ht]; exact hf
/-- a state that was taken at its place -/
structure StAt8 (c : Ch) (j : Nat) (r : Ru) : Prop where
  nm : c.names[j]? = some r.name
  kn : c.kinds[j]? = some r.n
  pa : c.parents[j]? = some (idxI (c.names.take j) r.in_)
  nw : r.name ∉ c.names.take j
  ni : r.in_ = [] ∨ idxI (c.names.take j) r.in_ ≠ -1
theorem sts_cons (x : Ru × Nat) (l : List (Ru × Nat)) : stsOf (x :: l) = if x.1.kind = 8 then x :: stsOf l else stsOf l := by
  unfold stsOf
  rw [List.filter_cons]
  by_cases h : x.1.kind = 8
  · rw [if_pos (by simp [h]), if_pos h]
  · rw [if_neg (by simp [h]), if_neg h]
theorem trs_cons (x : Ru × Nat) (l : List (Ru × Nat)) : trsOf (x :: l) = if isTr x.1 then x :: trsOf l else trsOf l := by
  unfold trsOf
  rw [List.filter_cons]
  by_cases h : isTr x.1
  · rw [if_pos (by simp [h]), if_pos h]
  · rw [if_neg (by simp [h]), if_neg h]
/-- what is taken of rules that make a chart -/
structure TkO (sts : List (Ru × Nat)) (l : List (Ru × Nat)) (c c' : Ch) : Prop where
  nm : c'.names = c.names ++ nmS (stsOf l)
  kn : c'.kinds = c.kinds ++ (stsOf l).map (·.1.n)
  tr : c'.trans = c.trans ++ (trsOf l).map fun x => trOf sts x.1
  pl : c'.parents.length = c'.names.length ∧ c'.parents.take c.names.length = c.parents
  st : ∀ j (h : j < (stsOf l).length), StAt8 c' (c.names.length + j) (stsOf l)[j].1
  tk : ∀ x ∈ trsOf l, frS sts x.1 ≠ -1 ∧ toS sts x.1 ≠ -1 ∧ stayB (knS sts (frS sts x.1)) = true
  nl : c'.names.length ≤ 24
  tl : c'.trans.length ≤ 48
  va : valB c'.kinds c'.parents = true
theorem nmS_app (a b : List (Ru × Nat)) : nmS (a ++ b) = nmS a ++ nmS b := by simp [nmS]
theorem take_ok (sts : List (Ru × Nat)) : ∀ (l : List (Ru × Nat)) (c c' : Ch), ChF c → takeL sts l c = .ok c' → TkO sts l c c'
  | [], c, c', hf, h => by
    rw [takeL] at h
    split at h
    · rename_i hv
      injection h with h
      subst h
      refine ⟨by simp [stsOf, nmS], by simp [stsOf], by simp [trsOf], ⟨hf.pl, by rw [← hf.pl, List.take_length]⟩, fun j h => by simp [stsOf] at h, fun x hx => by simp [trsOf] at hx, hf.nl, hf.tl, hv⟩
    · cases h
  | x :: l, c, c', hf, h => by
    rw [takeL] at h
    split at h
    rotate_left
    · cases h
    rename_i he
    have hf2 := take_f hf he
    have ih := take_ok sts l _ c' hf2 h
    by_cases h8 : x.1.kind = 8
    · have hts : ¬ isTr x.1 := by unfold isTr; omega
      have e1 : takeC sts c x.1 = stAdd c x.1 := by unfold takeC; rw [if_pos h8]
      have e2 : takeE sts c x.1 = stErr c x.1 := by unfold takeE; rw [if_pos h8]
      rw [e1] at ih hf2
      rw [e2] at he
      obtain ⟨k1, k2, k3, k4⟩ := st_ok he
      have hs : stsOf (x :: l) = x :: stsOf l := by rw [sts_cons, if_pos h8]
      have ht : trsOf (x :: l) = trsOf l := by rw [trs_cons, if_neg hts]
      have hnm := ih.nm
      have hpl := ih.pl
      have htk : c'.names.take c.names.length = c.names := by rw [hnm]; simp [stAdd]
      refine ⟨by rw [hnm, hs]; simp [stAdd, nmS], by rw [ih.kn, hs]; simp [stAdd], by rw [ih.tr, ht]; rfl, ⟨hpl.1, ?_⟩, ?_, by rw [ht]; exact ih.tk, ih.nl, ih.tl, ih.va⟩
      · have h9 := congrArg (List.take c.names.length) hpl.2
        rw [List.take_take] at h9
        simp only [stAdd, List.length_append, List.length_cons, List.length_nil] at h9
        rw [show min c.names.length (c.names.length + (0 + 1)) = c.names.length by omega] at h9
        rw [h9, List.take_append_of_le_length (by rw [hf.pl]; exact Nat.le_refl _), ← hf.pl, List.take_length]
      · intro j hj
        cases j with
        | zero =>
          simp only [hs, Nat.add_zero, List.getElem_cons_zero]
          refine ⟨by rw [hnm]; simp [stAdd], by rw [ih.kn]; simp [stAdd, hf.kl.symm], ?_, by rw [htk]; exact k1, by rw [htk]; exact k3⟩
          have h9 : (c'.parents.take (stAdd c x.1).names.length)[c.names.length]? = some (idxI c.names x.1.in_) := by rw [hpl.2]; simp [stAdd, hf.pl.symm]
          rw [List.getElem?_take_of_lt (by simp [stAdd])] at h9
          rw [htk]; exact h9
        | succ j =>
          have hj2 : j < (stsOf l).length := by rw [hs] at hj; simpa using hj
          have := ih.st j hj2
          simp only [hs, List.getElem_cons_succ]
          rw [show c.names.length + (j + 1) = (stAdd c x.1).names.length + j by simp [stAdd]; omega]
          exact this
    · have e2 : stsOf (x :: l) = stsOf l := by rw [sts_cons, if_neg h8]
      by_cases ht : isTr x.1
      · have e1 : takeC sts c x.1 = trAdd sts c x.1 := by unfold takeC; rw [if_neg h8, if_pos ht]
        have e3 : takeE sts c x.1 = trErr sts c x.1 := by unfold takeE; rw [if_neg h8, if_pos ht]
        rw [e1] at ih
        rw [e3] at he
        have e4 : trsOf (x :: l) = x :: trsOf l := by rw [trs_cons, if_pos ht]
        have k := tr_ok he
        refine ⟨by rw [ih.nm, e2]; rfl, by rw [ih.kn, e2]; rfl, by rw [ih.tr, e4]; simp [trAdd], ih.pl, by rw [e2]; exact ih.st, ?_, ih.nl, ih.tl, ih.va⟩
        intro y hy
        rw [e4] at hy
        rcases List.mem_cons.1 hy with rfl | hy
        · exact ⟨k.2.1, k.2.2.1, k.2.2.2⟩
        · exact ih.tk y hy
      · have e1 : takeC sts c x.1 = c := by unfold takeC; rw [if_neg h8, if_neg ht]
        rw [e1] at ih
        have e4 : trsOf (x :: l) = trsOf l := by rw [trs_cons, if_neg ht]
        exact ⟨by rw [ih.nm, e2], by rw [ih.kn, e2], by rw [ih.tr, e4], ih.pl, by rw [e2]; exact ih.st, by rw [e4]; exact ih.tk, ih.nl, ih.tl, ih.va⟩
theorem comp_ok {l : List (Ru × Nat)} {c : Ch} (h : compL l = .ok c) : TkO (stsOf l) l {} c := take_ok _ l {} c chF_nil h

/-! ### a chart that is valid -/
def silB (t : Tr) : Bool := t.event == [] && t.perm == [] && t.task == []
def optN (x : Tx) : Bool := x == [] || nameL x
def lablB (t : Tr) : Bool :=
  if t.kind = 9 then nameL t.event && optN t.perm && optN t.task && t.time == 0
  else if t.kind = 10 then silB t && t.time == 0
  else if t.kind = 11 then silB t && decide (1 ≤ t.time) && decide (t.time ≤ 1073741824) else false
def thereB (ks : List Int) (k : Int) : Bool := decide (0 ≤ k) && decide (k < ks.length)
def leadsB (ks : List Int) (t : Tr) : Bool := thereB ks t.from_ && thereB ks t.to_ && stayB (ks.getD t.from_.toNat 0)
def namedB (c : Ch) : Bool := c.names.length == c.kinds.length && (List.range c.names.length).all fun i => nameL (c.names.getD i []) && !(c.names.take i).any (· == c.names.getD i [])
def validB (c : Ch) : Bool := valB c.kinds c.parents && namedB c && decide (c.trans.length ≤ 48) && c.trans.all fun t => leadsB c.kinds t && lablB t
theorem comp_valid {l : List (Ru × Nat)} {c : Ch} (h : compL l = .ok c) (hl : ∀ x ∈ l, RuF x.1) : validB c = true := by
  have o := comp_ok h
  have hnm : c.names = nmS (stsOf l) := by rw [o.nm]; rfl
  have hkn : c.kinds = (stsOf l).map (·.1.n) := by rw [o.kn]; rfl
  have hsl : c.names.length = (stsOf l).length := by rw [hnm]; simp [nmS]
  unfold validB
  rw [o.va, Bool.true_and, Bool.and_eq_true, Bool.and_eq_true, decide_eq_true_eq, List.all_eq_true]
  refine ⟨⟨?_, o.tl⟩, ?_⟩
  · unfold namedB
    rw [Bool.and_eq_true, beq_iff_eq, List.all_eq_true]
    refine ⟨by rw [hnm, hkn]; simp [nmS], fun i hi => ?_⟩
    have hi := List.mem_range.1 hi
    have hj : i < (stsOf l).length := by omega
    have s := o.st i hj
    simp only [show ({} : Ch).names.length = 0 from rfl, Nat.zero_add] at s
    have hg : c.names.getD i [] = (stsOf l)[i].1.name := by rw [List.getD_eq_getElem?_getD, s.nm]; rfl
    have hm : (stsOf l)[i] ∈ l ∧ (stsOf l)[i].1.kind = 8 := by
      have := List.mem_filter.1 (List.getElem_mem hj : (stsOf l)[i] ∈ stsOf l)
      exact ⟨this.1, by simpa using this.2⟩
    rw [hg, Bool.and_eq_true, Bool.not_eq_true', List.any_eq_false]
    exact ⟨((hl _ hm.1).st hm.2).1, fun x hx e => s.nw (by rw [beq_iff_eq] at e; rw [← e]; exact hx)⟩
  · intro t ht
    rw [o.tr] at ht
    obtain ⟨x, hx, rfl⟩ : ∃ x ∈ trsOf l, trOf (stsOf l) x.1 = t := by simpa using ht
    have k := o.tk x hx
    have hm := List.mem_filter.1 hx
    have hF := hl x hm.1
    have hT : isTr x.1 := of_decide_eq_true hm.2
    have hnl : (nmS (stsOf l)).length = c.kinds.length := by rw [hkn]; simp [nmS]
    have i1 := idxI_lt (nmS (stsOf l)) x.1.from_
    have i2 := idxI_lt (nmS (stsOf l)) x.1.to_
    rw [Bool.and_eq_true]
    constructor
    · have k1 := k.1
      have k2 := k.2.1
      have k3 := k.2.2
      unfold knS at k3
      rw [← hkn] at k3
      have j1 : 0 ≤ frS (stsOf l) x.1 ∧ frS (stsOf l) x.1 < c.kinds.length := by unfold frS at *; omega
      have j2 : 0 ≤ toS (stsOf l) x.1 ∧ toS (stsOf l) x.1 < c.kinds.length := by unfold toS at *; omega
      show leadsB c.kinds ⟨x.1.kind, frS (stsOf l) x.1, toS (stsOf l) x.1, x.1.name, x.1.by_, x.1.task, x.1.n⟩ = true
      unfold leadsB thereB
      simp only [Bool.and_eq_true, decide_eq_true_eq]
      exact ⟨⟨j1, j2⟩, k3⟩
    · unfold lablB
      rcases hT with e | e | e
      · obtain ⟨a, b, d, f⟩ := hF.on e
        rw [if_pos (by exact e)]
        have hb : optN x.1.by_ = true := by unfold optN; rcases b with b | b <;> simp [b]
        have hd : optN x.1.task = true := by unfold optN; rcases d with b | b <;> simp [b]
        simp only [trOf, a, hb, hd, f]; rfl
      · obtain ⟨a, b, d, f⟩ := hF.au e
        rw [if_neg (by show ¬ x.1.kind = 9; omega), if_pos (by exact e)]
        unfold silB
        simp only [trOf, a, b, d, f]; rfl
      · obtain ⟨a, b, d, f⟩ := hF.af e
        rw [if_neg (by show ¬ x.1.kind = 9; omega), if_neg (by show ¬ x.1.kind = 10; omega), if_pos (by exact e)]
        unfold silB
        simp only [trOf, a, b, d, Bool.and_eq_true, decide_eq_true_eq]
        exact ⟨⟨by decide, f.1⟩, f.2⟩
end Go.Proofs.YtnnmjmjbfeoggaaGreatDoor
namespace Go.Proofs.YtnnmjmjbfeoggaaGreatDoor
set_option maxRecDepth 100000
open Go.ChangeShapes Go.WideShapes Go.ChangeAt Go.RowKit

theorem stays_any (k : Int) (w : World) : Calls Tryz.prog 120 #[.int .i64 k] w fun e w' => e = .returned (.bool (stayB k)) ∧ w = w' := by
  by_cases h1 : k = 1
  · subst h1
    go_enter Tryz.func120, Tryz.ntmps120
    go_wp2
    go_ret
    exact ⟨rfl, rfl⟩
  · have g1 : (k == 1) = false := beq_eq_false_iff_ne.2 h1
    have HE : Hid (stayB k = (k == 2)) := by show _ = _; unfold stayB; rw [g1]; rfl
    clear h1
    go_enter Tryz.func120, Tryz.ntmps120
    go_wp2
    go_ret
    exact ⟨ret_bool HE.out.symm, rfl⟩
set_option maxHeartbeats 1000000 in
theorem mayStand_any (ks : List Int) (A B : Option Addr) (n c m d : Nat) (kind p : Int) (w : World) (h : IntsAt w (.slice A n c) ks) (hn : n = ks.length) (hn2 : n ≤ 24) (hp : -1 ≤ p ∧ p < n) :
    Calls Tryz.prog 154 #[.agg #[.slice A n c, .slice B m d], .int .i64 kind, .int .i64 p] w fun e w' => e = .returned (.bool (standB ks kind p)) ∧ Below w.heap.size w w' := by
  have x0 := box_0 w 47 (.slice A n c) (.slice B m d)
  have hz := box_b w (.cells #[.slice A n c, .slice B m d] 47)
  have hi := h.below hz
  have HZ := Lib.hid hz
  have ST := Lib.hid (fun k W => stays_any k W)
  have HD : Hid (standB ks kind p = if stayB kind then p == -1 || stayB (ks.getD p.toNat 0) else p != -1 && ks.getD p.toNat 0 == 1) := rfl
  clear h hz
  by_cases hp1 : p = -1
  · subst hp1
    cases hk : stayB kind
    · have HE : Hid (standB ks kind (-1) = false) := by show _ = _; rw [HD.out, hk]; rfl
      have SK := Lib.hid (fun W => stays_any kind W)
      rw [hk] at SK
      clear hk HD hi ST hn hp
      go_enter Tryz.func154, Tryz.ntmps154
      go_wp2_with (go_at_call 120; refine (SK.out _).mono ?_; rintro e w2 ⟨rfl, rfl⟩)
      go_ret
      exact ⟨ret_bool HE.out.symm, HZ.out⟩
    · have HE : Hid (standB ks kind (-1) = true) := by show _ = _; rw [HD.out, hk]; rfl
      have SK := Lib.hid (fun W => stays_any kind W)
      rw [hk] at SK
      clear hk HD hi ST hn hp
      go_enter Tryz.func154, Tryz.ntmps154
      go_wp2_with (go_at_call 120; refine (SK.out _).mono ?_; rintro e w2 ⟨rfl, rfl⟩)
      go_ret
      exact ⟨ret_bool HE.out.symm, HZ.out⟩
  · obtain ⟨q, rfl⟩ : ∃ q : Nat, p = q := ⟨p.toNat, by omega⟩
    have hq : q < ks.length := by omega
    have hqn : (q : Int) < n := by omega
    obtain ⟨b, off, rfl, hb, hx, _⟩ := ints_cell hi (k := q) hq
    rw [Int.toNat_natCast] at HD
    generalize ks.getD q 0 = x at *
    have g1 : ((q : Int) == -1) = false := beq_eq_false_iff_ne.2 hp1
    have g2 : ((q : Int) != -1) = true := by simp [bne, g1]
    have hq0 : (0 : Int) ≤ q := by omega
    clear hn
    cases hk : stayB kind
    · have HE : Hid (standB ks kind q = (x == 1)) := by show _ = _; rw [HD.out, hk, g2]; rfl
      have SK := Lib.hid (fun W => stays_any kind W)
      rw [hk] at SK
      clear hk HD hi ST hp hq
      go_enter Tryz.func154, Tryz.ntmps154
      go_wp2_with (go_at_call 120; refine (SK.out _).mono ?_; rintro e w2 ⟨rfl, rfl⟩)
      go_ret
      exact ⟨ret_bool HE.out.symm, HZ.out⟩
    · have HE : Hid (standB ks kind q = stayB x) := by show _ = _; rw [HD.out, hk, g1]; rfl
      have SK := Lib.hid (fun W => stays_any kind W)
      rw [hk] at SK
      have SX := Lib.hid (fun W => stays_any x W)
      clear hk HD hi ST hp hq
      go_enter Tryz.func154, Tryz.ntmps154
      go_wp2_with (first
        | (go_at_call_of 120 (Value.int .i64 kind); refine (SK.out _).mono ?_; rintro e w2 ⟨rfl, rfl⟩)
        | (go_at_call 120; refine (SX.out _).mono ?_; rintro e w2 ⟨rfl, rfl⟩))
      go_ret
      exact ⟨ret_bool HE.out.symm, HZ.out⟩

/-! ### the place of a state's rule -/
abbrev rl11 (x : RL) : Value := .agg #[.int .i64 x.1.kind, .string (bs x.1.name), x.2.2, .int .i64 x.1.n, .int .i64 x.1.m, .string (bs x.1.from_), .string (bs x.1.to_), .string (bs x.1.by_), .string (bs x.1.task), .string (bs x.1.in_), .int .i64 x.2.1]
theorem cloF_any (kd : Int) (nm : Tx) (L : Value) (rn rm : Int) (rf rt rb ra ri : Tx) (ln : Int) (y : Tx) (b : Nat) (w : World) (hb : b < w.heap.size) (hc : w.cell? ⟨b, 0, none⟩ = some (.string (bs y))) (hL : ∃ A n c, L = .slice A n c) :
    Calls Tryz.prog 180 #[.agg #[.int .i64 kd, .string (bs nm), L, .int .i64 rn, .int .i64 rm, .string (bs rf), .string (bs rt), .string (bs rb), .string (bs ra), .string (bs ri), .int .i64 ln], .pointer (some ⟨b, 0, none⟩)] w fun e w' => e = .returned (.bool (nm == y)) ∧ Below w.heap.size w w' := by
  obtain ⟨A, n, c, rfl⟩ := hL
  have HE := Lib.hid (beq_tx nm y)
  have R := heap_alloc_new w (.cells #[.int .i64 kd, .string (bs nm), .slice A n c, .int .i64 rn, .int .i64 rm, .string (bs rf), .string (bs rt), .string (bs rb), .string (bs ra), .string (bs ri), .int .i64 ln] 28)
  have x0 : (w.alloc (.cells #[.int .i64 kd, .string (bs nm), .slice A n c, .int .i64 rn, .int .i64 rm, .string (bs rf), .string (bs rt), .string (bs rb), .string (bs ra), .string (bs ri), .int .i64 ln] 28)).cell? ⟨b, 0, none⟩ = some (.string (bs y)) := (World.cell?_alloc_lt _ _ _ hb).trans hc
  have x1 := row_q1 R
  have HZ := Lib.hid (box_b w (.cells #[.int .i64 kd, .string (bs nm), .slice A n c, .int .i64 rn, .int .i64 rm, .string (bs rf), .string (bs rt), .string (bs rb), .string (bs ra), .string (bs ri), .int .i64 ln] 28))
  clear R hc
  go_enter Tryz.func180, Tryz.ntmps180
  go_wp2
  go_ret
  exact ⟨ret_bool HE.out, HZ.out⟩
def nmR (acc : List RL) : List Tx := acc.map (·.1.name)
theorem nmR_er (acc : List RL) : nmR acc = nmS (acc.map er) := by simp [nmR, nmS, er]
/-- rules in a block's cells, whatever their lists -/
def RI2 (w : World) (A : Option Addr) (acc : List RL) : Prop := ∀ j (h : j < acc.length), ∃ g, A = some ⟨g, 0, none⟩ ∧ g < w.heap.size ∧ (∀ f u, f < 11 → (rcell acc[j])[f]? = some u → w.cell? ⟨g, j * 11 + f, none⟩ = some u) ∧ ∃ B n c, acc[j].2.2 = .slice B n c
theorem RI2.below {w w' : World} {A : Option Addr} {acc : List RL} (h : RI2 w A acc) (hb : Below w.heap.size w w') : RI2 w' A acc := fun j hj =>
  let ⟨g, e, hl, hc, q⟩ := h j hj
  ⟨g, e, Nat.lt_of_lt_of_le hl hb.size, fun f u hf hu => (hb.cell (p := ⟨g, j * 11 + f, none⟩) hl).trans (hc f u hf hu), q⟩
theorem rI2_of {w : World} {base cap : Nat} {A : Option Addr} {acc : List RL} (h : w.ownsRow base 28 11 (.slice A acc.length cap) acc.length (rcells acc)) (hs : ∀ x ∈ acc, ∃ B n c, x.2.2 = .slice B n c) : RI2 w A acc := fun j hj => by
  obtain ⟨g, cap', e, _, hl, _, hc⟩ := own_form h (by omega)
  have eA : A = some ⟨g, 0, none⟩ := by injection e
  exact ⟨g, eA, hl, fun f u hf hu => hc _ _ (by rw [rcells_at acc j f hj hf]; exact hu), hs _ (List.getElem_mem hj)⟩
set_option maxHeartbeats 2000000 in
theorem IdxRule_any (acc : List RL) (y : Tx) (A : Option Addr) (c b : Nat) (w : World) (hR : RI2 w A acc) (ha : acc.length ≤ 1000) (hac : acc.length ≤ c) (hb : b < w.heap.size) (hc : w.cell? ⟨b, 0, none⟩ = some (.string (bs y))) :
    Calls Tryz.prog 179 #[.slice A acc.length c, .func (.func 180) #[] #[.pointer (some ⟨b, 0, none⟩)]] w fun e w' => e = .returned (.int .i64 (idxI (nmR acc) y)) ∧ Below w.heap.size w w' := by
  have HR := Lib.hid hR
  have hnl : (nmR acc).length = acc.length := by simp [nmR]
  clear hR
  go_enter Tryz.func179, Tryz.ntmps179
  go_wp2
  go_loopw [5, 8] (fun _ i wr => ∃ k : Nat, k ≤ acc.length ∧ i = .int .i64 k ∧ Hid (Below w.heap.size w wr) ∧ Hid (y ∉ (nmR acc).take k)) (fun _ i _ => acc.length - (intOf i).toNat)
  case atStart => exact ⟨0, Nat.zero_le _, rfl, Below.refl _ _, by show ¬ _; simp⟩
  case round =>
    obtain ⟨k, hk, rfl, HB, HI⟩ := hrel
    by_cases hlt : k < acc.length
    · obtain ⟨g, rfl, hgl, hcs, B, n2, c2, e2⟩ := (HR.out.below HB.out) k hlt
      have hb2 : b < wr.heap.size := Nat.lt_of_lt_of_le hb HB.out.size
      have hc2 := (HB.out.cell (p := ⟨b, 0, none⟩) hb).trans hc
      have hgk : (nmR acc)[k]'(by omega) = acc[k].1.name := by simp [nmR]
      have HH : Hid (acc[k].1.name = y → idxI (nmR acc) y = k) := fun e => by
        have hm : y ∈ nmR acc := by rw [← e, ← hgk]; exact List.getElem_mem _
        unfold idxI
        rw [if_pos hm, idxOf_at (by omega) (by rw [hgk]; exact e.symm) HI.out]
      have HT : Hid (acc[k].1.name ≠ y → y ∉ (nmR acc).take (k + 1)) := fun e hm => by
        rw [List.take_succ_eq_append_getElem (by omega : k < (nmR acc).length), List.mem_append, List.mem_singleton, hgk] at hm
        rcases hm with h | h
        · exact HI.out h
        · exact e h.symm
      have q := fun f u hf hu => hcs f u hf hu
      clear hcs hgk HI
      generalize acc[k] = x at *
      obtain ⟨⟨kd, nm, l, rn, rm, rf, rt, rb, ra, ri⟩, ln, L⟩ := x
      obtain rfl : L = .slice B n2 c2 := e2
      have q0 := q 0 _ (by omega) rfl; have q1 := q 1 _ (by omega) rfl; have q2 := q 2 _ (by omega) rfl; have q3 := q 3 _ (by omega) rfl; have q4 := q 4 _ (by omega) rfl; have q5 := q 5 _ (by omega) rfl; have q6 := q 6 _ (by omega) rfl; have q7 := q 7 _ (by omega) rfl; have q8 := q 8 _ (by omega) rfl; have q9 := q 9 _ (by omega) rfl; have q10 := q 10 _ (by omega) rfl
      simp only [Nat.add_zero] at q0
      have CL := Lib.hid (cloF_any kd nm (.slice B n2 c2) rn rm rf rt rb ra ri ln y b wr hb2 hc2 ⟨_, _, _, rfl⟩)
      clear q hc2 hb2
      simp only at HH HT
      by_cases hq : nm = y
      · have HE := Lib.hid (HH.out hq)
        rw [beq_iff_eq.2 hq] at CL
        clear hq HH HT
        go_wp2_with (go_at_call 180; refine CL.out.mono ?_; rintro e w2 ⟨rfl, hb2⟩)
        go_ret
        exact ⟨ret_int HE.out.symm, below_then HB.out hb2 HB.out.size⟩
      · have HT2 := Lib.hid (HT.out hq)
        rw [beq_eq_false_iff_ne.2 hq] at CL
        clear hq HH HT
        go_wp2_with (go_at_call 180; refine CL.out.mono ?_; rintro e w2 ⟨rfl, hb2⟩)
        have HB2 := Lib.hid (below_then HB.out hb2 HB.out.size)
        go_roundw
        case rel => exact ⟨k + 1, by omega, by go_num, HB2, HT2⟩
        case measure => simp [intOf]; omega
    · have HE : Hid (idxI (nmR acc) y = -1) := by
        have := HI.out
        rw [List.take_of_length_le (by omega)] at this
        show _ = _
        unfold idxI; rw [if_neg this]
      clear HI
      go_wp2
      go_ret
      exact ⟨ret_int HE.out.symm, HB.out⟩
theorem find_any (acc : List RL) (y : Tx) (A : Option Addr) (c b : Nat) (w : World) (hR : RI2 w A acc) (ha : acc.length ≤ 1000) (hac : acc.length ≤ c) (hb : b < w.heap.size) (hc : w.cell? ⟨b, 4, none⟩ = some (.slice A acc.length c)) :
    Calls Tryz.prog 155 #[.pointer (some ⟨b, 0, none⟩), .string (bs y)] w fun e w' => e = .returned (.int .i64 (idxI (nmS (acc.map er)) y)) ∧ Below w.heap.size w w' := by
  have R := heap_alloc_new w (.cells #[.string (bs y)] 9)
  have hbz := box_b w (.cells #[.string (bs y)] 9)
  have IX := Lib.hid (IdxRule_any acc y A c w.heap.size (w.alloc (.cells #[.string (bs y)] 9)) (hR.below hbz) ha hac (by simp) (by rw [cell_of_row _ _ _ _ _ _ R]; rfl))
  rw [nmR_er] at IX
  have HB := Lib.hid hbz
  have x4 := (World.cell?_alloc_lt w (.cells #[.string (bs y)] 9) ⟨b, 4, none⟩ hb).trans hc
  have hmf : ∀ (fn : Fn) (first cap : Array Value) (w : World), (Instr.makeFunc fn first cap).run Tryz.prog w = .ok (.func fn first cap) w := fun _ _ _ _ => rfl
  clear hR R hbz hc
  go_enter Tryz.func155, Tryz.ntmps155
  go_wp2_with (go_at_call 179; refine IX.out.mono ?_; rintro e w2 ⟨rfl, hb2⟩)
  go_ret
  exact ⟨rfl, below_then HB.out hb2 HB.out.size⟩
end Go.Proofs.YtnnmjmjbfeoggaaGreatDoor
namespace Go.Proofs.YtnnmjmjbfeoggaaGreatDoor
set_option maxRecDepth 100000
open Go.ChangeShapes Go.WideShapes Go.ChangeAt Go.RowKit

def tcell (t : Tr) : List Value := [.int .i64 t.kind, .int .i64 t.from_, .int .i64 t.to_, .string (bs t.event), .string (bs t.perm), .string (bs t.task), .int .i64 t.time]
def tcells (l : List Tr) : List Value := l.flatMap tcell
theorem tcells_snoc (l : List Tr) (t : Tr) : tcells (l ++ [t]) = tcells l ++ tcell t := by simp [tcells]
def OwnT (w : World) (base : Nat) (v : Value) (l : List Tr) : Prop := w.ownsRow base 62 7 v l.length (tcells l)
theorem Tryz.infoTrans : (Tryz.prog.info? 62).map (fun i => (i.zero, i.size, i.bytes)) = some (some (.agg #[.int .i64 0, .int .i64 0, .int .i64 0, .string ⟨#[]⟩, .string ⟨#[]⟩, .string ⟨#[]⟩, .int .i64 0]), 7, 80) := by kernel_rfl
/-- a row does not lie where a block of another type lies -/
theorem own_row_ne {w : World} {base e s n b : Nat} {v : Value} {xs : List Value} {cs : Array Value} {t : TypeId} {fz : Nat × Nat} (h : w.ownsRow base e s v n xs) (r : w.heap[b]? = some (.cells cs t fz)) (hne : t ≠ e) : v.ownBlock ≠ some b := by
  rcases h.2 with ⟨hv, _⟩ | ⟨g, cap, cur, hv, _, hg, _⟩
  · rw [hv]; simp [Value.ownBlock]
  · rw [hv]
    intro e2
    have e3 : g = b := by simpa [Value.ownBlock] using e2
    subst e3
    rw [hg] at r
    simp only [Option.some.injEq, Obj.cells.injEq] at r
    exact hne r.2.1.symm
theorem rows_unlike {w : World} {b1 b2 e1 e2 s1 s2 n1 n2 : Nat} {v1 v2 : Value} {xs1 xs2 : List Value} (h : w.ownsRow b1 e1 s1 v1 n1 xs1) (h' : w.ownsRow b2 e2 s2 v2 n2 xs2) (hne : e1 ≠ e2) : v1.ownBlock = none ∨ v1.ownBlock ≠ v2.ownBlock := by
  rcases h'.2 with ⟨hv', _⟩ | ⟨g', cap', cur', hv', _, hg', _⟩
  · rcases h.2 with ⟨hv, _⟩ | ⟨g, cap, cur, hv, _, hg, _⟩
    · left; rw [hv]; rfl
    · right; rw [hv, hv']; simp [Value.ownBlock]
  · right
    rw [hv']
    exact own_row_ne h hg' (fun e => hne e.symm)
/-- the builder: what it has made, all of it in blocks of the call's own -/
structure BA (w0 W : World) (b : Nat) (acc : List RL) (c : Ch) (vN vK vP vT vS : Value) : Prop where
  row : W.heap[b]? = some (.cells #[vN, vK, vP, vT, vS] 122 (0, 0))
  lo : w0.heap.size ≤ b
  oN : OwnL W w0.heap.size vN c.names
  oK : OwnI W w0.heap.size vK c.kinds
  oP : OwnI W w0.heap.size vP c.parents
  ap : ∀ g, vK.ownBlock = some g → vP.ownBlock = some g → False
  oT : OwnT W w0.heap.size vT c.trans
  oS : W.ownsRow w0.heap.size 28 11 vS acc.length (rcells acc)
  ls : ∀ x ∈ acc, ∃ B n c, x.2.2 = .slice B n c
  be : Below w0.heap.size w0 W
section
variable {w0 W W1 : World} {b : Nat} {acc : List RL} {c : Ch} {vN vK vP vT vS : Value}
theorem BA.lt (R : BA w0 W b acc c vN vK vP vT vS) : b < W.heap.size := (Array.getElem?_eq_some_iff.1 R.row).1
theorem BA.below (R : BA w0 W b acc c vN vK vP vT vS) (hb : Below W.heap.size W W1) : BA w0 W1 b acc c vN vK vP vT vS where
  row := (hb.block _ R.lt).trans R.row
  lo := R.lo
  oN := own_below R.oN hb R.be.size
  oK := own_below R.oK hb R.be.size
  oP := own_below R.oP hb R.be.size
  ap := R.ap
  oT := own_below R.oT hb R.be.size
  oS := own_below R.oS hb R.be.size
  ls := R.ls
  be := below_then R.be hb R.be.size
theorem BA.q0 (R : BA w0 W b acc c vN vK vP vT vS) : W.cell? ⟨b, 0, none⟩ = some vN := by rw [cell_of_row _ _ _ _ _ _ R.row]; rfl
theorem BA.q1 (R : BA w0 W b acc c vN vK vP vT vS) : W.cell? ⟨b, 1, none⟩ = some vK := by rw [cell_of_row _ _ _ _ _ _ R.row]; rfl
theorem BA.q2 (R : BA w0 W b acc c vN vK vP vT vS) : W.cell? ⟨b, 2, none⟩ = some vP := by rw [cell_of_row _ _ _ _ _ _ R.row]; rfl
theorem BA.q3 (R : BA w0 W b acc c vN vK vP vT vS) : W.cell? ⟨b, 3, none⟩ = some vT := by rw [cell_of_row _ _ _ _ _ _ R.row]; rfl
theorem BA.q4 (R : BA w0 W b acc c vN vK vP vT vS) : W.cell? ⟨b, 4, none⟩ = some vS := by rw [cell_of_row _ _ _ _ _ _ R.row]; rfl
theorem keep2 {base e s n : Nat} {v : Value} {xs : List Value} {row : Option Nat} {cs : Array Value} {t : TypeId} {fz : Nat × Nat} (h : W.ownsRow base e s v n xs) (hg : W.grownBy W1 row) (hu : v.ownBlock = none ∨ v.ownBlock ≠ row) (r1 : W1.heap[b]? = some (.cells cs t fz)) (hne : t ≠ e) (j : Nat) (x : Value) :
    (W1.setCell ⟨b, j, none⟩ x).ownsRow base e s v n xs :=
  World.ownsRow.kept (World.ownsRow.kept h hg hu) (grown_setCell _ _ _ _) (.inr (own_row_ne (World.ownsRow.kept h hg hu) r1 hne))
theorem put2 {base e s n : Nat} {v : Value} {xs : List Value} {cs : Array Value} {t : TypeId} {fz : Nat × Nat} (h : W1.ownsRow base e s v n xs) (r1 : W1.heap[b]? = some (.cells cs t fz)) (hne : t ≠ e) (j : Nat) (x : Value) :
    (W1.setCell ⟨b, j, none⟩ x).ownsRow base e s v n xs := World.ownsRow.kept h (grown_setCell _ _ _ _) (.inr (own_row_ne h r1 hne))
theorem BA.row1 (R : BA w0 W b acc c vN vK vP vT vS) {row : Option Nat} (hg : W.grownBy W1 row) (hne : row ≠ some b) : W1.heap[b]? = some (.cells #[vN, vK, vP, vT, vS] 122 (0, 0)) :=
  (hg.block b R.lt (fun e => hne e.symm)).trans R.row
theorem BA.be1 (R : BA w0 W b acc c vN vK vP vT vS) {row : Option Nat} (hg : W.grownBy W1 row) (hlo : ∀ g, row = some g → w0.heap.size ≤ g) (j : Nat) (v : Value) : Below w0.heap.size w0 (W1.setCell ⟨b, j, none⟩ v) :=
  (R.be.grown hg R.be.size hlo).grown (grown_setCell _ _ _ _) (R.be.grown hg R.be.size hlo).size (fun g e => by cases e; exact R.lo)
theorem ap_cases {o1 o2 : Option Nat} (h : ∀ g, o1 = some g → o2 = some g → False) : o1 = none ∨ o1 ≠ o2 := by
  cases o1 with
  | none => exact .inl rfl
  | some g => exact .inr fun e => h g rfl e.symm
theorem BA.names (R : BA w0 W b acc c vN vK vP vT vS) {v' : Value} {x : Tx} (hg : W.grownBy W1 vN.ownBlock) (ho : OwnL W1 w0.heap.size v' (c.names ++ [x])) :
    BA w0 (W1.setCell ⟨b, 0, none⟩ v') b acc { c with names := c.names ++ [x] } v' vK vP vT vS := by
  have r1 := R.row1 hg (own_row_ne R.oN R.row (by decide))
  exact ⟨heap_set (j := 0) r1 v', R.lo, put2 ho r1 (by decide) _ _, keep2 R.oK hg (rows_unlike R.oK R.oN (by decide)) r1 (by decide) _ _, keep2 R.oP hg (rows_unlike R.oP R.oN (by decide)) r1 (by decide) _ _, R.ap,
    keep2 R.oT hg (rows_unlike R.oT R.oN (by decide)) r1 (by decide) _ _, keep2 R.oS hg (rows_unlike R.oS R.oN (by decide)) r1 (by decide) _ _, R.ls, R.be1 hg (fun g e => (World.ownsRow.lt R.oN g e).1) _ _⟩
theorem BA.kinds (R : BA w0 W b acc c vN vK vP vT vS) {v' : Value} {x : Int} (hg : W.grownBy W1 vK.ownBlock) (ho : OwnI W1 w0.heap.size v' (c.kinds ++ [x])) (hk : ∀ g, v'.ownBlock = some g → vK.ownBlock = some g ∨ W.heap.size ≤ g) :
    BA w0 (W1.setCell ⟨b, 1, none⟩ v') b acc { c with kinds := c.kinds ++ [x] } vN v' vP vT vS := by
  have r1 := R.row1 hg (own_row_ne R.oK R.row (by decide))
  refine ⟨heap_set (j := 1) r1 v', R.lo, keep2 R.oN hg (rows_unlike R.oN R.oK (by decide)) r1 (by decide) _ _, put2 ho r1 (by decide) _ _, keep2 R.oP hg (ap_cases fun g e1 e2 => R.ap g e2 e1) r1 (by decide) _ _, ?_,
    keep2 R.oT hg (rows_unlike R.oT R.oK (by decide)) r1 (by decide) _ _, keep2 R.oS hg (rows_unlike R.oS R.oK (by decide)) r1 (by decide) _ _, R.ls, R.be1 hg (fun g e => (World.ownsRow.lt R.oK g e).1) _ _⟩
  intro g e1 e2
  rcases hk g e1 with h | h
  · exact R.ap g h e2
  · have := (World.ownsRow.lt R.oP g e2).2; omega
theorem BA.parents (R : BA w0 W b acc c vN vK vP vT vS) {v' : Value} {x : Int} (hg : W.grownBy W1 vP.ownBlock) (ho : OwnI W1 w0.heap.size v' (c.parents ++ [x])) (hk : ∀ g, v'.ownBlock = some g → vP.ownBlock = some g ∨ W.heap.size ≤ g) :
    BA w0 (W1.setCell ⟨b, 2, none⟩ v') b acc { c with parents := c.parents ++ [x] } vN vK v' vT vS := by
  have r1 := R.row1 hg (own_row_ne R.oP R.row (by decide))
  refine ⟨heap_set (j := 2) r1 v', R.lo, keep2 R.oN hg (rows_unlike R.oN R.oP (by decide)) r1 (by decide) _ _, keep2 R.oK hg (ap_cases R.ap) r1 (by decide) _ _, put2 ho r1 (by decide) _ _, ?_,
    keep2 R.oT hg (rows_unlike R.oT R.oP (by decide)) r1 (by decide) _ _, keep2 R.oS hg (rows_unlike R.oS R.oP (by decide)) r1 (by decide) _ _, R.ls, R.be1 hg (fun g e => (World.ownsRow.lt R.oP g e).1) _ _⟩
  intro g e1 e2
  rcases hk g e2 with h | h
  · exact R.ap g e1 h
  · have := (World.ownsRow.lt R.oK g e1).2; omega
theorem BA.trans (R : BA w0 W b acc c vN vK vP vT vS) {v' : Value} {x : Tr} (hg : W.grownBy W1 vT.ownBlock) (ho : OwnT W1 w0.heap.size v' (c.trans ++ [x])) :
    BA w0 (W1.setCell ⟨b, 3, none⟩ v') b acc { c with trans := c.trans ++ [x] } vN vK vP v' vS := by
  have r1 := R.row1 hg (own_row_ne R.oT R.row (by decide))
  exact ⟨heap_set (j := 3) r1 v', R.lo, keep2 R.oN hg (rows_unlike R.oN R.oT (by decide)) r1 (by decide) _ _, keep2 R.oK hg (rows_unlike R.oK R.oT (by decide)) r1 (by decide) _ _, keep2 R.oP hg (rows_unlike R.oP R.oT (by decide)) r1 (by decide) _ _, R.ap,
    put2 ho r1 (by decide) _ _, keep2 R.oS hg (rows_unlike R.oS R.oT (by decide)) r1 (by decide) _ _, R.ls, R.be1 hg (fun g e => (World.ownsRow.lt R.oT g e).1) _ _⟩
end
end Go.Proofs.YtnnmjmjbfeoggaaGreatDoor
namespace Go.Proofs.YtnnmjmjbfeoggaaGreatDoor
set_option maxRecDepth 100000
open Go.ChangeShapes Go.WideShapes Go.ChangeAt Go.RowKit

theorem sc_one (x : Tx) : ∀ u ∈ scells [x], u.oneCell' = true := by intro u hu; simp [scells] at hu; subst hu; rfl
theorem grown_new {w X : World} {o : Obj} {row : Option Nat} (h : (w.alloc o).drew.grownBy X row) : w.grownBy X row := (World.grownBy_alloc w o row).andThen (⟨h.os, h.tape, h.output, h.size, h.block⟩ : (w.alloc o).grownBy X row) (fun j e => .inr e)
theorem ic_one (x : Int) : ∀ u ∈ icells [x], u.oneCell' = true := icells_one [x]
theorem ownL_snoc {X : World} {base : Nat} {v : Value} {l : List Tx} {x : Tx} (h : X.ownsRow base 9 1 v (l.length + 1) (scells l ++ scells [x])) : OwnL X base v (l ++ [x]) := by
  unfold OwnL
  rw [List.length_append]
  unfold scells at *
  rw [List.map_append]
  exact h
theorem ownI_snoc {X : World} {base : Nat} {v : Value} {l : List Int} {x : Int} (h : X.ownsRow base 3 1 v (l.length + 1) (icells l ++ icells [x])) : OwnI X base v (l ++ [x]) := by
  unfold OwnI
  rw [List.length_append]
  unfold icells at *
  rw [List.map_append]
  exact h
theorem lies_or {w : World} {o : Obj} {v : Value} {g1 n cp : Nat} (h : v.ownBlock = some g1 ∨ g1 = (w.alloc o).drew.heap.size) : ∀ g, (Value.slice (some ⟨g1, 0, none⟩) n cp).ownBlock = some g → v.ownBlock = some g ∨ w.heap.size ≤ g := fun g e => by
  have e1 : g1 = g := by simpa [Value.ownBlock] using e
  subst e1
  rcases h with h | h
  · exact .inl h
  · right; rw [h]; exact (box_b w o).size
theorem ru_keep {w X : World} {g b j : Nat} {cs : Array Value} {t : TypeId} {fz : Nat × Nat} {row : Option Nat} {v : Value} (h : w.heap[g]? = some (.cells cs t fz)) (hg : w.grownBy X row) (hr : row ≠ some g) (hb : b ≠ g) : (X.setCell ⟨b, j, none⟩ v).heap[g]? = some (.cells cs t fz) := by
  have hl := (Array.getElem?_eq_some_iff.1 h).1
  exact ((grown_setCell X b j v).block g (Nat.lt_of_lt_of_le hl hg.size) (fun e => hb (by simpa using e.symm))).trans ((hg.block g hl (fun e => hr e.symm)).trans h)
theorem grown_new1 {w X : World} {o : Obj} {row : Option Nat} (h : (w.alloc o).grownBy X row) : w.grownBy X row := (World.grownBy_alloc w o row).andThen h (fun j e => .inr e)
theorem lies_or1 {w : World} {o : Obj} {v : Value} {g1 n cp : Nat} (h : v.ownBlock = some g1 ∨ g1 = (w.alloc o).heap.size) : ∀ g, (Value.slice (some ⟨g1, 0, none⟩) n cp).ownBlock = some g → v.ownBlock = some g ∨ w.heap.size ≤ g := lies_or (o := o) h
theorem litb (a l : Tx) : ((bs a).toList == l) = (a == l) := by rw [Lib.toList_data, list_bs]
/-- the numbers of a chart are Go's -/
def ChI (c : Ch) : Prop := okI c.kinds ∧ okI c.parents
def TkTo (w0 W : World) (b : Nat) (acc : List RL) (c' : Ch) (vS : Value) (err : Int) (e : Ending) (w' : World) : Prop :=
  (err = 0 ∧ e = .returned .nilIface ∧ ∃ vN vK vP vT, BA w0 w' b acc c' vN vK vP vT vS) ∨ (err ≠ 0 ∧ e = .returned (.iface 36 (.int .i64 err)) ∧ Below W.heap.size W w')
theorem tkTo_no {w0 W : World} {b : Nat} {acc : List RL} {c' : Ch} {vS : Value} {err k : Int} {w' : World} (h : err = k) (hk : k ≠ 0) (hb : Below W.heap.size W w') : TkTo w0 W b acc c' vS err (.returned (.iface 36 (.int .i64 k))) w' := by
  subst h; exact .inr ⟨hk, rfl, hb⟩
set_option maxHeartbeats 8000000 in
theorem takeState_any {w0 W : World} {b : Nat} {acc : List RL} {c : Ch} {vN vK vP vT vS : Value} (R : BA w0 W b acc c vN vK vP vT vS) (hf : ChF c) (hi : ChI c) (r : Ru) (A : Option Addr) (n9 c9 : Nat) (ln : Int) (hn : (Lit.int .i64 r.n).wf = true) :
    Calls Tryz.prog 111 #[.pointer (some ⟨b, 0, none⟩), ruV r (.slice A n9 c9) ln] W (TkTo w0 W b acc (stAdd c r) vS (stErr c r)) := by
  obtain ⟨kd, nm, l, rn, rm, rf, rt, rb, ra, ri⟩ := r
  have R0 := heap_alloc_new W (.cells #[.int .i64 kd, .string (bs nm), .slice A n9 c9, .int .i64 rn, .int .i64 rm, .string (bs rf), .string (bs rt), .string (bs rb), .string (bs ra), .string (bs ri), .int .i64 ln] 28)
  have RB := R.below (box_b W (.cells #[.int .i64 kd, .string (bs nm), .slice A n9 c9, .int .i64 rn, .int .i64 rm, .string (bs rf), .string (bs rt), .string (bs rb), .string (bs ra), .string (bs ri), .int .i64 ln] 28))
  have HW := box_b W (.cells #[.int .i64 kd, .string (bs nm), .slice A n9 c9, .int .i64 rn, .int .i64 rm, .string (bs rf), .string (bs rt), .string (bs rb), .string (bs ra), .string (bs ri), .int .i64 ln] 28)
  obtain ⟨AN, cN, rfl⟩ := own_slice R.oN
  obtain ⟨AK, cK, rfl⟩ := own_slice R.oK
  obtain ⟨AP, cP, rfl⟩ := own_slice R.oP
  obtain ⟨AT, cT, rfl⟩ := own_slice R.oT
  have hbW := R.lt
  clear R
  simp only at hn
  dsimp only [ruV]
  have ST : Hid (stErr c ⟨kd, nm, l, rn, rm, rf, rt, rb, ra, ri⟩ = if nm ∈ c.names then 4 else if 24 ≤ c.names.length then 5 else if ri ≠ [] ∧ idxI c.names ri = -1 then 3 else if standB c.kinds rn (idxI c.names ri) = false then 1 else 0) := rfl
  have HF := Lib.hid hf
  have HI := Lib.hid hi
  clear hf hi
  generalize hes : stErr c ⟨kd, nm, l, rn, rm, rf, rt, rb, ra, ri⟩ = es at *
  clear hes
  go_enter Tryz.func111, Tryz.ntmps111
  go_upto_region 2 with (fail)
  generalize W.alloc (.cells #[.int .i64 kd, .string (bs nm), .slice A n9 c9, .int .i64 rn, .int .i64 rm, .string (bs rf), .string (bs rt), .string (bs rb), .string (bs ra), .string (bs ri), .int .i64 ln] 28) = W1 at *
  have q0 := RB.q0; have p1 := row_q1 R0; have p3 := row_q3 R0; have p9 := row_q9 R0
  have hnl := HF.out.nl
  have LN := listAt_of RB.oN
  have IX : Hid (∀ n, Calls Tryz.prog 153 #[.slice AN c.names.length cN, .string (bs ri)] (W1.drewN n) fun e w' => e = .returned (.int .i64 (idxI c.names ri)) ∧ w' = W1.drewN n) := fun n => (IndexX_any c.names ri AN cN (W1.drewN n) LN (by omega)).mono fun e w' h => ⟨h.1, h.2.symm⟩
  clear LN
  go_quiet ((go_at_call 153; exact Calls.quiet_of_same (IX.out _)))
  go_upto_region 3 with (fail)
  have RB2 := RB.below (below_drewN (Below.refl _ _) nq)
  have R02 := row_below R0 (below_drewN (Below.refl _ _) nq)
  have HW2 := below_drewN HW nq
  clear HW q0 p1 p3 p9 IX RB R0
  generalize W1.drewN nq = W2 at *
  have q0 := RB2.q0; have p1 := row_q1 R02; have p3 := row_q3 R02; have p9 := row_q9 R02
  have LN := listAt_of RB2.oN
  have CT : Hid (∀ n, Calls Tryz.prog 119 #[.slice AN c.names.length cN, .string (bs nm)] (W2.drewN n) fun e w' => e = .returned (.bool (decide (nm ∈ c.names))) ∧ w' = W2.drewN n) := fun n => (Contains_str c.names nm AN cN (W2.drewN n) LN (by omega)).mono fun e w' h => ⟨h.1, h.2.symm⟩
  clear LN
  by_cases h1 : nm ∈ c.names
  · have HE : Hid (es = 4) := by show _ = _; rw [ST.out, if_pos h1]
    rw [decide_eq_true h1] at CT
    clear h1 ST
    go_quiet ((go_at_call 119; exact Calls.quiet_of_same (CT.out _)))
    go_wp2
    go_ret
    exact tkTo_no HE.out (by decide) (below_drewN HW2 _)
  have ST2 : Hid (es = if 24 ≤ c.names.length then 5 else if ri ≠ [] ∧ idxI c.names ri = -1 then 3 else if standB c.kinds rn (idxI c.names ri) = false then 1 else 0) := by show _ = _; rw [ST.out, if_neg h1]
  rw [decide_eq_false h1] at CT
  have H1 := Lib.hid h1
  clear h1 ST
  go_quiet ((go_at_call 119; exact Calls.quiet_of_same (CT.out _)))
  go_upto_region 5 with (fail)
  have RB3 := RB2.below (below_drewN (Below.refl _ _) nq)
  have R03 := row_below R02 (below_drewN (Below.refl _ _) nq)
  have HW3 := below_drewN HW2 nq
  clear HW2 q0 p1 p3 p9 CT RB2 R02
  generalize W2.drewN nq = W3 at *
  have q0 := RB3.q0; have p1 := row_q1 R03; have p3 := row_q3 R03; have p9 := row_q9 R03
  by_cases h2 : 24 ≤ c.names.length
  · have HE : Hid (es = 5) := by show _ = _; rw [ST2.out, if_pos h2]
    have h2i : (24 : Int) ≤ c.names.length := by omega
    clear ST2
    go_wp2
    go_ret
    exact tkTo_no HE.out (by decide) HW3
  have ST3 : Hid (es = if ri ≠ [] ∧ idxI c.names ri = -1 then 3 else if standB c.kinds rn (idxI c.names ri) = false then 1 else 0) := by show _ = _; rw [ST2.out, if_neg h2]
  have h2i : ¬ (24 : Int) ≤ c.names.length := by omega
  have H2 := Lib.hid h2
  clear ST2 h2
  have hix := idxI_lt c.names ri
  generalize hpx : idxI c.names ri = px at *
  have HPX := Lib.hid hpx
  clear hpx
  by_cases h3 : ri ≠ [] ∧ px = -1
  · have HE : Hid (es = 3) := by show _ = _; rw [ST3.out, if_pos h3]
    obtain ⟨g3, rfl⟩ := h3
    have b3 : ((bs ri).toList != []) = true := by simp only [bne, litb]; simpa using g3
    have b4 : ((bs ri).toList == []) = false := by rw [litb]; simpa using g3
    have b5 : (bs ri).toList.isEmpty = false := by rw [Lib.toList_data, list_bs]; simpa using g3
    clear ST3 g3
    go_wp2
    go_ret
    exact tkTo_no HE.out (by decide) HW3
  have ST4 : Hid (es = if standB c.kinds rn px = false then 1 else 0) := by show _ = _; rw [ST3.out, if_neg h3]
  clear ST3
  go_upto_region 7 with (fail)
  go_cut [34] (fun x wx => wx = W3 ∧ x = .bool false)
  case first =>
    by_cases hr : ri = []
    · subst hr
      have hza : ((bs []).toList != []) = false := by simp only [bne, litb]; rfl
      have hzb : ((bs []).toList == []) = true := by rw [litb]; rfl
      have hzc : (bs []).toList.isEmpty = true := by rw [Lib.toList_data, list_bs]; rfl
      clear h3
      go_wp2
      go_meet
      exact ⟨rfl, rfl⟩
    · have hpn : (px == -1) = false := beq_eq_false_iff_ne.2 fun e => h3 ⟨hr, e⟩
      have b3 : ((bs ri).toList != []) = true := by simp only [bne, litb]; simpa using hr
      have b4 : ((bs ri).toList == []) = false := by rw [litb]; simpa using hr
      have b5 : (bs ri).toList.isEmpty = false := by rw [Lib.toList_data, list_bs]; simpa using hr
      clear h3 hr
      go_wp2
      go_meet
      exact ⟨rfl, rfl⟩
  case rest =>
  obtain ⟨hw9, rfl⟩ := hcut
  subst hw9
  obtain ⟨W3, rfl⟩ : ∃ w9 : World, w9 = wc := ⟨_, rfl⟩
  clear h3 p9
  have q1 := RB3.q1; have q2 := RB3.q2
  have hkl := HF.out.kl; have hpl := HF.out.pl
  have MS := Lib.hid (fun X (hX : Below W3.heap.size W3 X) => mayStand_any c.kinds AK AP c.kinds.length cK c.parents.length cP rn px X ((ints_of_own RB3.oK HI.out.1 (by omega)).below hX) rfl (by omega) (by omega))
  clear hkl hpl hix
  go_upto_region 9 with (fail)
  have hbl := RB3.lt
  have hrl : W.heap.size < W3.heap.size := (Array.getElem?_eq_some_iff.1 R03).1
  cases hsb : standB c.kinds rn px
  · have HE : Hid (es = 1) := by show _ = _; rw [ST4.out, if_pos hsb]
    rw [hsb] at MS
    clear hsb ST4
    go_region_held3 (fun w' => w'.cell? ⟨b, 1, none⟩ = some (.slice AK c.kinds.length cK) ∧ w'.cell? ⟨b, 2, none⟩ = some (.slice AP c.parents.length cP) ∧ w'.cell? ⟨W.heap.size, 3, none⟩ = some (.int .i64 rn))
      (first | exact ⟨q1, q2, p3⟩ | exact ⟨(hb5.cell (p := ⟨b, 1, none⟩) hbl).trans q1, (hb5.cell (p := ⟨b, 2, none⟩) hbl).trans q2, (hb5.cell (p := ⟨W.heap.size, 3, none⟩) hrl).trans p3⟩ | go_keep)
      (first
        | (go_at_call 154; refine (MS.out _ (by first | exact Below.refl _ _ | exact below_drew (Below.refl _ _))).mono ?_; rintro e w5 ⟨rfl, hb5⟩))
    go_wp2
    go_ret
    exact tkTo_no HE.out (by decide) (below_then HW3 (by first | exact hb5 | exact below_then (below_drew (Below.refl _ _)) hb5 (Nat.le_refl _)) HW3.size)
  have HE : Hid (es = 0) := by show _ = _; rw [ST4.out, if_neg (by rw [hsb]; decide)]
  rw [hsb] at MS
  clear hsb ST4
  go_region_held3 (fun w' => w'.cell? ⟨b, 1, none⟩ = some (.slice AK c.kinds.length cK) ∧ w'.cell? ⟨b, 2, none⟩ = some (.slice AP c.parents.length cP) ∧ w'.cell? ⟨W.heap.size, 3, none⟩ = some (.int .i64 rn))
    (first | exact ⟨q1, q2, p3⟩ | exact ⟨(hb5.cell (p := ⟨b, 1, none⟩) hbl).trans q1, (hb5.cell (p := ⟨b, 2, none⟩) hbl).trans q2, (hb5.cell (p := ⟨W.heap.size, 3, none⟩) hrl).trans p3⟩ | go_keep)
    (first
      | (go_at_call 154; refine (MS.out _ (by first | exact Below.refl _ _ | exact below_drew (Below.refl _ _))).mono ?_; rintro e w5 ⟨rfl, hb5⟩))
  have hb6 : Below W3.heap.size W3 w5 := (by first | exact hb5 | exact below_then (below_drew (Below.refl _ _)) hb5 (Nat.le_refl _))
  have RB4 := RB3.below hb6
  have R04 := row_below R03 hb6
  clear q0 q1 q2 p1 p3 RB3 R03 MS hbl hrl hb5 hb6
  obtain ⟨i0, hi, hz0, hz1, hz2⟩ := info_parts Tryz.infoString
  obtain ⟨i1, ii, iz0, iz1, iz2⟩ := info_parts Tryz.infoInt
  have q0 := RB4.q0; have p1 := row_q1 R04
  have hsz := RB4.be.size
  have hbg : b ≠ W.heap.size := by omega
  have y0 : ∀ O, (w5.alloc O).cell? ⟨b, 0, none⟩ = some (.slice AN c.names.length cN) := fun O => (World.cell?_alloc_lt _ _ _ RB4.lt).trans q0
  have t1 : (w5.alloc (.cells #[.string (bs nm)] 9)).drew.ownsRow w0.heap.size 9 1 (.slice AN c.names.length cN) c.names.length (scells c.names) := World.ownsRow.alloc RB4.oN _
  have t3 : ∀ j u, (scells [nm])[j]? = some u → ((w5.alloc (.cells #[.string (bs nm)] 9)).drew).cell? ((⟨w5.heap.size, 0, none⟩ : Addr).add j) = some u := cells_new w5 (scells [nm]) 9
  have t4 : w0.heap.size ≤ ((w5.alloc (.cells #[.string (bs nm)] 9)).drew).heap.size := Nat.le_trans hsz (box_b w5 _).size
  have t5 : c.names.length + 1 ≤ maxLen := by unfold maxLen; omega
  have t6 : (c.names.length + 1) * 16 ≤ 140737488355328 := by omega
  go_upto_region 11 with (fail)
  go_cut [62] (fun _ wx => ∃ v9, BA w0 wx b acc { c with names := c.names ++ [nm] } v9 (.slice AK c.kinds.length cK) (.slice AP c.parents.length cP) (.slice AT c.trans.length cT) vS ∧ wx.heap[W.heap.size]? = some (.cells #[.int .i64 kd, .string (bs nm), .slice A n9 c9, .int .i64 rn, .int .i64 rm, .string (bs rf), .string (bs rt), .string (bs rb), .string (bs ra), .string (bs ri), .int .i64 ln] 28 (0, 0)))
  case first =>
    go_region_law (
      (refine step_append_lies _ rfl (.tmp 58) (.tmp 61) 26 rfl w0.heap.size 9 i0 _ 1 16 Tryz.underlying26 hi hz0 hz1 hz2 rfl (by decide) (.slice AN c.names.length cN) c.names.length (scells c.names) (by simp [Act.eval]) t1 ⟨w5.heap.size, 0, none⟩ 1 1 (scells [nm]) (by simp [Act.eval]) rfl t3 (sc_one _) (by decide) t5 t6 t4 _ rfl ?_; intro g1 cp1 X1 hown1 hg1 hat1 hlt1
       have hg9 : w5.grownBy X1 (Value.ownBlock (.slice AN c.names.length cN)) := grown_new hg1
       have hr9 := RB4.row1 hg9 (own_row_ne RB4.oN RB4.row (by decide))
       have z1 : X1.frozen? ⟨b, 0, none⟩ = false := by simp [World.frozen?, hr9]
       have z2 := cell_of_row X1 b 0 _ _ _ hr9
       have RB5 := RB4.names hg9 (ownL_snoc hown1)
       have R05 := ru_keep (b := b) (j := 0) (v := .slice (some ⟨g1, 0, none⟩) (c.names.length + 1) cp1) R04 hg9 (own_row_ne RB4.oN R04 (by decide)) hbg))
    all_goals
      go_wp2_with fail
      go_meet
      exact ⟨_, RB5, R05⟩
  case rest =>
  obtain ⟨v1, RB6, R06⟩ := hcut
  clear RB4 R04 q0 y0 t1 t3 t4 t5 t6 hsz
  have RB4 := RB6
  have R04 := R06
  clear RB6 R06
  obtain ⟨w5, rfl⟩ : ∃ w9 : World, w9 = wc := ⟨_, rfl⟩
  have hsz := RB4.be.size
  have q0 := RB4.q1; have p3 := row_q3 R04
  have hkn : c.kinds.length ≤ 24 := by have := HF.out.kl; omega
  have y0 : ∀ O, (w5.alloc O).cell? ⟨b, 1, none⟩ = some (.slice AK c.kinds.length cK) := fun O => (World.cell?_alloc_lt _ _ _ RB4.lt).trans q0
  have t1 : (w5.alloc (.cells #[.int .i64 rn] 3)).drew.ownsRow w0.heap.size 3 1 (.slice AK c.kinds.length cK) c.kinds.length (icells c.kinds) := World.ownsRow.alloc RB4.oK _
  have t3 : ∀ j u, (icells [rn])[j]? = some u → ((w5.alloc (.cells #[.int .i64 rn] 3)).drew).cell? ((⟨w5.heap.size, 0, none⟩ : Addr).add j) = some u := cells_new w5 (icells [rn]) 3
  have t4 : w0.heap.size ≤ ((w5.alloc (.cells #[.int .i64 rn] 3)).drew).heap.size := Nat.le_trans hsz (box_b w5 _).size
  have t5 : c.kinds.length + 1 ≤ maxLen := by unfold maxLen; omega
  have t6 : (c.kinds.length + 1) * 8 ≤ 140737488355328 := by omega
  go_upto_region 12 with (fail)
  go_cut [74] (fun _ wx => ∃ v9, BA w0 wx b acc { c with names := c.names ++ [nm], kinds := c.kinds ++ [rn] } v1 v9 (.slice AP c.parents.length cP) (.slice AT c.trans.length cT) vS ∧ wx.heap[W.heap.size]? = some (.cells #[.int .i64 kd, .string (bs nm), .slice A n9 c9, .int .i64 rn, .int .i64 rm, .string (bs rf), .string (bs rt), .string (bs rb), .string (bs ra), .string (bs ri), .int .i64 ln] 28 (0, 0)))
  case first =>
    go_region_law (
      (refine step_append_lies _ rfl (.tmp 70) (.tmp 73) 23 rfl w0.heap.size 3 i1 _ 1 8 Tryz.underlying23 ii iz0 iz1 iz2 rfl (by decide) (.slice AK c.kinds.length cK) c.kinds.length (icells c.kinds) (by simp [Act.eval]) t1 ⟨w5.heap.size, 0, none⟩ 1 1 (icells [rn]) (by simp [Act.eval]) rfl t3 (ic_one _) (by decide) t5 t6 t4 _ rfl ?_; intro g1 cp1 X1 hown1 hg1 hat1 hlt1
       have hg9 : w5.grownBy X1 (Value.ownBlock (.slice AK c.kinds.length cK)) := grown_new hg1
       have hr9 := RB4.row1 hg9 (own_row_ne RB4.oK RB4.row (by decide))
       have z1 : X1.frozen? ⟨b, 1, none⟩ = false := by simp [World.frozen?, hr9]
       have z2 := cell_of_row X1 b 1 _ _ _ hr9
       have RB5 := RB4.kinds hg9 (ownI_snoc hown1) (lies_or hat1)
       have R05 := ru_keep (b := b) (j := 1) (v := .slice (some ⟨g1, 0, none⟩) (c.kinds.length + 1) cp1) R04 hg9 (own_row_ne RB4.oK R04 (by decide)) hbg))
    all_goals
      go_wp2_with fail
      go_meet
      exact ⟨_, RB5, R05⟩
  case rest =>
  obtain ⟨v2, RB6, R06⟩ := hcut
  clear RB4 R04 q0 y0 t1 t3 t4 t5 t6 hsz
  have RB4 := RB6
  have R04 := R06
  clear RB6 R06
  obtain ⟨w5, rfl⟩ : ∃ w9 : World, w9 = wc := ⟨_, rfl⟩
  have hsz := RB4.be.size
  have q0 := RB4.q2
  have hpn : c.parents.length ≤ 24 := by have := HF.out.pl; omega
  have y0 : ∀ O, (w5.alloc O).cell? ⟨b, 2, none⟩ = some (.slice AP c.parents.length cP) := fun O => (World.cell?_alloc_lt _ _ _ RB4.lt).trans q0
  have t1 : (w5.alloc (.cells #[.int .i64 px] 3)).ownsRow w0.heap.size 3 1 (.slice AP c.parents.length cP) c.parents.length (icells c.parents) := World.ownsRow.alloc RB4.oP _
  have t3 : ∀ j u, (icells [px])[j]? = some u → (w5.alloc (.cells #[.int .i64 px] 3)).cell? ((⟨w5.heap.size, 0, none⟩ : Addr).add j) = some u := cells_new w5 (icells [px]) 3
  have t4 : w0.heap.size ≤ (w5.alloc (.cells #[.int .i64 px] 3)).heap.size := Nat.le_trans hsz (box_b w5 _).size
  have t5 : c.parents.length + 1 ≤ maxLen := by unfold maxLen; omega
  have t6 : (c.parents.length + 1) * 8 ≤ 140737488355328 := by omega
  go_wp2_with (at_builtin; go_must (refine wpList_append_lies _ rfl (.tmp 83) (.tmp 85) 23 rfl w0.heap.size 3 i1 _ 1 8 Tryz.underlying23 ii iz0 iz1 iz2 rfl (by decide) (.slice AP c.parents.length cP) c.parents.length (icells c.parents) rfl t1 ⟨w5.heap.size, 0, none⟩ 1 1 (icells [px]) rfl rfl t3 (ic_one _) (by decide) t5 t6 t4 _ rfl ?_; intro g1 cp1 X1 hown1 hg1 hat1 hlt1; have hg9 : w5.grownBy X1 (Value.ownBlock (.slice AP c.parents.length cP)) := grown_new1 hg1; have hr9 := RB4.row1 hg9 (own_row_ne RB4.oP RB4.row (by decide)); have z1 : X1.frozen? ⟨b, 2, none⟩ = false := (by simp [World.frozen?, hr9]); have z2 := cell_of_row X1 b 2 _ _ _ hr9; have RB5 := RB4.parents hg9 (ownI_snoc hown1) (lies_or1 hat1)))
  go_ret
  have hst : stAdd c ⟨kd, nm, l, rn, rm, rf, rt, rb, ra, ri⟩ = { c with names := c.names ++ [nm], kinds := c.kinds ++ [rn], parents := c.parents ++ [px] } := by unfold stAdd; simp only [HPX.out]
  exact .inl ⟨HE.out, rfl, _, _, _, _, hst.symm ▸ RB5⟩
end Go.Proofs.YtnnmjmjbfeoggaaGreatDoor
