/-
  The plain chart.
-/
import Derived.Test.YtkgjcahcpeehjaaGreatDoorRdr9
import Derived.Test.YtkgjcahcpeehjaaGreatDoorIdx
import Derived.Test.YtkgjcahcpeehjaaGreatDoorSh5
namespace Go.Proofs.YtkgjcahcpeehjaaGreatDoor
set_option maxRecDepth 100000

/-! ### what a rule that was read has -/
theorem nameR_ok {T : List Tx} {s : Nat × Bool} (h : (nameR T s).2.2 = false) : nameL (nameR T s).1 = true := by
  unfold nameR at h ⊢
  split
  · assumption
  · rename_i hc; rw [if_neg hc] at h; cases h
theorem optR_ok {T : List Tx} {x : Tx} {s : Nat × Bool} (h : (optR T x s).2.2 = false) : (optR T x s).1 = [] ∨ nameL (optR T x s).1 = true := by
  unfold optR at h ⊢
  split
  · rename_i hc; rw [if_pos hc] at h; exact .inr (nameR_ok h)
  · exact .inl rfl
theorem posR_up (x : Tx) : ∀ (l : List Tx) (i : Nat), posR l x i = 0 ∨ ((i : Int) < posR l x i ∧ posR l x i ≤ (i : Int) + l.length)
  | [], i => .inl rfl
  | a :: r, i => by
    have ih := posR_up x r (i + 1)
    simp only [posR, List.length_cons]
    split
    · right; omega
    · rcases ih with h | h
      · exact .inl h
      · right; omega
/-- the fields of a rule of a chart -/
structure RuF (r : Ru) : Prop where
  kd : 1 ≤ r.kind ∧ r.kind ≤ 11
  st : r.kind = 8 → nameL r.name = true ∧ 1 ≤ r.n ∧ r.n ≤ 4
  on : r.kind = 9 → nameL r.name = true ∧ (r.by_ = [] ∨ nameL r.by_ = true) ∧ (r.task = [] ∨ nameL r.task = true) ∧ r.n = 0
  au : r.kind = 10 → r.name = [] ∧ r.by_ = [] ∧ r.task = [] ∧ r.n = 0
  af : r.kind = 11 → r.name = [] ∧ r.by_ = [] ∧ r.task = [] ∧ 1 ≤ r.n ∧ r.n ≤ 1073741824
theorem parse_fields {L : Tx} {r : Ru} (h : parseL L = .ok r) : RuF r := by
  unfold parseL at h
  split at h
  · cases h
  split at h
  · cases h
  rename_i _ hw
  have h0 : 0 < (wordsL L).length := List.length_pos_iff.2 hw
  obtain ⟨a1, a2⟩ := parseW_at (fun x hx => (words_bounds L x hx).1) h0
  have hA : AccR (tx (wordsL L)) := by
    by_cases hA : AccR (tx (wordsL L))
    · exact hA
    · obtain ⟨c, k, e⟩ := a2 hA
      rw [e] at h; cases h
  rw [a1 hA] at h
  injection h with h
  generalize tx (wordsL L) = T at *
  have hm := hA.2.1
  have hk := hA.1
  have hok := hA.2.2
  rcases kd_at T with ⟨_, h2⟩ | ⟨h2, h3, _, h4⟩
  · have := (read_at T).1; rw [hm, h2] at this; cases this
  have hrd : readR T = bodyR T (kdR T) (1, false) := by unfold readR; rw [if_neg (by omega)]
  rw [hrd] at h hm hk hok
  obtain ⟨hkd, _⟩ := list_at h4 (kdR T) hm hk
  generalize kdR T = kd at *
  subst h
  have hwr : wrongK (bodyR T kd (1, false)).1.kind (bodyR T kd (1, false)).1.n (bodyR T kd (1, false)).1.m (bodyR T kd (1, false)).1.list.length = 0 := by
    unfold okB at hok
    rw [Bool.and_eq_true] at hok
    exact of_decide_eq_true hok.1
  rw [hkd] at hwr
  refine ⟨by omega, ?_, ?_, ?_, ?_⟩
  · rw [hkd]; intro e; subst e
    have hm8 : (optR T [105, 110] (skR T (nameR T (1, false)).2)).2.2 = false := hm
    have hs := optR_m hm8
    have hn : (bodyR T 8 (1, false)).1.n = posR stateR (nx T (nameR T (1, false)).2.1 (nameR T (1, false)).2.2) 0 := rfl
    refine ⟨nameR_ok (skR_m hs), ?_⟩
    rw [hn]
    unfold skR at hs
    split at hs
    · cases hs
    · rename_i hp
      rcases posR_up (nx T (nameR T (1, false)).2.1 (nameR T (1, false)).2.2) stateR 0 with h9 | h9
      · exact absurd h9 hp
      · rw [show stateR.length = 4 from rfl] at h9; omega
  · rw [hkd]; intro e; subst e
    have hm9 : (optR T [116, 97, 115, 107] (optR T [98, 121] (fromToR T (nameR T (1, false)).2).2.2).2).2.2 = false := hm
    have h1 := optR_m hm9
    have h2 := optR_m h1
    have h3 := fromToR_m h2
    exact ⟨nameR_ok h3, optR_ok h1, optR_ok hm9, rfl⟩
  · rw [hkd]; intro e; subst e; exact ⟨rfl, rfl, rfl, rfl⟩
  · rw [hkd]; intro e; subst e
    refine ⟨rfl, rfl, rfl, ?_⟩
    unfold wrongK at hwr
    simp only [reduceIte, Int.reduceEq, or_self] at hwr
    split at hwr
    · cases hwr
    · omega

/-! ### the chart -/
structure Tr where
  kind : Int
  from_ : Int
  to_ : Int
  event : Tx
  perm : Tx
  task : Tx
  time : Int
deriving DecidableEq
structure Ch where
  names : List Tx := []
  kinds : List Int := []
  parents : List Int := []
  trans : List Tr := []
def stayB (k : Int) : Bool := k == 1 || k == 2
/-- may a state of a kind stand in another one (-1: in none)? -/
def standB (ks : List Int) (kind p : Int) : Bool := if stayB kind then p == -1 || stayB (ks.getD p.toNat 0) else p != -1 && ks.getD p.toNat 0 == 1
def stErr (c : Ch) (r : Ru) : Int :=
  if r.name ∈ c.names then 4 else if 24 ≤ c.names.length then 5 else if r.in_ ≠ [] ∧ idxI c.names r.in_ = -1 then 3
  else if standB c.kinds r.n (idxI c.names r.in_) = false then 1 else 0
def stAdd (c : Ch) (r : Ru) : Ch := { c with names := c.names ++ [r.name], kinds := c.kinds ++ [r.n], parents := c.parents ++ [idxI c.names r.in_] }
def nmS (sts : List (Ru × Nat)) : List Tx := sts.map (·.1.name)
def frS (sts : List (Ru × Nat)) (r : Ru) : Int := idxI (nmS sts) r.from_
def toS (sts : List (Ru × Nat)) (r : Ru) : Int := idxI (nmS sts) r.to_
def knS (sts : List (Ru × Nat)) (k : Int) : Int := (sts.map (·.1.n)).getD k.toNat 0
def trErr (sts : List (Ru × Nat)) (c : Ch) (r : Ru) : Int :=
  if 48 ≤ c.trans.length then 5 else if frS sts r = -1 ∨ toS sts r = -1 then 3 else if stayB (knS sts (frS sts r)) = false then 1 else 0
def trOf (sts : List (Ru × Nat)) (r : Ru) : Tr := ⟨r.kind, frS sts r, toS sts r, r.name, r.by_, r.task, r.n⟩
def trAdd (sts : List (Ru × Nat)) (c : Ch) (r : Ru) : Ch := { c with trans := c.trans ++ [trOf sts r] }
def isTr (r : Ru) : Prop := r.kind = 9 ∨ r.kind = 10 ∨ r.kind = 11
instance (r : Ru) : Decidable (isTr r) := inferInstanceAs (Decidable (_ ∨ _))
/-- a rule taken: an error's number (0: none), the chart -/
def takeE (sts : List (Ru × Nat)) (c : Ch) (r : Ru) : Int := if r.kind = 8 then stErr c r else if isTr r then trErr sts c r else 0
def takeC (sts : List (Ru × Nat)) (c : Ch) (r : Ru) : Ch := if r.kind = 8 then stAdd c r else if isTr r then trAdd sts c r else c
inductive ChR where
  | arg
  | bad (line : Nat) (code : Int)
  | none
  | ok (c : Ch)
def takeL (sts : List (Ru × Nat)) : List (Ru × Nat) → Ch → ChR
  | [], c => if valB c.kinds c.parents = true then .ok c else .none
  | x :: l, c => if takeE sts c x.1 = 0 then takeL sts l (takeC sts c x.1) else .bad x.2 (takeE sts c x.1)
def stsOf (l : List (Ru × Nat)) : List (Ru × Nat) := l.filter fun x => decide (x.1.kind ∈ [(8 : Int)])
/-- rules that all have a line, as a chart -/
def compL (l : List (Ru × Nat)) : ChR := takeL (stsOf l) l {}
end Go.Proofs.YtkgjcahcpeehjaaGreatDoor
namespace Go.Proofs.YtkgjcahcpeehjaaGreatDoor
set_option maxRecDepth 100000

def trsOf (l : List (Ru × Nat)) : List (Ru × Nat) := l.filter fun x => decide (isTr x.1)
/-- lists of one length, not too many of them -/
structure ChF (c : Ch) : Prop where
  kl : c.kinds.length = c.names.length
  pl : c.parents.length = c.names.length
  nl : c.names.length ≤ 24
  tl : c.trans.length ≤ 48
theorem chF_nil : ChF {} := ⟨rfl, rfl, by decide, by decide⟩
theorem idxI_lt (l : List Tx) (x : Tx) : -1 ≤ idxI l x ∧ idxI l x < l.length := by
  unfold idxI
  split
  · rename_i h; have := List.idxOf_lt_length_of_mem h; omega
  · omega
theorem idxI_mem {l : List Tx} {x : Tx} (h : idxI l x ≠ -1) : x ∈ l ∧ l[(idxI l x).toNat]? = some x := by
  unfold idxI at h ⊢
  split
  · rename_i hm
    refine ⟨hm, ?_⟩
    have hl := List.idxOf_lt_length_of_mem hm
    rw [Int.toNat_natCast, List.getElem?_eq_getElem hl, List.getElem_idxOf]
  · rename_i hm; rw [if_neg hm] at h; exact absurd rfl h
theorem st_ok {c : Ch} {r : Ru} (h : stErr c r = 0) : r.name ∉ c.names ∧ c.names.length < 24 ∧ (r.in_ = [] ∨ idxI c.names r.in_ ≠ -1) ∧ standB c.kinds r.n (idxI c.names r.in_) = true := by
  unfold stErr at h
  split at h
  · cases h
  rename_i h1
  split at h
  · cases h
  rename_i h2
  split at h
  · cases h
  rename_i h3
  split at h
  · cases h
  rename_i h4
  refine ⟨h1, by omega, ?_, by simpa using h4⟩
  by_cases e : r.in_ = []
  · exact .inl e
  · exact .inr fun h9 => h3 ⟨e, h9⟩
theorem tr_ok {sts : List (Ru × Nat)} {c : Ch} {r : Ru} (h : trErr sts c r = 0) : c.trans.length < 48 ∧ frS sts r ≠ -1 ∧ toS sts r ≠ -1 ∧ stayB (knS sts (frS sts r)) = true := by
  unfold trErr at h
  split at h
  · cases h
  rename_i h1
  split at h
  · cases h
  rename_i h2
  split at h
  · cases h
  rename_i h3
  exact ⟨by omega, fun e => h2 (.inl e), fun e => h2 (.inr e), by simpa using h3⟩
theorem take_f {sts : List (Ru × Nat)} {c : Ch} {r : Ru} (hf : ChF c) (h : takeE sts c r = 0) : ChF (takeC sts c r) := by
  unfold takeE at h
  unfold takeC
  split at h
  · rename_i h8
    rw [if_pos h8]
    obtain ⟨_, h2, _⟩ := st_ok h
    have := hf.kl; have := hf.pl; have := hf.tl
    exact ⟨by simp [stAdd]; omega, by simp [stAdd]; omega, by simp [stAdd]; omega, by simpa [stAdd]⟩
  · rename_i h8
    rw [if_neg h8]
    split at h
    · rename_i ht
      rw [if_pos ht]
      obtain ⟨h1, _⟩ := tr_ok h
      exact ⟨hf.kl, hf.pl, hf.nl, by simp [trAdd]; omega⟩
    · rename_i ht; rw [if_neg ht]; exact hf
/-- a state that was taken at its place -/
structure StAt8 (c : Ch) (j : Nat) (r : Ru) : Prop where
  nm : c.names[j]? = some r.name
  kn : c.kinds[j]? = some r.n
  pa : c.parents[j]? = some (idxI (c.names.take j) r.in_)
  nw : r.name ∉ c.names.take j
  ni : r.in_ = [] ∨ idxI (c.names.take j) r.in_ ≠ -1
theorem sts_cons (x : Ru × Nat) (l : List (Ru × Nat)) : stsOf (x :: l) = if x.1.kind = 8 then x :: stsOf l else stsOf l := by
  unfold stsOf
  rw [List.filter_cons]
  by_cases h : x.1.kind = 8
  · rw [if_pos (by simp [h]), if_pos h]
  · rw [if_neg (by simp [h]), if_neg h]
theorem trs_cons (x : Ru × Nat) (l : List (Ru × Nat)) : trsOf (x :: l) = if isTr x.1 then x :: trsOf l else trsOf l := by
  unfold trsOf
  rw [List.filter_cons]
  by_cases h : isTr x.1
  · rw [if_pos (by simp [h]), if_pos h]
  · rw [if_neg (by simp [h]), if_neg h]
/-- what is taken of rules that make a chart -/
structure TkO (sts : List (Ru × Nat)) (l : List (Ru × Nat)) (c c' : Ch) : Prop where
  nm : c'.names = c.names ++ nmS (stsOf l)
  kn : c'.kinds = c.kinds ++ (stsOf l).map (·.1.n)
  tr : c'.trans = c.trans ++ (trsOf l).map fun x => trOf sts x.1
  pl : c'.parents.length = c'.names.length ∧ c'.parents.take c.names.length = c.parents
  st : ∀ j (h : j < (stsOf l).length), StAt8 c' (c.names.length + j) (stsOf l)[j].1
  tk : ∀ x ∈ trsOf l, frS sts x.1 ≠ -1 ∧ toS sts x.1 ≠ -1 ∧ stayB (knS sts (frS sts x.1)) = true
  nl : c'.names.length ≤ 24
  tl : c'.trans.length ≤ 48
  va : valB c'.kinds c'.parents = true
theorem nmS_app (a b : List (Ru × Nat)) : nmS (a ++ b) = nmS a ++ nmS b := by simp [nmS]
theorem take_ok (sts : List (Ru × Nat)) : ∀ (l : List (Ru × Nat)) (c c' : Ch), ChF c → takeL sts l c = .ok c' → TkO sts l c c'
  | [], c, c', hf, h => by
    rw [takeL] at h
    split at h
    · rename_i hv
      injection h with h
      subst h
      refine ⟨by simp [stsOf, nmS], by simp [stsOf], by simp [trsOf], ⟨hf.pl, by rw [← hf.pl, List.take_length]⟩, fun j h => by simp [stsOf] at h, fun x hx => by simp [trsOf] at hx, hf.nl, hf.tl, hv⟩
    · cases h
  | x :: l, c, c', hf, h => by
    rw [takeL] at h
    split at h
    rotate_left
    · cases h
    rename_i he
    have hf2 := take_f hf he
    have ih := take_ok sts l _ c' hf2 h
    by_cases h8 : x.1.kind = 8
    · have hts : ¬ isTr x.1 := by unfold isTr; omega
      have e1 : takeC sts c x.1 = stAdd c x.1 := by unfold takeC; rw [if_pos h8]
      have e2 : takeE sts c x.1 = stErr c x.1 := by unfold takeE; rw [if_pos h8]
      rw [e1] at ih hf2
      rw [e2] at he
      obtain ⟨k1, k2, k3, k4⟩ := st_ok he
      have hs : stsOf (x :: l) = x :: stsOf l := by rw [sts_cons, if_pos h8]
      have ht : trsOf (x :: l) = trsOf l := by rw [trs_cons, if_neg hts]
      have hnm := ih.nm
      have hpl := ih.pl
      have htk : c'.names.take c.names.length = c.names := by rw [hnm]; simp [stAdd]
      refine ⟨by rw [hnm, hs]; simp [stAdd, nmS], by rw [ih.kn, hs]; simp [stAdd], by rw [ih.tr, ht]; rfl, ⟨hpl.1, ?_⟩, ?_, by rw [ht]; exact ih.tk, ih.nl, ih.tl, ih.va⟩
      · have h9 := congrArg (List.take c.names.length) hpl.2
        rw [List.take_take] at h9
        simp only [stAdd, List.length_append, List.length_cons, List.length_nil] at h9
        rw [show min c.names.length (c.names.length + (0 + 1)) = c.names.length by omega] at h9
        rw [h9, List.take_append_of_le_length (by rw [hf.pl]; exact Nat.le_refl _), ← hf.pl, List.take_length]
      · intro j hj
        cases j with
        | zero =>
          simp only [hs, Nat.add_zero, List.getElem_cons_zero]
          refine ⟨by rw [hnm]; simp [stAdd], by rw [ih.kn]; simp [stAdd, hf.kl.symm], ?_, by rw [htk]; exact k1, by rw [htk]; exact k3⟩
          have h9 : (c'.parents.take (stAdd c x.1).names.length)[c.names.length]? = some (idxI c.names x.1.in_) := by rw [hpl.2]; simp [stAdd, hf.pl.symm]
          rw [List.getElem?_take_of_lt (by simp [stAdd])] at h9
          rw [htk]; exact h9
        | succ j =>
          have hj2 : j < (stsOf l).length := by rw [hs] at hj; simpa using hj
          have := ih.st j hj2
          simp only [hs, List.getElem_cons_succ]
          rw [show c.names.length + (j + 1) = (stAdd c x.1).names.length + j by simp [stAdd]; omega]
          exact this
    · have e2 : stsOf (x :: l) = stsOf l := by rw [sts_cons, if_neg h8]
      by_cases ht : isTr x.1
      · have e1 : takeC sts c x.1 = trAdd sts c x.1 := by unfold takeC; rw [if_neg h8, if_pos ht]
        have e3 : takeE sts c x.1 = trErr sts c x.1 := by unfold takeE; rw [if_neg h8, if_pos ht]
        rw [e1] at ih
        rw [e3] at he
        have e4 : trsOf (x :: l) = x :: trsOf l := by rw [trs_cons, if_pos ht]
        have k := tr_ok he
        refine ⟨by rw [ih.nm, e2]; rfl, by rw [ih.kn, e2]; rfl, by rw [ih.tr, e4]; simp [trAdd], ih.pl, by rw [e2]; exact ih.st, ?_, ih.nl, ih.tl, ih.va⟩
        intro y hy
        rw [e4] at hy
        rcases List.mem_cons.1 hy with rfl | hy
        · exact ⟨k.2.1, k.2.2.1, k.2.2.2⟩
        · exact ih.tk y hy
      · have e1 : takeC sts c x.1 = c := by unfold takeC; rw [if_neg h8, if_neg ht]
        rw [e1] at ih
        have e4 : trsOf (x :: l) = trsOf l := by rw [trs_cons, if_neg ht]
        exact ⟨by rw [ih.nm, e2], by rw [ih.kn, e2], by rw [ih.tr, e4], ih.pl, by rw [e2]; exact ih.st, by rw [e4]; exact ih.tk, ih.nl, ih.tl, ih.va⟩
theorem comp_ok {l : List (Ru × Nat)} {c : Ch} (h : compL l = .ok c) : TkO (stsOf l) l {} c := take_ok _ l {} c chF_nil h

/-! ### a chart that is valid -/
def silB (t : Tr) : Bool := t.event == [] && t.perm == [] && t.task == []
def optN (x : Tx) : Bool := x == [] || nameL x
def lablB (t : Tr) : Bool :=
  if t.kind = 9 then nameL t.event && optN t.perm && optN t.task && t.time == 0
  else if t.kind = 10 then silB t && t.time == 0
  else if t.kind = 11 then silB t && decide (1 ≤ t.time) && decide (t.time ≤ 1073741824) else false
def thereB (ks : List Int) (k : Int) : Bool := decide (0 ≤ k) && decide (k < ks.length)
def leadsB (ks : List Int) (t : Tr) : Bool := thereB ks t.from_ && thereB ks t.to_ && stayB (ks.getD t.from_.toNat 0)
def namedB (c : Ch) : Bool := c.names.length == c.kinds.length && (List.range c.names.length).all fun i => nameL (c.names.getD i []) && !(c.names.take i).any (· == c.names.getD i [])
def validB (c : Ch) : Bool := valB c.kinds c.parents && namedB c && decide (c.trans.length ≤ 48) && c.trans.all fun t => leadsB c.kinds t && lablB t
theorem comp_valid {l : List (Ru × Nat)} {c : Ch} (h : compL l = .ok c) (hl : ∀ x ∈ l, RuF x.1) : validB c = true := by
  have o := comp_ok h
  have hnm : c.names = nmS (stsOf l) := by rw [o.nm]; rfl
  have hkn : c.kinds = (stsOf l).map (·.1.n) := by rw [o.kn]; rfl
  have hsl : c.names.length = (stsOf l).length := by rw [hnm]; simp [nmS]
  unfold validB
  rw [o.va, Bool.true_and, Bool.and_eq_true, Bool.and_eq_true, decide_eq_true_eq, List.all_eq_true]
  refine ⟨⟨?_, o.tl⟩, ?_⟩
  · unfold namedB
    rw [Bool.and_eq_true, beq_iff_eq, List.all_eq_true]
    refine ⟨by rw [hnm, hkn]; simp [nmS], fun i hi => ?_⟩
    have hi := List.mem_range.1 hi
    have hj : i < (stsOf l).length := by omega
    have s := o.st i hj
    simp only [show ({} : Ch).names.length = 0 from rfl, Nat.zero_add] at s
    have hg : c.names.getD i [] = (stsOf l)[i].1.name := by rw [List.getD_eq_getElem?_getD, s.nm]; rfl
    have hm : (stsOf l)[i] ∈ l ∧ (stsOf l)[i].1.kind = 8 := by
      have := List.mem_filter.1 (List.getElem_mem hj : (stsOf l)[i] ∈ stsOf l)
      exact ⟨this.1, by simpa using this.2⟩
    rw [hg, Bool.and_eq_true, Bool.not_eq_true', List.any_eq_false]
    exact ⟨((hl _ hm.1).st hm.2).1, fun x hx e => s.nw (by rw [beq_iff_eq] at e; rw [← e]; exact hx)⟩
  · intro t ht
    rw [o.tr] at ht
    obtain ⟨x, hx, rfl⟩ : ∃ x ∈ trsOf l, trOf (stsOf l) x.1 = t := by simpa using ht
    have k := o.tk x hx
    have hm := List.mem_filter.1 hx
    have hF := hl x hm.1
    have hT : isTr x.1 := of_decide_eq_true hm.2
    have hnl : (nmS (stsOf l)).length = c.kinds.length := by rw [hkn]; simp [nmS]
    have i1 := idxI_lt (nmS (stsOf l)) x.1.from_
    have i2 := idxI_lt (nmS (stsOf l)) x.1.to_
    rw [Bool.and_eq_true]
    constructor
    · have k1 := k.1
      have k2 := k.2.1
      have k3 := k.2.2
      unfold knS at k3
      rw [← hkn] at k3
      have j1 : 0 ≤ frS (stsOf l) x.1 ∧ frS (stsOf l) x.1 < c.kinds.length := by unfold frS at *; omega
      have j2 : 0 ≤ toS (stsOf l) x.1 ∧ toS (stsOf l) x.1 < c.kinds.length := by unfold toS at *; omega
      show leadsB c.kinds ⟨x.1.kind, frS (stsOf l) x.1, toS (stsOf l) x.1, x.1.name, x.1.by_, x.1.task, x.1.n⟩ = true
      unfold leadsB thereB
      simp only [Bool.and_eq_true, decide_eq_true_eq]
      exact ⟨⟨j1, j2⟩, k3⟩
    · unfold lablB
      rcases hT with e | e | e
      · obtain ⟨a, b, d, f⟩ := hF.on e
        rw [if_pos (by exact e)]
        have hb : optN x.1.by_ = true := by unfold optN; rcases b with b | b <;> simp [b]
        have hd : optN x.1.task = true := by unfold optN; rcases d with b | b <;> simp [b]
        simp only [trOf, a, hb, hd, f]; rfl
      · obtain ⟨a, b, d, f⟩ := hF.au e
        rw [if_neg (by show ¬ x.1.kind = 9; omega), if_pos (by exact e)]
        unfold silB
        simp only [trOf, a, b, d, f]; rfl
      · obtain ⟨a, b, d, f⟩ := hF.af e
        rw [if_neg (by show ¬ x.1.kind = 9; omega), if_neg (by show ¬ x.1.kind = 10; omega), if_pos (by exact e)]
        unfold silB
        simp only [trOf, a, b, d, Bool.and_eq_true, decide_eq_true_eq]
        exact ⟨⟨by decide, f.1⟩, f.2⟩
end Go.Proofs.YtkgjcahcpeehjaaGreatDoor
