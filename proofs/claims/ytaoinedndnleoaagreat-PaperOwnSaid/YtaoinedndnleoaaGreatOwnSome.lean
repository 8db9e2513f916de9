import Derived.Test.YtaoinedndnleoaaGreatSh0
import Derived.Test.YtaoinedndnleoaaGreatOkP
import Derived.Lib.SplitLaws
import Derived.Test.YtaoinedndnleoaaGreatArgI
import Derived.OwnWalk
import Derived.Test.YtaoinedndnleoaaGreatPrint2
import Derived.Test.YtaoinedndnleoaaGreatShelf2
import Derived.Deep.DeepMust
import Derived.Test.YtaoinedndnleoaaGreatPlain06
import Derived.Laws.ShiftsVar
namespace Go.Proofs.YtaoinedndnleoaaGreat
set_option maxRecDepth 100000
theorem nameR_ok {T : List Tx} {s : Nat × Bool} (h : (nameR T s).2.2 = false) : nameL (nameR T s).1 = true := by
  unfold nameR at h ⊢
  split
  · assumption
  · rename_i hc; rw [if_neg hc] at h; cases h
theorem optR_ok {T : List Tx} {x : Tx} {s : Nat × Bool} (h : (optR T x s).2.2 = false) : (optR T x s).1 = [] ∨ nameL (optR T x s).1 = true := by
  unfold optR at h ⊢
  split
  · rename_i hc; rw [if_pos hc] at h; exact .inr (nameR_ok h)
  · exact .inl rfl
theorem posR_up (x : Tx) : ∀ (l : List Tx) (i : Nat), posR l x i = 0 ∨ ((i : Int) < posR l x i ∧ posR l x i ≤ (i : Int) + l.length)
  | [], i => .inl rfl
  | a :: r, i => by
    have ih := posR_up x r (i + 1)
    simp only [posR, List.length_cons]
    split
    · right; omega
    · rcases ih with h | h
      · exact .inl h
      · right; omega
structure RuF (r : Ru) : Prop where
  kd : 1 ≤ r.kind ∧ r.kind ≤ 11
  st : r.kind = 8 → nameL r.name = true ∧ 1 ≤ r.n ∧ r.n ≤ 4
  on : r.kind = 9 → nameL r.name = true ∧ (r.by_ = [] ∨ nameL r.by_ = true) ∧ (r.task = [] ∨ nameL r.task = true) ∧ r.n = 0
  au : r.kind = 10 → r.name = [] ∧ r.by_ = [] ∧ r.task = [] ∧ r.n = 0
  af : r.kind = 11 → r.name = [] ∧ r.by_ = [] ∧ r.task = [] ∧ 1 ≤ r.n ∧ r.n ≤ 1073741824
theorem parse_fields {L : Tx} {r : Ru} (h : parseL L = .ok r) : RuF r := by
  unfold parseL at h
  split at h
  · cases h
  split at h
  · cases h
  rename_i _ hw
  have h0 : 0 < (wordsL L).length := List.length_pos_iff.2 hw
  obtain ⟨a1, a2⟩ := parseW_at (fun x hx => (words_bounds L x hx).1) h0
  have hA : AccR (tx (wordsL L)) := by
    by_cases hA : AccR (tx (wordsL L))
    · exact hA
    · obtain ⟨c, k, e⟩ := a2 hA
      rw [e] at h; cases h
  rw [a1 hA] at h
  injection h with h
  generalize tx (wordsL L) = T at *
  have hm := hA.2.1
  have hk := hA.1
  have hok := hA.2.2
  rcases kd_at T with ⟨_, h2⟩ | ⟨h2, h3, _, h4⟩
  · have := (read_at T).1; rw [hm, h2] at this; cases this
  have hrd : readR T = bodyR T (kdR T) (1, false) := by unfold readR; rw [if_neg (by omega)]
  rw [hrd] at h hm hk hok
  obtain ⟨hkd, _⟩ := list_at h4 (kdR T) hm hk
  generalize kdR T = kd at *
  subst h
  have hwr : wrongK (bodyR T kd (1, false)).1.kind (bodyR T kd (1, false)).1.n (bodyR T kd (1, false)).1.m (bodyR T kd (1, false)).1.list.length = 0 := by
    unfold okB at hok
    rw [Bool.and_eq_true] at hok
    exact of_decide_eq_true hok.1
  rw [hkd] at hwr
  refine ⟨by omega, ?_, ?_, ?_, ?_⟩
  · rw [hkd]; intro e; subst e
    have hm8 : (optR T [105, 110] (skR T (nameR T (1, false)).2)).2.2 = false := hm
    have hs := optR_m hm8
    have hn : (bodyR T 8 (1, false)).1.n = posR stateR (nx T (nameR T (1, false)).2.1 (nameR T (1, false)).2.2) 0 := rfl
    refine ⟨nameR_ok (skR_m hs), ?_⟩
    rw [hn]
    unfold skR at hs
    split at hs
    · cases hs
    · rename_i hp
      rcases posR_up (nx T (nameR T (1, false)).2.1 (nameR T (1, false)).2.2) stateR 0 with h9 | h9
      · exact absurd h9 hp
      · rw [show stateR.length = 4 from rfl] at h9; omega
  · rw [hkd]; intro e; subst e
    have hm9 : (optR T [116, 97, 115, 107] (optR T [98, 121] (fromToR T (nameR T (1, false)).2).2.2).2).2.2 = false := hm
    have h1 := optR_m hm9
    have h2 := optR_m h1
    have h3 := fromToR_m h2
    exact ⟨nameR_ok h3, optR_ok h1, optR_ok hm9, rfl⟩
  · rw [hkd]; intro e; subst e; exact ⟨rfl, rfl, rfl, rfl⟩
  · rw [hkd]; intro e; subst e
    refine ⟨rfl, rfl, rfl, ?_⟩
    unfold wrongK at hwr
    simp only [reduceIte, Int.reduceEq, or_self] at hwr
    split at hwr
    · cases hwr
    · omega
structure Tr where
  kind : Int
  from_ : Int
  to_ : Int
  event : Tx
  perm : Tx
  task : Tx
  time : Int
deriving DecidableEq
structure Ch where
  names : List Tx := []
  kinds : List Int := []
  parents : List Int := []
  trans : List Tr := []
def stayB (k : Int) : Bool := k == 1 || k == 2
def standB (ks : List Int) (kind p : Int) : Bool := if stayB kind then p == -1 || stayB (ks.getD p.toNat 0) else p != -1 && ks.getD p.toNat 0 == 1
def stErr (c : Ch) (r : Ru) : Int :=
  if r.name ∈ c.names then 4 else if 24 ≤ c.names.length then 5 else if r.in_ ≠ [] ∧ idxI c.names r.in_ = -1 then 3
  else if standB c.kinds r.n (idxI c.names r.in_) = false then 1 else 0
def stAdd (c : Ch) (r : Ru) : Ch := { c with names := c.names ++ [r.name], kinds := c.kinds ++ [r.n], parents := c.parents ++ [idxI c.names r.in_] }
def nmS (sts : List (Ru × Nat)) : List Tx := sts.map (·.1.name)
def frS (sts : List (Ru × Nat)) (r : Ru) : Int := idxI (nmS sts) r.from_
def toS (sts : List (Ru × Nat)) (r : Ru) : Int := idxI (nmS sts) r.to_
def knS (sts : List (Ru × Nat)) (k : Int) : Int := (sts.map (·.1.n)).getD k.toNat 0
def trErr (sts : List (Ru × Nat)) (c : Ch) (r : Ru) : Int :=
  if 48 ≤ c.trans.length then 5 else if frS sts r = -1 ∨ toS sts r = -1 then 3 else if stayB (knS sts (frS sts r)) = false then 1 else 0
def trOf (sts : List (Ru × Nat)) (r : Ru) : Tr := ⟨r.kind, frS sts r, toS sts r, r.name, r.by_, r.task, r.n⟩
def trAdd (sts : List (Ru × Nat)) (c : Ch) (r : Ru) : Ch := { c with trans := c.trans ++ [trOf sts r] }
def isTr (r : Ru) : Prop := r.kind = 9 ∨ r.kind = 10 ∨ r.kind = 11
instance (r : Ru) : Decidable (isTr r) := inferInstanceAs (Decidable (_ ∨ _))
def takeE (sts : List (Ru × Nat)) (c : Ch) (r : Ru) : Int := if r.kind = 8 then stErr c r else if isTr r then trErr sts c r else 0
def takeC (sts : List (Ru × Nat)) (c : Ch) (r : Ru) : Ch := if r.kind = 8 then stAdd c r else if isTr r then trAdd sts c r else c
inductive ChR where
  | arg
  | bad (line : Nat) (code : Int)
  | none
  | ok (c : Ch)
def takeL (sts : List (Ru × Nat)) : List (Ru × Nat) → Ch → ChR
  | [], c => if valB c.kinds c.parents = true then .ok c else .none
  | x :: l, c => if takeE sts c x.1 = 0 then takeL sts l (takeC sts c x.1) else .bad x.2 (takeE sts c x.1)
def stsOf (l : List (Ru × Nat)) : List (Ru × Nat) := l.filter fun x => decide (x.1.kind ∈ [(8 : Int)])
def compL (l : List (Ru × Nat)) : ChR := takeL (stsOf l) l {}
def trsOf (l : List (Ru × Nat)) : List (Ru × Nat) := l.filter fun x => decide (isTr x.1)
structure ChF (c : Ch) : Prop where
  kl : c.kinds.length = c.names.length
  pl : c.parents.length = c.names.length
  nl : c.names.length ≤ 24
  tl : c.trans.length ≤ 48
theorem chF_nil : ChF {} := ⟨rfl, rfl, by decide, by decide⟩
theorem idxI_lt (l : List Tx) (x : Tx) : -1 ≤ idxI l x ∧ idxI l x < l.length := by
  unfold idxI
  split
  · rename_i h; have := List.idxOf_lt_length_of_mem h; omega
  · omega
theorem idxI_mem {l : List Tx} {x : Tx} (h : idxI l x ≠ -1) : x ∈ l ∧ l[(idxI l x).toNat]? = some x := by
  unfold idxI at h ⊢
  split
  · rename_i hm
    refine ⟨hm, ?_⟩
    have hl := List.idxOf_lt_length_of_mem hm
    rw [Int.toNat_natCast, List.getElem?_eq_getElem hl, List.getElem_idxOf]
  · rename_i hm; rw [if_neg hm] at h; exact absurd rfl h
theorem st_ok {c : Ch} {r : Ru} (h : stErr c r = 0) : r.name ∉ c.names ∧ c.names.length < 24 ∧ (r.in_ = [] ∨ idxI c.names r.in_ ≠ -1) ∧ standB c.kinds r.n (idxI c.names r.in_) = true := by
  unfold stErr at h
  split at h
  · cases h
  rename_i h1
  split at h
  · cases h
  rename_i h2
  split at h
  · cases h
  rename_i h3
  split at h
  · cases h
  rename_i h4
  refine ⟨h1, by omega, ?_, by simpa using h4⟩
  by_cases e : r.in_ = []
  · exact .inl e
  · exact .inr fun h9 => h3 ⟨e, h9⟩
theorem tr_ok {sts : List (Ru × Nat)} {c : Ch} {r : Ru} (h : trErr sts c r = 0) : c.trans.length < 48 ∧ frS sts r ≠ -1 ∧ toS sts r ≠ -1 ∧ stayB (knS sts (frS sts r)) = true := by
  unfold trErr at h
  split at h
  · cases h
  rename_i h1
  split at h
  · cases h
  rename_i h2
  split at h
  · cases h
  rename_i h3
  exact ⟨by omega, fun e => h2 (.inl e), fun e => h2 (.inr e), by simpa using h3⟩
theorem take_f {sts : List (Ru × Nat)} {c : Ch} {r : Ru} (hf : ChF c) (h : takeE sts c r = 0) : ChF (takeC sts c r) := by
  unfold takeE at h
  unfold takeC
  split at h
  · rename_i h8
    rw [if_pos h8]
    obtain ⟨_, h2, _⟩ := st_ok h
    have := hf.kl; have := hf.pl; have := hf.tl
    exact ⟨by simp [stAdd]; omega, by simp [stAdd]; omega, by simp [stAdd]; omega, by simpa [stAdd]⟩
  · rename_i h8
    rw [if_neg h8]
    split at h
    · rename_i ht
      rw [if_pos ht]
      obtain ⟨h1, _⟩ := tr_ok h
      exact ⟨hf.kl, hf.pl, hf.nl, by simp [trAdd]; omega⟩
    · rename_i ht; rw [if_neg ht]; exact hf
structure StAt8 (c : Ch) (j : Nat) (r : Ru) : Prop where
  nm : c.names[j]? = some r.name
  kn : c.kinds[j]? = some r.n
  pa : c.parents[j]? = some (idxI (c.names.take j) r.in_)
  nw : r.name ∉ c.names.take j
  ni : r.in_ = [] ∨ idxI (c.names.take j) r.in_ ≠ -1
theorem sts_cons (x : Ru × Nat) (l : List (Ru × Nat)) : stsOf (x :: l) = if x.1.kind = 8 then x :: stsOf l else stsOf l := by
  unfold stsOf
  rw [List.filter_cons]
  by_cases h : x.1.kind = 8
  · rw [if_pos (by simp [h]), if_pos h]
  · rw [if_neg (by simp [h]), if_neg h]
theorem trs_cons (x : Ru × Nat) (l : List (Ru × Nat)) : trsOf (x :: l) = if isTr x.1 then x :: trsOf l else trsOf l := by
  unfold trsOf
  rw [List.filter_cons]
  by_cases h : isTr x.1
  · rw [if_pos (by simp [h]), if_pos h]
  · rw [if_neg (by simp [h]), if_neg h]
structure TkO (sts : List (Ru × Nat)) (l : List (Ru × Nat)) (c c' : Ch) : Prop where
  nm : c'.names = c.names ++ nmS (stsOf l)
  kn : c'.kinds = c.kinds ++ (stsOf l).map (·.1.n)
  tr : c'.trans = c.trans ++ (trsOf l).map fun x => trOf sts x.1
  pl : c'.parents.length = c'.names.length ∧ c'.parents.take c.names.length = c.parents
  st : ∀ j (h : j < (stsOf l).length), StAt8 c' (c.names.length + j) (stsOf l)[j].1
  tk : ∀ x ∈ trsOf l, frS sts x.1 ≠ -1 ∧ toS sts x.1 ≠ -1 ∧ stayB (knS sts (frS sts x.1)) = true
  nl : c'.names.length ≤ 24
  tl : c'.trans.length ≤ 48
  va : valB c'.kinds c'.parents = true
theorem nmS_app (a b : List (Ru × Nat)) : nmS (a ++ b) = nmS a ++ nmS b := by simp [nmS]
theorem take_ok (sts : List (Ru × Nat)) : ∀ (l : List (Ru × Nat)) (c c' : Ch), ChF c → takeL sts l c = .ok c' → TkO sts l c c'
  | [], c, c', hf, h => by
    rw [takeL] at h
    split at h
    · rename_i hv
      injection h with h
      subst h
      refine ⟨by simp [stsOf, nmS], by simp [stsOf], by simp [trsOf], ⟨hf.pl, by rw [← hf.pl, List.take_length]⟩, fun j h => by simp [stsOf] at h, fun x hx => by simp [trsOf] at hx, hf.nl, hf.tl, hv⟩
    · cases h
  | x :: l, c, c', hf, h => by
    rw [takeL] at h
    split at h
    rotate_left
    · cases h
    rename_i he
    have hf2 := take_f hf he
    have ih := take_ok sts l _ c' hf2 h
    by_cases h8 : x.1.kind = 8
    · have hts : ¬ isTr x.1 := by unfold isTr; omega
      have e1 : takeC sts c x.1 = stAdd c x.1 := by unfold takeC; rw [if_pos h8]
      have e2 : takeE sts c x.1 = stErr c x.1 := by unfold takeE; rw [if_pos h8]
      rw [e1] at ih hf2
      rw [e2] at he
      obtain ⟨k1, k2, k3, k4⟩ := st_ok he
      have hs : stsOf (x :: l) = x :: stsOf l := by rw [sts_cons, if_pos h8]
      have ht : trsOf (x :: l) = trsOf l := by rw [trs_cons, if_neg hts]
      have hnm := ih.nm
      have hpl := ih.pl
      have htk : c'.names.take c.names.length = c.names := by rw [hnm]; simp [stAdd]
      refine ⟨by rw [hnm, hs]; simp [stAdd, nmS], by rw [ih.kn, hs]; simp [stAdd], by rw [ih.tr, ht]; rfl, ⟨hpl.1, ?_⟩, ?_, by rw [ht]; exact ih.tk, ih.nl, ih.tl, ih.va⟩
      · have h9 := congrArg (List.take c.names.length) hpl.2
        rw [List.take_take] at h9
        simp only [stAdd, List.length_append, List.length_cons, List.length_nil] at h9
        rw [show min c.names.length (c.names.length + (0 + 1)) = c.names.length by omega] at h9
        rw [h9, List.take_append_of_le_length (by rw [hf.pl]; exact Nat.le_refl _), ← hf.pl, List.take_length]
      · intro j hj
        cases j with
        | zero =>
          simp only [hs, Nat.add_zero, List.getElem_cons_zero]
          refine ⟨by rw [hnm]; simp [stAdd], by rw [ih.kn]; simp [stAdd, hf.kl.symm], ?_, by rw [htk]; exact k1, by rw [htk]; exact k3⟩
          have h9 : (c'.parents.take (stAdd c x.1).names.length)[c.names.length]? = some (idxI c.names x.1.in_) := by rw [hpl.2]; simp [stAdd, hf.pl.symm]
          rw [List.getElem?_take_of_lt (by simp [stAdd])] at h9
          rw [htk]; exact h9
        | succ j =>
          have hj2 : j < (stsOf l).length := by rw [hs] at hj; simpa using hj
          have := ih.st j hj2
          simp only [hs, List.getElem_cons_succ]
          rw [show c.names.length + (j + 1) = (stAdd c x.1).names.length + j by simp [stAdd]; omega]
          exact this
    · have e2 : stsOf (x :: l) = stsOf l := by rw [sts_cons, if_neg h8]
      by_cases ht : isTr x.1
      · have e1 : takeC sts c x.1 = trAdd sts c x.1 := by unfold takeC; rw [if_neg h8, if_pos ht]
        have e3 : takeE sts c x.1 = trErr sts c x.1 := by unfold takeE; rw [if_neg h8, if_pos ht]
        rw [e1] at ih
        rw [e3] at he
        have e4 : trsOf (x :: l) = x :: trsOf l := by rw [trs_cons, if_pos ht]
        have k := tr_ok he
        refine ⟨by rw [ih.nm, e2]; rfl, by rw [ih.kn, e2]; rfl, by rw [ih.tr, e4]; simp [trAdd], ih.pl, by rw [e2]; exact ih.st, ?_, ih.nl, ih.tl, ih.va⟩
        intro y hy
        rw [e4] at hy
        rcases List.mem_cons.1 hy with rfl | hy
        · exact ⟨k.2.1, k.2.2.1, k.2.2.2⟩
        · exact ih.tk y hy
      · have e1 : takeC sts c x.1 = c := by unfold takeC; rw [if_neg h8, if_neg ht]
        rw [e1] at ih
        have e4 : trsOf (x :: l) = trsOf l := by rw [trs_cons, if_neg ht]
        exact ⟨by rw [ih.nm, e2], by rw [ih.kn, e2], by rw [ih.tr, e4], ih.pl, by rw [e2]; exact ih.st, by rw [e4]; exact ih.tk, ih.nl, ih.tl, ih.va⟩
theorem comp_ok {l : List (Ru × Nat)} {c : Ch} (h : compL l = .ok c) : TkO (stsOf l) l {} c := take_ok _ l {} c chF_nil h
def silB (t : Tr) : Bool := t.event == [] && t.perm == [] && t.task == []
def optN (x : Tx) : Bool := x == [] || nameL x
def lablB (t : Tr) : Bool :=
  if t.kind = 9 then nameL t.event && optN t.perm && optN t.task && t.time == 0
  else if t.kind = 10 then silB t && t.time == 0
  else if t.kind = 11 then silB t && decide (1 ≤ t.time) && decide (t.time ≤ 1073741824) else false
def thereB (ks : List Int) (k : Int) : Bool := decide (0 ≤ k) && decide (k < ks.length)
def leadsB (ks : List Int) (t : Tr) : Bool := thereB ks t.from_ && thereB ks t.to_ && stayB (ks.getD t.from_.toNat 0)
def namedB (c : Ch) : Bool := c.names.length == c.kinds.length && (List.range c.names.length).all fun i => nameL (c.names.getD i []) && !(c.names.take i).any (· == c.names.getD i [])
def validB (c : Ch) : Bool := valB c.kinds c.parents && namedB c && decide (c.trans.length ≤ 48) && c.trans.all fun t => leadsB c.kinds t && lablB t
theorem comp_valid {l : List (Ru × Nat)} {c : Ch} (h : compL l = .ok c) (hl : ∀ x ∈ l, RuF x.1) : validB c = true := by
  have o := comp_ok h
  have hnm : c.names = nmS (stsOf l) := by rw [o.nm]; rfl
  have hkn : c.kinds = (stsOf l).map (·.1.n) := by rw [o.kn]; rfl
  have hsl : c.names.length = (stsOf l).length := by rw [hnm]; simp [nmS]
  unfold validB
  rw [o.va, Bool.true_and, Bool.and_eq_true, Bool.and_eq_true, decide_eq_true_eq, List.all_eq_true]
  refine ⟨⟨?_, o.tl⟩, ?_⟩
  · unfold namedB
    rw [Bool.and_eq_true, beq_iff_eq, List.all_eq_true]
    refine ⟨by rw [hnm, hkn]; simp [nmS], fun i hi => ?_⟩
    have hi := List.mem_range.1 hi
    have hj : i < (stsOf l).length := by omega
    have s := o.st i hj
    simp only [show ({} : Ch).names.length = 0 from rfl, Nat.zero_add] at s
    have hg : c.names.getD i [] = (stsOf l)[i].1.name := by rw [List.getD_eq_getElem?_getD, s.nm]; rfl
    have hm : (stsOf l)[i] ∈ l ∧ (stsOf l)[i].1.kind = 8 := by
      have := List.mem_filter.1 (List.getElem_mem hj : (stsOf l)[i] ∈ stsOf l)
      exact ⟨this.1, by simpa using this.2⟩
    rw [hg, Bool.and_eq_true, Bool.not_eq_true', List.any_eq_false]
    exact ⟨((hl _ hm.1).st hm.2).1, fun x hx e => s.nw (by rw [beq_iff_eq] at e; rw [← e]; exact hx)⟩
  · intro t ht
    rw [o.tr] at ht
    obtain ⟨x, hx, rfl⟩ : ∃ x ∈ trsOf l, trOf (stsOf l) x.1 = t := by simpa using ht
    have k := o.tk x hx
    have hm := List.mem_filter.1 hx
    have hF := hl x hm.1
    have hT : isTr x.1 := of_decide_eq_true hm.2
    have hnl : (nmS (stsOf l)).length = c.kinds.length := by rw [hkn]; simp [nmS]
    have i1 := idxI_lt (nmS (stsOf l)) x.1.from_
    have i2 := idxI_lt (nmS (stsOf l)) x.1.to_
    rw [Bool.and_eq_true]
    constructor
    · have k1 := k.1
      have k2 := k.2.1
      have k3 := k.2.2
      unfold knS at k3
      rw [← hkn] at k3
      have j1 : 0 ≤ frS (stsOf l) x.1 ∧ frS (stsOf l) x.1 < c.kinds.length := by unfold frS at *; omega
      have j2 : 0 ≤ toS (stsOf l) x.1 ∧ toS (stsOf l) x.1 < c.kinds.length := by unfold toS at *; omega
      show leadsB c.kinds ⟨x.1.kind, frS (stsOf l) x.1, toS (stsOf l) x.1, x.1.name, x.1.by_, x.1.task, x.1.n⟩ = true
      unfold leadsB thereB
      simp only [Bool.and_eq_true, decide_eq_true_eq]
      exact ⟨⟨j1, j2⟩, k3⟩
    · unfold lablB
      rcases hT with e | e | e
      · obtain ⟨a, b, d, f⟩ := hF.on e
        rw [if_pos (by exact e)]
        have hb : optN x.1.by_ = true := by unfold optN; rcases b with b | b <;> simp [b]
        have hd : optN x.1.task = true := by unfold optN; rcases d with b | b <;> simp [b]
        simp only [trOf, a, hb, hd, f]; rfl
      · obtain ⟨a, b, d, f⟩ := hF.au e
        rw [if_neg (by show ¬ x.1.kind = 9; omega), if_pos (by exact e)]
        unfold silB
        simp only [trOf, a, b, d, f]; rfl
      · obtain ⟨a, b, d, f⟩ := hF.af e
        rw [if_neg (by show ¬ x.1.kind = 9; omega), if_neg (by show ¬ x.1.kind = 10; omega), if_pos (by exact e)]
        unfold silB
        simp only [trOf, a, b, d, Bool.and_eq_true, decide_eq_true_eq]
        exact ⟨⟨by decide, f.1⟩, f.2⟩
def linesL : List UInt8 → List (List UInt8)
  | [] => [[]]
  | c :: r => if c = 10 then [] :: linesL r else match linesL r with
    | [] => [[c]]
    | a :: t => (c :: a) :: t
theorem lines_end (r : List UInt8) : linesL (10 :: r) = [] :: linesL r := by rw [linesL, if_pos rfl]
theorem lines_cons {c : UInt8} (hc : c ≠ 10) {r a : List UInt8} {t : List (List UInt8)} (h : linesL r = a :: t) : linesL (c :: r) = (c :: a) :: t := by
  rw [linesL, if_neg hc, h]
theorem lines_ne : ∀ l : List UInt8, ∃ a t, linesL l = a :: t
  | [] => ⟨_, _, rfl⟩
  | c :: r => by
    by_cases hc : c = 10
    · subst hc; exact ⟨_, _, lines_end r⟩
    · obtain ⟨a, t, h⟩ := lines_ne r
      exact ⟨_, _, lines_cons hc h⟩
theorem lines_more : ∀ a b : List UInt8, linesL (a ++ 10 :: b) = linesL a ++ linesL b
  | [], b => by rw [List.nil_append, lines_end]; rfl
  | c :: r, b => by
    have ih := lines_more r b
    by_cases hc : c = 10
    · subst hc; rw [List.cons_append, lines_end, lines_end, ih]; rfl
    · obtain ⟨a, t, h⟩ := lines_ne r
      rw [h] at ih
      rw [List.cons_append, lines_cons hc ih, lines_cons hc h]; rfl
theorem lines_plain : ∀ {l : List UInt8}, (∀ c ∈ l, c ≠ 10) → linesL l = [l]
  | [], _ => rfl
  | c :: r, h => by
    rw [lines_cons (h c List.mem_cons_self) (lines_plain fun x hx => h x (List.mem_cons_of_mem _ hx))]
theorem lines_len : ∀ l : List UInt8, (linesL l).length ≤ l.length + 1 ∧ ∀ x ∈ linesL l, x.length ≤ l.length
  | [] => ⟨by simp [linesL], by simp [linesL]⟩
  | c :: r => by
    obtain ⟨h1, h2⟩ := lines_len r
    by_cases hc : c = 10
    · subst hc
      rw [lines_end]
      exact ⟨by simp only [List.length_cons]; omega, fun x hx => by rcases List.mem_cons.1 hx with rfl | hx; · simp
                                                                    · have := h2 x hx; simp only [List.length_cons]; omega⟩
    · obtain ⟨a, t, h⟩ := lines_ne r
      rw [h] at h1 h2
      rw [lines_cons hc h]
      refine ⟨by simp only [List.length_cons] at h1 ⊢; omega, fun x hx => ?_⟩
      rcases List.mem_cons.1 hx with rfl | hx
      · have := h2 a List.mem_cons_self; simp only [List.length_cons]; omega
      · have := h2 x (List.mem_cons_of_mem _ hx); simp only [List.length_cons]; omega
inductive PolR where
  | limit
  | bad (n c : Nat) (k : Int)
  | ok (l : List (Ru × Nat))
def polL : List (List UInt8) → Nat → List (Ru × Nat) → PolR
  | [], _, acc => .ok acc
  | t :: r, n, acc => match parseL t with
    | .bad c k => .bad n c k
    | .empty => polL r (n + 1) acc
    | .ok u => if acc.length = 160 then .bad n 1 5 else polL r (n + 1) (acc ++ [(u, n)])
end Go.Proofs.YtaoinedndnleoaaGreat
namespace Go.Proofs.YtaoinedndnleoaaGreat
set_option maxRecDepth 100000
open Go.RowKit
theorem parse_nil : parseL [] = .empty := by
  have h1 : badL [] = 0 := by decide +kernel
  have h2 : partL [] = [] := by decide +kernel
  unfold parseL
  rw [h1, if_neg (by omega)]
  unfold wordsL
  rw [h1, h2, toks_nil]; rfl
def polT (s : List UInt8) : PolR := if 4096 < s.length then .limit else polL (linesL s) 1 []
end Go.Proofs.YtaoinedndnleoaaGreat
namespace Go.Proofs.YtaoinedndnleoaaGreat
set_option maxRecDepth 100000
open Go.ChangeShapes Go.WideShapes Go.ChangeAt Go.RowKit
abbrev RL := Ru × Nat × Value
def er (x : RL) : Ru × Nat := (x.1, x.2.1)
def rcell (x : RL) : List Value := [.int .i64 x.1.kind, .string (bs x.1.name), x.2.2, .int .i64 x.1.n, .int .i64 x.1.m, .string (bs x.1.from_), .string (bs x.1.to_), .string (bs x.1.by_), .string (bs x.1.task), .string (bs x.1.in_), .int .i64 x.2.1]
def rcells (l : List RL) : List Value := l.flatMap rcell
theorem rcells_snoc (l : List RL) (x : RL) : rcells (l ++ [x]) = rcells l ++ rcell x := by simp [rcells]
def RowsAt (w : World) (base : Nat) (v : Value) (acc : List RL) : Prop := w.ownsRow base 92 11 v acc.length (rcells acc) ∧ ∀ x ∈ acc, OwnL w base x.2.2 x.1.list
theorem own_base {w : World} {base base' e size n : Nat} {v : Value} {xs : List Value} (h : w.ownsRow base e size v n xs) (hb : base' ≤ base) : w.ownsRow base' e size v n xs := by
  obtain ⟨h1, h2⟩ := h
  refine ⟨h1, ?_⟩
  rcases h2 with h2 | ⟨g, cap, cur, h3, h4, h5⟩
  · exact .inl h2
  · exact .inr ⟨g, cap, cur, h3, Nat.le_trans hb h4, h5⟩
theorem RowsAt.below {w w' : World} {base : Nat} {v : Value} {acc : List RL} (h : RowsAt w base v acc) (hb : Below w.heap.size w w') (hB : base ≤ w.heap.size) : RowsAt w' base v acc :=
  ⟨own_below h.1 hb hB, fun x hx => own_below (h.2 x hx) hb hB⟩
theorem RowsAt.base {w : World} {base base' : Nat} {v : Value} {acc : List RL} (h : RowsAt w base v acc) (hB : base' ≤ base) : RowsAt w base' v acc :=
  ⟨own_base h.1 hB, fun x hx => own_base (h.2 x hx) hB⟩
theorem rows_nil (w : World) (base : Nat) : RowsAt w base (.slice none 0 0) [] := ⟨World.ownsRow_nil _ _ _ _, fun _ h => by cases h⟩
theorem own_apart {w : World} {base base' n : Nat} {L v : Value} {l : List Tx} {xs : List Value} (h : OwnL w base L l) (h' : w.ownsRow base' 92 11 v n xs) : L.ownBlock = none ∨ L.ownBlock ≠ v.ownBlock := by
  rcases h.2 with ⟨hv, _⟩ | ⟨g, cap, cur, hv, _, hg, _⟩
  · left; rw [hv]; rfl
  · right
    rcases h'.2 with ⟨hv', _⟩ | ⟨g', cap', cur', hv', _, hg', _⟩
    · rw [hv, hv']; simp [Value.ownBlock]
    · rw [hv, hv']
      intro e
      have e2 : g = g' := by simpa [Value.ownBlock] using e
      subst e2
      rw [hg] at hg'
      simp at hg'
theorem Tryz.infoRule : (Tryz.prog.info? 92).map (fun i => (i.zero, i.size, i.bytes)) = some (some (.agg #[.int .i64 0, .string ⟨#[]⟩, .slice none 0 0, .int .i64 0, .int .i64 0, .string ⟨#[]⟩, .string ⟨#[]⟩, .string ⟨#[]⟩, .string ⟨#[]⟩, .string ⟨#[]⟩, .int .i64 0]), 11, 152) := by kernel_rfl
def KAt (w : World) (A : Option Addr) (ks : List Int) : Prop := ∀ j (h : j < ks.length), ∃ b, A = some ⟨b, 0, none⟩ ∧ b < w.heap.size ∧ w.cell? ⟨b, j, none⟩ = some (.int .i64 ks[j])
theorem KAt.below {w w' : World} {A : Option Addr} {ks : List Int} (h : KAt w A ks) (hb : Below w.heap.size w w') : KAt w' A ks := fun j hj =>
  let ⟨b, e, hl, hc⟩ := h j hj
  ⟨b, e, Nat.lt_of_lt_of_le hl hb.size, (hb.cell (p := ⟨b, j, none⟩) hl).trans hc⟩
theorem rcell_len (x : RL) : (rcell x).length = 11 := rfl
theorem rcells_at : ∀ (acc : List RL) (j f : Nat) (h : j < acc.length), f < 11 → (rcells acc)[j * 11 + f]? = (rcell acc[j])[f]?
  | x :: r, 0, f, _, hf => by
    show (rcell x ++ rcells r)[_]? = _
    rw [List.getElem?_append_left (by rw [rcell_len]; omega)]; simp
  | x :: r, j + 1, f, h, hf => by
    show (rcell x ++ rcells r)[_]? = _
    rw [List.getElem?_append_right (by rw [rcell_len]; omega), rcell_len, show (j + 1) * 11 + f - 11 = j * 11 + f by omega]
    exact rcells_at r j f (by simpa using h) hf
def RIn (w : World) (A : Option Addr) (acc : List RL) : Prop := ∀ j (h : j < acc.length), ∃ g, A = some ⟨g, 0, none⟩ ∧ g < w.heap.size ∧ (∀ f u, f < 11 → (rcell acc[j])[f]? = some u → w.cell? ⟨g, j * 11 + f, none⟩ = some u) ∧
  ∃ B c, acc[j].2.2 = .slice B acc[j].1.list.length c ∧ ListAt w B c acc[j].1.list
theorem RIn.below {w w' : World} {A : Option Addr} {acc : List RL} (h : RIn w A acc) (hb : Below w.heap.size w w') : RIn w' A acc := fun j hj =>
  let ⟨g, e, hl, hc, B, c, e2, hL⟩ := h j hj
  ⟨g, e, Nat.lt_of_lt_of_le hl hb.size, fun f u hf hu => (hb.cell (p := ⟨g, j * 11 + f, none⟩) hl).trans (hc f u hf hu), B, c, e2, hL.below hb⟩
theorem rIn_of {w : World} {base cap : Nat} {A : Option Addr} {acc : List RL} (h : RowsAt w base (.slice A acc.length cap) acc) : RIn w A acc := fun j hj => by
  obtain ⟨g, cap', e, _, hl, _, hc⟩ := own_form h.1 (by omega)
  have eA : A = some ⟨g, 0, none⟩ := by injection e
  obtain ⟨B, c, e2⟩ := own_slice (h.2 acc[j] (List.getElem_mem hj))
  refine ⟨g, eA, hl, fun f u hf hu => hc _ _ (by rw [rcells_at acc j f hj hf]; exact hu), B, c, e2, ?_⟩
  have ho := h.2 acc[j] (List.getElem_mem hj)
  rw [e2] at ho
  exact listAt_of ho
theorem pol_all (ls : List Tx) : (∀ t ∈ ls, t.length ≤ 4096) → ∀ (n : Nat) (acc l : List (Ru × Nat)), (∀ x ∈ acc, RuOk x.1) → acc.length ≤ 160 → polL ls n acc = .ok l → (∀ x ∈ l, RuOk x.1) ∧ l.length ≤ 160 := by
  induction ls with
  | nil =>
    intro _ n acc l ha hl h
    rw [polL] at h
    cases h
    exact ⟨ha, hl⟩
  | cons t r ih =>
    intro hle n acc l ha hl h
    rw [polL] at h
    cases hp : parseL t with
    | bad c k => rw [hp] at h; cases h
    | empty => rw [hp] at h; exact ih (fun x hx => hle x (List.mem_cons_of_mem _ hx)) _ _ _ ha hl h
    | ok u =>
      rw [hp] at h
      simp only at h
      split at h
      · cases h
      · rename_i h160
        refine ih (fun x hx => hle x (List.mem_cons_of_mem _ hx)) _ _ _ ?_ (by simp; omega) h
        intro x hx
        rcases List.mem_append.1 hx with hx | hx
        · exact ha x hx
        · rw [List.mem_singleton.1 hx]; exact ru_ok hp (hle t List.mem_cons_self)
theorem polT_all {s : List UInt8} {l : List (Ru × Nat)} (h : polT s = .ok l) : (∀ x ∈ l, RuOk x.1) ∧ l.length ≤ 160 := by
  unfold polT at h
  split at h
  · cases h
  · rename_i hs
    exact pol_all _ (fun t ht => by have := (lines_len s).2 t ht; omega) 1 [] l (fun x hx => by cases hx) (by simp) h
theorem box_0 (w : World) (t : TypeId) (u v : Value) : (w.alloc (.cells #[u, v] t)).cell? ⟨w.heap.size, 0, none⟩ = some u := by rw [cell_of_row _ _ _ _ _ _ (heap_alloc_new w _)]; rfl
theorem box_1 (w : World) (t : TypeId) (u v : Value) : (w.alloc (.cells #[u, v] t)).cell? ⟨w.heap.size, 1, none⟩ = some v := by rw [cell_of_row _ _ _ _ _ _ (heap_alloc_new w _)]; rfl
theorem box_b (w : World) (o : Obj) : Below w.heap.size w (w.alloc o) := (Below.refl _ _).alloc (Nat.le_refl _) _
theorem box_x {w : World} {b off : Nat} {v : Value} (o : Obj) (hb : b < w.heap.size) (hx : w.cell? ⟨b, off, none⟩ = some v) : (w.alloc o).cell? ⟨b, off, none⟩ = some v := (World.cell?_alloc_lt _ _ _ hb).trans hx
theorem ints_cell {w : World} {A : Option Addr} {n c : Nat} {zs : List Int} (h : IntsAt w (.slice A n c) zs) {k : Nat} (hk : k < zs.length) : ∃ b off, A = some ⟨b, off, none⟩ ∧ b < w.heap.size ∧ w.cell? ⟨b, off + k, none⟩ = some (.int .i64 (zs.getD k 0)) ∧ (Lit.int .i64 (zs.getD k 0)).wf = true := by
  obtain ⟨A', c', e, hl, hc⟩ := h
  obtain ⟨b, off, e2, hb, hx, hw⟩ := hc k hk
  injection e with e1 _ _
  subst e1
  have e3 : zs.getD k 0 = zs[k] := by simp [List.getD_eq_getElem?_getD, List.getElem?_eq_getElem hk]
  rw [e3]
  exact ⟨b, off, e2, hb, hx, hw⟩
theorem size_any (t : TypeId) (A B : Option Addr) (n c m d : Nat) (w : World) (hn : n ≤ 1000) (hm : m ≤ 1000) :
    Calls Tryz.prog 53 #[.agg #[.slice A n c, .slice B m d]] w fun e w' => e = .returned (.int .i64 (min n m : Nat)) ∧ Below w.heap.size w w' := by
  have x0 := box_0 w 27 (.slice A n c) (.slice B m d)
  have x1 := box_1 w 27 (.slice A n c) (.slice B m d)
  have HZ := Lib.hid (box_b w (.cells #[.slice A n c, .slice B m d] 27))
  have HM : Hid (min (n : Int) m = ((min n m : Nat) : Int)) := by show _ = _; omega
  go_enter Tryz.func53, Tryz.ntmps53
  go_wp2
  all_goals
    go_ret
    exact ⟨ret_int (by omega), HZ.out⟩
theorem holds_any (ks : List Int) (A B : Option Addr) (n c m d k : Nat) (w : World) (h : IntsAt w (.slice A n c) ks) (hn : n = ks.length) (hk : k < n) (hk2 : k < 1000) :
    Calls Tryz.prog 87 #[.agg #[.slice A n c, .slice B m d], .int .i64 k] w fun e w' => e = .returned (.bool (hl ks k)) ∧ Below w.heap.size w w' := by
  obtain ⟨b, off, rfl, hb, hx, hw⟩ := ints_cell h (k := k) (by omega)
  have x0 := box_0 w 27 (.slice (some ⟨b, off, none⟩) n c) (.slice B m d)
  have x1 := box_1 w 27 (.slice (some ⟨b, off, none⟩) n c) (.slice B m d)
  have x2 := box_x (.cells #[.slice (some ⟨b, off, none⟩) n c, .slice B m d] 27) hb hx
  have HZ := Lib.hid (box_b w (.cells #[.slice (some ⟨b, off, none⟩) n c, .slice B m d] 27))
  have HV : Hid (hl ks k = (ks.getD k 0 == 1 || ks.getD k 0 == 2)) := rfl
  have hki : (k : Int) < n := by omega
  clear hx h hn hw
  generalize ks.getD k 0 = z at *
  rcases bor_cases (a := z == 1) with g | g
  · have HV2 : Hid (hl ks k = true) := by show _ = _; rw [HV.out, g]; rfl
    clear HV
    go_enter Tryz.func87, Tryz.ntmps87
    go_wp2
    go_ret
    exact ⟨ret_bool HV2.out.symm, HZ.out⟩
  · have HV2 : Hid (hl ks k = (z == 2)) := by show _ = _; rw [HV.out, g]; rfl
    clear HV
    go_enter Tryz.func87, Tryz.ntmps87
    go_wp2
    go_ret
    exact ⟨ret_bool HV2.out.symm, HZ.out⟩
theorem parent_any (ps : List Int) (A B : Option Addr) (n c m d k : Nat) (w : World) (h : IntsAt w (.slice B m d) ps) (hm : m = ps.length) (hk : k < m) (hk2 : k < 1000) :
    Calls Tryz.prog 83 #[.agg #[.slice A n c, .slice B m d], .int .i64 k] w fun e w' => e = .returned (.int .i64 (par ps k)) ∧ Below w.heap.size w w' := by
  obtain ⟨b, off, rfl, hb, hx, hw⟩ := ints_cell h (k := k) (by omega)
  have x0 := box_0 w 27 (.slice A n c) (.slice (some ⟨b, off, none⟩) m d)
  have x1 := box_1 w 27 (.slice A n c) (.slice (some ⟨b, off, none⟩) m d)
  have x2 := box_x (.cells #[.slice A n c, .slice (some ⟨b, off, none⟩) m d] 27) hb hx
  have HZ := Lib.hid (box_b w (.cells #[.slice A n c, .slice (some ⟨b, off, none⟩) m d] 27))
  have HV : Hid (par ps k = min (ps.getD k 0) ((k : Int) - 1)) := rfl
  have hki : (k : Int) < m := by omega
  clear hx h hm hw
  generalize ps.getD k 0 = z at *
  go_enter Tryz.func83, Tryz.ntmps83
  go_wp2
  all_goals
    go_ret
    exact ⟨ret_int (by have := HV.out; omega), HZ.out⟩
theorem shp_below {w w' : World} {u v : Value} {ks ps : List Int} (h : IntsAt w u ks ∧ IntsAt w v ps) (hb : Below w.heap.size w w') : IntsAt w' u ks ∧ IntsAt w' v ps := ⟨h.1.below hb, h.2.below hb⟩
theorem two_lt {k : Nat} (h : k < 32) : 2 ^ k < 4294967296 := Nat.pow_lt_pow_right (a := 2) (by omega) h
theorem two_val {i : Nat} (h : i < 32) : (2 : Int) ^ i % 4294967296 = ((2 ^ i : Nat) : Int) := by
  have := two_lt h
  have e : (2 : Int) ^ i = ((2 ^ i : Nat) : Int) := by norm_cast
  rw [e]; exact Int.emod_eq_of_lt (Int.natCast_nonneg _) (Int.ofNat_lt.2 this)
theorem own_none {w : World} {base e size n n' c : Nat} {xs : List Value} (h : w.ownsRow base e size (.slice none n' c) n xs) : n = 0 ∧ c = 0 := by
  rcases h.2 with ⟨hv, h0⟩ | ⟨g, cap', cur, hv, _⟩
  · injection hv with _ _ hc; exact ⟨h0, hc⟩
  · injection hv with e; cases e
theorem own_some {w : World} {base e size n n' c : Nat} {a : Addr} {xs : List Value} (h : w.ownsRow base e size (.slice (some a) n' c) n xs) : ∃ g, a = ⟨g, 0, none⟩ := by
  rcases h.2 with ⟨hv, h0⟩ | ⟨g, cap', cur, hv, _⟩
  · injection hv with e; cases e
  · injection hv with e; exact ⟨g, Option.some.inj e⟩
end Go.Proofs.YtaoinedndnleoaaGreat
