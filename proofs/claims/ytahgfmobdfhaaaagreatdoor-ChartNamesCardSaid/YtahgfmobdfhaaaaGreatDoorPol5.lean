/-
  States in one another: plain, no program in it.
-/
import Derived.Lib.BitFns
import Derived.Test.YtahgfmobdfhaaaaGreatDoorIdx
import Derived.Test.YtahgfmobdfhaaaaGreatDoorOkP
import Derived.Lib.SplitLaws
import Derived.Test.YtahgfmobdfhaaaaGreatDoorSameL
import Derived.OwnWalk
import Derived.Test.YtahgfmobdfhaaaaGreatDoorShelf2
import Derived.Test.YtahgfmobdfhaaaaGreatDoorPrint2
import Derived.Deep.DeepMust
namespace Go.Proofs.YtahgfmobdfhaaaaGreatDoor
set_option maxRecDepth 100000

/-- a state that may be in, and may hold states -/
def hl (ks : List Int) (i : Nat) : Bool := ks.getD i 0 == 1 || ks.getD i 0 == 2
def szN (ks ps : List Int) : Nat := min ks.length ps.length
/-- is a state one of another's (-1: the top's), and may it be in? -/
def isKid (ks ps : List Int) (a : Int) (k : Nat) : Bool := ps.getD k 0 == a && hl ks k
def kidsTo (ps : List Int) (a : Int) : Nat → List Nat
  | 0 => []
  | k + 1 => if ps.getD k 0 = a then kidsTo ps a k ++ [k] else kidsTo ps a k
theorem kidsTo_len (ps : List Int) (a : Int) : ∀ n, (kidsTo ps a n).length ≤ n
  | 0 => Nat.le_refl _
  | n + 1 => by
    have := kidsTo_len ps a n
    unfold kidsTo
    split
    · rw [List.length_append, List.length_singleton]; omega
    · omega
/-- the first state of another (-1: none) -/
def iniTo (ks ps : List Int) (a : Int) (n : Nat) : Int := match (List.range n).find? (isKid ks ps a) with
  | some k => k
  | none => -1
theorem ini_hit {ks ps : List Int} {a : Int} {n k : Nat} (hk : k < n) (h : isKid ks ps a k = true) (hn : ∀ j, j < k → isKid ks ps a j = false) : iniTo ks ps a n = k := by
  unfold iniTo
  have : (List.range n).find? (isKid ks ps a) = some k := by
    rw [List.find?_range_eq_some]
    exact ⟨h, List.mem_range.2 hk, fun j hj => by simp [hn j hj]⟩
  rw [this]
theorem ini_miss {ks ps : List Int} {a : Int} {n : Nat} (hn : ∀ j, j < n → isKid ks ps a j = false) : iniTo ks ps a n = -1 := by
  unfold iniTo
  have : (List.range n).find? (isKid ks ps a) = none := by
    rw [List.find?_eq_none]
    intro j hj
    simp [hn j (List.mem_range.1 hj)]
  rw [this]
/-- does a state fit into what stands ahead of it? -/
def fitS (ks ps : List Int) (k : Nat) : Bool :=
  !(decide (ks.getD k 0 < 1) || decide (4 < ks.getD k 0) || decide (ps.getD k 0 < -1) || decide ((k : Int) ≤ ps.getD k 0)) &&
    (if hl ks k then decide (ps.getD k 0 < 0) || hl ks (ps.getD k 0).toNat else decide (0 ≤ ps.getD k 0) && ks.getD (ps.getD k 0).toNat 0 == 1)
/-- has a place a first state, if it has any? -/
def iniB (ks ps : List Int) (a : Int) : Bool := !(decide (0 < (kidsTo ps a (szN ks ps)).length) && decide (iniTo ks ps a (szN ks ps) < 0))
def valB (ks ps : List Int) : Bool :=
  ks.length == ps.length && decide (1 ≤ ks.length) && decide (ks.length ≤ 24) && (List.range ks.length).all (fitS ks ps) && (List.range (ks.length + 1)).all fun i => iniB ks ps ((i : Int) - 1)
end Go.Proofs.YtahgfmobdfhaaaaGreatDoor
/-
  Rules as a chart, plainly: what is read of states and transitions; what the rules of a chart are like.
-/
namespace Go.Proofs.YtahgfmobdfhaaaaGreatDoor
set_option maxRecDepth 100000

/-! ### what a rule that was read has -/
theorem nameR_ok {T : List Tx} {s : Nat × Bool} (h : (nameR T s).2.2 = false) : nameL (nameR T s).1 = true := by
  unfold nameR at h ⊢
  split
  · assumption
  · rename_i hc; rw [if_neg hc] at h; cases h
theorem optR_ok {T : List Tx} {x : Tx} {s : Nat × Bool} (h : (optR T x s).2.2 = false) : (optR T x s).1 = [] ∨ nameL (optR T x s).1 = true := by
  unfold optR at h ⊢
  split
  · rename_i hc; rw [if_pos hc] at h; exact .inr (nameR_ok h)
  · exact .inl rfl
theorem posR_up (x : Tx) : ∀ (l : List Tx) (i : Nat), posR l x i = 0 ∨ ((i : Int) < posR l x i ∧ posR l x i ≤ (i : Int) + l.length)
  | [], i => .inl rfl
  | a :: r, i => by
    have ih := posR_up x r (i + 1)
    simp only [posR, List.length_cons]
    split
    · right; omega
    · rcases ih with h | h
      · exact .inl h
      · right; omega
/-- the fields of a rule of a chart -/
structure RuF (r : Ru) : Prop where
  kd : 1 ≤ r.kind ∧ r.kind ≤ 11
  st : r.kind = 8 → nameL r.name = true ∧ 1 ≤ r.n ∧ r.n ≤ 4
  on : r.kind = 9 → nameL r.name = true ∧ (r.by_ = [] ∨ nameL r.by_ = true) ∧ (r.task = [] ∨ nameL r.task = true) ∧ r.n = 0
  au : r.kind = 10 → r.name = [] ∧ r.by_ = [] ∧ r.task = [] ∧ r.n = 0
  af : r.kind = 11 → r.name = [] ∧ r.by_ = [] ∧ r.task = [] ∧ 1 ≤ r.n ∧ r.n ≤ 1073741824
theorem parse_fields {L : Tx} {r : Ru} (h : parseL L = .ok r) : RuF r := by
  unfold parseL at h
  split at h
  · cases h
  split at h
  · cases h
  rename_i _ hw
  have h0 : 0 < (wordsL L).length := List.length_pos_iff.2 hw
  obtain ⟨a1, a2⟩ := parseW_at (fun x hx => (words_bounds L x hx).1) h0
  have hA : AccR (tx (wordsL L)) := by
    by_cases hA : AccR (tx (wordsL L))
    · exact hA
    · obtain ⟨c, k, e⟩ := a2 hA
      rw [e] at h; cases h
  rw [a1 hA] at h
  injection h with h
  generalize tx (wordsL L) = T at *
  have hm := hA.2.1
  have hk := hA.1
  have hok := hA.2.2
  rcases kd_at T with ⟨_, h2⟩ | ⟨h2, h3, _, h4⟩
  · have := (read_at T).1; rw [hm, h2] at this; cases this
  have hrd : readR T = bodyR T (kdR T) (1, false) := by unfold readR; rw [if_neg (by omega)]
  rw [hrd] at h hm hk hok
  obtain ⟨hkd, _⟩ := list_at h4 (kdR T) hm hk
  generalize kdR T = kd at *
  subst h
  have hwr : wrongK (bodyR T kd (1, false)).1.kind (bodyR T kd (1, false)).1.n (bodyR T kd (1, false)).1.m (bodyR T kd (1, false)).1.list.length = 0 := by
    unfold okB at hok
    rw [Bool.and_eq_true] at hok
    exact of_decide_eq_true hok.1
  rw [hkd] at hwr
  refine ⟨by omega, ?_, ?_, ?_, ?_⟩
  · rw [hkd]; intro e; subst e
    have hm8 : (optR T [105, 110] (skR T (nameR T (1, false)).2)).2.2 = false := hm
    have hs := optR_m hm8
    have hn : (bodyR T 8 (1, false)).1.n = posR stateR (nx T (nameR T (1, false)).2.1 (nameR T (1, false)).2.2) 0 := rfl
    refine ⟨nameR_ok (skR_m hs), ?_⟩
    rw [hn]
    unfold skR at hs
    split at hs
    · cases hs
    · rename_i hp
      rcases posR_up (nx T (nameR T (1, false)).2.1 (nameR T (1, false)).2.2) stateR 0 with h9 | h9
      · exact absurd h9 hp
      · rw [show stateR.length = 4 from rfl] at h9; omega
  · rw [hkd]; intro e; subst e
    have hm9 : (optR T [116, 97, 115, 107] (optR T [98, 121] (fromToR T (nameR T (1, false)).2).2.2).2).2.2 = false := hm
    have h1 := optR_m hm9
    have h2 := optR_m h1
    have h3 := fromToR_m h2
    exact ⟨nameR_ok h3, optR_ok h1, optR_ok hm9, rfl⟩
  · rw [hkd]; intro e; subst e; exact ⟨rfl, rfl, rfl, rfl⟩
  · rw [hkd]; intro e; subst e
    refine ⟨rfl, rfl, rfl, ?_⟩
    unfold wrongK at hwr
    simp only [reduceIte, Int.reduceEq, or_self] at hwr
    split at hwr
    · cases hwr
    · omega

/-! ### the chart -/
structure Tr where
  kind : Int
  from_ : Int
  to_ : Int
  event : Tx
  perm : Tx
  task : Tx
  time : Int
deriving DecidableEq
structure Ch where
  names : List Tx := []
  kinds : List Int := []
  parents : List Int := []
  trans : List Tr := []
def stayB (k : Int) : Bool := k == 1 || k == 2
/-- may a state of a kind stand in another one (-1: in none)? -/
def standB (ks : List Int) (kind p : Int) : Bool := if stayB kind then p == -1 || stayB (ks.getD p.toNat 0) else p != -1 && ks.getD p.toNat 0 == 1
def stErr (c : Ch) (r : Ru) : Int :=
  if r.name ∈ c.names then 4 else if 24 ≤ c.names.length then 5 else if r.in_ ≠ [] ∧ idxI c.names r.in_ = -1 then 3
  else if standB c.kinds r.n (idxI c.names r.in_) = false then 1 else 0
def stAdd (c : Ch) (r : Ru) : Ch := { c with names := c.names ++ [r.name], kinds := c.kinds ++ [r.n], parents := c.parents ++ [idxI c.names r.in_] }
def nmS (sts : List (Ru × Nat)) : List Tx := sts.map (·.1.name)
def frS (sts : List (Ru × Nat)) (r : Ru) : Int := idxI (nmS sts) r.from_
def toS (sts : List (Ru × Nat)) (r : Ru) : Int := idxI (nmS sts) r.to_
def knS (sts : List (Ru × Nat)) (k : Int) : Int := (sts.map (·.1.n)).getD k.toNat 0
def trErr (sts : List (Ru × Nat)) (c : Ch) (r : Ru) : Int :=
  if 48 ≤ c.trans.length then 5 else if frS sts r = -1 ∨ toS sts r = -1 then 3 else if stayB (knS sts (frS sts r)) = false then 1 else 0
def trOf (sts : List (Ru × Nat)) (r : Ru) : Tr := ⟨r.kind, frS sts r, toS sts r, r.name, r.by_, r.task, r.n⟩
def trAdd (sts : List (Ru × Nat)) (c : Ch) (r : Ru) : Ch := { c with trans := c.trans ++ [trOf sts r] }
def isTr (r : Ru) : Prop := r.kind = 9 ∨ r.kind = 10 ∨ r.kind = 11
instance (r : Ru) : Decidable (isTr r) := inferInstanceAs (Decidable (_ ∨ _))
/-- a rule taken: an error's number (0: none), the chart -/
def takeE (sts : List (Ru × Nat)) (c : Ch) (r : Ru) : Int := if r.kind = 8 then stErr c r else if isTr r then trErr sts c r else 0
def takeC (sts : List (Ru × Nat)) (c : Ch) (r : Ru) : Ch := if r.kind = 8 then stAdd c r else if isTr r then trAdd sts c r else c
inductive ChR where
  | arg
  | bad (line : Nat) (code : Int)
  | none
  | ok (c : Ch)
def takeL (sts : List (Ru × Nat)) : List (Ru × Nat) → Ch → ChR
  | [], c => if valB c.kinds c.parents = true then .ok c else .none
  | x :: l, c => if takeE sts c x.1 = 0 then takeL sts l (takeC sts c x.1) else .bad x.2 (takeE sts c x.1)
def stsOf (l : List (Ru × Nat)) : List (Ru × Nat) := l.filter fun x => decide (x.1.kind ∈ [(8 : Int)])
/-- rules that all have a line, as a chart -/
def compL (l : List (Ru × Nat)) : ChR := takeL (stsOf l) l {}
end Go.Proofs.YtahgfmobdfhaaaaGreatDoor
/-
  What the chart of some rules is like, plainly.
-/
namespace Go.Proofs.YtahgfmobdfhaaaaGreatDoor
set_option maxRecDepth 100000

def trsOf (l : List (Ru × Nat)) : List (Ru × Nat) := l.filter fun x => decide (isTr x.1)
/-- lists of one length, not too many of them -/
structure ChF (c : Ch) : Prop where
  kl : c.kinds.length = c.names.length
  pl : c.parents.length = c.names.length
  nl : c.names.length ≤ 24
  tl : c.trans.length ≤ 48
theorem chF_nil : ChF {} := ⟨rfl, rfl, by decide, by decide⟩
theorem idxI_lt (l : List Tx) (x : Tx) : -1 ≤ idxI l x ∧ idxI l x < l.length := by
  unfold idxI
  split
  · rename_i h; have := List.idxOf_lt_length_of_mem h; omega
  · omega
theorem idxI_mem {l : List Tx} {x : Tx} (h : idxI l x ≠ -1) : x ∈ l ∧ l[(idxI l x).toNat]? = some x := by
  unfold idxI at h ⊢
  split
  · rename_i hm
    refine ⟨hm, ?_⟩
    have hl := List.idxOf_lt_length_of_mem hm
    rw [Int.toNat_natCast, List.getElem?_eq_getElem hl, List.getElem_idxOf]
  · rename_i hm; rw [if_neg hm] at h; exact absurd rfl h
theorem st_ok {c : Ch} {r : Ru} (h : stErr c r = 0) : r.name ∉ c.names ∧ c.names.length < 24 ∧ (r.in_ = [] ∨ idxI c.names r.in_ ≠ -1) ∧ standB c.kinds r.n (idxI c.names r.in_) = true := by
  unfold stErr at h
  split at h
  · cases h
  rename_i h1
  split at h
  · cases h
  rename_i h2
  split at h
  · cases h
  rename_i h3
  split at h
  · cases h
  rename_i h4
  refine ⟨h1, by omega, ?_, by simpa using h4⟩
  by_cases e : r.in_ = []
  · exact .inl e
  · exact .inr fun h9 => h3 ⟨e, h9⟩
theorem tr_ok {sts : List (Ru × Nat)} {c : Ch} {r : Ru} (h : trErr sts c r = 0) : c.trans.length < 48 ∧ frS sts r ≠ -1 ∧ toS sts r ≠ -1 ∧ stayB (knS sts (frS sts r)) = true := by
  unfold trErr at h
  split at h
  · cases h
  rename_i h1
  split at h
  · cases h
  rename_i h2
  split at h
  · cases h
  rename_i h3
  exact ⟨by omega, fun e => h2 (.inl e), fun e => h2 (.inr e), by simpa using h3⟩
theorem take_f {sts : List (Ru × Nat)} {c : Ch} {r : Ru} (hf : ChF c) (h : takeE sts c r = 0) : ChF (takeC sts c r) := by
  unfold takeE at h
  unfold takeC
  split at h
  · rename_i h8
    rw [if_pos h8]
    obtain ⟨_, h2, _⟩ := st_ok h
    have := hf.kl; have := hf.pl; have := hf.tl
    exact ⟨by simp [stAdd]; omega, by simp [stAdd]; omega, by simp [stAdd]; omega, by simpa [stAdd]⟩
  · rename_i h8
    rw [if_neg h8]
    split at h
    · rename_i ht
      rw [if_pos ht]
      obtain ⟨h1, _⟩ := tr_ok h
      exact ⟨hf.kl, hf.pl, hf.nl, by simp [trAdd]; omega⟩
    · rename_i ht; rw [if_neg ht]; exact hf
/-- a state that was taken at its place -/
structure StAt8 (c : Ch) (j : Nat) (r : Ru) : Prop where
  nm : c.names[j]? = some r.name
  kn : c.kinds[j]? = some r.n
  pa : c.parents[j]? = some (idxI (c.names.take j) r.in_)
  nw : r.name ∉ c.names.take j
  ni : r.in_ = [] ∨ idxI (c.names.take j) r.in_ ≠ -1
theorem sts_cons (x : Ru × Nat) (l : List (Ru × Nat)) : stsOf (x :: l) = if x.1.kind = 8 then x :: stsOf l else stsOf l := by
  unfold stsOf
  rw [List.filter_cons]
  by_cases h : x.1.kind = 8
  · rw [if_pos (by simp [h]), if_pos h]
  · rw [if_neg (by simp [h]), if_neg h]
theorem trs_cons (x : Ru × Nat) (l : List (Ru × Nat)) : trsOf (x :: l) = if isTr x.1 then x :: trsOf l else trsOf l := by
  unfold trsOf
  rw [List.filter_cons]
  by_cases h : isTr x.1
  · rw [if_pos (by simp [h]), if_pos h]
  · rw [if_neg (by simp [h]), if_neg h]
/-- what is taken of rules that make a chart -/
structure TkO (sts : List (Ru × Nat)) (l : List (Ru × Nat)) (c c' : Ch) : Prop where
  nm : c'.names = c.names ++ nmS (stsOf l)
  kn : c'.kinds = c.kinds ++ (stsOf l).map (·.1.n)
  tr : c'.trans = c.trans ++ (trsOf l).map fun x => trOf sts x.1
  pl : c'.parents.length = c'.names.length ∧ c'.parents.take c.names.length = c.parents
  st : ∀ j (h : j < (stsOf l).length), StAt8 c' (c.names.length + j) (stsOf l)[j].1
  tk : ∀ x ∈ trsOf l, frS sts x.1 ≠ -1 ∧ toS sts x.1 ≠ -1 ∧ stayB (knS sts (frS sts x.1)) = true
  nl : c'.names.length ≤ 24
  tl : c'.trans.length ≤ 48
  va : valB c'.kinds c'.parents = true
theorem take_ok (sts : List (Ru × Nat)) : ∀ (l : List (Ru × Nat)) (c c' : Ch), ChF c → takeL sts l c = .ok c' → TkO sts l c c'
  | [], c, c', hf, h => by
    rw [takeL] at h
    split at h
    · rename_i hv
      injection h with h
      subst h
      refine ⟨by simp [stsOf, nmS], by simp [stsOf], by simp [trsOf], ⟨hf.pl, by rw [← hf.pl, List.take_length]⟩, fun j h => by simp [stsOf] at h, fun x hx => by simp [trsOf] at hx, hf.nl, hf.tl, hv⟩
    · cases h
  | x :: l, c, c', hf, h => by
    rw [takeL] at h
    split at h
    rotate_left
    · cases h
    rename_i he
    have hf2 := take_f hf he
    have ih := take_ok sts l _ c' hf2 h
    by_cases h8 : x.1.kind = 8
    · have hts : ¬ isTr x.1 := by unfold isTr; omega
      have e1 : takeC sts c x.1 = stAdd c x.1 := by unfold takeC; rw [if_pos h8]
      have e2 : takeE sts c x.1 = stErr c x.1 := by unfold takeE; rw [if_pos h8]
      rw [e1] at ih hf2
      rw [e2] at he
      obtain ⟨k1, k2, k3, k4⟩ := st_ok he
      have hs : stsOf (x :: l) = x :: stsOf l := by rw [sts_cons, if_pos h8]
      have ht : trsOf (x :: l) = trsOf l := by rw [trs_cons, if_neg hts]
      have hnm := ih.nm
      have hpl := ih.pl
      have htk : c'.names.take c.names.length = c.names := by rw [hnm]; simp [stAdd]
      refine ⟨by rw [hnm, hs]; simp [stAdd, nmS], by rw [ih.kn, hs]; simp [stAdd], by rw [ih.tr, ht]; rfl, ⟨hpl.1, ?_⟩, ?_, by rw [ht]; exact ih.tk, ih.nl, ih.tl, ih.va⟩
      · have h9 := congrArg (List.take c.names.length) hpl.2
        rw [List.take_take] at h9
        simp only [stAdd, List.length_append, List.length_cons, List.length_nil] at h9
        rw [show min c.names.length (c.names.length + (0 + 1)) = c.names.length by omega] at h9
        rw [h9, List.take_append_of_le_length (by rw [hf.pl]; exact Nat.le_refl _), ← hf.pl, List.take_length]
      · intro j hj
        cases j with
        | zero =>
          simp only [hs, Nat.add_zero, List.getElem_cons_zero]
          refine ⟨by rw [hnm]; simp [stAdd], by rw [ih.kn]; simp [stAdd, hf.kl.symm], ?_, by rw [htk]; exact k1, by rw [htk]; exact k3⟩
          have h9 : (c'.parents.take (stAdd c x.1).names.length)[c.names.length]? = some (idxI c.names x.1.in_) := by rw [hpl.2]; simp [stAdd, hf.pl.symm]
          rw [List.getElem?_take_of_lt (by simp [stAdd])] at h9
          rw [htk]; exact h9
        | succ j =>
          have hj2 : j < (stsOf l).length := by rw [hs] at hj; simpa using hj
          have := ih.st j hj2
          simp only [hs, List.getElem_cons_succ]
          rw [show c.names.length + (j + 1) = (stAdd c x.1).names.length + j by simp [stAdd]; omega]
          exact this
    · have e2 : stsOf (x :: l) = stsOf l := by rw [sts_cons, if_neg h8]
      by_cases ht : isTr x.1
      · have e1 : takeC sts c x.1 = trAdd sts c x.1 := by unfold takeC; rw [if_neg h8, if_pos ht]
        have e3 : takeE sts c x.1 = trErr sts c x.1 := by unfold takeE; rw [if_neg h8, if_pos ht]
        rw [e1] at ih
        rw [e3] at he
        have e4 : trsOf (x :: l) = x :: trsOf l := by rw [trs_cons, if_pos ht]
        have k := tr_ok he
        refine ⟨by rw [ih.nm, e2]; rfl, by rw [ih.kn, e2]; rfl, by rw [ih.tr, e4]; simp [trAdd], ih.pl, by rw [e2]; exact ih.st, ?_, ih.nl, ih.tl, ih.va⟩
        intro y hy
        rw [e4] at hy
        rcases List.mem_cons.1 hy with rfl | hy
        · exact ⟨k.2.1, k.2.2.1, k.2.2.2⟩
        · exact ih.tk y hy
      · have e1 : takeC sts c x.1 = c := by unfold takeC; rw [if_neg h8, if_neg ht]
        rw [e1] at ih
        have e4 : trsOf (x :: l) = trsOf l := by rw [trs_cons, if_neg ht]
        exact ⟨by rw [ih.nm, e2], by rw [ih.kn, e2], by rw [ih.tr, e4], ih.pl, by rw [e2]; exact ih.st, by rw [e4]; exact ih.tk, ih.nl, ih.tl, ih.va⟩
theorem comp_ok {l : List (Ru × Nat)} {c : Ch} (h : compL l = .ok c) : TkO (stsOf l) l {} c := take_ok _ l {} c chF_nil h

/-! ### a chart that is valid -/
def silB (t : Tr) : Bool := t.event == [] && t.perm == [] && t.task == []
def optN (x : Tx) : Bool := x == [] || nameL x
def lablB (t : Tr) : Bool :=
  if t.kind = 9 then nameL t.event && optN t.perm && optN t.task && t.time == 0
  else if t.kind = 10 then silB t && t.time == 0
  else if t.kind = 11 then silB t && decide (1 ≤ t.time) && decide (t.time ≤ 1073741824) else false
def thereB (ks : List Int) (k : Int) : Bool := decide (0 ≤ k) && decide (k < ks.length)
def leadsB (ks : List Int) (t : Tr) : Bool := thereB ks t.from_ && thereB ks t.to_ && stayB (ks.getD t.from_.toNat 0)
def namedB (c : Ch) : Bool := c.names.length == c.kinds.length && (List.range c.names.length).all fun i => nameL (c.names.getD i []) && !(c.names.take i).any (· == c.names.getD i [])
def validB (c : Ch) : Bool := valB c.kinds c.parents && namedB c && decide (c.trans.length ≤ 48) && c.trans.all fun t => leadsB c.kinds t && lablB t
theorem comp_valid {l : List (Ru × Nat)} {c : Ch} (h : compL l = .ok c) (hl : ∀ x ∈ l, RuF x.1) : validB c = true := by
  have o := comp_ok h
  have hnm : c.names = nmS (stsOf l) := by rw [o.nm]; rfl
  have hkn : c.kinds = (stsOf l).map (·.1.n) := by rw [o.kn]; rfl
  have hsl : c.names.length = (stsOf l).length := by rw [hnm]; simp [nmS]
  unfold validB
  rw [o.va, Bool.true_and, Bool.and_eq_true, Bool.and_eq_true, decide_eq_true_eq, List.all_eq_true]
  refine ⟨⟨?_, o.tl⟩, ?_⟩
  · unfold namedB
    rw [Bool.and_eq_true, beq_iff_eq, List.all_eq_true]
    refine ⟨by rw [hnm, hkn]; simp [nmS], fun i hi => ?_⟩
    have hi := List.mem_range.1 hi
    have hj : i < (stsOf l).length := by omega
    have s := o.st i hj
    simp only [show ({} : Ch).names.length = 0 from rfl, Nat.zero_add] at s
    have hg : c.names.getD i [] = (stsOf l)[i].1.name := by rw [List.getD_eq_getElem?_getD, s.nm]; rfl
    have hm : (stsOf l)[i] ∈ l ∧ (stsOf l)[i].1.kind = 8 := by
      have := List.mem_filter.1 (List.getElem_mem hj : (stsOf l)[i] ∈ stsOf l)
      exact ⟨this.1, by simpa using this.2⟩
    rw [hg, Bool.and_eq_true, Bool.not_eq_true', List.any_eq_false]
    exact ⟨((hl _ hm.1).st hm.2).1, fun x hx e => s.nw (by rw [beq_iff_eq] at e; rw [← e]; exact hx)⟩
  · intro t ht
    rw [o.tr] at ht
    obtain ⟨x, hx, rfl⟩ : ∃ x ∈ trsOf l, trOf (stsOf l) x.1 = t := by simpa using ht
    have k := o.tk x hx
    have hm := List.mem_filter.1 hx
    have hF := hl x hm.1
    have hT : isTr x.1 := of_decide_eq_true hm.2
    have hnl : (nmS (stsOf l)).length = c.kinds.length := by rw [hkn]; simp [nmS]
    have i1 := idxI_lt (nmS (stsOf l)) x.1.from_
    have i2 := idxI_lt (nmS (stsOf l)) x.1.to_
    rw [Bool.and_eq_true]
    constructor
    · have k1 := k.1
      have k2 := k.2.1
      have k3 := k.2.2
      unfold knS at k3
      rw [← hkn] at k3
      have j1 : 0 ≤ frS (stsOf l) x.1 ∧ frS (stsOf l) x.1 < c.kinds.length := by unfold frS at *; omega
      have j2 : 0 ≤ toS (stsOf l) x.1 ∧ toS (stsOf l) x.1 < c.kinds.length := by unfold toS at *; omega
      show leadsB c.kinds ⟨x.1.kind, frS (stsOf l) x.1, toS (stsOf l) x.1, x.1.name, x.1.by_, x.1.task, x.1.n⟩ = true
      unfold leadsB thereB
      simp only [Bool.and_eq_true, decide_eq_true_eq]
      exact ⟨⟨j1, j2⟩, k3⟩
    · unfold lablB
      rcases hT with e | e | e
      · obtain ⟨a, b, d, f⟩ := hF.on e
        rw [if_pos (by exact e)]
        have hb : optN x.1.by_ = true := by unfold optN; rcases b with b | b <;> simp [b]
        have hd : optN x.1.task = true := by unfold optN; rcases d with b | b <;> simp [b]
        simp only [trOf, a, hb, hd, f]; rfl
      · obtain ⟨a, b, d, f⟩ := hF.au e
        rw [if_neg (by show ¬ x.1.kind = 9; omega), if_pos (by exact e)]
        unfold silB
        simp only [trOf, a, b, d, f]; rfl
      · obtain ⟨a, b, d, f⟩ := hF.af e
        rw [if_neg (by show ¬ x.1.kind = 9; omega), if_neg (by show ¬ x.1.kind = 10; omega), if_pos (by exact e)]
        unfold silB
        simp only [trOf, a, b, d, Bool.and_eq_true, decide_eq_true_eq]
        exact ⟨⟨by decide, f.1⟩, f.2⟩
end Go.Proofs.YtahgfmobdfhaaaaGreatDoor
/-
  The lines of a text; what the text of a policy is read as: plain lists.
-/
namespace Go.Proofs.YtahgfmobdfhaaaaGreatDoor
set_option maxRecDepth 100000

/-- the lines of a text: what lies between its bytes 10 -/
def linesL : List UInt8 → List (List UInt8)
  | [] => [[]]
  | c :: r => if c = 10 then [] :: linesL r else match linesL r with
    | [] => [[c]]
    | a :: t => (c :: a) :: t
theorem lines_end (r : List UInt8) : linesL (10 :: r) = [] :: linesL r := by rw [linesL, if_pos rfl]
theorem lines_cons {c : UInt8} (hc : c ≠ 10) {r a : List UInt8} {t : List (List UInt8)} (h : linesL r = a :: t) : linesL (c :: r) = (c :: a) :: t := by
  rw [linesL, if_neg hc, h]
theorem lines_ne : ∀ l : List UInt8, ∃ a t, linesL l = a :: t
  | [] => ⟨_, _, rfl⟩
  | c :: r => by
    by_cases hc : c = 10
    · subst hc; exact ⟨_, _, lines_end r⟩
    · obtain ⟨a, t, h⟩ := lines_ne r
      exact ⟨_, _, lines_cons hc h⟩
theorem lines_len : ∀ l : List UInt8, (linesL l).length ≤ l.length + 1 ∧ ∀ x ∈ linesL l, x.length ≤ l.length
  | [] => ⟨by simp [linesL], by simp [linesL]⟩
  | c :: r => by
    obtain ⟨h1, h2⟩ := lines_len r
    by_cases hc : c = 10
    · subst hc
      rw [lines_end]
      exact ⟨by simp only [List.length_cons]; omega, fun x hx => by rcases List.mem_cons.1 hx with rfl | hx; · simp
                                                                    · have := h2 x hx; simp only [List.length_cons]; omega⟩
    · obtain ⟨a, t, h⟩ := lines_ne r
      rw [h] at h1 h2
      rw [lines_cons hc h]
      refine ⟨by simp only [List.length_cons] at h1 ⊢; omega, fun x hx => ?_⟩
      rcases List.mem_cons.1 hx with rfl | hx
      · have := h2 a List.mem_cons_self; simp only [List.length_cons]; omega
      · have := h2 x (List.mem_cons_of_mem _ hx); simp only [List.length_cons]; omega
/-- what a text of rules is read as: what is wrong first, or the rules, each with its line's number -/
inductive PolR where
  | limit
  | bad (n c : Nat) (k : Int)
  | ok (l : List (Ru × Nat))
/-- the lines from the n-th on, some rules read -/
def polL : List (List UInt8) → Nat → List (Ru × Nat) → PolR
  | [], _, acc => .ok acc
  | t :: r, n, acc => match parseL t with
    | .bad c k => .bad n c k
    | .empty => polL r (n + 1) acc
    | .ok u => if acc.length = 160 then .bad n 1 5 else polL r (n + 1) (acc ++ [(u, n)])
end Go.Proofs.YtahgfmobdfhaaaaGreatDoor
/-
  The texts that PolicyLimits makes, and what they are read as: plain lists.
-/
namespace Go.Proofs.YtahgfmobdfhaaaaGreatDoor
set_option maxRecDepth 100000
open Go.RowKit

theorem parse_nil : parseL [] = .empty := by
  have h1 : badL [] = 0 := by decide +kernel
  have h2 : partL [] = [] := by decide +kernel
  unfold parseL
  rw [h1, if_neg (by omega)]
  unfold wordsL
  rw [h1, h2, toks_nil]; rfl
/-- what a text is read as -/
def polT (s : List UInt8) : PolR := if 4096 < s.length then .limit else polL (linesL s) 1 []
end Go.Proofs.YtahgfmobdfhaaaaGreatDoor
/-
  Rules in cells of the call's own.
-/
namespace Go.Proofs.YtahgfmobdfhaaaaGreatDoor
set_option maxRecDepth 100000
open Go.ChangeShapes Go.WideShapes Go.ChangeAt Go.RowKit

/-- a rule, its line, its list's slice -/
abbrev RL := Ru × Nat × Value
def er (x : RL) : Ru × Nat := (x.1, x.2.1)
def rcell (x : RL) : List Value := [.int .i64 x.1.kind, .string (bs x.1.name), x.2.2, .int .i64 x.1.n, .int .i64 x.1.m, .string (bs x.1.from_), .string (bs x.1.to_), .string (bs x.1.by_), .string (bs x.1.task), .string (bs x.1.in_), .int .i64 x.2.1]
def rcells (l : List RL) : List Value := l.flatMap rcell
theorem rcells_snoc (l : List RL) (x : RL) : rcells (l ++ [x]) = rcells l ++ rcell x := by simp [rcells]
/-- rules in memory of the call's own -/
def RowsAt (w : World) (base : Nat) (v : Value) (acc : List RL) : Prop := w.ownsRow base 41 11 v acc.length (rcells acc) ∧ ∀ x ∈ acc, OwnL w base x.2.2 x.1.list
theorem own_base {w : World} {base base' e size n : Nat} {v : Value} {xs : List Value} (h : w.ownsRow base e size v n xs) (hb : base' ≤ base) : w.ownsRow base' e size v n xs := by
  obtain ⟨h1, h2⟩ := h
  refine ⟨h1, ?_⟩
  rcases h2 with h2 | ⟨g, cap, cur, h3, h4, h5⟩
  · exact .inl h2
  · exact .inr ⟨g, cap, cur, h3, Nat.le_trans hb h4, h5⟩
theorem RowsAt.below {w w' : World} {base : Nat} {v : Value} {acc : List RL} (h : RowsAt w base v acc) (hb : Below w.heap.size w w') (hB : base ≤ w.heap.size) : RowsAt w' base v acc :=
  ⟨own_below h.1 hb hB, fun x hx => own_below (h.2 x hx) hb hB⟩
theorem RowsAt.base {w : World} {base base' : Nat} {v : Value} {acc : List RL} (h : RowsAt w base v acc) (hB : base' ≤ base) : RowsAt w base' v acc :=
  ⟨own_base h.1 hB, fun x hx => own_base (h.2 x hx) hB⟩
theorem rows_nil (w : World) (base : Nat) : RowsAt w base (.slice none 0 0) [] := ⟨World.ownsRow_nil _ _ _ _, fun _ h => by cases h⟩
/-- a list of texts does not lie where rules lie -/
theorem own_apart {w : World} {base base' n : Nat} {L v : Value} {l : List Tx} {xs : List Value} (h : OwnL w base L l) (h' : w.ownsRow base' 41 11 v n xs) : L.ownBlock = none ∨ L.ownBlock ≠ v.ownBlock := by
  rcases h.2 with ⟨hv, _⟩ | ⟨g, cap, cur, hv, _, hg, _⟩
  · left; rw [hv]; rfl
  · right
    rcases h'.2 with ⟨hv', _⟩ | ⟨g', cap', cur', hv', _, hg', _⟩
    · rw [hv, hv']; simp [Value.ownBlock]
    · rw [hv, hv']
      intro e
      have e2 : g = g' := by simpa [Value.ownBlock] using e
      subst e2
      rw [hg] at hg'
      simp at hg'

theorem Tryz.infoRule : (Tryz.prog.info? 41).map (fun i => (i.zero, i.size, i.bytes)) = some (some (.agg #[.int .i64 0, .string ⟨#[]⟩, .slice none 0 0, .int .i64 0, .int .i64 0, .string ⟨#[]⟩, .string ⟨#[]⟩, .string ⟨#[]⟩, .string ⟨#[]⟩, .string ⟨#[]⟩, .int .i64 0]), 11, 152) := by kernel_rfl
end Go.Proofs.YtahgfmobdfhaaaaGreatDoor
/-
  slices.Clone of texts, in new memory.
-/
namespace Go.Proofs.YtahgfmobdfhaaaaGreatDoor
set_option maxRecDepth 100000
open Go.ChangeShapes Go.WideShapes Go.ChangeAt Go.RowKit

def CloneTo (l : List Tx) (w : World) (e : Ending) (w' : World) : Prop := ∃ v, e = .returned v ∧ OwnL w' w.heap.size v l ∧ Below w.heap.size w w'
theorem Clone_any (l : List Tx) (A : Option Addr) (c : Nat) (w : World) (h : ListAt w A c l) (hl : l.length ≤ 1000000) : Calls Tryz.prog 29 #[.slice A l.length c] w (CloneTo l w) := by
  cases A with
  | none =>
    have h0 : l = [] := by
      cases l with
      | nil => rfl
      | cons a r => obtain ⟨g, e, _⟩ := h.2 0 (by simp); cases e
    subst h0
    exact (Tryz.slices_Clone_string_nil _ c w).mono fun e w' ⟨he, hw⟩ => ⟨_, he, World.ownsRow_nil _ _ _ _, by rw [hw]; exact Below.refl _ _⟩
  | some a =>
    by_cases h0 : l.length = 0
    · have e0 : l = [] := List.length_eq_zero_iff.1 h0
      subst e0
      exact (Tryz.slices_Clone_string_zero a c w).mono fun e w' ⟨v, he, ho, _, hb⟩ => ⟨v, he, ho, hb⟩
    · obtain ⟨g, e, _, _⟩ := h.2 0 (by omega)
      obtain rfl := Option.some.inj e
      refine (Tryz.slices_Clone_string g 0 l.length c (l.map bs) w (by simp) (by omega) (fun j hj => ?_)).mono fun e w' ⟨v, he, ho, _, hb⟩ => ⟨v, he, ?_, hb⟩
      · have hj' : j < l.length := by simpa using hj
        obtain ⟨g', e', _, hc⟩ := h.2 j hj'
        have : g' = g := by have := Option.some.inj e'; simp at this; exact this.symm
        subst this
        rw [Nat.zero_add, hc]
        simp [List.getD_eq_getElem?_getD, hj']
      · have : ((l.map bs).take l.length).map Value.string = scells l := by rw [List.take_of_length_le (by simp)]; simp [scells]
        rw [this] at ho
        exact ho

end Go.Proofs.YtahgfmobdfhaaaaGreatDoor
/-
  policy.Of: the rules of some kinds, in new memory.
-/
namespace Go.Proofs.YtahgfmobdfhaaaaGreatDoor
set_option maxRecDepth 100000
open Go.ChangeShapes Go.WideShapes Go.ChangeAt Go.RowKit

/-- integers in a block's cells, from its first on -/
def KAt (w : World) (A : Option Addr) (ks : List Int) : Prop := ∀ j (h : j < ks.length), ∃ b, A = some ⟨b, 0, none⟩ ∧ b < w.heap.size ∧ w.cell? ⟨b, j, none⟩ = some (.int .i64 ks[j])
theorem KAt.below {w w' : World} {A : Option Addr} {ks : List Int} (h : KAt w A ks) (hb : Below w.heap.size w w') : KAt w' A ks := fun j hj =>
  let ⟨b, e, hl, hc⟩ := h j hj
  ⟨b, e, Nat.lt_of_lt_of_le hl hb.size, (hb.cell (p := ⟨b, j, none⟩) hl).trans hc⟩
def IdxTo (ks : List Int) (x : Int) (w : World) (e : Ending) (w' : World) : Prop := ∃ r : Int, e = .returned (.int .i64 r) ∧ decide (0 ≤ r) = decide (x ∈ ks) ∧ w = w'
theorem idxTo_mk {ks : List Int} {x r : Int} {w : World} (h : decide (0 ≤ r) = decide (x ∈ ks)) : IdxTo ks x w (.returned (.int .i64 r)) w := ⟨r, rfl, h, rfl⟩
set_option maxHeartbeats 1000000 in
theorem IndexI_any (ks : List Int) (x : Int) (A : Option Addr) (c : Nat) (w : World) (h : KAt w A ks) (hl : ks.length ≤ 1000000) (_hc : ks.length ≤ c) :
    Calls Tryz.prog 71 #[.slice A ks.length c, .int .i64 x] w (IdxTo ks x w) := by
  go_enter Tryz.func71, Tryz.ntmps71
  go_wp2
  go_loop [5, 8] (fun _ i => ∃ k : Nat, k ≤ ks.length ∧ i = .int .i64 k ∧ Hid (x ∉ ks.take k)) (fun _ i => ks.length - (intOf i).toNat)
  case atStart => exact ⟨0, Nat.zero_le _, rfl, by show ¬ _; simp⟩
  case round =>
    obtain ⟨k, hk, rfl, HI⟩ := hrel
    by_cases hlt : k < ks.length
    · obtain ⟨b, rfl, _, hx⟩ := h k hlt
      have hsn : ks.take (k + 1) = ks.take k ++ [ks[k]] := by rw [List.take_succ_eq_append_getElem hlt]
      have hme : ks[k] ∈ ks := List.getElem_mem hlt
      clear h
      by_cases he : x = ks[k]
      · have HM : Hid (x ∈ ks) := by show _; rw [he]; exact hme
        have hb : (x == ks[k]) = true := by simp [he]
        clear he hme hsn
        go_wp2
        go_ret
        exact idxTo_mk (by simp [show x ∈ ks from HM])
      · have HT : Hid (x ∉ ks.take (k + 1)) := by
          show ¬ _
          rw [hsn, List.mem_append]
          exact fun hh => hh.elim HI.out (fun h => he (List.mem_singleton.1 h))
        have hb : (x == ks[k]) = false := by simp [he]
        clear he hme hsn
        go_wp2
        go_round
        case rel => exact ⟨k + 1, by omega, by go_num, HT⟩
        case measure => simp [intOf]; omega
    · have HT : Hid (x ∉ ks) := by have := HI.out; rw [List.take_of_length_le (by omega)] at this; exact this
      clear h
      go_wp2
      go_ret
      exact idxTo_mk (by simp [show x ∉ ks from HT.out])
theorem Contains_any (ks : List Int) (x : Int) (A : Option Addr) (c : Nat) (w : World) (h : KAt w A ks) (hl : ks.length ≤ 1000000) (hc : ks.length ≤ c) :
    Calls Tryz.prog 28 #[.slice A ks.length c, .int .i64 x] w fun e w' => e = .returned (.bool (decide (x ∈ ks))) ∧ w = w' := by
  have HI := Lib.hid (IndexI_any ks x A c w h hl hc)
  clear h
  go_enter Tryz.func28, Tryz.ntmps28
  go_wp2_with (go_at_call 71; refine HI.out.mono ?_; rintro e w1 ⟨r, rfl, hr, rfl⟩; have HR := Lib.hid hr; clear hr)
  go_ret
  exact ⟨ret_bool HR.out, rfl⟩
/-! ### rules in cells -/
theorem rcell_len (x : RL) : (rcell x).length = 11 := rfl
theorem rcells_at : ∀ (acc : List RL) (j f : Nat) (h : j < acc.length), f < 11 → (rcells acc)[j * 11 + f]? = (rcell acc[j])[f]?
  | x :: r, 0, f, _, hf => by
    show (rcell x ++ rcells r)[_]? = _
    rw [List.getElem?_append_left (by rw [rcell_len]; omega)]; simp
  | x :: r, j + 1, f, h, hf => by
    show (rcell x ++ rcells r)[_]? = _
    rw [List.getElem?_append_right (by rw [rcell_len]; omega), rcell_len, show (j + 1) * 11 + f - 11 = j * 11 + f by omega]
    exact rcells_at r j f (by simpa using h) hf
/-- rules that can be read -/
def RIn (w : World) (A : Option Addr) (acc : List RL) : Prop := ∀ j (h : j < acc.length), ∃ g, A = some ⟨g, 0, none⟩ ∧ g < w.heap.size ∧ (∀ f u, f < 11 → (rcell acc[j])[f]? = some u → w.cell? ⟨g, j * 11 + f, none⟩ = some u) ∧
  ∃ B c, acc[j].2.2 = .slice B acc[j].1.list.length c ∧ ListAt w B c acc[j].1.list
theorem RIn.below {w w' : World} {A : Option Addr} {acc : List RL} (h : RIn w A acc) (hb : Below w.heap.size w w') : RIn w' A acc := fun j hj =>
  let ⟨g, e, hl, hc, B, c, e2, hL⟩ := h j hj
  ⟨g, e, Nat.lt_of_lt_of_le hl hb.size, fun f u hf hu => (hb.cell (p := ⟨g, j * 11 + f, none⟩) hl).trans (hc f u hf hu), B, c, e2, hL.below hb⟩
theorem rIn_of {w : World} {base cap : Nat} {A : Option Addr} {acc : List RL} (h : RowsAt w base (.slice A acc.length cap) acc) : RIn w A acc := fun j hj => by
  obtain ⟨g, cap', e, _, hl, _, hc⟩ := own_form h.1 (by omega)
  have eA : A = some ⟨g, 0, none⟩ := by injection e
  obtain ⟨B, c, e2⟩ := own_slice (h.2 acc[j] (List.getElem_mem hj))
  refine ⟨g, eA, hl, fun f u hf hu => hc _ _ (by rw [rcells_at acc j f hj hf]; exact hu), B, c, e2, ?_⟩
  have ho := h.2 acc[j] (List.getElem_mem hj)
  rw [e2] at ho
  exact listAt_of ho
end Go.Proofs.YtahgfmobdfhaaaaGreatDoor
