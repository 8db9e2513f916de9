/-
  States in one another: plain, no program in it.
-/
import Derived.Test.YtbacdllokgcohaaD0
import Derived.Test.YtbacdllokgcohaaRef01b
import Derived.Lib.ItoaMem
import Derived.Lib.SplitLaws
import Derived.Test.YtbacdllokgcohaaSameL
import Derived.OwnWalk
import Derived.Test.YtbacdllokgcohaaShelf2
import Derived.Deep.DeepMust
namespace Go.Proofs.Ytbacdllokgcohaa
set_option maxRecDepth 100000

/-- a state that may be in, and may hold states -/
def hl (ks : List Int) (i : Nat) : Bool := ks.getD i 0 == 1 || ks.getD i 0 == 2
def szN (ks ps : List Int) : Nat := min ks.length ps.length
/-- is a state one of another's (-1: the top's), and may it be in? -/
def isKid (ks ps : List Int) (a : Int) (k : Nat) : Bool := ps.getD k 0 == a && hl ks k
def kidsTo (ps : List Int) (a : Int) : Nat → List Nat
  | 0 => []
  | k + 1 => if ps.getD k 0 = a then kidsTo ps a k ++ [k] else kidsTo ps a k
theorem mem_kidsTo {ps : List Int} {a : Int} {j : Nat} : ∀ {n : Nat}, j ∈ kidsTo ps a n ↔ j < n ∧ ps.getD j 0 = a
  | 0 => by simp [kidsTo]
  | n + 1 => by
    have ih := mem_kidsTo (ps := ps) (a := a) (j := j) (n := n)
    unfold kidsTo
    split
    · rename_i h
      rw [List.mem_append, ih, List.mem_singleton]
      constructor
      · rintro (⟨h1, h2⟩ | rfl)
        · exact ⟨by omega, h2⟩
        · exact ⟨by omega, h⟩
      · rintro ⟨h1, h2⟩
        by_cases e : j = n
        · exact .inr e
        · exact .inl ⟨by omega, h2⟩
    · rename_i h
      rw [ih]
      constructor
      · rintro ⟨h1, h2⟩; exact ⟨by omega, h2⟩
      · rintro ⟨h1, h2⟩
        refine ⟨?_, h2⟩
        by_cases e : j = n
        · subst e; exact absurd h2 h
        · omega
theorem kidsTo_len (ps : List Int) (a : Int) : ∀ n, (kidsTo ps a n).length ≤ n
  | 0 => Nat.le_refl _
  | n + 1 => by
    have := kidsTo_len ps a n
    unfold kidsTo
    split
    · rw [List.length_append, List.length_singleton]; omega
    · omega
/-- the first state of another (-1: none) -/
def iniTo (ks ps : List Int) (a : Int) (n : Nat) : Int := match (List.range n).find? (isKid ks ps a) with
  | some k => k
  | none => -1
theorem ini_hit {ks ps : List Int} {a : Int} {n k : Nat} (hk : k < n) (h : isKid ks ps a k = true) (hn : ∀ j, j < k → isKid ks ps a j = false) : iniTo ks ps a n = k := by
  unfold iniTo
  have : (List.range n).find? (isKid ks ps a) = some k := by
    rw [List.find?_range_eq_some]
    exact ⟨h, List.mem_range.2 hk, fun j hj => by simp [hn j hj]⟩
  rw [this]
theorem ini_miss {ks ps : List Int} {a : Int} {n : Nat} (hn : ∀ j, j < n → isKid ks ps a j = false) : iniTo ks ps a n = -1 := by
  unfold iniTo
  have : (List.range n).find? (isKid ks ps a) = none := by
    rw [List.find?_eq_none]
    intro j hj
    simp [hn j (List.mem_range.1 hj)]
  rw [this]
/-- the set of the states of another that may be in -/
def opn (ks ps : List Int) (a : Int) : Nat → Nat
  | 0 => 0
  | k + 1 => if isKid ks ps a k then opn ks ps a k ||| 2 ^ k else opn ks ps a k
theorem opn_bit (ks ps : List Int) (a : Int) (j : Nat) : ∀ n, (opn ks ps a n).testBit j = (decide (j < n) && isKid ks ps a j)
  | 0 => by simp [opn]
  | n + 1 => by
    have ih := opn_bit ks ps a j n
    unfold opn
    by_cases e : j = n
    · subst e
      split
      · rename_i h
        simp [Nat.testBit_or, Nat.testBit_two_pow, h]
      · rename_i h
        rw [ih]; simp [h]
    · have e2 : decide (j < n + 1) = decide (j < n) := by by_cases h : j < n <;> simp <;> omega
      split
      · rw [Nat.testBit_or, ih, Nat.testBit_two_pow, e2]
        have : decide (n = j) = false := by simp; omega
        rw [this, Bool.or_false]
      · rw [ih, e2]
/-- a state's parent, as the program reads it -/
def par (ps : List Int) (k : Nat) : Int := min (ps.getD k 0) ((k : Int) - 1)
/-- may a state that is in a set be there? -/
def settl (ks ps : List Int) (s k : Nat) : Bool :=
  hl ks k && !(decide (0 ≤ par ps k) && !s.testBit (par ps k).toNat) &&
    (if ks.getD k 0 = 2 then s &&& opn ks ps k (szN ks ps) == opn ks ps k (szN ks ps) else opn ks ps k (szN ks ps) == 0 || cnt (s &&& opn ks ps k (szN ks ps)) == 1)
/-- a configuration -/
def prop (ks ps : List Int) (s : Nat) : Bool :=
  decide (s / 2 ^ szN ks ps = 0) && cnt (s &&& opn ks ps (-1) (szN ks ps)) == 1 && (List.range (szN ks ps)).all fun k => !s.testBit k || settl ks ps s k
/-- does a state fit into what stands ahead of it? -/
def fitS (ks ps : List Int) (k : Nat) : Bool :=
  !(decide (ks.getD k 0 < 1) || decide (4 < ks.getD k 0) || decide (ps.getD k 0 < -1) || decide ((k : Int) ≤ ps.getD k 0)) &&
    (if hl ks k then decide (ps.getD k 0 < 0) || hl ks (ps.getD k 0).toNat else decide (0 ≤ ps.getD k 0) && ks.getD (ps.getD k 0).toNat 0 == 1)
/-- has a place a first state, if it has any? -/
def iniB (ks ps : List Int) (a : Int) : Bool := !(decide (0 < (kidsTo ps a (szN ks ps)).length) && decide (iniTo ks ps a (szN ks ps) < 0))
def valB (ks ps : List Int) : Bool :=
  ks.length == ps.length && decide (1 ≤ ks.length) && decide (ks.length ≤ 24) && (List.range ks.length).all (fitS ks ps) && (List.range (ks.length + 1)).all fun i => iniB ks ps ((i : Int) - 1)
end Go.Proofs.Ytbacdllokgcohaa
/-
  Rules as a chart, plainly: what is read of states and transitions; what the rules of a chart are like.
-/
namespace Go.Proofs.Ytbacdllokgcohaa
set_option maxRecDepth 100000

/-! ### what a rule that was read has -/
/-! ### the chart -/
structure Tr where
  kind : Int
  from_ : Int
  to_ : Int
  event : Tx
  perm : Tx
  task : Tx
  time : Int
deriving DecidableEq
structure Ch where
  names : List Tx := []
  kinds : List Int := []
  parents : List Int := []
  trans : List Tr := []
def stayB (k : Int) : Bool := k == 1 || k == 2
def isTr (r : Ru) : Prop := r.kind = 9 ∨ r.kind = 10 ∨ r.kind = 11
instance (r : Ru) : Decidable (isTr r) := inferInstanceAs (Decidable (_ ∨ _))
end Go.Proofs.Ytbacdllokgcohaa
/-
  What the chart of some rules is like, plainly.
-/
namespace Go.Proofs.Ytbacdllokgcohaa
set_option maxRecDepth 100000

/-! ### a chart that is valid -/
def silB (t : Tr) : Bool := t.event == [] && t.perm == [] && t.task == []
def optN (x : Tx) : Bool := x == [] || nameL x
def lablB (t : Tr) : Bool :=
  if t.kind = 9 then nameL t.event && optN t.perm && optN t.task && t.time == 0
  else if t.kind = 10 then silB t && t.time == 0
  else if t.kind = 11 then silB t && decide (1 ≤ t.time) && decide (t.time ≤ 1073741824) else false
def thereB (ks : List Int) (k : Int) : Bool := decide (0 ≤ k) && decide (k < ks.length)
def leadsB (ks : List Int) (t : Tr) : Bool := thereB ks t.from_ && thereB ks t.to_ && stayB (ks.getD t.from_.toNat 0)
def namedB (c : Ch) : Bool := c.names.length == c.kinds.length && (List.range c.names.length).all fun i => nameL (c.names.getD i []) && !(c.names.take i).any (· == c.names.getD i [])
def validB (c : Ch) : Bool := valB c.kinds c.parents && namedB c && decide (c.trans.length ≤ 48) && c.trans.all fun t => leadsB c.kinds t && lablB t
end Go.Proofs.Ytbacdllokgcohaa
/-
  Rules in cells of the call's own.
-/
namespace Go.Proofs.Ytbacdllokgcohaa
set_option maxRecDepth 100000
open Go.ChangeShapes Go.WideShapes Go.ChangeAt Go.RowKit

/-- a rule, its line, its list's slice -/
abbrev RL := Ru × Nat × Value
def er (x : RL) : Ru × Nat := (x.1, x.2.1)
def rcell (x : RL) : List Value := [.int .i64 x.1.kind, .string (bs x.1.name), x.2.2, .int .i64 x.1.n, .int .i64 x.1.m, .string (bs x.1.from_), .string (bs x.1.to_), .string (bs x.1.by_), .string (bs x.1.task), .string (bs x.1.in_), .int .i64 x.2.1]
def rcells (l : List RL) : List Value := l.flatMap rcell
/-- rules in memory of the call's own -/
def RowsAt (w : World) (base : Nat) (v : Value) (acc : List RL) : Prop := w.ownsRow base 110 11 v acc.length (rcells acc) ∧ ∀ x ∈ acc, OwnL w base x.2.2 x.1.list
theorem own_base {w : World} {base base' e size n : Nat} {v : Value} {xs : List Value} (h : w.ownsRow base e size v n xs) (hb : base' ≤ base) : w.ownsRow base' e size v n xs := by
  obtain ⟨h1, h2⟩ := h
  refine ⟨h1, ?_⟩
  rcases h2 with h2 | ⟨g, cap, cur, h3, h4, h5⟩
  · exact .inl h2
  · exact .inr ⟨g, cap, cur, h3, Nat.le_trans hb h4, h5⟩
theorem RowsAt.below {w w' : World} {base : Nat} {v : Value} {acc : List RL} (h : RowsAt w base v acc) (hb : Below w.heap.size w w') (hB : base ≤ w.heap.size) : RowsAt w' base v acc :=
  ⟨own_below h.1 hb hB, fun x hx => own_below (h.2 x hx) hb hB⟩
theorem RowsAt.base {w : World} {base base' : Nat} {v : Value} {acc : List RL} (h : RowsAt w base v acc) (hB : base' ≤ base) : RowsAt w base' v acc :=
  ⟨own_base h.1 hB, fun x hx => own_base (h.2 x hx) hB⟩
end Go.Proofs.Ytbacdllokgcohaa
/-
  policy.Of: the rules of some kinds, in new memory.
-/
namespace Go.Proofs.Ytbacdllokgcohaa
set_option maxRecDepth 100000
open Go.ChangeShapes Go.WideShapes Go.ChangeAt Go.RowKit

/-- integers in a block's cells, from its first on -/
def KAt (w : World) (A : Option Addr) (ks : List Int) : Prop := ∀ j (h : j < ks.length), ∃ b, A = some ⟨b, 0, none⟩ ∧ b < w.heap.size ∧ w.cell? ⟨b, j, none⟩ = some (.int .i64 ks[j])
theorem KAt.below {w w' : World} {A : Option Addr} {ks : List Int} (h : KAt w A ks) (hb : Below w.heap.size w w') : KAt w' A ks := fun j hj =>
  let ⟨b, e, hl, hc⟩ := h j hj
  ⟨b, e, Nat.lt_of_lt_of_le hl hb.size, (hb.cell (p := ⟨b, j, none⟩) hl).trans hc⟩
/-! ### rules in cells -/
/-- rules that can be read -/
def RIn (w : World) (A : Option Addr) (acc : List RL) : Prop := ∀ j (h : j < acc.length), ∃ g, A = some ⟨g, 0, none⟩ ∧ g < w.heap.size ∧ (∀ f u, f < 11 → (rcell acc[j])[f]? = some u → w.cell? ⟨g, j * 11 + f, none⟩ = some u) ∧
  ∃ B c, acc[j].2.2 = .slice B acc[j].1.list.length c ∧ ListAt w B c acc[j].1.list
theorem RIn.below {w w' : World} {A : Option Addr} {acc : List RL} (h : RIn w A acc) (hb : Below w.heap.size w w') : RIn w' A acc := fun j hj =>
  let ⟨g, e, hl, hc, B, c, e2, hL⟩ := h j hj
  ⟨g, e, Nat.lt_of_lt_of_le hl hb.size, fun f u hf hu => (hb.cell (p := ⟨g, j * 11 + f, none⟩) hl).trans (hc f u hf hu), B, c, e2, hL.below hb⟩
end Go.Proofs.Ytbacdllokgcohaa
