/-
  A rule's words, plainly: no program in it. A line's reader is how many words it has read, and whether one did not fit.
-/
import Derived.Test.YtgemciecdplcgaaDoorPlain01
namespace Go.Proofs.YtgemciecdplcgaaDoor
set_option maxRecDepth 100000

abbrev Tx := List UInt8
structure St where
  k : Nat
  m : Bool
/-- the word that is next -/
def pk (T : List Tx) (s : St) : Tx := T[s.k]?.getD []
def tk (f : Bool) (s : St) : St := if s.m || !f then ⟨s.k, s.m || !f⟩ else ⟨s.k + 1, false⟩
theorem tk_true {s : St} (h : s.m = false) : tk true s = ⟨s.k + 1, false⟩ := by simp [tk, h]
theorem tk_false (s : St) : tk false s = ⟨s.k, true⟩ := by simp [tk]
theorem tk_bad {s : St} (h : s.m = true) (f : Bool) : tk f s = ⟨s.k, true⟩ := by simp [tk, h]
theorem pk_lt {T : List Tx} {s : St} (h : pk T s ≠ []) : s.k < T.length := by
  by_cases h1 : s.k < T.length
  · exact h1
  · exact absurd (by unfold pk; rw [List.getElem?_eq_none (by omega)]; rfl) h
theorem pk_at {T : List Tx} {s : St} (h : s.k < T.length) : pk T s = T[s.k] := by unfold pk; rw [List.getElem?_eq_getElem h]; rfl
theorem pk_end {T : List Tx} {s : St} (h : T.length ≤ s.k) : pk T s = [] := by unfold pk; rw [List.getElem?_eq_none h]; rfl
theorem tk_le {T : List Tx} {s : St} {f : Bool} (h : s.k ≤ T.length) (hf : f = true → pk T s ≠ []) : (tk f s).k ≤ T.length := by
  unfold tk; split
  · exact h
  · rename_i h1
    have : f = true := by cases f <;> simp_all
    have := pk_lt (hf this)
    show s.k + 1 ≤ _; omega
theorem nameL_ne {l : Tx} (h : nameL l = true) : l ≠ [] := by rintro rfl; simp [nameL] at h
theorem isNum_ne {l : Tx} (h : isNum l = true) : l ≠ [] := by rintro rfl; simp [isNum] at h

def fixedP (T : List Tx) (x : Tx) (s : St) : St := tk (pk T s == x) s
def nameP (T : List Tx) (s : St) : Tx × St := (pk T s, tk (nameL (pk T s)) s)
def numV (t : Tx) : Int := if isNum t then (valL t : Int) else 0
def numberP (T : List Tx) (s : St) : Int × St := (numV (pk T s), tk (isNum (pk T s)) s)
/-- the place of a word in a table, -1: none -/
def idx (tbl : List Tx) (x : Tx) (i : Int) : Int := match tbl with
  | [] => -1
  | t :: r => if t = x then i else idx r x (i + 1)
def choiceP (T : List Tx) (tbl : List Tx) (s : St) : Int × St := (idx tbl (pk T s) 0, tk (decide (0 < idx tbl (pk T s) 0)) s)
def skipP (T : List Tx) (x : Tx) (s : St) : Bool × St := if pk T s = x then (true, tk true s) else (false, s)
def optionP (T : List Tx) (x : Tx) (s : St) : Tx × St := if pk T s = x then nameP T (tk true s) else ([], s)
def fromToP (T : List Tx) (s : St) : Tx × Tx × St :=
  let s1 := fixedP T [102, 114, 111, 109] s
  let (f, s2) := nameP T s1
  let s3 := fixedP T [116, 111] s2
  let (t, s4) := nameP T s3
  (f, t, s4)
/-- all names to the end -/
def namesP (T : List Tx) (least : Nat) (acc : List Tx) (s : St) : Nat → List Tx × St
  | 0 => (acc, s)
  | n + 1 => if s.m = false ∧ (acc.length < least ∨ s.k < T.length) then namesP T least (acc ++ [(nameP T s).1]) (nameP T s).2 n else (acc, s)
structure Ru where
  kind : Int
  name : Tx := []
  list : List Tx := []
  n : Int := 0
  m : Int := 0
  from_ : Tx := []
  to_ : Tx := []
  by_ : Tx := []
  task : Tx := []
  in_ : Tx := []
def kindT : List Tx := [[], [114, 111, 108, 101], [117, 115, 101, 114], [112, 101, 114, 109], [115, 115, 100], [100, 115, 100], [101, 120, 99, 108, 117, 115, 105, 118, 101], [108, 101, 110, 100], [115, 116, 97, 116, 101], [111, 110], [97, 117, 116, 111], [97, 102, 116, 101, 114]]
def stateT : List Tx := [[], [112, 108, 97, 105, 110], [97, 108, 108], [112, 97, 115, 116], [100, 101, 101, 112]]
def roleP (T : List Tx) (s : St) : Ru × St :=
  if pk T (nameP T s).2 = [62] then ({ kind := 1, name := (nameP T s).1, list := (namesP T 1 [] (tk true (nameP T s).2) (T.length + 1)).1 }, (namesP T 1 [] (tk true (nameP T s).2) (T.length + 1)).2)
  else ({ kind := 1, name := (nameP T s).1 }, (nameP T s).2)
def userP (T : List Tx) (kd : Int) (s : St) : Ru × St :=
  ({ kind := kd, name := (nameP T s).1, list := (namesP T 0 [] (nameP T s).2 (T.length + 1)).1 }, (namesP T 0 [] (nameP T s).2 (T.length + 1)).2)
def ssdP (T : List Tx) (kd : Int) (s : St) : Ru × St :=
  ({ kind := kd, n := (numberP T s).1, list := (namesP T 2 [] (numberP T s).2 (T.length + 1)).1 }, (namesP T 2 [] (numberP T s).2 (T.length + 1)).2)
def exclP (T : List Tx) (s : St) : Ru × St := ({ kind := 6, list := (namesP T 2 [] s (T.length + 1)).1 }, (namesP T 2 [] s (T.length + 1)).2)
def lendP (T : List Tx) (s : St) : Ru × St :=
  let a := nameP T s
  let b := numberP T a.2
  let c := numberP T b.2
  ({ kind := 7, name := a.1, n := b.1, m := c.1 }, c.2)
def stateP (T : List Tx) (s : St) : Ru × St :=
  let a := nameP T s
  let b := choiceP T stateT a.2
  let c := optionP T [105, 110] b.2
  ({ kind := 8, name := a.1, n := b.1, in_ := c.1 }, c.2)
def onP (T : List Tx) (s : St) : Ru × St :=
  let a := nameP T s
  let b := fromToP T a.2
  let c := optionP T [98, 121] b.2.2
  let d := optionP T [116, 97, 115, 107] c.2
  ({ kind := 9, name := a.1, from_ := b.1, to_ := b.2.1, by_ := c.1, task := d.1 }, d.2)
def autoP (T : List Tx) (s : St) : Ru × St := ({ kind := 10, from_ := (fromToP T s).1, to_ := (fromToP T s).2.1 }, (fromToP T s).2.2)
def afterP (T : List Tx) (s : St) : Ru × St :=
  let a := numberP T s
  let b := fromToP T a.2
  ({ kind := 11, n := a.1, from_ := b.1, to_ := b.2.1 }, b.2.2)
def bodyP (T : List Tx) (c : Int × St) : Ru × St :=
  if c.1 = 1 then roleP T c.2
  else if c.1 = 2 ∨ c.1 = 3 then userP T c.1 c.2
  else if c.1 = 4 ∨ c.1 = 5 then ssdP T c.1 c.2
  else if c.1 = 6 then exclP T c.2
  else if c.1 = 7 then lendP T c.2
  else if c.1 = 8 then stateP T c.2
  else if c.1 = 9 then onP T c.2
  else if c.1 = 10 then autoP T c.2
  else if c.1 = 11 then afterP T c.2
  else ({ kind := c.1 }, c.2)
/-- the rule of words -/
def ruleP (T : List Tx) : Ru × St := bodyP T (choiceP T kindT ⟨0, false⟩)
end Go.Proofs.YtgemciecdplcgaaDoor
