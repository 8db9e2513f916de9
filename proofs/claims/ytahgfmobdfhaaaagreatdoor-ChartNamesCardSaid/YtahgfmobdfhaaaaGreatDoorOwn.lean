/-
  The plain: rules read.
-/
import Derived.Test.YtahgfmobdfhaaaaGreatDoorSameL
import Derived.Test.YtahgfmobdfhaaaaGreatDoorRows
import Derived.WalkKit
import Derived.ProofKit
import Derived.OpenShut
import Derived.Below
import Derived.Carry
import Derived.SizedLaws
namespace Go.Proofs.YtahgfmobdfhaaaaGreatDoor
set_option maxRecDepth 100000

structure St where
  k : Nat
  m : Bool
/-- the word that is next -/
def pk (T : List Tx) (s : St) : Tx := T[s.k]?.getD []
def tk (f : Bool) (s : St) : St := if s.m || !f then ⟨s.k, s.m || !f⟩ else ⟨s.k + 1, false⟩
theorem tk_true {s : St} (h : s.m = false) : tk true s = ⟨s.k + 1, false⟩ := by simp [tk, h]
theorem tk_false (s : St) : tk false s = ⟨s.k, true⟩ := by simp [tk]
theorem tk_bad {s : St} (h : s.m = true) (f : Bool) : tk f s = ⟨s.k, true⟩ := by simp [tk, h]
theorem pk_lt {T : List Tx} {s : St} (h : pk T s ≠ []) : s.k < T.length := by
  by_cases h1 : s.k < T.length
  · exact h1
  · exact absurd (by unfold pk; rw [List.getElem?_eq_none (by omega)]; rfl) h
theorem pk_at {T : List Tx} {s : St} (h : s.k < T.length) : pk T s = T[s.k] := by unfold pk; rw [List.getElem?_eq_getElem h]; rfl
theorem pk_end {T : List Tx} {s : St} (h : T.length ≤ s.k) : pk T s = [] := by unfold pk; rw [List.getElem?_eq_none h]; rfl
theorem tk_le {T : List Tx} {s : St} {f : Bool} (h : s.k ≤ T.length) (hf : f = true → pk T s ≠ []) : (tk f s).k ≤ T.length := by
  unfold tk; split
  · exact h
  · rename_i h1
    have : f = true := by cases f <;> simp_all
    have := pk_lt (hf this)
    show s.k + 1 ≤ _; omega
theorem nameL_ne {l : Tx} (h : nameL l = true) : l ≠ [] := by rintro rfl; simp [nameL] at h
theorem isNum_ne {l : Tx} (h : isNum l = true) : l ≠ [] := by rintro rfl; simp [isNum] at h

def fixedP (T : List Tx) (x : Tx) (s : St) : St := tk (pk T s == x) s
def nameP (T : List Tx) (s : St) : Tx × St := (pk T s, tk (nameL (pk T s)) s)
def numV (t : Tx) : Int := if isNum t then (valL t : Int) else 0
def numberP (T : List Tx) (s : St) : Int × St := (numV (pk T s), tk (isNum (pk T s)) s)
/-- the place of a word in a table, -1: none -/
def idx (tbl : List Tx) (x : Tx) (i : Int) : Int := match tbl with
  | [] => -1
  | t :: r => if t = x then i else idx r x (i + 1)
def choiceP (T : List Tx) (tbl : List Tx) (s : St) : Int × St := (idx tbl (pk T s) 0, tk (decide (0 < idx tbl (pk T s) 0)) s)
def skipP (T : List Tx) (x : Tx) (s : St) : Bool × St := if pk T s = x then (true, tk true s) else (false, s)
def optionP (T : List Tx) (x : Tx) (s : St) : Tx × St := if pk T s = x then nameP T (tk true s) else ([], s)
def fromToP (T : List Tx) (s : St) : Tx × Tx × St :=
  let s1 := fixedP T [102, 114, 111, 109] s
  let (f, s2) := nameP T s1
  let s3 := fixedP T [116, 111] s2
  let (t, s4) := nameP T s3
  (f, t, s4)
/-- all names to the end -/
def namesP (T : List Tx) (least : Nat) (acc : List Tx) (s : St) : Nat → List Tx × St
  | 0 => (acc, s)
  | n + 1 => if s.m = false ∧ (acc.length < least ∨ s.k < T.length) then namesP T least (acc ++ [(nameP T s).1]) (nameP T s).2 n else (acc, s)
structure Ru where
  kind : Int
  name : Tx := []
  list : List Tx := []
  n : Int := 0
  m : Int := 0
  from_ : Tx := []
  to_ : Tx := []
  by_ : Tx := []
  task : Tx := []
  in_ : Tx := []
def kindT : List Tx := [[], [114, 111, 108, 101], [117, 115, 101, 114], [112, 101, 114, 109], [115, 115, 100], [100, 115, 100], [101, 120, 99, 108, 117, 115, 105, 118, 101], [108, 101, 110, 100], [115, 116, 97, 116, 101], [111, 110], [97, 117, 116, 111], [97, 102, 116, 101, 114]]
def stateT : List Tx := [[], [112, 108, 97, 105, 110], [97, 108, 108], [112, 97, 115, 116], [100, 101, 101, 112]]
def roleP (T : List Tx) (s : St) : Ru × St :=
  if pk T (nameP T s).2 = [62] then ({ kind := 1, name := (nameP T s).1, list := (namesP T 1 [] (tk true (nameP T s).2) (T.length + 1)).1 }, (namesP T 1 [] (tk true (nameP T s).2) (T.length + 1)).2)
  else ({ kind := 1, name := (nameP T s).1 }, (nameP T s).2)
def userP (T : List Tx) (kd : Int) (s : St) : Ru × St :=
  ({ kind := kd, name := (nameP T s).1, list := (namesP T 0 [] (nameP T s).2 (T.length + 1)).1 }, (namesP T 0 [] (nameP T s).2 (T.length + 1)).2)
def ssdP (T : List Tx) (kd : Int) (s : St) : Ru × St :=
  ({ kind := kd, n := (numberP T s).1, list := (namesP T 2 [] (numberP T s).2 (T.length + 1)).1 }, (namesP T 2 [] (numberP T s).2 (T.length + 1)).2)
def exclP (T : List Tx) (s : St) : Ru × St := ({ kind := 6, list := (namesP T 2 [] s (T.length + 1)).1 }, (namesP T 2 [] s (T.length + 1)).2)
def lendP (T : List Tx) (s : St) : Ru × St :=
  let a := nameP T s
  let b := numberP T a.2
  let c := numberP T b.2
  ({ kind := 7, name := a.1, n := b.1, m := c.1 }, c.2)
def stateP (T : List Tx) (s : St) : Ru × St :=
  let a := nameP T s
  let b := choiceP T stateT a.2
  let c := optionP T [105, 110] b.2
  ({ kind := 8, name := a.1, n := b.1, in_ := c.1 }, c.2)
def onP (T : List Tx) (s : St) : Ru × St :=
  let a := nameP T s
  let b := fromToP T a.2
  let c := optionP T [98, 121] b.2.2
  let d := optionP T [116, 97, 115, 107] c.2
  ({ kind := 9, name := a.1, from_ := b.1, to_ := b.2.1, by_ := c.1, task := d.1 }, d.2)
def autoP (T : List Tx) (s : St) : Ru × St := ({ kind := 10, from_ := (fromToP T s).1, to_ := (fromToP T s).2.1 }, (fromToP T s).2.2)
def afterP (T : List Tx) (s : St) : Ru × St :=
  let a := numberP T s
  let b := fromToP T a.2
  ({ kind := 11, n := a.1, from_ := b.1, to_ := b.2.1 }, b.2.2)
def bodyP (T : List Tx) (c : Int × St) : Ru × St :=
  if c.1 = 1 then roleP T c.2
  else if c.1 = 2 ∨ c.1 = 3 then userP T c.1 c.2
  else if c.1 = 4 ∨ c.1 = 5 then ssdP T c.1 c.2
  else if c.1 = 6 then exclP T c.2
  else if c.1 = 7 then lendP T c.2
  else if c.1 = 8 then stateP T c.2
  else if c.1 = 9 then onP T c.2
  else if c.1 = 10 then autoP T c.2
  else if c.1 = 11 then afterP T c.2
  else ({ kind := c.1 }, c.2)
/-- the rule of words -/
def ruleP (T : List Tx) : Ru × St := bodyP T (choiceP T kindT ⟨0, false⟩)
end Go.Proofs.YtahgfmobdfhaaaaGreatDoor
namespace Go.Proofs.YtahgfmobdfhaaaaGreatDoor
set_option maxRecDepth 100000

theorem tk_ok {f : Bool} {s : St} (h : (tk f s).m = false) : s.m = false ∧ f = true ∧ tk f s = ⟨s.k + 1, false⟩ := by
  obtain ⟨a, m⟩ := s
  cases f <;> cases m <;> simp [tk] at h ⊢
theorem fixed_ok {T : List Tx} {x : Tx} {s : St} (h : (fixedP T x s).m = false) : s.m = false ∧ pk T s = x ∧ fixedP T x s = ⟨s.k + 1, false⟩ := by
  obtain ⟨a, b, c⟩ := tk_ok h; exact ⟨a, by simpa using b, c⟩
theorem name_ok {T : List Tx} {s : St} (h : (nameP T s).2.m = false) : s.m = false ∧ nameL (pk T s) = true ∧ (nameP T s).2 = ⟨s.k + 1, false⟩ := tk_ok h
theorem number_ok {T : List Tx} {s : St} (h : (numberP T s).2.m = false) : s.m = false ∧ isNum (pk T s) = true ∧ (numberP T s).2 = ⟨s.k + 1, false⟩ := tk_ok h
theorem choice_ok {T tbl : List Tx} {s : St} (h : (choiceP T tbl s).2.m = false) : s.m = false ∧ 0 < (choiceP T tbl s).1 ∧ (choiceP T tbl s).2 = ⟨s.k + 1, false⟩ := by
  obtain ⟨a, b, c⟩ := tk_ok h; exact ⟨a, of_decide_eq_true b, c⟩
theorem option_ok {T : List Tx} {x : Tx} {s : St} (h : (optionP T x s).2.m = false) : s.m = false ∧ ((pk T s = x ∧ nameL (pk T ⟨s.k + 1, false⟩) = true ∧ optionP T x s = (pk T ⟨s.k + 1, false⟩, ⟨s.k + 2, false⟩)) ∨ (pk T s ≠ x ∧ optionP T x s = ([], s))) := by
  by_cases hp : pk T s = x
  · have e : optionP T x s = nameP T (tk true s) := by unfold optionP; rw [if_pos hp]
    rw [e] at h ⊢
    obtain ⟨a, b, c⟩ := name_ok h
    obtain ⟨a2, _, c2⟩ := tk_ok a
    refine ⟨a2, .inl ⟨hp, ?_, ?_⟩⟩
    · rw [c2] at b; exact b
    · rw [show nameP T (tk true s) = (pk T (tk true s), (nameP T (tk true s)).2) from rfl, c, c2]
  · have e : optionP T x s = ([], s) := by unfold optionP; rw [if_neg hp]
    rw [e] at h ⊢
    exact ⟨h, .inr ⟨hp, rfl⟩⟩
theorem fromTo_ok {T : List Tx} {s : St} (h : (fromToP T s).2.2.m = false) : s.m = false ∧ fromToP T s = (pk T ⟨s.k + 1, false⟩, pk T ⟨s.k + 3, false⟩, ⟨s.k + 4, false⟩) ∧ pk T s = [102, 114, 111, 109] ∧ nameL (pk T ⟨s.k + 1, false⟩) = true ∧ pk T ⟨s.k + 2, false⟩ = [116, 111] ∧ nameL (pk T ⟨s.k + 3, false⟩) = true := by
  have h' : (nameP T (fixedP T [116, 111] (nameP T (fixedP T [102, 114, 111, 109] s)).2)).2.m = false := h
  obtain ⟨a4, b4, c4⟩ := name_ok h'
  obtain ⟨a3, b3, c3⟩ := fixed_ok a4
  obtain ⟨a2, b2, c2⟩ := name_ok a3
  obtain ⟨a1, b1, c1⟩ := fixed_ok a2
  have e : fromToP T s = (pk T (fixedP T [102, 114, 111, 109] s), pk T (fixedP T [116, 111] (nameP T (fixedP T [102, 114, 111, 109] s)).2), (nameP T (fixedP T [116, 111] (nameP T (fixedP T [102, 114, 111, 109] s)).2)).2) := rfl
  rw [e, c4, c3, c2, c1]
  rw [c3, c2, c1] at b4
  rw [c2, c1] at b3
  rw [c1] at b2
  exact ⟨a1, rfl, b1, b2, b3, b4⟩
theorem names_ok {T : List Tx} {least : Nat} (N : Nat) : ∀ (acc : List Tx) (s : St), (namesP T least acc s N).2.m = false → s.m = false ∧ (namesP T least acc s N).1.length + s.k = acc.length + (namesP T least acc s N).2.k ∧ s.k ≤ (namesP T least acc s N).2.k := by
  induction N with
  | zero => intro acc s h; exact ⟨h, rfl, Nat.le_refl _⟩
  | succ N ih =>
    intro acc s h
    by_cases hc : s.m = false ∧ (acc.length < least ∨ s.k < T.length)
    · have e : namesP T least acc s (N + 1) = namesP T least (acc ++ [(nameP T s).1]) (nameP T s).2 N := by rw [namesP, if_pos hc]
      rw [e] at h ⊢
      have H := ih _ _ h
      obtain ⟨_, _, e2⟩ := name_ok H.1
      rw [e2] at H ⊢
      generalize namesP T least (acc ++ [(nameP T s).1]) ⟨s.k + 1, false⟩ N = Q at *
      simp only [List.length_append, List.length_cons, List.length_nil] at H
      refine ⟨hc.1, ?_, ?_⟩ <;> omega
    · have e : namesP T least acc s (N + 1) = (acc, s) := by rw [namesP, if_neg hc]
      rw [e] at h ⊢
      exact ⟨h, rfl, Nat.le_refl _⟩
theorem nameL_le {l : Tx} (h : nameL l = true) : l.length ≤ 12 := by simp [nameL] at h; exact h.1.2
/-- what a rule is whose words all fit -/
def Formed (n : Nat) (r : Ru) : Prop :=
  r.list.length ≤ n ∧ (r.kind = 1 ∨ r.kind = 2 ∨ r.kind = 3 ∨ r.kind = 6 ∨ r.kind = 8 ∨ r.kind = 9 ∨ r.kind = 10 ∨ ((r.kind = 4 ∨ r.kind = 5 ∨ r.kind = 11) ∧ 2 ≤ n) ∨ (r.kind = 7 ∧ 4 ≤ n)) ∧ r.name.length ≤ 12
theorem names_ok0 {T : List Tx} {least N : Nat} {s : St} (h : (namesP T least [] s N).2.m = false) : s.m = false ∧ (namesP T least [] s N).1.length + s.k = (namesP T least [] s N).2.k := by
  obtain ⟨a, b, _⟩ := names_ok N [] s h; exact ⟨a, by simpa using b⟩
theorem idx_rng (l : List Tx) (x : Tx) : ∀ i : Int, 0 ≤ i → idx l x i = -1 ∨ (i ≤ idx l x i ∧ idx l x i < i + l.length) := by
  induction l with
  | nil => intro i _; exact .inl rfl
  | cons t r ih =>
    intro i hi
    rw [idx]; split
    · right; simp; omega
    · rcases ih (i + 1) (by omega) with h | h
      · exact .inl h
      · right; simp only [List.length_cons]; omega
theorem formed {T : List Tx} (h : (ruleP T).2.m = false) (hk : (ruleP T).2.k ≤ T.length) : Formed T.length (ruleP T).1 := by
  unfold ruleP at h hk ⊢
  generalize hC : choiceP T kindT ⟨0, false⟩ = C at h hk ⊢
  have hlt : C.1 < 12 := by
    rw [← hC]
    have := idx_rng kindT (pk T ⟨0, false⟩) 0 (by omega)
    rw [show kindT.length = 12 from rfl] at this
    show idx kindT (pk T ⟨0, false⟩) 0 < 12
    omega
  have hr : (C.2.m = false → 0 < C.1 ∧ C.2 = ⟨1, false⟩) := by
    intro hm
    rw [← hC] at hm ⊢
    exact ⟨(choice_ok hm).2.1, (choice_ok hm).2.2⟩
  obtain ⟨c, s⟩ := C
  simp only at hr hlt
  clear hC
  unfold bodyP at h hk ⊢
  simp only at h hk ⊢
  by_cases h1 : c = 1
  · subst h1
    simp only [if_true] at h hk ⊢
    unfold roleP at h hk ⊢
    by_cases hp : pk T (nameP T s).2 = [62]
    · rw [if_pos hp] at h hk ⊢
      obtain ⟨a, b⟩ := names_ok0 h
      obtain ⟨a2, _, e2⟩ := tk_ok a
      obtain ⟨a3, b3, e3⟩ := name_ok a2
      have hk' : (namesP T 1 [] (tk true (nameP T s).2) (T.length + 1)).2.k ≤ T.length := hk
      exact ⟨by show (namesP T 1 [] (tk true (nameP T s).2) (T.length + 1)).1.length ≤ _; omega, .inl rfl, nameL_le b3⟩
    · rw [if_neg hp] at h hk ⊢
      obtain ⟨a3, b3, e3⟩ := name_ok h
      exact ⟨Nat.zero_le _, .inl rfl, nameL_le b3⟩
  rw [if_neg h1] at h hk ⊢
  by_cases h2 : c = 2 ∨ c = 3
  · rw [if_pos h2] at h hk ⊢
    obtain ⟨a, b⟩ := names_ok0 (show (namesP T 0 [] (nameP T s).2 (T.length + 1)).2.m = false from h)
    obtain ⟨a3, b3, e3⟩ := name_ok a
    refine ⟨?_, ?_, nameL_le b3⟩
    · have hk' : (namesP T 0 [] (nameP T s).2 (T.length + 1)).2.k ≤ T.length := hk
      show (namesP T 0 [] (nameP T s).2 (T.length + 1)).1.length ≤ _; omega
    · rcases h2 with rfl | rfl
      · exact .inr (.inl rfl)
      · exact .inr (.inr (.inl rfl))
  rw [if_neg h2] at h hk ⊢
  by_cases h3 : c = 4 ∨ c = 5
  · rw [if_pos h3] at h hk ⊢
    have hk' : (namesP T 2 [] (numberP T s).2 (T.length + 1)).2.k ≤ T.length := hk
    obtain ⟨a, b⟩ := names_ok0 (show (namesP T 2 [] (numberP T s).2 (T.length + 1)).2.m = false from h)
    obtain ⟨a3, b3, e3⟩ := number_ok a
    obtain ⟨_, e0⟩ := hr a3
    have hl : (ssdP T c s).1.list = (namesP T 2 [] (numberP T s).2 (T.length + 1)).1 := rfl
    have hkd : (ssdP T c s).1.kind = c := rfl
    have hnm : (ssdP T c s).1.name = [] := rfl
    unfold Formed
    rw [hl, hkd, hnm]
    rw [e3, e0] at b hk' ⊢
    generalize namesP T 2 [] ⟨(⟨1, false⟩ : St).k + 1, false⟩ (T.length + 1) = Q at *
    have b' : Q.1.length + 2 = Q.2.k := b
    refine ⟨by omega, ?_, Nat.zero_le _⟩
    rcases h3 with rfl | rfl
    · exact .inr (.inr (.inr (.inr (.inr (.inr (.inr (.inl ⟨.inl rfl, by omega⟩)))))))
    · exact .inr (.inr (.inr (.inr (.inr (.inr (.inr (.inl ⟨.inr (.inl rfl), by omega⟩)))))))
  rw [if_neg h3] at h hk ⊢
  by_cases h4 : c = 6
  · subst h4
    simp only [if_true] at h hk ⊢
    have hk' : (namesP T 2 [] s (T.length + 1)).2.k ≤ T.length := hk
    obtain ⟨a, b⟩ := names_ok0 (show (namesP T 2 [] s (T.length + 1)).2.m = false from h)
    refine ⟨?_, .inr (.inr (.inr (.inl rfl))), Nat.zero_le _⟩
    show (namesP T 2 [] s (T.length + 1)).1.length ≤ _; omega
  rw [if_neg h4] at h hk ⊢
  by_cases h5 : c = 7
  · subst h5
    simp only [if_true] at h hk ⊢
    obtain ⟨a1, b1, e1⟩ := number_ok (show (numberP T (numberP T (nameP T s).2).2).2.m = false from h)
    obtain ⟨a2, b2, e2⟩ := number_ok a1
    obtain ⟨a3, b3, e3⟩ := name_ok a2
    obtain ⟨_, e0⟩ := hr a3
    have hk' : (numberP T (numberP T (nameP T s).2).2).2.k ≤ T.length := hk
    rw [e1, e2, e3, e0] at hk'
    exact ⟨Nat.zero_le _, .inr (.inr (.inr (.inr (.inr (.inr (.inr (.inr ⟨rfl, hk'⟩))))))), nameL_le b3⟩
  rw [if_neg h5] at h hk ⊢
  by_cases h6 : c = 8
  · subst h6
    simp only [if_true] at h hk ⊢
    obtain ⟨a1, _⟩ := option_ok (show (optionP T [105, 110] (choiceP T stateT (nameP T s).2).2).2.m = false from h)
    obtain ⟨a2, _, _⟩ := choice_ok a1
    obtain ⟨a3, b3, e3⟩ := name_ok a2
    exact ⟨Nat.zero_le _, .inr (.inr (.inr (.inr (.inl rfl)))), nameL_le b3⟩
  rw [if_neg h6] at h hk ⊢
  by_cases h7 : c = 9
  · subst h7
    simp only [if_true] at h hk ⊢
    obtain ⟨a1, _⟩ := option_ok (show (optionP T [116, 97, 115, 107] (optionP T [98, 121] (fromToP T (nameP T s).2).2.2).2).2.m = false from h)
    obtain ⟨a2, _⟩ := option_ok a1
    obtain ⟨a3, _⟩ := fromTo_ok a2
    obtain ⟨a4, b4, e4⟩ := name_ok a3
    exact ⟨Nat.zero_le _, .inr (.inr (.inr (.inr (.inr (.inl rfl))))), nameL_le b4⟩
  rw [if_neg h7] at h hk ⊢
  by_cases h8 : c = 10
  · subst h8
    simp only [if_true] at h hk ⊢
    exact ⟨Nat.zero_le _, .inr (.inr (.inr (.inr (.inr (.inr (.inl rfl)))))), Nat.zero_le _⟩
  rw [if_neg h8] at h hk ⊢
  by_cases h9 : c = 11
  · subst h9
    simp only [if_true] at h hk ⊢
    obtain ⟨a1, e1, _⟩ := fromTo_ok (show (fromToP T (numberP T s).2).2.2.m = false from h)
    obtain ⟨a2, b2, e2⟩ := number_ok a1
    obtain ⟨_, e0⟩ := hr a2
    have hk' : (fromToP T (numberP T s).2).2.2.k ≤ T.length := hk
    rw [e1, e2, e0] at hk'
    exact ⟨Nat.zero_le _, .inr (.inr (.inr (.inr (.inr (.inr (.inr (.inl ⟨.inr (.inr rfl), by simp only at hk'; omega⟩))))))), Nat.zero_le _⟩
  rw [if_neg h9] at h hk ⊢
  exfalso
  have h0 := (hr h).1
  omega
end Go.Proofs.YtahgfmobdfhaaaaGreatDoor
/-
  Closing; what the program owns.
-/
namespace Go.Proofs.YtahgfmobdfhaaaaGreatDoor
set_option maxRecDepth 100000
open Go.ChangeShapes Go.WideShapes Go.ChangeAt Go.RowKit

theorem Tryz.own : ownKnob Tryz.prog.godebug = none := by kernel_rfl
theorem Tryz.laidOut : laidOutB Tryz.prog = true := by kernel_rfl

/-- a law's end: true, and nothing that was there has turned -/
def TrueOn (w : World) (e : Ending) (w' : World) : Prop := e = .returned (.bool true) ∧ Below w.heap.size w w'

section
variable {H : Type} {enc : TypeId × Value → H}
/-- a list of integers that comes in: its cells -/
def IntsAt (W : World) (v : Value) (zs : List Int) : Prop := ∃ A cap, v = .slice A zs.length cap ∧ zs.length ≤ maxLen ∧
  ∀ k (h : k < zs.length), ∃ b off, A = some ⟨b, off, none⟩ ∧ b < W.heap.size ∧ W.cell? ⟨b, off + k, none⟩ = some (.int .i64 zs[k]) ∧ (Lit.int .i64 zs[k]).wf = true
theorem trodAll_below {W W' : World} (hb : Below W.heap.size W W') : ∀ (ts : List TypeId) (vs : List Value) (ds : List (DataW H)) (ps : List MemPlace),
    (∀ t ∈ ts, Tryz.prog.readableRec t = true ∧ t < Tryz.prog.types.size) → DataW.TrodAll enc Tryz.prog W 0 (fun _ => true) true ts vs ds ps → (∀ x ∈ ps, x.block < W.heap.size) →
    DataW.TrodAll enc Tryz.prog W' 0 (fun b => decide (b < W.heap.size)) true ts vs ds ps := by
  intro ts
  induction ts with
  | nil =>
    intro vs ds ps _ h _
    obtain ⟨rfl, rfl, rfl⟩ := trodAll_nil h
    exact trodAll_mk0
  | cons t ts ih =>
    intro vs ds ps hr h hlt
    obtain ⟨v, vs', d, ds', p, q, rfl, rfl, rfl, h1, h2⟩ := trodAll_cons h
    have ht := hr t (List.mem_cons_self ..)
    exact trodAll_cons_mk (Below.trod Tryz.laidOut ht.1 ht.2 h1 hb fun x hx => hlt x (List.mem_append_left _ hx))
      (ih vs' ds' q (fun t' h' => hr t' (List.mem_cons_of_mem _ h')) h2 fun x hx => hlt x (List.mem_append_right _ hx))

theorem law_post {f : Func} {s : ChangeSpec} {W W' : World} {args : Array Value} {ds gs : List (DataW H)} {before : List MemPlace}
    (hW : DataW.Whole enc Tryz.prog f.params.toList s.vars false W args.toList ds gs before) (hv : s.vars = []) (hres : f.resultTypes = #[4])
    (hs : s.fn H (ds ++ gs) = { results := [.lit (.bool true)], args := ds })
    (hr : ∀ t ∈ f.params.toList, Tryz.prog.readableRec t = true ∧ t < Tryz.prog.types.size) (hb : Below W.heap.size W W') :
    s.post enc Tryz.prog f false true false false W args (.bool true) W' := by
  have hlt := hW.lt
  have hW0 := hW
  obtain ⟨p, q, hA, hV, rfl, _, _⟩ := hW0
  rw [hv] at hV
  obtain ⟨rfl, rfl⟩ := trodVars_none hV
  simp only [List.append_nil] at hlt
  refine ⟨ds, [], _, [], p, [], hW, ?_, ?_, ?_, hb.frame _, fun h => by cases h⟩
  · rw [hs, hres]
    exact trodAll_cons_mk (shut_bool Tryz.underlying4 true) trodAll_mk0
  · rw [hs]
    exact trodAll_below hb _ _ _ _ hr hA hlt
  · rw [hs, hv]
    exact rfl
end
end Go.Proofs.YtahgfmobdfhaaaaGreatDoor
namespace Go.Proofs.YtahgfmobdfhaaaaGreatDoor
set_option maxRecDepth 100000
open Go.ChangeShapes Go.WideShapes Go.ChangeAt Go.RowKit

end Go.Proofs.YtahgfmobdfhaaaaGreatDoor
