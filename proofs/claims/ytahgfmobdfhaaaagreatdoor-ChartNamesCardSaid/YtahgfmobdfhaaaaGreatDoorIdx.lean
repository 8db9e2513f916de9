/-
  The plain reader.
-/
import Derived.Test.YtahgfmobdfhaaaaGreatDoorRdr5
import Derived.Test.YtahgfmobdfhaaaaGreatDoorPlain06
import Derived.Test.YtahgfmobdfhaaaaGreatDoorSameL
namespace Go.Proofs.YtahgfmobdfhaaaaGreatDoor
set_option maxRecDepth 100000
open Go.ChangeShapes Go.WideShapes Go.ChangeAt Go.RowKit

def toSt (s : Nat × Bool) : St := ⟨s.1, s.2⟩
theorem nx_pk (T : List Tx) (k : Nat) : nx T k false = pk T ⟨k, false⟩ := rfl
theorem nx_bad (T : List Tx) (k : Nat) : nx T k true = [] := rfl
theorem wordR_at (T : List Tx) {x : Tx} (hx : x ≠ []) (s : Nat × Bool) : toSt (wordR T x s) = fixedP T x (toSt s) := by
  obtain ⟨k, m⟩ := s
  unfold wordR fixedP toSt
  cases m
  · by_cases h : pk T ⟨k, false⟩ = x
    · rw [nx_pk, if_pos h, h, beq_self_eq_true, tk_true rfl]
    · rw [nx_pk, if_neg h, beq_eq_false_iff_ne.2 h, tk_false]
  · rw [nx_bad, if_neg fun h => hx h.symm, tk_bad rfl]
theorem nameR_at (T : List Tx) (s : Nat × Bool) : toSt (nameR T s).2 = (nameP T (toSt s)).2 ∧ ((nameR T s).2.2 = false → (nameR T s).1 = (nameP T (toSt s)).1) := by
  obtain ⟨k, m⟩ := s
  unfold nameR nameP toSt
  cases m
  · rw [nx_pk]
    cases h : nameL (pk T ⟨k, false⟩)
    · rw [if_neg (by simp), tk_false]; exact ⟨rfl, fun h => by cases h⟩
    · rw [if_pos rfl, tk_true rfl]; exact ⟨rfl, fun _ => rfl⟩
  · rw [nx_bad, if_neg (by decide), tk_bad rfl]
    exact ⟨rfl, fun h => by cases h⟩
theorem numberR_at (T : List Tx) (s : Nat × Bool) : toSt (numberR T s).2 = (numberP T (toSt s)).2 ∧ ((numberR T s).2.2 = false → (numberR T s).1 = (numberP T (toSt s)).1) := by
  obtain ⟨k, m⟩ := s
  unfold numberR numberP toSt numV
  cases m
  · rw [nx_pk]
    cases h : isNum (pk T ⟨k, false⟩)
    · rw [if_neg (by simp), tk_false]; exact ⟨rfl, fun h => by cases h⟩
    · rw [if_pos rfl, tk_true rfl]; exact ⟨rfl, fun _ => by rw [if_pos rfl]⟩
  · rw [nx_bad, if_neg (by decide), tk_bad rfl]
    exact ⟨rfl, fun h => by cases h⟩
theorem namesR_same (T : List Tx) (least : Nat) : ∀ (N : Nat) (acc acc' : List Tx) (s : Nat × Bool), acc.length = acc'.length → (s.2 = false → acc = acc') →
    toSt (namesR T least N acc s).2 = (namesP T least acc' (toSt s) N).2 ∧ ((namesR T least N acc s).2.2 = false → (namesR T least N acc s).1 = (namesP T least acc' (toSt s) N).1)
  | 0, acc, acc', s, _, h => ⟨rfl, h⟩
  | N + 1, acc, acc', s, hl, h => by
    obtain ⟨h1, h2⟩ := nameR_at T s
    by_cases hc : s.2 = false ∧ (s.1 < T.length ∨ acc.length < least)
    · have hc' : (toSt s).m = false ∧ (acc'.length < least ∨ (toSt s).k < T.length) := ⟨hc.1, hc.2.elim (fun h => .inr h) (fun h => .inl (by omega))⟩
      rw [namesR, if_pos hc, namesP, if_pos hc', ← h1]
      exact namesR_same T least N _ _ _ (by simp [hl]) fun h9 => by rw [h hc.1, h2 h9]
    · have hc' : ¬ ((toSt s).m = false ∧ (acc'.length < least ∨ (toSt s).k < T.length)) := fun h9 => hc ⟨h9.1, h9.2.elim (fun h => .inr (by omega)) (fun h => .inl h)⟩
      rw [namesR, if_neg hc, namesP, if_neg hc']
      exact ⟨rfl, h⟩
theorem names_stop {T : List Tx} {least : Nat} {acc : List Tx} {s : St} (h : ¬ (s.m = false ∧ (acc.length < least ∨ s.k < T.length))) : ∀ N, namesP T least acc s N = (acc, s)
  | 0 => rfl
  | N + 1 => by rw [namesP, if_neg h]
theorem names_stab (T : List Tx) (least : Nat) : ∀ (N N' : Nat) (acc : List Tx) (s : St), T.length + 1 ≤ N + s.k → T.length + 1 ≤ N' + s.k → s.k ≤ T.length → namesP T least acc s N = namesP T least acc s N'
  | 0, _, _, s, h1, _, h3 => by omega
  | _ + 1, 0, _, s, _, h2, h3 => by omega
  | N + 1, N' + 1, acc, s, h1, h2, h3 => by
    by_cases hc : s.m = false ∧ (acc.length < least ∨ s.k < T.length)
    · rw [namesP, if_pos hc, namesP, if_pos hc]
      unfold nameP
      cases hn : nameL (pk T s)
      · rw [tk_false, names_stop (by simp), names_stop (by simp)]
      · have hk := pk_lt (nameL_ne hn)
        rw [tk_true hc.1]
        exact names_stab T least N N' _ _ (by simp only; omega) (by simp only; omega) (by simp only; omega)
    · rw [namesP, if_neg hc, namesP, if_neg hc]
theorem namesR_at (T : List Tx) (least : Nat) (s : Nat × Bool) (hs : s.1 ≤ T.length) :
    toSt (namesR T least (T.length + 3) [] s).2 = (namesP T least [] (toSt s) (T.length + 1)).2 ∧ ((namesR T least (T.length + 3) [] s).2.2 = false → (namesR T least (T.length + 3) [] s).1 = (namesP T least [] (toSt s) (T.length + 1)).1) := by
  have h := namesR_same T least (T.length + 3) [] [] s rfl fun _ => rfl
  rw [names_stab T least (T.length + 3) (T.length + 1) [] (toSt s) (by omega) (by omega) hs] at h
  exact h
/-- what stands behind a word that may be left out -/
def optR (T : List Tx) (x : Tx) (s : Nat × Bool) : Tx × Nat × Bool := if nx T s.1 s.2 = x then nameR T (s.1 + 1, s.2) else ([], s)
theorem optR_at (T : List Tx) {x : Tx} (hx : x ≠ []) (s : Nat × Bool) : toSt (optR T x s).2 = (optionP T x (toSt s)).2 ∧ ((optR T x s).2.2 = false → (optR T x s).1 = (optionP T x (toSt s)).1) := by
  obtain ⟨k, m⟩ := s
  unfold optR optionP
  cases m
  · by_cases h : pk T ⟨k, false⟩ = x
    · rw [show nx T (k, false).1 (k, false).2 = pk T ⟨k, false⟩ from rfl, if_pos h, show pk T (toSt (k, false)) = pk T ⟨k, false⟩ from rfl, if_pos h, show tk true (toSt (k, false)) = toSt (k + 1, false) from tk_true rfl]
      exact nameR_at T (k + 1, false)
    · rw [show nx T (k, false).1 (k, false).2 = pk T ⟨k, false⟩ from rfl, if_neg h, show pk T (toSt (k, false)) = pk T ⟨k, false⟩ from rfl, if_neg h]
      exact ⟨rfl, fun _ => rfl⟩
  · rw [show nx T (k, true).1 (k, true).2 = [] from rfl, if_neg fun h => hx h.symm]
    refine ⟨?_, fun h => by cases h⟩
    by_cases h : pk T (toSt (k, true)) = x
    · rw [if_pos h, tk_bad rfl]; unfold nameP; rw [tk_bad rfl]; rfl
    · rw [if_neg h]
def fromToR (T : List Tx) (s : Nat × Bool) : Tx × Tx × Nat × Bool := ((nameR T (wordR T [102, 114, 111, 109] s)).1, (nameR T (wordR T [116, 111] (nameR T (wordR T [102, 114, 111, 109] s)).2)).1, (nameR T (wordR T [116, 111] (nameR T (wordR T [102, 114, 111, 109] s)).2)).2)
theorem nameR_m {T : List Tx} {s : Nat × Bool} (h : (nameR T s).2.2 = false) : s.2 = false := by
  unfold nameR at h; split at h
  · exact h
  · cases h
theorem wordR_m {T : List Tx} {x : Tx} {s : Nat × Bool} (h : (wordR T x s).2 = false) : s.2 = false := by
  unfold wordR at h; split at h
  · exact h
  · cases h
theorem numberR_m {T : List Tx} {s : Nat × Bool} (h : (numberR T s).2.2 = false) : s.2 = false := by
  unfold numberR at h; split at h
  · exact h
  · cases h
theorem optR_m {T : List Tx} {x : Tx} {s : Nat × Bool} (h : (optR T x s).2.2 = false) : s.2 = false := by
  unfold optR at h; split at h
  · exact nameR_m (s := (s.1 + 1, s.2)) h
  · exact h
theorem namesR_m {T : List Tx} {least : Nat} : ∀ {N : Nat} {acc : List Tx} {s : Nat × Bool}, (namesR T least N acc s).2.2 = false → s.2 = false
  | 0, _, _, h => h
  | N + 1, acc, s, h => by
    rw [namesR] at h; split at h
    · rename_i hc; exact hc.1
    · exact h
theorem fromToR_at (T : List Tx) (s : Nat × Bool) : toSt (fromToR T s).2.2 = (fromToP T (toSt s)).2.2 ∧ ((fromToR T s).2.2.2 = false → (fromToR T s).1 = (fromToP T (toSt s)).1 ∧ (fromToR T s).2.1 = (fromToP T (toSt s)).2.1) := by
  have e1 := wordR_at T (x := [102, 114, 111, 109]) (by simp) s
  obtain ⟨e2, v2⟩ := nameR_at T (wordR T [102, 114, 111, 109] s)
  have e3 := wordR_at T (x := [116, 111]) (by simp) (nameR T (wordR T [102, 114, 111, 109] s)).2
  obtain ⟨e4, v4⟩ := nameR_at T (wordR T [116, 111] (nameR T (wordR T [102, 114, 111, 109] s)).2)
  unfold fromToR fromToP
  dsimp only
  rw [e4, e3, e2, e1] 
  refine ⟨rfl, fun h => ⟨?_, ?_⟩⟩
  · rw [v2 (wordR_m (nameR_m h)), e1]
  · rw [v4 h, e3, e2, e1]
theorem fromToR_m {T : List Tx} {s : Nat × Bool} (h : (fromToR T s).2.2.2 = false) : s.2 = false := wordR_m (nameR_m (wordR_m (nameR_m h)))
end Go.Proofs.YtahgfmobdfhaaaaGreatDoor
namespace Go.Proofs.YtahgfmobdfhaaaaGreatDoor
set_option maxRecDepth 100000
open Go.ChangeShapes Go.WideShapes Go.ChangeAt Go.RowKit

/-- the word that may not be, by the numbers alone -/
def wrongK (kd n m : Int) (len : Nat) : Int :=
  if kd = 4 ∨ kd = 5 then (if n < 2 ∨ (len : Int) < n then 1 else 0)
  else if kd = 7 then (if n < 1 then 2 else if m < 1 ∨ 1073741824 < m then 3 else 0)
  else if kd = 11 then (if n < 1 ∨ 1073741824 < n then 1 else 0) else 0
def twiceR (kd : Int) (nm : Tx) (l : List Tx) (i : Nat) : Bool := (kd == 1 && l.getD i [] == nm) || (l.take i).any (· == l.getD i [])
def okB (r : Ru) : Bool := decide (wrongK r.kind r.n r.m r.list.length = 0) && (List.range r.list.length).all fun j => !twiceR r.kind r.name r.list j
theorem idxR_pos (x : Tx) : ∀ (l : List Tx) (j : Nat), (posR l x j = 0 ∧ idx l x (j + 1) = -1) ∨ (0 < posR l x j ∧ idx l x (j + 1) = posR l x j)
  | [], j => .inl ⟨rfl, rfl⟩
  | a :: r, j => by
    rw [posR, idx]
    by_cases h : a = x
    · rw [if_pos h, if_pos h]; exact .inr ⟨by omega, rfl⟩
    · rw [if_neg h, if_neg h]
      have := idxR_pos x r (j + 1)
      rwa [show ((j + 1 : Nat) : Int) + 1 = (j : Int) + 1 + 1 by omega] at this
theorem idx_tbl (x : Tx) (l : List Tx) (hl : posR l [] 0 = 0) : (posR l x 0 = 0 ∧ idx ([] :: l) x 0 ≤ 0) ∨ (0 < posR l x 0 ∧ idx ([] :: l) x 0 = posR l x 0) := by
  rw [idx]
  by_cases h : [] = x
  · rw [if_pos h]; subst h; exact .inl ⟨hl, Int.le_refl _⟩
  · rw [if_neg h]
    rcases idxR_pos x l 0 with ⟨h1, h2⟩ | ⟨h1, h2⟩
    · refine .inl ⟨h1, ?_⟩
      rw [show (0 : Int) + 1 = ((0 : Nat) : Int) + 1 from rfl, h2]; omega
    · exact .inr ⟨h1, h2⟩
def RAt (p : Ru × Nat × Bool) (q : Ru × St) : Prop := toSt p.2 = q.2 ∧ (p.2.2 = false → p.1 = q.1)
def roleR (T : List Tx) (s : Nat × Bool) : Ru × Nat × Bool :=
  if nx T (nameR T s).2.1 (nameR T s).2.2 = [62] then ({ kind := 1, name := (nameR T s).1, list := (namesR T 1 (T.length + 3) [] ((nameR T s).2.1 + 1, (nameR T s).2.2)).1 }, (namesR T 1 (T.length + 3) [] ((nameR T s).2.1 + 1, (nameR T s).2.2)).2)
  else ({ kind := 1, name := (nameR T s).1 }, (nameR T s).2)
def userR (T : List Tx) (kd : Int) (s : Nat × Bool) : Ru × Nat × Bool := ({ kind := kd, name := (nameR T s).1, list := (namesR T 0 (T.length + 3) [] (nameR T s).2).1 }, (namesR T 0 (T.length + 3) [] (nameR T s).2).2)
def ssdR (T : List Tx) (kd : Int) (s : Nat × Bool) : Ru × Nat × Bool := ({ kind := kd, n := (numberR T s).1, list := (namesR T 2 (T.length + 3) [] (numberR T s).2).1 }, (namesR T 2 (T.length + 3) [] (numberR T s).2).2)
def exclR (T : List Tx) (s : Nat × Bool) : Ru × Nat × Bool := ({ kind := 6, list := (namesR T 2 (T.length + 3) [] s).1 }, (namesR T 2 (T.length + 3) [] s).2)
def lendR (T : List Tx) (s : Nat × Bool) : Ru × Nat × Bool := ({ kind := 7, name := (nameR T s).1, n := (numberR T (nameR T s).2).1, m := (numberR T (numberR T (nameR T s).2).2).1 }, (numberR T (numberR T (nameR T s).2).2).2)
/-- behind the kind of a state -/
def skR (T : List Tx) (s : Nat × Bool) : Nat × Bool := if posR stateR (nx T s.1 s.2) 0 = 0 then (s.1, true) else (s.1 + 1, s.2)
def stateRd (T : List Tx) (s : Nat × Bool) : Ru × Nat × Bool := ({ kind := 8, name := (nameR T s).1, n := posR stateR (nx T (nameR T s).2.1 (nameR T s).2.2) 0, in_ := (optR T [105, 110] (skR T (nameR T s).2)).1 }, (optR T [105, 110] (skR T (nameR T s).2)).2)
def onR (T : List Tx) (s : Nat × Bool) : Ru × Nat × Bool :=
  ({ kind := 9, name := (nameR T s).1, from_ := (fromToR T (nameR T s).2).1, to_ := (fromToR T (nameR T s).2).2.1, by_ := (optR T [98, 121] (fromToR T (nameR T s).2).2.2).1, task := (optR T [116, 97, 115, 107] (optR T [98, 121] (fromToR T (nameR T s).2).2.2).2).1 }, (optR T [116, 97, 115, 107] (optR T [98, 121] (fromToR T (nameR T s).2).2.2).2).2)
def autoR (T : List Tx) (s : Nat × Bool) : Ru × Nat × Bool := ({ kind := 10, from_ := (fromToR T s).1, to_ := (fromToR T s).2.1 }, (fromToR T s).2.2)
def afterR (T : List Tx) (s : Nat × Bool) : Ru × Nat × Bool := ({ kind := 11, n := (numberR T s).1, from_ := (fromToR T (numberR T s).2).1, to_ := (fromToR T (numberR T s).2).2.1 }, (fromToR T (numberR T s).2).2.2)
def bodyR (T : List Tx) (kd : Int) (s : Nat × Bool) : Ru × Nat × Bool :=
  if kd = 1 then roleR T s else if kd = 2 ∨ kd = 3 then userR T kd s else if kd = 4 ∨ kd = 5 then ssdR T kd s else if kd = 6 then exclR T s else if kd = 7 then lendR T s
  else if kd = 8 then stateRd T s else if kd = 9 then onR T s else if kd = 10 then autoR T s else if kd = 11 then afterR T s else ({ kind := kd }, s)
theorem nameR_le {T : List Tx} {s : Nat × Bool} (h : s.1 ≤ T.length) : (nameR T s).2.1 ≤ T.length := by
  unfold nameR
  split
  · rename_i hc; exact nx_len (nameL_ne hc)
  · exact h
theorem numberR_le {T : List Tx} {s : Nat × Bool} (h : s.1 ≤ T.length) : (numberR T s).2.1 ≤ T.length := by
  unfold numberR
  split
  · rename_i hc; exact nx_len (isNum_ne hc)
  · exact h
theorem roleR_at (T : List Tx) (s : Nat × Bool) (hs : s.1 ≤ T.length) : RAt (roleR T s) (roleP T (toSt s)) := by
  obtain ⟨e1, v1⟩ := nameR_at T s
  have hle := nameR_le hs
  unfold roleR roleP
  rw [← e1]
  generalize hA : (nameR T s).2 = A at *
  obtain ⟨k1, m1⟩ := A
  cases m1
  · rw [show nx T (k1, false).1 (k1, false).2 = pk T (toSt (k1, false)) from rfl, show tk true (toSt (k1, false)) = toSt (k1 + 1, false) from tk_true rfl]
    by_cases h : pk T (toSt (k1, false)) = [62]
    · rw [if_pos h, if_pos h]
      have hk : k1 < T.length := pk_lt (s := toSt (k1, false)) (by rw [h]; simp)
      obtain ⟨e2, v2⟩ := namesR_at T 1 (k1 + 1, false) hk
      exact ⟨e2, fun h9 => by rw [v1 rfl, v2 h9]⟩
    · rw [if_neg h, if_neg h]
      exact ⟨rfl, fun _ => by rw [v1 rfl]⟩
  · rw [show nx T (k1, true).1 (k1, true).2 = [] from rfl, if_neg (by simp)]
    refine ⟨?_, fun h9 => by cases h9⟩
    split
    · rw [tk_bad rfl, names_stop (by simp)]; rfl
    · rfl
theorem userR_at (T : List Tx) (kd : Int) (s : Nat × Bool) (hs : s.1 ≤ T.length) : RAt (userR T kd s) (userP T kd (toSt s)) := by
  obtain ⟨e1, v1⟩ := nameR_at T s
  obtain ⟨e2, v2⟩ := namesR_at T 0 (nameR T s).2 (nameR_le hs)
  rw [e1] at e2 v2
  exact ⟨e2, fun h => by unfold userR userP; rw [v1 (namesR_m h), v2 h]⟩
theorem ssdR_at (T : List Tx) (kd : Int) (s : Nat × Bool) (hs : s.1 ≤ T.length) : RAt (ssdR T kd s) (ssdP T kd (toSt s)) := by
  obtain ⟨e1, v1⟩ := numberR_at T s
  obtain ⟨e2, v2⟩ := namesR_at T 2 (numberR T s).2 (numberR_le hs)
  rw [e1] at e2 v2
  exact ⟨e2, fun h => by unfold ssdR ssdP; rw [v1 (namesR_m h), v2 h]⟩
theorem exclR_at (T : List Tx) (s : Nat × Bool) (hs : s.1 ≤ T.length) : RAt (exclR T s) (exclP T (toSt s)) := by
  obtain ⟨e2, v2⟩ := namesR_at T 2 s hs
  exact ⟨e2, fun h => by unfold exclR exclP; rw [v2 h]⟩
theorem lendR_at (T : List Tx) (s : Nat × Bool) : RAt (lendR T s) (lendP T (toSt s)) := by
  obtain ⟨e1, v1⟩ := nameR_at T s
  obtain ⟨e2, v2⟩ := numberR_at T (nameR T s).2
  obtain ⟨e3, v3⟩ := numberR_at T (numberR T (nameR T s).2).2
  rw [e2] at e3 v3
  rw [e1] at e2 v2 e3 v3
  exact ⟨e3, fun h => by unfold lendR lendP; dsimp only; rw [v1 (numberR_m (numberR_m h)), v2 (numberR_m h), v3 h]⟩
theorem skR_at (T : List Tx) (s : Nat × Bool) : toSt (skR T s) = (choiceP T stateT (toSt s)).2 ∧ ((skR T s).2 = false → posR stateR (nx T s.1 s.2) 0 = (choiceP T stateT (toSt s)).1) := by
  obtain ⟨k, m⟩ := s
  unfold skR choiceP
  cases m
  · rw [show nx T (k, false).1 (k, false).2 = pk T (toSt (k, false)) from rfl, show stateT = [] :: stateR from rfl]
    rcases idx_tbl (pk T (toSt (k, false))) stateR (by decide) with ⟨h1, h2⟩ | ⟨h1, h2⟩
    · rw [if_pos h1, decide_eq_false (by omega), tk_false]
      exact ⟨rfl, fun h => by cases h⟩
    · rw [if_neg (by omega), decide_eq_true (by omega), tk_true rfl]
      exact ⟨rfl, fun _ => h2.symm⟩
  · rw [show nx T (k, true).1 (k, true).2 = [] from rfl, if_pos (by decide), tk_bad rfl]
    exact ⟨rfl, fun h => by cases h⟩
theorem skR_m {T : List Tx} {s : Nat × Bool} (h : (skR T s).2 = false) : s.2 = false := by
  unfold skR at h; split at h
  · cases h
  · exact h
theorem stateR_at (T : List Tx) (s : Nat × Bool) : RAt (stateRd T s) (stateP T (toSt s)) := by
  obtain ⟨e1, v1⟩ := nameR_at T s
  obtain ⟨e2, v2⟩ := skR_at T (nameR T s).2
  obtain ⟨e3, v3⟩ := optR_at T (x := [105, 110]) (by simp) (skR T (nameR T s).2)
  rw [e2] at e3 v3
  rw [e1] at e2 v2 e3 v3
  exact ⟨e3, fun h => by unfold stateRd stateP; dsimp only; rw [v1 (skR_m (optR_m h)), v2 (optR_m h), v3 h]⟩
theorem onR_at (T : List Tx) (s : Nat × Bool) : RAt (onR T s) (onP T (toSt s)) := by
  obtain ⟨e1, v1⟩ := nameR_at T s
  obtain ⟨e2, v2⟩ := fromToR_at T (nameR T s).2
  obtain ⟨e3, v3⟩ := optR_at T (x := [98, 121]) (by simp) (fromToR T (nameR T s).2).2.2
  obtain ⟨e4, v4⟩ := optR_at T (x := [116, 97, 115, 107]) (by simp) (optR T [98, 121] (fromToR T (nameR T s).2).2.2).2
  rw [e3] at e4 v4
  rw [e2] at e3 v3 e4 v4
  rw [e1] at e2 v2 e3 v3 e4 v4
  exact ⟨e4, fun h => by
    unfold onR onP; dsimp only
    have h3 := optR_m h
    have h2 := optR_m h3
    rw [v1 (fromToR_m h2), (v2 h2).1, (v2 h2).2, v3 h3, v4 h]⟩
theorem autoR_at (T : List Tx) (s : Nat × Bool) : RAt (autoR T s) (autoP T (toSt s)) := by
  obtain ⟨e2, v2⟩ := fromToR_at T s
  exact ⟨e2, fun h => by unfold autoR autoP; rw [(v2 h).1, (v2 h).2]⟩
theorem afterR_at (T : List Tx) (s : Nat × Bool) : RAt (afterR T s) (afterP T (toSt s)) := by
  obtain ⟨e1, v1⟩ := numberR_at T s
  obtain ⟨e2, v2⟩ := fromToR_at T (numberR T s).2
  rw [e1] at e2 v2
  exact ⟨e2, fun h => by unfold afterR afterP; dsimp only; rw [v1 (fromToR_m h), (v2 h).1, (v2 h).2]⟩
theorem bodyR_at (T : List Tx) (kd : Int) (s : Nat × Bool) (hs : s.1 ≤ T.length) : RAt (bodyR T kd s) (bodyP T (kd, toSt s)) := by
  unfold bodyR bodyP
  dsimp only
  split
  · exact roleR_at T s hs
  split
  · exact userR_at T kd s hs
  split
  · exact ssdR_at T kd s hs
  split
  · exact exclR_at T s hs
  split
  · exact lendR_at T s
  split
  · exact stateR_at T s
  split
  · exact onR_at T s
  split
  · exact autoR_at T s
  split
  · exact afterR_at T s
  exact ⟨rfl, fun _ => rfl⟩
def kdR (T : List Tx) : Int := posR kindR (pk T ⟨0, false⟩) 0
def readR (T : List Tx) : Ru × Nat × Bool := if kdR T = 0 then ({ kind := 0 }, 1, true) else bodyR T (kdR T) (1, false)
theorem kd_at (T : List Tx) : (kdR T = 0 ∧ (ruleP T).2.m = true) ∨ (0 < kdR T ∧ kdR T < 12 ∧ ruleP T = bodyP T (kdR T, toSt (1, false)) ∧ 0 < T.length) := by
  have h12 := idx_rng kindT (pk T ⟨0, false⟩) 0 (by omega)
  rw [show kindT.length = 12 from rfl] at h12
  unfold ruleP choiceP
  rw [show kindT = [] :: kindR from rfl] at h12 ⊢
  unfold kdR
  rcases idx_tbl (pk T ⟨0, false⟩) kindR (by decide) with ⟨h1, h2⟩ | ⟨h1, h2⟩
  · refine .inl ⟨h1, ?_⟩
    rw [decide_eq_false (by omega), tk_false]
    unfold bodyP
    dsimp only
    rw [if_neg (by omega), if_neg (by omega), if_neg (by omega), if_neg (by omega), if_neg (by omega), if_neg (by omega), if_neg (by omega), if_neg (by omega), if_neg (by omega)]
  · refine .inr ⟨h1, by omega, ?_, ?_⟩
    · rw [h2, decide_eq_true h1, tk_true rfl]; rfl
    · by_cases h0 : 0 < T.length
      · exact h0
      · rw [pk_end (s := ⟨0, false⟩) (by simp only; omega)] at h1
        exact absurd h1 (by decide)
theorem read_at (T : List Tx) : ((readR T).2.2 = (ruleP T).2.m) ∧ ((readR T).2.2 = false → (readR T).2.1 = (ruleP T).2.k ∧ (readR T).1 = (ruleP T).1) := by
  unfold readR
  rcases kd_at T with ⟨h1, h2⟩ | ⟨h1, _, h2, h3⟩
  · rw [if_pos h1]; exact ⟨h2.symm, fun h => by cases h⟩
  · rw [if_neg (by omega), h2]
    obtain ⟨e, v⟩ := bodyR_at T (kdR T) (1, false) h3
    rw [← e]
    exact ⟨rfl, fun h => ⟨rfl, v h⟩⟩
/-- where the list begins -/
def firstR (T : List Tx) (kd : Int) : Nat :=
  if kd = 1 then (nameR T (1, false)).2.1 + 1 else if kd = 2 ∨ kd = 3 then (nameR T (1, false)).2.1 else if kd = 4 ∨ kd = 5 then (numberR T (1, false)).2.1 else if kd = 6 then 1 else 0
theorem namesR_drop {T : List Tx} {least : Nat} {s : Nat × Bool} (hs : s.1 ≤ T.length) (h1 : (namesR T least (T.length + 3) [] s).2.2 = false) (h2 : T.length ≤ (namesR T least (T.length + 3) [] s).2.1) : (namesR T least (T.length + 3) [] s).1 = T.drop s.1 := by
  obtain ⟨e, v⟩ := namesR_at T least s hs
  have e1 : (namesP T least [] (toSt s) (T.length + 1)).2.m = false := by rw [← e]; exact h1
  have e2 : T.length ≤ (namesP T least [] (toSt s) (T.length + 1)).2.k := by rw [← e]; exact h2
  rw [v h1, names_drop _ _ _ e1 e2]; rfl
theorem nameR_pos {T : List Tx} {s : Nat × Bool} (h : 1 ≤ s.1) : 1 ≤ (nameR T s).2.1 := by unfold nameR; split <;> simp only <;> omega
theorem numberR_pos {T : List Tx} {s : Nat × Bool} (h : 1 ≤ s.1) : 1 ≤ (numberR T s).2.1 := by unfold numberR; split <;> simp only <;> omega
theorem list_at {T : List Tx} (h0 : 0 < T.length) (kd : Int) (hm : (bodyR T kd (1, false)).2.2 = false) (hk : T.length ≤ (bodyR T kd (1, false)).2.1) : (bodyR T kd (1, false)).1.kind = kd ∧ ((bodyR T kd (1, false)).1.list = [] ∨ (1 ≤ firstR T kd ∧ (bodyR T kd (1, false)).1.list = T.drop (firstR T kd))) := by
  unfold firstR
  unfold bodyR at *
  split at hm
  · rename_i e
    simp only [if_pos e] at *
    unfold roleR at *
    split at hm
    · rename_i h
      rw [if_pos h] at *
      have := nx_len (T := T) (k := (nameR T (1, false)).2.1) (m := (nameR T (1, false)).2.2) (by rw [h]; simp)
      exact ⟨e.symm, .inr ⟨by omega, namesR_drop (s := ((nameR T (1, false)).2.1 + 1, _)) this hm hk⟩⟩
    · rename_i h
      rw [if_neg h]
      exact ⟨e.symm, .inl rfl⟩
  rename_i n1
  simp only [if_neg n1] at *
  split at hm
  · rename_i e
    simp only [if_pos e] at *
    exact ⟨rfl, .inr ⟨nameR_pos (Nat.le_refl _), namesR_drop (nameR_le h0) hm hk⟩⟩
  rename_i n2
  simp only [if_neg n2] at *
  split at hm
  · rename_i e
    simp only [if_pos e] at *
    exact ⟨rfl, .inr ⟨numberR_pos (Nat.le_refl _), namesR_drop (numberR_le h0) hm hk⟩⟩
  rename_i n3
  simp only [if_neg n3] at *
  split at hm
  · rename_i e
    simp only [if_pos e] at *
    exact ⟨e.symm, .inr ⟨Nat.le_refl _, namesR_drop (s := (1, false)) h0 hm hk⟩⟩
  rename_i n4
  simp only [if_neg n4] at *
  split at hm
  · rename_i e
    simp only [if_pos e] at *
    exact ⟨e.symm, .inl rfl⟩
  rename_i n5
  simp only [if_neg n5] at *
  split at hm
  · rename_i e
    simp only [if_pos e] at *
    exact ⟨e.symm, .inl rfl⟩
  rename_i n6
  simp only [if_neg n6] at *
  split at hm
  · rename_i e
    simp only [if_pos e] at *
    exact ⟨e.symm, .inl rfl⟩
  rename_i n7
  simp only [if_neg n7] at *
  split at hm
  · rename_i e
    simp only [if_pos e] at *
    exact ⟨e.symm, .inl rfl⟩
  rename_i n8
  simp only [if_neg n8] at *
  split at hm
  · rename_i e
    simp only [if_pos e] at *
    exact ⟨e.symm, .inl rfl⟩
  rename_i n9
  simp only [if_neg n9] at *
  exact ⟨trivial, .inl trivial⟩
theorem dup_all : ∀ (l seen : List Tx), dupT seen l = false ↔ ∀ j, j < l.length → l.getD j [] ∉ seen ∧ l.getD j [] ∉ l.take j
  | [], seen => by simp [dupT]
  | t :: r, seen => by
    rw [dupT, Bool.or_eq_false_iff, decide_eq_false_iff_not, dup_all r (seen ++ [t])]
    constructor
    · rintro ⟨h1, h2⟩ j hj
      cases j with
      | zero => exact ⟨h1, by simp⟩
      | succ j =>
        have := h2 j (by simpa using hj)
        simp only [List.getD_cons_succ, List.take_succ_cons, List.mem_cons, List.mem_append, not_or] at this ⊢
        simp at this
        exact ⟨this.1.1, this.1.2, this.2⟩
    · intro h
      refine ⟨(h 0 (by simp)).1, fun j hj => ?_⟩
      have := h (j + 1) (by simpa using hj)
      simp only [List.getD_cons_succ, List.take_succ_cons, List.mem_cons, List.mem_append, not_or] at this ⊢
      simp
      exact ⟨⟨this.1, this.2.1⟩, this.2.2⟩
theorem twice_all (kd : Int) (nm : Tx) (l : List Tx) : ((List.range l.length).all fun j => !twiceR kd nm l j) = !dupT (if kd = 1 then [nm] else []) l := by
  rw [Bool.eq_iff_iff, List.all_eq_true, Bool.not_eq_true', dup_all]
  constructor
  · intro h j hj
    have := h j (List.mem_range.2 hj)
    unfold twiceR at this
    rw [Bool.not_eq_true', Bool.or_eq_false_iff, List.any_eq_false] at this
    refine ⟨?_, fun hm => this.2 _ hm (beq_self_eq_true _)⟩
    by_cases hk : kd = 1
    · rw [if_pos hk]
      have h1 := this.1
      rw [hk] at h1
      simp at h1 ⊢
      exact h1
    · rw [if_neg hk]; simp
  · intro h j hj
    obtain ⟨h1, h2⟩ := h j (List.mem_range.1 hj)
    unfold twiceR
    rw [Bool.not_eq_true', Bool.or_eq_false_iff, List.any_eq_false]
    refine ⟨?_, fun x hx he => h2 (by rw [beq_iff_eq] at he; rw [← he]; exact hx)⟩
    by_cases hk : kd = 1
    · rw [if_pos hk] at h1
      rw [hk]
      simpa using h1
    · rw [beq_eq_false_iff_ne.2 hk]; rfl
theorem okB_wrong {r : Ru} {T : List Tx} (hl : listT r T = r.list) (hk : 0 < r.kind ∧ r.kind < 12) (hno : (7 ≤ r.kind → r.list = []) ∧ (r.kind = 7 → 0 ≤ r.n)) : okB r = !wrongT r T := by
  unfold okB wrongT
  rw [twice_all, hl]
  by_cases h1 : r.kind = 1
  · rw [if_pos h1, if_pos h1, h1]; simp [wrongK]
  rw [if_neg h1, if_neg h1]
  by_cases h2 : r.kind = 2 ∨ r.kind = 3 ∨ r.kind = 6
  · rw [if_pos h2]
    have : wrongK r.kind r.n r.m r.list.length = 0 := by unfold wrongK; rw [if_neg (by omega), if_neg (by omega), if_neg (by omega)]
    rw [this]; simp
  rw [if_neg h2]
  by_cases h3 : r.kind = 4 ∨ r.kind = 5
  · rw [if_pos h3]
    unfold wrongK
    rw [if_pos h3]
    by_cases hn : r.n < 2 ∨ (r.list.length : Int) < r.n
    · rw [if_pos hn, decide_eq_true hn]; simp
    · rw [if_neg hn, decide_eq_false hn]; simp
  rw [if_neg h3]
  have h7 : 7 ≤ r.kind := by omega
  rw [hno.1 h7, show dupT [] [] = false from rfl]
  by_cases h4 : r.kind = 7
  · rw [if_pos h4]
    unfold wrongK timeP
    rw [if_neg h3, if_pos h4]
    have := hno.2 h4
    by_cases hn : r.n < 1
    · rw [if_pos hn, decide_eq_true (show r.n = 0 by omega)]; simp
    · rw [if_neg hn, decide_eq_false (show ¬ r.n = 0 by omega)]
      by_cases hm : r.m < 1 ∨ 1073741824 < r.m
      · rw [if_pos hm]
        have : (decide (0 < r.m) && decide (r.m ≤ 1073741824)) = false := by
          rw [Bool.and_eq_false_iff, decide_eq_false_iff_not, decide_eq_false_iff_not]; omega
        rw [this]; simp
      · rw [if_neg hm, decide_eq_true (show 0 < r.m by omega), decide_eq_true (show r.m ≤ 1073741824 by omega)]; simp
  rw [if_neg h4]
  by_cases h5 : r.kind = 11
  · rw [if_pos h5]
    unfold wrongK timeP
    rw [if_neg h3, if_neg h4, if_pos h5]
    by_cases hm : r.n < 1 ∨ 1073741824 < r.n
    · rw [if_pos hm]
      have : (decide (0 < r.n) && decide (r.n ≤ 1073741824)) = false := by
        rw [Bool.and_eq_false_iff, decide_eq_false_iff_not, decide_eq_false_iff_not]; omega
      rw [this]; simp
    · rw [if_neg hm, decide_eq_true (show 0 < r.n by omega), decide_eq_true (show r.n ≤ 1073741824 by omega)]; simp
  rw [if_neg h5]
  have : wrongK r.kind r.n r.m ([] : List Tx).length = 0 := by unfold wrongK; rw [if_neg h3, if_neg h4, if_neg h5]
  rw [this]; simp
/-- what the document's reader takes -/
def AccR (T : List Tx) : Prop := T.length ≤ (readR T).2.1 ∧ (readR T).2.2 = false ∧ okB (readR T).1 = true
theorem body_seven {T : List Tx} {kd : Int} {s : Nat × Bool} (h : 7 ≤ kd) : (bodyR T kd s).1.list = [] ∧ (kd = 7 → 0 ≤ (bodyR T kd s).1.n) := by
  unfold bodyR
  rw [if_neg (by omega), if_neg (by omega), if_neg (by omega), if_neg (by omega)]
  split
  · refine ⟨rfl, fun _ => ?_⟩
    show 0 ≤ (numberR T (nameR T s).2).1
    unfold numberR
    split <;> simp
  rename_i n7
  refine ⟨?_, fun h => absurd h n7⟩
  split
  · rfl
  split
  · rfl
  split
  · rfl
  split
  · rfl
  rfl
theorem parseW_at {ws : List (Nat × Tx)} (hp : ∀ x ∈ ws, 1 ≤ x.1) (h1 : 0 < ws.length) : (AccR (tx ws) → parseW ws = .ok (readR (tx ws)).1) ∧ (¬ AccR (tx ws) → ∃ c k, parseW ws = .bad c k) := by
  have hl : (tx ws).length = ws.length := by simp [tx]
  obtain ⟨e1, e2⟩ := read_at (tx ws)
  have hme := mis_end (s := (ruleP (tx ws)).2) hp h1
  unfold parseW
  by_cases hm : ws.length ≤ (ruleP (tx ws)).2.k ∧ (ruleP (tx ws)).2.m = false
  · have hm0 := hme.2 hm
    rw [if_neg (by omega)]
    have hmf : (readR (tx ws)).2.2 = false := by rw [e1]; exact hm.2
    obtain ⟨e3, e4⟩ := e2 hmf
    have hF := formed (T := tx ws) hm.2 (by rw [hl]; exact Nat.le_trans (by have := rule_le (tx ws); rw [hl] at this; exact this) (Nat.le_refl _))
    rw [hl] at hF
    have hwt := wrong_T hp hF
    have hok : okB (readR (tx ws)).1 = !wrongT (readR (tx ws)).1 (tx ws) := by
      rcases kd_at (tx ws) with ⟨_, h2⟩ | ⟨h2, h3, _, h4⟩
      · rw [h2] at hm; cases hm.2
      · have hrd : readR (tx ws) = bodyR (tx ws) (kdR (tx ws)) (1, false) := by unfold readR; rw [if_neg (by omega)]
        rw [hrd] at hmf e3 ⊢
        obtain ⟨hkd, hla⟩ := list_at h4 (kdR (tx ws)) hmf (by rw [hl, e3]; exact hm.1)
        refine okB_wrong ?_ (by rw [hkd]; omega) ⟨fun h7 => (body_seven (by rw [hkd] at h7; exact h7)).1, fun h7 => (body_seven (kd := kdR (tx ws)) (by omega)).2 (by rw [hkd] at h7; exact h7)⟩
        unfold listT
        rcases hla with h | ⟨_, h⟩
        · rw [h, List.length_nil, Nat.sub_zero, List.drop_length]
        · rw [h, List.length_drop]
          by_cases hf : firstR (tx ws) (kdR (tx ws)) ≤ (tx ws).length
          · congr 1; omega
          · rw [List.drop_of_length_le (by omega), List.drop_of_length_le (by omega)]
    rw [e4] at hok
    refine ⟨fun hA => ?_, fun hA => ?_⟩
    · have h9 := hA.2.2
      rw [e4, hok, Bool.not_eq_true'] at h9
      rw [if_neg (by rw [hwt, h9]; simp), e4]
    · have h9 : wrongT (ruleP (tx ws)).1 (tx ws) = true := by
        cases hw : wrongT (ruleP (tx ws)).1 (tx ws)
        · exact absurd ⟨by rw [hl, e3]; exact hm.1, hmf, by rw [e4, hok, hw]; rfl⟩ hA
        · rfl
      rw [if_pos (hwt.2 h9)]
      exact ⟨_, _, rfl⟩
  · have hm0 : ¬ misP ws (ruleP (tx ws)).2 = 0 := fun h => hm (hme.1 h)
    rw [if_pos (by omega)]
    refine ⟨fun hA => ?_, fun _ => ⟨_, _, rfl⟩⟩
    exact absurd ⟨by rw [← (e2 hA.2.1).1, ← hl]; exact hA.1, by rw [← e1]; exact hA.2.1⟩ hm
end Go.Proofs.YtahgfmobdfhaaaaGreatDoor
/-
  slices.Index and slices.Contains of texts.
-/
namespace Go.Proofs.YtahgfmobdfhaaaaGreatDoor
set_option maxRecDepth 100000
open Go.ChangeShapes Go.WideShapes Go.ChangeAt Go.RowKit

theorem beq_tx (a c : Tx) : ((bs a).toList == (bs c).toList) = (a == c) := by rw [Lib.toList_data, Lib.toList_data, list_bs, list_bs]
/-- the place of a text; -1: none -/
def idxI (l : List Tx) (x : Tx) : Int := if x ∈ l then (l.idxOf x : Int) else -1
theorem idxOf_at {l : List Tx} {x : Tx} {k : Nat} (h : k < l.length) (e : x = l[k]) (hn : x ∉ l.take k) : l.idxOf x = k := by
  have hs : l = l.take k ++ l[k] :: l.drop (k + 1) := by rw [← List.drop_eq_getElem_cons h, List.take_append_drop]
  rw [hs, List.idxOf_append, if_neg hn, ← e, List.idxOf_cons_self, List.length_take]
  omega
set_option maxHeartbeats 1000000 in
theorem IndexX_any (l : List Tx) (x : Tx) (A : Option Addr) (c : Nat) (w : World) (h : ListAt w A c l) (hl : l.length ≤ 1000000) :
    Calls Tryz.prog 72 #[.slice A l.length c, .string (bs x)] w fun e w' => e = .returned (.int .i64 (idxI l x)) ∧ w = w' := by
  have hc := h.1
  have h := h.2
  go_enter Tryz.func72, Tryz.ntmps72
  go_wp2
  go_loop [5, 8] (fun _ i => ∃ k : Nat, k ≤ l.length ∧ i = .int .i64 k ∧ Hid (x ∉ l.take k)) (fun _ i => l.length - (intOf i).toNat)
  case atStart => exact ⟨0, Nat.zero_le _, rfl, by show ¬ _; simp⟩
  case round =>
    obtain ⟨k, hk, rfl, HI⟩ := hrel
    by_cases hlt : k < l.length
    · obtain ⟨b, rfl, _, hx⟩ := h k hlt
      have hsn : l.take (k + 1) = l.take k ++ [l[k]] := by rw [List.take_succ_eq_append_getElem hlt]
      have hme : l[k] ∈ l := List.getElem_mem hlt
      clear h
      by_cases he : x = l[k]
      · have HM : Hid (idxI l x = k) := by show _ = _; unfold idxI; rw [if_pos (by rw [he]; exact hme), idxOf_at hlt he HI.out]
        have hb : ((bs x).toList == (bs l[k]).toList) = true := by rw [beq_tx]; simp [he]
        clear he hme hsn
        generalize bs l[k] = y at *
        go_wp2
        go_ret
        exact ⟨ret_int HM.out.symm, rfl⟩
      · have HT : Hid (x ∉ l.take (k + 1)) := by
          show ¬ _
          rw [hsn, List.mem_append]
          exact fun hh => hh.elim HI.out (fun h => he (List.mem_singleton.1 h))
        have hb : ((bs x).toList == (bs l[k]).toList) = false := by rw [beq_tx]; simp [he]
        clear he hme hsn
        generalize bs l[k] = y at *
        go_wp2
        go_round
        case rel => exact ⟨k + 1, by omega, by go_num, HT⟩
        case measure => simp [intOf]; omega
    · have HT : Hid (idxI l x = -1) := by have := HI.out; rw [List.take_of_length_le (by omega)] at this; show _ = _; unfold idxI; rw [if_neg this]
      clear h
      go_wp2
      go_ret
      exact ⟨ret_int HT.out.symm, rfl⟩
theorem idxI_ge (l : List Tx) (x : Tx) : decide (0 ≤ idxI l x) = decide (x ∈ l) := by
  unfold idxI; split
  · rename_i h; simp [h]
  · rename_i h; simp [h]
theorem Contains_str (l : List Tx) (x : Tx) (A : Option Addr) (c : Nat) (w : World) (h : ListAt w A c l) (hl : l.length ≤ 1000000) :
    Calls Tryz.prog 37 #[.slice A l.length c, .string (bs x)] w fun e w' => e = .returned (.bool (decide (x ∈ l))) ∧ w = w' := by
  have HI := Lib.hid (IndexX_any l x A c w h hl)
  have HG := Lib.hid (idxI_ge l x)
  clear h
  go_enter Tryz.func37, Tryz.ntmps37
  go_wp2_with (go_at_call 72; refine HI.out.mono ?_; rintro e w1 ⟨rfl, rfl⟩)
  go_ret
  exact ⟨ret_bool HG.out, rfl⟩
end Go.Proofs.YtahgfmobdfhaaaaGreatDoor
