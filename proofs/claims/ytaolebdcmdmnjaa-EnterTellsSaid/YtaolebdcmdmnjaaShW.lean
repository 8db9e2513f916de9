/-
  What is known of the shapes that the statements are made of, whole: a history's parent is Plain and has a state, a parent may hold states.
-/
import Derived.Test.YtaolebdcmdmnjaaShOf
import Derived.Test.YtaolebdcmdmnjaaEnt0
namespace Go.Proofs.Ytaolebdcmdmnjaa
set_option maxRecDepth 100000

/-- a shape in the making: up to j the histories of the first state are well -/
def ShW (ks ps : List Int) (j : Nat) : Prop := ShOk ks ps ∧ (∀ k q : Nat, k < ks.length → ps.getD k 0 = q → hl ks q = true) ∧
  ∀ k, k < ks.length → hl ks k = false → ∃ q : Nat, ps.getD k 0 = q ∧ (ks.getD q 0 = 1 ∨ (q = 0 ∧ j ≤ k)) ∧ ∃ i, i < ks.length ∧ isKid ks ps q i = true
/-- a parent that may be one -/
def parOk (ks : List Int) (p : Int) : Prop := p = -1 ∨ ∃ q : Nat, p = q ∧ hl ks q = true
/-- a history stands behind a state of a Plain one -/
def behindY (ks ps : List Int) (p y : Int) : Prop := 3 ≤ y → ∃ q i : Nat, p = q ∧ ks.getD q 0 = 1 ∧ i < ks.length ∧ isKid ks ps q i = true
section
variable {ks ps : List Int} {j k : Nat}
theorem hl_in {i : Nat} (h1 : 1 ≤ ks.getD i 0) (h2 : ks.getD i 0 ≤ 2) : hl ks i = true := by
  unfold hl
  have : ks.getD i 0 = 1 ∨ ks.getD i 0 = 2 := by omega
  rcases this with e | e <;> rw [e] <;> rfl
theorem hl_no {i : Nat} (h : hl ks i = false) : ks.getD i 0 ≠ 1 ∧ ks.getD i 0 ≠ 2 := by
  unfold hl at h
  rw [Bool.or_eq_false_iff] at h
  exact ⟨by simpa using h.1, by simpa using h.2⟩
theorem ShW.start : ShW [1] [-1] 1 := by
  refine ⟨⟨rfl, fun k hk => ?_, fun k hk => ?_, by decide⟩, fun k q hk e => ?_, fun k hk hh => ?_⟩
  · simp at hk; subst hk; decide
  · simp at hk; subst hk; decide
  · simp at hk; subst hk; simp at e
  · simp at hk; subst hk; exact absurd hh (by decide)
theorem parOk.of (h : ShW ks ps k) {q : Nat} (hq : q < ks.length) (h3 : ks.getD q 0 < 3) : parOk ks q := .inr ⟨q, rfl, hl_in (h.1.2.1 q hq).1 (by omega)⟩
theorem ShW.ge (h : ShW ks ps j) (e : k ≤ j) : ShW ks ps k := by
  refine ⟨h.1, h.2.1, fun i hi hh => ?_⟩
  obtain ⟨q, e1, e2, e3⟩ := h.2.2 i hi hh
  exact ⟨q, e1, e2.imp id fun ⟨e4, e5⟩ => ⟨e4, by omega⟩, e3⟩
theorem ShW.behind (h : ShW ks ps k) {p y : Int} {j q : Nat} (hj : j < ks.length) (e1 : ps.getD j 0 = p) (e2 : ks.getD j 0 ≤ 2) (e3 : p = q) (e4 : ks.getD q 0 = 1) : behindY ks ps p y := fun _ =>
  ⟨q, j, e3, e4, hj, by
    have hh := hl_in (h.1.2.1 j hj).1 e2
    unfold isKid
    rw [hh, e1, e3]; simp⟩
theorem ShW.snoc (h : ShW ks ps k) (hk : ks.length = k) (h0 : 0 < k) {y p : Int} (hy : 1 ≤ y ∧ y ≤ 4) (hp : -1 ≤ p ∧ p < k) (hpar : parOk ks p) (hb : behindY ks ps p y) : ShW (ks ++ [y]) (ps ++ [p]) (k + 1) := by
  obtain ⟨h1, h2, h3⟩ := h
  have hpl : ps.length = k := by rw [← h1.1]; exact hk
  have gk : ∀ i, (ks ++ [y]).getD i 0 = if i < k then ks.getD i 0 else if i = k then y else 0 := fun i => by rw [getD_snoc, hk]
  have gp : ∀ i, (ps ++ [p]).getD i 0 = if i < k then ps.getD i 0 else if i = k then p else 0 := fun i => by rw [getD_snoc, hpl]
  have gh : ∀ i, i < k → hl (ks ++ [y]) i = hl ks i := fun i hi => by unfold hl; rw [gk, if_pos hi]
  have gi : ∀ (a : Int) (i : Nat), i < k → isKid (ks ++ [y]) (ps ++ [p]) a i = isKid ks ps a i := fun a i hi => by unfold isKid; rw [gp, if_pos hi, gh i hi]
  have hl' : (ks ++ [y]).length = k + 1 := by rw [List.length_append, hk]; rfl
  refine ⟨h1.snoc (by omega) hy ⟨hp.1, by omega⟩, fun i q hi e => ?_, fun i hi hh => ?_⟩
  · rw [hl'] at hi
    rw [gp] at e
    by_cases hik : i < k
    · rw [if_pos hik] at e
      have := (h1.2.2.1 i (by omega)).2
      rw [gh q (by omega)]
      exact h2 i q (by omega) e
    · rw [if_neg hik, if_pos (by omega)] at e
      rw [gh q (by omega)]
      rcases hpar with e' | ⟨q', e', hh⟩
      · omega
      · have : q' = q := by omega
        subst this; exact hh
  · rw [hl'] at hi
    rw [hl']
    by_cases hik : i < k
    · rw [gh i hik] at hh
      obtain ⟨q, e1, e2, i', hi', hki⟩ := h3 i (by omega) hh
      have := (h1.2.2.1 i (by omega)).2
      refine ⟨q, by rw [gp, if_pos hik]; exact e1, .inl ?_, i', by omega, by rw [gi _ _ (by omega)]; exact hki⟩
      rw [gk, if_pos (by omega)]
      rcases e2 with e2 | e2
      · exact e2
      · omega
    · have hik' : i = k := by omega
      have hn := hl_no hh
      rw [gk, if_neg hik, if_pos hik'] at hn
      obtain ⟨q, i', e1, e2, e3, e4⟩ := hb (by omega)
      refine ⟨q, by rw [gp, if_neg hik, if_pos hik']; exact e1, .inl ?_, i', by omega, by rw [gi _ _ (by omega)]; exact e4⟩
      rw [gk, if_pos (by omega)]; exact e2
/-- the first state is made an All -/
theorem ShW.first (h : ShW ks ps k) (h0 : 0 < ks.length) : ShW (ks.set 0 2) ps 0 := by
  obtain ⟨h1, h2, h3⟩ := h
  have gh : ∀ i, hl (ks.set 0 2) i = hl ks i := fun i => by
    by_cases e : i = 0
    · subst e
      rw [h1.2.2.2]
      unfold hl
      rw [getD_set, if_pos ⟨rfl, h0⟩]; rfl
    · unfold hl
      rw [getD_set, if_neg fun h => e h.1]
  have gi : ∀ (a : Int) (i : Nat), isKid (ks.set 0 2) ps a i = isKid ks ps a i := fun a i => by unfold isKid; rw [gh]
  refine ⟨h1.set ⟨by omega, by omega⟩ fun _ => .inr rfl, fun i q hi e => ?_, fun i hi hh => ?_⟩
  · rw [List.length_set] at hi
    rw [gh]; exact h2 i q hi e
  · rw [List.length_set] at hi ⊢
    rw [gh] at hh
    obtain ⟨q, e1, e2, i', hi', hki⟩ := h3 i hi hh
    refine ⟨q, e1, ?_, i', hi', by rw [gi]; exact hki⟩
    by_cases eq : q = 0
    · exact .inr ⟨eq, Nat.zero_le _⟩
    · rw [getD_set, if_neg fun h => eq h.1]
      exact .inl (e2.resolve_right fun h => eq h.1)
/-- a state is made Plain -/
theorem ShW.plain (h : ShW ks ps j) (hj : j < ks.length) : ShW (ks.set j 1) ps (j + 1) := by
  obtain ⟨h1, h2, h3⟩ := h
  have gh : ∀ i, hl ks i = true → hl (ks.set j 1) i = true := fun i hi => by
    by_cases e : i = j
    · subst e
      unfold hl
      rw [getD_set, if_pos ⟨rfl, hj⟩]; rfl
    · unfold hl at *
      rw [getD_set, if_neg fun h => e h.1]; exact hi
  have gi : ∀ (a : Int) (i : Nat), isKid ks ps a i = true → isKid (ks.set j 1) ps a i = true := fun a i hi => by
    unfold isKid at *
    rw [Bool.and_eq_true] at hi ⊢
    exact ⟨hi.1, gh i hi.2⟩
  refine ⟨h1.set ⟨by omega, by omega⟩ fun _ => .inl rfl, fun i q hi e => ?_, fun i hi hh => ?_⟩
  · rw [List.length_set] at hi
    exact gh q (h2 i q hi e)
  · rw [List.length_set] at hi ⊢
    have hij : i ≠ j := fun e => by
      subst e
      have := hl_no hh
      rw [getD_set, if_pos ⟨rfl, hj⟩] at this
      exact this.1 rfl
    have hh' : hl ks i = false := by
      cases e : hl ks i
      · rfl
      · rw [gh i e] at hh; cases hh
    obtain ⟨q, e1, e2, i', hi', hki⟩ := h3 i hi hh'
    refine ⟨q, e1, ?_, i', hi', gi _ _ hki⟩
    rcases e2 with e2 | e2
    · left
      rw [getD_set]
      split
      · rfl
      · exact e2
    · exact .inr ⟨e2.1, by omega⟩
/-- a state is well as it is -/
theorem ShW.next (h : ShW ks ps j) (hc : ps.getD j 0 ≠ 0 ∨ ks.getD j 0 ≤ 2) : ShW ks ps (j + 1) := by
  refine ⟨h.1, h.2.1, fun i hi hh => ?_⟩
  obtain ⟨q, e1, e2, e3⟩ := h.2.2 i hi hh
  refine ⟨q, e1, ?_, e3⟩
  rcases e2 with e2 | ⟨e2, e4⟩
  · exact .inl e2
  · by_cases e : i = j
    · exfalso
      subst e
      have := hl_no hh
      have := (h.1.2.1 i hi).1
      omega
    · exact .inr ⟨e2, by omega⟩
theorem ShW.shF {n : Nat} (h : ShW ks ps n) (hn : ks.length = n) (h0 : 0 < n) : ShF ks ps n where
  kl := hn
  pl := by rw [← h.1.1]; exact hn
  kd := fun k hk => h.1.2.1 k (by omega)
  pa := fun k hk => h.1.2.2.1 k (by omega)
  hi := fun k hk hh => by
    obtain ⟨q, e1, e2, i, hi, hki⟩ := h.2.2 k (by omega) hh
    refine ⟨q, e1, ?_, i, by omega, hki⟩
    rcases e2 with e2 | e2
    · exact e2
    · omega
  up := fun k q hk e => h.2.1 k q (by omega) e
  tp := ⟨0, h0, by
    have := h.1.2.2.1 0 (by omega)
    have e : ps.getD 0 0 = -1 := by omega
    unfold isKid
    rw [e, h.1.2.2.2]; rfl⟩
end
end Go.Proofs.Ytaolebdcmdmnjaa
