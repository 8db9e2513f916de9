/-
  What a transition leaves and enters: being under a state; parts of a configuration: plain, no program in it.
-/
import Derived.Test.YtkalfhhdljndfaaCfg1
namespace Go.Proofs.Ytkalfhhdljndfaa
set_option maxRecDepth 100000

/-- a state is another one, or below it (-1: the top) -/
inductive Und (ps : List Int) : Nat → Int → Prop
  | self (k : Nat) : Und ps k k
  | top (k : Nat) : Und ps k (-1)
  | up (k q : Nat) (a : Int) : ps.getD k 0 = q → Und ps q a → Und ps k a
/-- kinds and parents that make a shape: all that is asked of one -/
structure ShF (ks ps : List Int) (n : Nat) : Prop where
  kl : ks.length = n
  pl : ps.length = n
  kd : ∀ k, k < n → 1 ≤ ks.getD k 0 ∧ ks.getD k 0 ≤ 4
  pa : ∀ k, k < n → -1 ≤ ps.getD k 0 ∧ ps.getD k 0 < k
  hi : ∀ k, k < n → hl ks k = false → ∃ q : Nat, ps.getD k 0 = q ∧ ks.getD q 0 = 1 ∧ ∃ j, j < n ∧ isKid ks ps q j = true
  up : ∀ k q : Nat, k < n → ps.getD k 0 = q → hl ks q = true
  tp : ∃ j, j < n ∧ isKid ks ps (-1) j = true
section
variable {ks ps : List Int} {n : Nat}
theorem ShF.lt (h : ShF ks ps n) {k q : Nat} (hk : k < n) (e : ps.getD k 0 = q) : q < k := by have := (h.pa k hk).2; omega
theorem und_le (h : ShF ks ps n) {k a : Nat} (hu : Und ps k a) (hk : k < n) : a ≤ k := by
  generalize ha : (a : Int) = b at hu
  induction hu with
  | self k => omega
  | top k => omega
  | up k q b e _ ih =>
    have := h.lt hk e
    have := ih (by omega) ha
    omega
theorem und_trans {k : Nat} {q : Nat} {b : Int} (h1 : Und ps k q) (h2 : Und ps q b) : Und ps k b := by
  generalize hq : (q : Int) = a at h1
  induction h1 with
  | self k =>
    have : q = k := by omega
    subst this; exact h2
  | top k => omega
  | up k r a e _ ih => exact .up k r b e (ih hq)
/-- properly below: by its parent -/
theorem und_step {k : Nat} {a : Int} (h : Und ps k a) (hne : (k : Int) ≠ a) (ha : 0 ≤ a) : ∃ q : Nat, ps.getD k 0 = q ∧ Und ps q a := by
  cases h with
  | self => exact absurd rfl hne
  | top => omega
  | up _ q _ e h => exact ⟨q, e, h⟩
/-- of what is above a state each is above the other, or below it -/
theorem und_line (h : ShF ks ps n) {k : Nat} (hk : k < n) {a b : Nat} (h1 : Und ps k a) (h2 : Und ps k b) : Und ps a b ∨ Und ps b a := by
  generalize ha : (a : Int) = x at h1
  induction h1 with
  | self k =>
    have : a = k := by omega
    subst this; exact .inl h2
  | top k => omega
  | up k q x e h1 ih =>
    by_cases hb : (k : Int) = b
    · have : k = b := by omega
      subst this
      right
      subst ha
      exact .up k q a e h1
    · obtain ⟨q', e', h2'⟩ := und_step h2 hb (by omega)
      have : q' = q := by omega
      subst this
      exact ih (by have := h.lt hk e; omega) h2' ha
/-- states of one parent: what is below one of them is not below the other -/
theorem und_kids (h : ShF ks ps n) {k i j : Nat} (hk : k < n) (h1 : Und ps k i) (h2 : Und ps k j) (he : ps.getD i 0 = ps.getD j 0) : i = j := by
  have hi := und_le h h1 hk
  have hj := und_le h h2 hk
  have key : ∀ {a b : Nat}, a < n → Und ps a b → ps.getD a 0 = ps.getD b 0 → b < n → a = b := fun {a b} ha hu e hb => by
    by_cases hab : (a : Int) = b
    · omega
    · obtain ⟨q, eq, hq⟩ := und_step hu hab (by omega)
      have hqa := h.lt ha eq
      have h3 := und_le h hq (by omega)
      have := (h.pa b hb).2
      omega
  rcases und_line h hk h1 h2 with hu | hu
  · exact key (by omega) hu he (by omega)
  · exact (key (by omega) hu he.symm (by omega)).symm
theorem und_kid {i : Nat} {q : Nat} (e : ps.getD i 0 = q) : Und ps i q := .up i q q e (.self q)
/-- what is properly below a state is below one of its own -/
theorem und_down (h : ShF ks ps n) {k q : Nat} (hk : k < n) (hu : Und ps k q) (hne : k ≠ q) : ∃ j, j < n ∧ ps.getD j 0 = q ∧ Und ps k j := by
  generalize hq : (q : Int) = a at hu
  induction hu with
  | self k => omega
  | top k => omega
  | up k r a e h1 ih =>
    subst hq
    by_cases hr : r = q
    · subst hr; exact ⟨k, hk, e, .self k⟩
    · obtain ⟨j, hj, ej, hu⟩ := ih (by have := h.lt hk e; omega) hr rfl
      exact ⟨j, hj, ej, .up k r j e hu⟩

/-- a part of a configuration, from a state down -/
structure LC (ks ps : List Int) (n : Nat) (S : Nat → Prop) (x : Nat) : Prop where
  me : S x
  un : ∀ k, S k → k < n ∧ hl ks k = true ∧ Und ps k x
  pr : ∀ k, S k → k ≠ x → ∃ q : Nat, ps.getD k 0 = q ∧ S q
  al : ∀ k, S k → ks.getD k 0 = 2 → ∀ j, j < n → isKid ks ps k j = true → S j
  on : ∀ k, S k → ks.getD k 0 ≠ 2 → (∀ j, j < n → isKid ks ps k j = false) ∨ ∃ j, j < n ∧ isKid ks ps k j = true ∧ S j ∧ ∀ i, i < n → isKid ks ps k i = true → S i → i = j
/-- a state all of whose states are in -/
theorem LC.all (h : ShF ks ps n) {x : Nat} {S : Nat → Nat → Prop} (hx : x < n) (hh : hl ks x = true) (h2 : ks.getD x 0 = 2) (hS : ∀ j, j < n → isKid ks ps x j = true → LC ks ps n (S j) j) :
    LC ks ps n (fun k => k = x ∨ ∃ j, j < n ∧ isKid ks ps x j = true ∧ S j k) x := by
  have hxS : ∀ j k, j < n → isKid ks ps x j = true → S j k → x < k := fun j k hj hk hs => by
    have h1 := (hS j hj hk).un k hs
    have := und_le h h1.2.2 h1.1
    have := h.lt hj (kid_par hk).1
    omega
  have hsame : ∀ {j k i}, j < n → isKid ks ps x j = true → S j k → i < n → isKid ks ps k i = true → ∀ m, m < n → isKid ks ps x m = true → S m i → m = j := fun {j k i} hj hk hs hi hki m hm hkm hsm => by
    have u1 := ((hS m hm hkm).un i hsm).2.2
    have u2 := und_trans (und_kid (kid_par hki).1) ((hS j hj hk).un k hs).2.2
    exact und_kids h hi u1 u2 (by rw [(kid_par hkm).1, (kid_par hk).1])
  refine ⟨.inl rfl, ?_, ?_, ?_, ?_⟩
  · rintro k (rfl | ⟨j, hj, hk, hs⟩)
    · exact ⟨hx, hh, .self k⟩
    · obtain ⟨h1, h3, h4⟩ := (hS j hj hk).un k hs
      exact ⟨h1, h3, und_trans h4 (und_kid (kid_par hk).1)⟩
  · rintro k (rfl | ⟨j, hj, hk, hs⟩) hne
    · exact absurd rfl hne
    · by_cases e : k = j
      · subst e; exact ⟨x, (kid_par hk).1, .inl rfl⟩
      · obtain ⟨q, e1, e2⟩ := (hS j hj hk).pr k hs e
        exact ⟨q, e1, .inr ⟨j, hj, hk, e2⟩⟩
  · rintro k (rfl | ⟨j, hj, hk, hs⟩) hk2 i hi hki
    · exact .inr ⟨i, hi, hki, (hS i hi hki).me⟩
    · exact .inr ⟨j, hj, hk, (hS j hj hk).al k hs hk2 i hi hki⟩
  · rintro k (rfl | ⟨j, hj, hk, hs⟩) hk2
    · exact absurd h2 hk2
    · rcases (hS j hj hk).on k hs hk2 with h3 | ⟨i, h3, h4, h5, h6⟩
      · exact .inl h3
      · refine .inr ⟨i, h3, h4, .inr ⟨j, hj, hk, h5⟩, fun m hm hkm hsm => ?_⟩
        rcases hsm with rfl | ⟨r, hr, hkr, hsm⟩
        · have := h.lt hm (kid_par hkm).1
          have := hxS j k hj hk hs
          omega
        · have := hsame hj hk hs hm hkm r hr hkr hsm
          subst this
          exact h6 m hm hkm hsm
end
end Go.Proofs.Ytkalfhhdljndfaa
