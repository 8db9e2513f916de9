/-
  What is known of the shapes that the statements are made of, whole: a history's parent is Plain and has a state, a parent may hold states.
-/
import Derived.Test.YtkalfhhdljndfaaShOf
import Derived.Test.YtkalfhhdljndfaaEnt0
import Derived.Test.YtkalfhhdljndfaaOwnI
import Derived.ArgAppend
import Derived.Deep.Upon
import Derived.Deep.MidRow
namespace Go.Proofs.Ytkalfhhdljndfaa
set_option maxRecDepth 100000

/-- a shape in the making: up to j the histories of the first state are well -/
def ShW (ks ps : List Int) (j : Nat) : Prop := ShOk ks ps ∧ (∀ k q : Nat, k < ks.length → ps.getD k 0 = q → hl ks q = true) ∧
  ∀ k, k < ks.length → hl ks k = false → ∃ q : Nat, ps.getD k 0 = q ∧ (ks.getD q 0 = 1 ∨ (q = 0 ∧ j ≤ k)) ∧ ∃ i, i < ks.length ∧ isKid ks ps q i = true
/-- a parent that may be one -/
def parOk (ks : List Int) (p : Int) : Prop := p = -1 ∨ ∃ q : Nat, p = q ∧ hl ks q = true
section
variable {ks ps : List Int} {j k : Nat}
theorem hl_in {i : Nat} (h1 : 1 ≤ ks.getD i 0) (h2 : ks.getD i 0 ≤ 2) : hl ks i = true := by
  unfold hl
  have : ks.getD i 0 = 1 ∨ ks.getD i 0 = 2 := by omega
  rcases this with e | e <;> rw [e] <;> rfl
theorem hl_no {i : Nat} (h : hl ks i = false) : ks.getD i 0 ≠ 1 ∧ ks.getD i 0 ≠ 2 := by
  unfold hl at h
  rw [Bool.or_eq_false_iff] at h
  exact ⟨by simpa using h.1, by simpa using h.2⟩
theorem parOk.of (h : ShW ks ps k) {q : Nat} (hq : q < ks.length) (h3 : ks.getD q 0 < 3) : parOk ks q := .inr ⟨q, rfl, hl_in (h.1.2.1 q hq).1 (by omega)⟩
/-- a state is well as it is -/
theorem ShW.next (h : ShW ks ps j) (hc : ps.getD j 0 ≠ 0 ∨ ks.getD j 0 ≤ 2) : ShW ks ps (j + 1) := by
  refine ⟨h.1, h.2.1, fun i hi hh => ?_⟩
  obtain ⟨q, e1, e2, e3⟩ := h.2.2 i hi hh
  refine ⟨q, e1, ?_, e3⟩
  rcases e2 with e2 | ⟨e2, e4⟩
  · exact .inl e2
  · by_cases e : i = j
    · exfalso
      subst e
      have := hl_no hh
      have := (h.1.2.1 i hi).1
      omega
    · exact .inr ⟨e2, by omega⟩
end
end Go.Proofs.Ytkalfhhdljndfaa
/-
  A queue of integers: a slice of the call's own that is cut at its head and appended to.
-/
namespace Go.Proofs.Ytkalfhhdljndfaa
set_option maxRecDepth 100000
open Go.ChangeShapes Go.WideShapes Go.ChangeAt Go.RowKit

/-- a queue -/
def QAt (w : World) (B : Nat) (v : Value) (L : List Int) : Prop := ∃ g o c : Nat, v = .slice (some ⟨g, o, none⟩) L.length c ∧ B ≤ g ∧ g < w.heap.size ∧ L.length ≤ c ∧
  (∀ j (h : j < L.length), w.cell? ⟨g, o + j, none⟩ = some (.int .i64 L[j])) ∧ ∀ j, j < c - L.length → (w.cell? ⟨g, o + L.length + j, none⟩).isSome = true ∧ w.frozen? ⟨g, o + L.length + j, none⟩ = false
theorem QAt.below {w w' : World} {B : Nat} {v : Value} {L : List Int} (h : QAt w B v L) (hb : Below w.heap.size w w') : QAt w' B v L := by
  obtain ⟨g, o, c, e, h1, h2, h3, h4, h5⟩ := h
  have hg := hb.block g h2
  refine ⟨g, o, c, e, h1, Nat.lt_of_lt_of_le h2 hb.size, h3, fun j hj => (World.cell?_of_block (a := ⟨g, o + j, none⟩) hg).trans (h4 j hj), fun j hj => ?_⟩
  rw [World.cell?_of_block (a := ⟨g, o + L.length + j, none⟩) hg, World.frozen?_of_block (a := ⟨g, o + L.length + j, none⟩) hg]
  exact h5 j hj
end Go.Proofs.Ytkalfhhdljndfaa
