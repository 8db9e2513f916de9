/-
  Package enter: last; a list of states appended to another one, whatever it is.
-/
import Derived.Test.YtkalfhhdljndfaaEn2
import Derived.Laws.AppendOwnNone
import Derived.Deep.RegionHeld3
import Derived.Test.YtkalfhhdljndfaaOwnI
import Derived.Test.YtkalfhhdljndfaaWth
import Derived.Deep.AppendLies
import Derived.Deep.CutBlock
import Derived.Maps.Range
namespace Go.Proofs.Ytkalfhhdljndfaa
set_option maxRecDepth 100000
open Go.ChangeShapes Go.WideShapes Go.ChangeAt Go.RowKit

theorem nat_ints {w : World} {base c : Nat} {A : Option Addr} {l : List Nat} (h : OwnN w base (.slice A l.length c) l) (hk : ∀ k ∈ l, k < 1000) (hl : l.length ≤ 1000) : IntsAt w (.slice A l.length c) (l.map fun k : Nat => (k : Int)) := by
  have h1 := h.ints
  have e : (l.map fun k : Nat => (k : Int)).length = l.length := List.length_map ..
  rw [← e] at h1 ⊢
  refine ints_of_own h1 (fun x hx => ?_) (by rw [e]; exact hl)
  obtain ⟨k, hm, rfl⟩ := List.mem_map.1 hx
  have := hk k hm
  have e2 : IntKind.i64.wrap (k : Int) = k := by rw [IntKind.wrap_i64]; omega
  simp only [Lit.wf, e2]
  simp
  have e3 : IntKind.i64.max = 9223372036854775807 := by kernel_rfl
  have e4 : IntKind.i64.min = -9223372036854775808 := by kernel_rfl
  omega
end Go.Proofs.Ytkalfhhdljndfaa
/-
  Package enter: allOf, and what a history is entered as.
-/
namespace Go.Proofs.Ytkalfhhdljndfaa
set_option maxRecDepth 100000
open Go.ChangeShapes Go.WideShapes Go.ChangeAt Go.RowKit

section
variable {ks ps : List Int} {n : Nat}
/-- what a list of numbers tells of the states -/
def pfun (rs : List Nat) (q : Nat) : Nat := rs.getD q 0
end
end Go.Proofs.Ytkalfhhdljndfaa
/-
  The shapes that the statements are made of: what is known of them.
-/
namespace Go.Proofs.Ytkalfhhdljndfaa
set_option maxRecDepth 100000
open Go.ChangeShapes Go.WideShapes Go.ChangeAt Go.RowKit

/-- kinds and parents that may be -/
def ShOk (ks ps : List Int) : Prop := ks.length = ps.length ∧ (∀ k, k < ks.length → 1 ≤ ks.getD k 0 ∧ ks.getD k 0 ≤ 4) ∧ (∀ k, k < ks.length → -1 ≤ ps.getD k 0 ∧ ps.getD k 0 < k) ∧ hl ks 0 = true
/-- two rows of the call's own, in two blocks -/
def TwoAt (w : World) (base g c g' c' : Nat) (ks ps : List Int) : Prop := g ≠ g' ∧ OwnI w base (.slice (some ⟨g, 0, none⟩) ks.length c) ks ∧ OwnI w base (.slice (some ⟨g', 0, none⟩) ps.length c') ps
theorem TwoAt.frozen {w : World} {base g c g' c' : Nat} {ks ps : List Int} (h : TwoAt w base g c g' c' ks ps) (j : Nat) : w.frozen? ⟨g, j, none⟩ = false := World.ownsRow.frozenAt h.2.1 j
theorem set_below {B : Nat} {a w : World} {g k : Nat} {u : Value} (h : Below B a w) (hB : B ≤ w.heap.size) (hg : B ≤ g) : Below B a (w.setCell ⟨g, k, none⟩ u) :=
  h.grown (grown_setCell w g k u) hB (fun j e => by injection e with e; omega)
theorem getD_set (l : List Int) (i k : Nat) (x : Int) : (l.set i x).getD k 0 = if k = i ∧ i < l.length then x else l.getD k 0 := by
  simp only [List.getD_eq_getElem?_getD, List.getElem?_set]
  by_cases e : i = k
  · subst e
    by_cases h : i < l.length
    · simp [h]
    · simp [h]
  · rw [if_neg e, if_neg (by rintro ⟨h, _⟩; exact e h.symm)]
theorem ShOk.set {ks ps : List Int} (h : ShOk ks ps) {i : Nat} {x : Int} (hx : 1 ≤ x ∧ x ≤ 4) (h0 : i = 0 → x = 1 ∨ x = 2) : ShOk (ks.set i x) ps := by
  obtain ⟨h1, h2, h3, h4⟩ := h
  refine ⟨by rw [List.length_set]; exact h1, fun k hk => ?_, fun k hk => h3 k (by rwa [List.length_set] at hk), ?_⟩
  · rw [List.length_set] at hk
    rw [getD_set]
    split
    · exact hx
    · exact h2 k hk
  · unfold hl at *
    rw [getD_set]
    split
    · rename_i e
      rcases h0 e.1.symm with e | e <;> rw [e] <;> rfl
    · exact h4
end Go.Proofs.Ytkalfhhdljndfaa
