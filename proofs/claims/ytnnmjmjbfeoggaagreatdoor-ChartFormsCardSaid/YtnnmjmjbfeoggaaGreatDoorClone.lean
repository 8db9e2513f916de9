/-
  slices.Clone of texts, in new memory.
-/
import Derived.Test.YtnnmjmjbfeoggaaGreatDoorSameL
import Derived.Test.YtnnmjmjbfeoggaaGreatDoorShelf2
namespace Go.Proofs.YtnnmjmjbfeoggaaGreatDoor
set_option maxRecDepth 100000
open Go.ChangeShapes Go.WideShapes Go.ChangeAt Go.RowKit

def CloneTo (l : List Tx) (w : World) (e : Ending) (w' : World) : Prop := ∃ v, e = .returned v ∧ OwnL w' w.heap.size v l ∧ Below w.heap.size w w'
theorem Clone_any (l : List Tx) (A : Option Addr) (c : Nat) (w : World) (h : ListAt w A c l) (hl : l.length ≤ 1000000) : Calls Tryz.prog 51 #[.slice A l.length c] w (CloneTo l w) := by
  cases A with
  | none =>
    have h0 : l = [] := by
      cases l with
      | nil => rfl
      | cons a r => obtain ⟨g, e, _⟩ := h.2 0 (by simp); cases e
    subst h0
    exact (Tryz.slices_Clone_string_nil _ c w).mono fun e w' ⟨he, hw⟩ => ⟨_, he, World.ownsRow_nil _ _ _ _, by rw [hw]; exact Below.refl _ _⟩
  | some a =>
    by_cases h0 : l.length = 0
    · have e0 : l = [] := List.length_eq_zero_iff.1 h0
      subst e0
      exact (Tryz.slices_Clone_string_zero a c w).mono fun e w' ⟨v, he, ho, _, hb⟩ => ⟨v, he, ho, hb⟩
    · obtain ⟨g, e, _, _⟩ := h.2 0 (by omega)
      obtain rfl := Option.some.inj e
      refine (Tryz.slices_Clone_string g 0 l.length c (l.map bs) w (by simp) (by omega) (fun j hj => ?_)).mono fun e w' ⟨v, he, ho, _, hb⟩ => ⟨v, he, ?_, hb⟩
      · have hj' : j < l.length := by simpa using hj
        obtain ⟨g', e', _, hc⟩ := h.2 j hj'
        have : g' = g := by have := Option.some.inj e'; simp at this; exact this.symm
        subst this
        rw [Nat.zero_add, hc]
        simp [List.getD_eq_getElem?_getD, hj']
      · have : ((l.map bs).take l.length).map Value.string = scells l := by rw [List.take_of_length_le (by simp)]; simp [scells]
        rw [this] at ho
        exact ho

end Go.Proofs.YtnnmjmjbfeoggaaGreatDoor
