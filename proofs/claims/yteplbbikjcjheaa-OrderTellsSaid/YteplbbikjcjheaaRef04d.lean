/-
  The document's order: NewOrder.
-/
import Derived.Test.YteplbbikjcjheaaRef04
import Derived.Test.YteplbbikjcjheaaRef04b
import Derived.Test.YteplbbikjcjheaaPair1
import Derived.BigRegion
namespace Go.Proofs.Yteplbbikjcjheaa
set_option maxRecDepth 100000
open Go.ChangeShapes Go.WideShapes Go.ChangeAt Go.RowKit

/-- where NewOrder's walk stands: the order's cells, the sets in a row of the call's own behind it -/
structure RN (w0 W : World) (A : Option Addr) (n c : Nat) (v : Value) (l : List Nat) : Prop where
  row : W.heap[w0.heap.size]? = some (.cells #[.slice A n c, v] 85 (0, 0))
  own : W.ownsRow (w0.heap.size + 1) 23 1 v l.length (ucells l)
  below : Below w0.heap.size w0 W
section
variable {w0 W X : World} {A : Option Addr} {n c : Nat} {v : Value} {l : List Nat}
theorem RN.q0 (R : RN w0 W A n c v l) : W.cell? ⟨w0.heap.size, 0, none⟩ = some (.slice A n c) := by rw [cell_of_row _ _ _ _ _ _ R.row]; rfl
theorem RN.q1 (R : RN w0 W A n c v l) : W.cell? ⟨w0.heap.size, 1, none⟩ = some v := by rw [cell_of_row _ _ _ _ _ _ R.row]; rfl
theorem RN.fz (R : RN w0 W A n c v l) (j : Nat) : W.frozen? ⟨w0.heap.size, j, none⟩ = false := by simp [World.frozen?, R.row]
theorem RN.lt (R : RN w0 W A n c v l) : w0.heap.size < W.heap.size := (Array.getElem?_eq_some_iff.1 R.row).1
theorem RN.far (R : RN w0 W A n c v l) (hb : Below W.heap.size W X) : RN w0 X A n c v l :=
  ⟨(hb.block _ R.lt).trans R.row, own_below R.own hb (Nat.succ_le_of_lt R.lt), below_then R.below hb (Nat.le_of_lt R.lt)⟩
theorem RN.ne (R : RN w0 W A n c v l) : some w0.heap.size ≠ v.ownBlock := fun e => by
  have := (R.own.lt _ e.symm).1; omega
/-- the row has grown, and is laid into the order's cell -/
theorem RN.grow (R : RN w0 W A n c v l) {v' : Value} {l' : List Nat} (hg : W.grownBy X v.ownBlock) (ho : X.ownsRow (w0.heap.size + 1) 23 1 v' l'.length (ucells l')) : RN w0 (X.setCell ⟨w0.heap.size, 1, none⟩ v') A n c v' l' := by
  have hr : X.heap[w0.heap.size]? = some (.cells #[.slice A n c, v] 85 (0, 0)) := (hg.block _ R.lt R.ne).trans R.row
  have hs := heap_set (j := 1) hr v'
  have hbX : Below w0.heap.size w0 X := R.below.grown hg (Nat.le_of_lt R.lt) (fun j e => by have := (R.own.lt _ e).1; omega)
  refine ⟨by simpa using hs, ho.kept (grown_setCell _ _ _ _) ?_, hbX.setCell (Nat.le_refl _) _⟩
  right
  intro e
  have := (ho.lt _ e).1
  omega
theorem RN.cell (R : RN w0 W A n c v l) {j : Nat} (hj : j < l.length) : ∃ h d, v = .slice (some ⟨h, 0, none⟩) l.length d ∧ l.length ≤ d ∧ W.cell? ⟨h, j, none⟩ = some (.int .u32 (l.getD j 0 : Nat)) ∧ W.frozen? ⟨h, j, none⟩ = false := by
  obtain ⟨h, d, e, _, _, hd, hc⟩ := own_form R.own (by omega)
  refine ⟨h, d, e, hd, hc j _ (by simp [ucells, List.getD_eq_getElem?_getD, hj]), ?_⟩
  have ho := R.own
  rw [e] at ho
  exact World.ownsRow.frozenAt ho j
/-- a set is stored -/
theorem RN.store {h d : Nat} (R : RN w0 W A n c (.slice (some ⟨h, 0, none⟩) l.length d) l) (j x : Nat) : RN w0 (W.setCell ⟨h, j, none⟩ (.int .u32 x)) A n c (.slice (some ⟨h, 0, none⟩) l.length d) (l.set j x) := by
  obtain ⟨h1, h2⟩ := World.ownsRow.stored R.own j (.int .u32 x)
  have hb := (R.own.lt h rfl).1
  refine ⟨(h2.block _ R.lt (by simp; omega)).trans R.row, ?_, R.below.setCell (p := ⟨h, j, none⟩) (by simp; omega) _⟩
  have : ucells (l.set j x) = (ucells l).set j (.int .u32 x) := by simp [ucells, List.map_set]
  rw [this, List.length_set]
  exact h1
theorem RN.drew (R : RN w0 W A n c v l) : RN w0 W.drew A n c v l := ⟨R.row, R.own, below_drew R.below⟩
theorem RN.alloc (R : RN w0 W A n c v l) (o : Obj) : RN w0 (W.alloc o) A n c v l := R.far ((Below.refl _ _).alloc (Nat.le_refl _) _)
end
/-- a text stands at its place for the first time -/
theorem idxI_first {l : List Tx} {k : Nat} (h : k < l.length) : (idxI l l[k] = (k : Int)) ↔ l[k] ∉ l.take k := by
  rw [idxI_in (List.getElem_mem h)]
  constructor
  · intro e hm
    have h1 : idx l l[k] = k := by omega
    have h2 : l.idxOf l[k] < k := by
      have hs : l = l.take k ++ l.drop k := (List.take_append_drop k l).symm
      have h3 : (l.take k ++ l.drop k).idxOf l[k] = (l.take k).idxOf l[k] := by rw [List.idxOf_append, if_pos hm]
      rw [← hs] at h3
      rw [h3]
      have := List.idxOf_lt_length_of_mem hm
      rw [List.length_take] at this
      omega
    unfold idx at h1
    omega
  · intro hm
    have := idxOf_at h rfl hm
    unfold idx; rw [this]
end Go.Proofs.Yteplbbikjcjheaa
