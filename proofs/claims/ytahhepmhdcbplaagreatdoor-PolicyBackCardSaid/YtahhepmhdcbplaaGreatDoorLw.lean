/-
  rule.lineWords: where the walk of it stands: the rule's cells, the list that is made.
-/
import Derived.Test.YtahhepmhdcbplaaGreatDoorPrint2
import Derived.Deep.RegionHeld3
import Derived.Deep.DeepCutAuto
import Derived.Deep.Onto
import Derived.Laws.OwnMore
namespace Go.Proofs.YtahhepmhdcbplaaGreatDoor
set_option maxRecDepth 100000
open Go.ChangeShapes Go.WideShapes Go.ChangeAt Go.RowKit

/-- W0 at the beginning, W now; the rule's cells in the block W0.heap.size; the list l, its own, in v -/
structure LS (W0 W : World) (cs : Array Value) (v : Value) (l : List Tx) : Prop where
  row : W.heap[W0.heap.size]? = some (.cells cs 24 (0, 0))
  own : OwnL W (W0.heap.size + 1) v l
  low : Below W0.heap.size W0 W
theorem LS.size {W0 W : World} {cs : Array Value} {v : Value} {l : List Tx} (h : LS W0 W cs v l) : W0.heap.size < W.heap.size := (Array.getElem?_eq_some_iff.1 h.row).1
theorem LS.grown {W0 W W' : World} {cs : Array Value} {v v' : Value} {l l' : List Tx} {row : Option Nat} (h : LS W0 W cs v l) (hg : W.grownBy W' row) (hr : ∀ j, row = some j → W0.heap.size < j) (ho : OwnL W' (W0.heap.size + 1) v' l') : LS W0 W' cs v' l' :=
  ⟨(hg.block _ h.size (fun e => by have := hr _ e.symm; omega)).trans h.row, ho, h.low.grown hg h.low.size (fun j e => by have := hr _ e; omega)⟩
theorem LS.below {W0 W W' : World} {cs : Array Value} {v : Value} {l : List Tx} (h : LS W0 W cs v l) (hb : Below W.heap.size W W') : LS W0 W' cs v l :=
  ⟨(hb.block _ h.size).trans h.row, own_below h.own hb (by have := h.size; omega), h.low.trans (hb.mono h.low.size)⟩
/-- a list of one, of two .. in a new block -/
theorem own_new (w : World) (base : Nat) (l : List Tx) (hb : base ≤ w.heap.size) (hl : l.length ≤ 1000) : OwnL (w.alloc (.cells (scells l).toArray 9)) base (.slice (some ⟨w.heap.size, 0, none⟩) l.length l.length) l := by
  refine ⟨by simp [scells], .inr ⟨w.heap.size, l.length, (scells l).toArray, rfl, hb, heap_alloc_new _ _, Nat.le_refl _, by unfold maxLen; omega, by simp [scells], ?_⟩⟩
  rw [Nat.mul_one]
  exact List.take_of_length_le (by simp [scells])
theorem scells_one (l : List Tx) : ∀ u ∈ scells l, u.oneCell' = true := by
  intro u hu
  simp only [scells, List.mem_map] at hu
  obtain ⟨t, _, rfl⟩ := hu
  rfl
theorem LS.app {W0 W W1 W2 : World} {cs : Array Value} {v v' : Value} {l ts : List Tx} (h : LS W0 W cs v l) (hg0 : W.grownBy W1 none) (hg : W1.grownBy W2 v.ownBlock) (ho : W2.ownsRow (W0.heap.size + 1) 9 1 v' (l.length + ts.length) (scells l ++ scells ts)) : LS W0 W2 cs v' (l ++ ts) := by
  have hr : ∀ j, v.ownBlock = some j → W0.heap.size < j := fun j e => by have := (h.own.lt j e).1; omega
  refine ⟨?_, ?_, ?_⟩
  · rw [hg.block _ (Nat.lt_of_lt_of_le h.size hg0.size) (fun e => by have := hr _ e.symm; omega), hg0.block _ h.size (by simp)]; exact h.row
  rotate_left
  · exact (h.low.grown hg0 h.low.size (fun j e => by cases e)).grown hg (Nat.le_trans h.low.size hg0.size) (fun j e => by have := hr _ e; omega)
  unfold OwnL scells
  rw [List.length_append, List.map_append]
  exact ho
/-- what lineWords answers: a list of its own -/
def LineTo (l : List Tx) (w : World) (e : Ending) (w' : World) : Prop := ∃ v, e = .returned v ∧ OwnL w' w.heap.size v l ∧ Below w.heap.size w w'
theorem LS.drew {W0 W : World} {cs : Array Value} {v : Value} {l : List Tx} (h : LS W0 W cs v l) : LS W0 W.drew cs v l := ⟨h.row, h.own, h.low.drew⟩
theorem optionW_nil (x y : Tx) (w : World) (h : y = []) : Calls Tryz.prog 50 #[.string (bs x), .string (bs y)] w fun e w' => e = .returned (.slice none 0 0) ∧ w = w' := by
  subst h
  have hb2 : (bs []).toList.isEmpty = true := by rw [Lib.toList_data, list_bs]; rfl
  go_enter Tryz.func50, Tryz.ntmps50
  go_wp2
  go_ret
  exact ⟨rfl, rfl⟩
theorem optionW_some (x y : Tx) (w : World) (h : y ≠ []) : Calls Tryz.prog 50 #[.string (bs x), .string (bs y)] w fun e w' => e = .returned (.slice (some ⟨w.heap.size, 0, none⟩) 2 2) ∧ w.alloc (.cells #[.string (bs x), .string (bs y)] 9) = w' := by
  have hb : ((bs y).toList == ([] : List UInt8)) = false := by rw [Lib.toList_data, list_bs]; simpa using h
  have hb2 : (bs y).toList.isEmpty = false := by rw [Lib.toList_data, list_bs]; simpa using h
  go_enter Tryz.func50, Tryz.ntmps50
  go_wp2
  go_ret
  exact ⟨rfl, rfl⟩
theorem lineTo_mk {W0 W : World} {cs : Array Value} {v : Value} {l l' : List Tx} (he : l = l') (h : LS W0 W cs v l) : LineTo l' W0 (.returned v) W := by
  subst he; exact ⟨v, rfl, World.ownsRow.mono h.own (Nat.le_succ _), h.low⟩
theorem src_cells {w W : World} {g off : Nat} {l : List Tx} (hg : g < w.heap.size) (hb : Below w.heap.size w W) (h : ∀ j (hj : j < l.length), w.cell? ⟨g, off + j, none⟩ = some (.string (bs l[j]))) : ∀ j u, (scells l)[j]? = some u → W.cell? ((⟨g, off, none⟩ : Addr).add j) = some u := by
  intro j u hu
  have hadd : (⟨g, off, none⟩ : Addr).add j = ⟨g, off + j, none⟩ := by unfold Addr.add; split <;> simp_all
  rw [hadd, hb.cell hg]
  obtain ⟨hj, e⟩ := List.getElem?_eq_some_iff.1 hu
  have hj' : j < l.length := by simpa [scells] using hj
  rw [h j hj', ← e]
  simp [scells]
end Go.Proofs.YtahhepmhdcbplaaGreatDoor
