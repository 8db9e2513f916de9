/-
  Blanks in bytes; a map of one entry.
-/
import Derived.Test.YtgemciecdplcgaaDoorPol4
import Derived.Maps.OwnOps
import Derived.Deep.OwnRows
namespace Go.Proofs.YtgemciecdplcgaaDoor
set_option maxRecDepth 100000
open Go.ChangeShapes Go.WideShapes Go.ChangeAt Go.RowKit Go.Maps Go.WideMaps Go.ChangeMaps

theorem tail_wrong {z j : Nat} (h : z ≤ j) : bs (tailT z j) ++ ⟨#[119, 114, 111, 110, 103, 10]⟩ = bs (tailT z (j + 1)) := by
  rw [tailT, if_pos h, ← bs_append]; rfl
theorem tail_end {z j : Nat} (h : ¬ z ≤ j) : bs (tailT z j) ++ ⟨#[10]⟩ = bs (tailT z (j + 1)) := by
  rw [tailT, if_neg h, ← bs_append]; rfl

/-! ### bytes that turn to blanks one by one -/
def blkA (m k : Nat) : Array Value := (List.replicate k (Value.int .u8 32) ++ List.replicate (m - k) (Value.int .u8 0)).toArray
theorem made_blk (m : Nat) : madeCells #[.int .u8 0] m = blkA m 0 := by
  apply Array.ext
  · simp [madeCells, blkA]
  · intro j h1 h2
    simp [madeCells, blkA, Nat.mod_one]
theorem blk_get {m k : Nat} (h : k < m) : (blkA m k)[k]? = some (Value.int .u8 0) := by
  unfold blkA
  rw [List.getElem?_toArray, List.getElem?_append_right (by simp), List.length_replicate, Nat.sub_self, List.getElem?_replicate, if_pos (by omega)]
theorem blk_next {m k : Nat} (h : k < m) : (blkA m k).setIfInBounds k (Value.int .u8 32) = blkA m (k + 1) := by
  unfold blkA
  obtain ⟨d, hd⟩ : ∃ d, m - k = d + 1 := ⟨m - k - 1, by omega⟩
  rw [hd, show m - (k + 1) = d by omega, List.replicate_succ, List.replicate_succ' (n := k)]
  simp [List.setIfInBounds_toArray, List.set_append_right]
section
variable {W : World} {g m k : Nat}
theorem blk_cell (R : W.heap[g]? = some (.cells (blkA m k) 5 (0, 0))) (h : k < m) : W.cell? ⟨g, k, none⟩ = some (.int .u8 0) := by rw [cell_of_row _ _ _ _ _ _ R]; exact blk_get h
theorem blk_fz (R : W.heap[g]? = some (.cells (blkA m k) 5 (0, 0))) (j : Nat) : W.frozen? ⟨g, j, none⟩ = false := by simp [World.frozen?, R]
theorem blk_set (R : W.heap[g]? = some (.cells (blkA m k) 5 (0, 0))) (h : k < m) : (W.setCell ⟨g, k, none⟩ (.int .u8 32)).heap[g]? = some (.cells (blkA m (k + 1)) 5 (0, 0)) := by
  rw [← blk_next h]; exact heap_set R _
theorem blk_conv (R : W.heap[g]? = some (.cells (blkA m m) 5 (0, 0))) : (convert 32 9 (.slice (some ⟨g, 0, none⟩) m m)).run Tryd.prog W = .ok (.string (bs (blanks m))) W := by
  have h := run_convert_bytes_back (P := Tryd.prog) W 32 9 5 ⟨g, 0, none⟩ m (blanks m) Tryd.underlying32 Tryd.underlying5 Tryd.underlying9 (by
    intro j hj
    have hadd : (⟨g, 0, none⟩ : Addr).add j = ⟨g, j, none⟩ := by unfold Addr.add; split <;> simp_all
    rw [hadd, cell_of_row _ _ _ _ _ _ R]
    have hj' : j < m := by simpa [blanks] using hj
    simp [blkA, blanks, hj'])
  rw [show (blanks m).length = m by simp [blanks]] at h
  exact h
end

/-! ### a map of one entry -/
theorem makeMap_none (w : World) : (Instr.makeMap 33 none).run Tryd.prog w = .ok (.map (some w.heap.size)) (w.alloc (.map #[] 0)) := by
  simp [Instr.makeMap, run_underlying Tryd.underlying33]
theorem one_map (w : World) : ∃ w', (Instr.mapUpdate 33 (.map (some w.heap.size)) (.bool true) (.int .i64 5)).run Tryd.prog (w.alloc (.map #[] 0)) = .ok () w' ∧
    (∀ b : Bool, (Instr.lookup 33 (.map (some w.heap.size)) (.bool b) false).run Tryd.prog w' = .ok (.int .i64 (if b then 5 else 0)) w') ∧ Below w.heap.size w w' := by
  have K : Keyed Tryd.prog 4 := bool_keyed Tryd.underlying4
  have h0 : (w.alloc (.map #[] 0)).ownsMap Tryd.prog 4 (plainElem (H := Unit) Tryd.prog 31) w.heap.size 0 (.map []) := World.ownsMap_made _ _ _ _
  obtain ⟨w', hrun, h1, hg⟩ := h0.update K Tryd.underlying33 (by unfold maxLen; omega) (keyOf_bool_mk Tryd.underlying4 true) (plainElem_int Tryd.underlying31 (a := 5) (by decide))
  refine ⟨w', hrun, fun b => ?_, ((Below.refl _ _).alloc (Nat.le_refl _) _).grown hg (by simp) (fun j hj => by cases hj; exact Nat.le_refl _)⟩
  obtain ⟨c, hr, hat, _⟩ := h1.lookup_int K Tryd.underlying33 Tryd.underlying31 (by kernel_rfl) (keyOf_bool_mk Tryd.underlying4 b)
  have hc : c = if b then 5 else 0 := by
    cases b
    · have : (DataW.lit (.int .i64 0) : DataW Unit) = .lit (.int .i64 c) := hat
      injection this with h; injection h with _ h; exact h.symm
    · have : (DataW.lit (.int .i64 5) : DataW Unit) = .lit (.int .i64 c) := hat
      injection this with h; injection h with _ h; exact h.symm
  rw [← hc]; exact hr

end Go.Proofs.YtgemciecdplcgaaDoor
