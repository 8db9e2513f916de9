/-
  Sets of texts: maps of the call's own.
-/
import Derived.Test.YteplbbikjcjheaaList
import Derived.Maps.OwnSet
namespace Go.Proofs.Yteplbbikjcjheaa
set_option maxRecDepth 100000
open Go.ChangeShapes Go.WideShapes Go.ChangeAt Go.RowKit Go.Maps Go.WideMaps Go.ChangeMaps

theorem makeMap_hint (t k e : TypeId) (n : Int) (ht : Try.prog.underlying t = some (.map k e)) (w : World) : (Instr.makeMap t (some (.int .i64 n))).run Try.prog w = .ok (.map (some w.heap.size)) (w.alloc (.map #[] 0)) := by
  simp [Instr.makeMap, run_underlying ht, asInt]
  rfl
theorem makeMap_none (t k e : TypeId) (ht : Try.prog.underlying t = some (.map k e)) (w : World) : (Instr.makeMap t none).run Try.prog w = .ok (.map (some w.heap.size)) (w.alloc (.map #[] 0)) := by
  simp [Instr.makeMap, run_underlying ht]
theorem Try.lawS : Keyed Try.prog 9 := string_keyed Try.underlying9
theorem Try.zeroU (w : World) : (zeroValue 96).run Try.prog w = .ok (.agg #[]) w := by kernel_rfl
def setL (seen : List Tx) : DataW Unit := setOf (.agg []) (seen.map Lit.string)
theorem has_setL (seen : List Tx) (t : Tx) : Maps.has (setL seen) (.string t) = decide (t ∈ seen) := by
  unfold setL
  rw [has_setOf _ _ _ (by intro x hx; simp at hx; obtain ⟨y, _, rfl⟩ := hx; exact trivial), List.any_map]
  induction seen with
  | nil => rfl
  | cons a l ih =>
    rw [List.any_cons, ih]
    simp only [Function.comp, Lit.sameKey, List.mem_cons]
    by_cases h : a = t
    · subst h; simp
    · have h' : ¬ t = a := fun e => h e.symm
      have hb : (a == t) = false := by simpa using h
      rw [hb]; simp [h']
theorem setL_snoc (seen : List Tx) (t : Tx) : setL (seen ++ [t]) = (setL seen).put (.string t) (.agg []) := by
  unfold setL; rw [List.map_append]; exact setOf_snoc _ _ _
end Go.Proofs.Yteplbbikjcjheaa
