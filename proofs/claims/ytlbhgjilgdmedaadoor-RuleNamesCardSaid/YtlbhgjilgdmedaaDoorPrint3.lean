/-
  rule.Print: '==' of the arrays of a rule's fields; two rules the same.
-/
import Derived.Test.YtlbhgjilgdmedaaDoorPrint2
import Derived.Laws.StructEq
import Derived.ChangeKeysEq
import Derived.Deep.RegionHeld3
namespace Go.Proofs.YtlbhgjilgdmedaaDoor
set_option maxRecDepth 100000
open Go.ChangeShapes Go.WideShapes Go.ChangeAt Go.RowKit

theorem info_size1 {t : TypeId} (h : (Tryd.prog.info? t).map (·.size) = some 1) : ∃ i, Tryd.prog.info? t = some i := by
  cases hh : Tryd.prog.info? t with
  | none => rw [hh] at h; cases h
  | some i => exact ⟨i, rfl⟩
theorem eqNums (a b c a' b' c' : Int) (W : World) : (binOp .eql 104 (.agg #[.int .i64 a, .int .i64 b, .int .i64 c]) (.agg #[.int .i64 a', .int .i64 b', .int .i64 c'])).run Tryd.prog W = .ok (.bool (decide (a = a' ∧ b = b' ∧ c = c'))) W := by
  obtain ⟨i, hi⟩ := info_size1 (t := 3) (by kernel_rfl)
  have hc : Tryd.prog.cellsOf 3 = 1 := by kernel_rfl
  have ha : ∀ W, (isAgg 3).run Tryd.prog W = .ok false W := fun W => by kernel_rfl
  rw [run_eql_struct, show (10000 : Nat) = 9998 + 1 + 1 from rfl, run_equalIn_array _ _ _ _ Tryd.underlying104 hi, hc]
  simp [Op.eqItems, List.range, List.range.loop, part, ha, run_equalIn_int W 9998 3 .i64 .i64 _ _ Tryd.underlying3, Result.andThen]
  by_cases h1 : a = a' <;> by_cases h2 : b = b' <;> by_cases h3 : c = c' <;> simp [h1, h2, h3]
theorem eqTexts (a b c d e f a' b' c' d' e' f' : Tx) (W : World) : (binOp .eql 106 (.agg #[.string (bs a), .string (bs b), .string (bs c), .string (bs d), .string (bs e), .string (bs f)]) (.agg #[.string (bs a'), .string (bs b'), .string (bs c'), .string (bs d'), .string (bs e'), .string (bs f')])).run Tryd.prog W = .ok (.bool (decide (a = a' ∧ b = b' ∧ c = c' ∧ d = d' ∧ e = e' ∧ f = f'))) W := by
  obtain ⟨i, hi⟩ := info_size1 (t := 9) (by kernel_rfl)
  have hc : Tryd.prog.cellsOf 9 = 1 := by kernel_rfl
  have ha : ∀ W, (isAgg 9).run Tryd.prog W = .ok false W := fun W => by kernel_rfl
  rw [run_eql_struct, show (10000 : Nat) = 9998 + 1 + 1 from rfl, run_equalIn_array _ _ _ _ Tryd.underlying106 hi, hc]
  simp [Op.eqItems, List.range, List.range.loop, part, ha, run_equalIn_string W 9998 9 _ _ Tryd.underlying9, Result.andThen, Lib.toList_data, list_bs]
  by_cases h1 : a = a'
  · by_cases h2 : b = b'
    · by_cases h3 : c = c'
      · by_cases h4 : d = d'
        · by_cases h5 : e = e'
          · by_cases h6 : f = f' <;> simp [h1, h2, h3, h4, h5, h6]
          · simp [h1, h2, h3, h4, h5]
        · simp [h1, h2, h3, h4]
      · simp [h1, h2, h3]
    · simp [h1, h2]
  · simp [h1]
end Go.Proofs.YtlbhgjilgdmedaaDoor
