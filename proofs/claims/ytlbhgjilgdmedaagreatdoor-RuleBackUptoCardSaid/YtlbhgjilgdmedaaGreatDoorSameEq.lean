/-
  rule.Print: '==' of the arrays of a rule's fields; rule.same where the lists decide.
-/
import Derived.Test.YtlbhgjilgdmedaaGreatDoorPrint2
import Derived.Laws.StructEq
import Derived.ChangeKeysEq
import Derived.Deep.RegionHeld3
import Derived.Test.YtlbhgjilgdmedaaGreatDoorSame
namespace Go.Proofs.YtlbhgjilgdmedaaGreatDoor
set_option maxRecDepth 100000
open Go.ChangeShapes Go.WideShapes Go.ChangeAt Go.RowKit

theorem info_size1 {t : TypeId} (h : (Tryz.prog.info? t).map (·.size) = some 1) : ∃ i, Tryz.prog.info? t = some i := by
  cases hh : Tryz.prog.info? t with
  | none => rw [hh] at h; cases h
  | some i => exact ⟨i, rfl⟩
theorem eqNums (a b c a' b' c' : Int) (W : World) : (binOp .eql 91 (.agg #[.int .i64 a, .int .i64 b, .int .i64 c]) (.agg #[.int .i64 a', .int .i64 b', .int .i64 c'])).run Tryz.prog W = .ok (.bool (decide (a = a' ∧ b = b' ∧ c = c'))) W := by
  obtain ⟨i, hi⟩ := info_size1 (t := 3) (by kernel_rfl)
  have hc : Tryz.prog.cellsOf 3 = 1 := by kernel_rfl
  have ha : ∀ W, (isAgg 3).run Tryz.prog W = .ok false W := fun W => by kernel_rfl
  rw [run_eql_struct, show (10000 : Nat) = 9998 + 1 + 1 from rfl, run_equalIn_array _ _ _ _ Tryz.underlying91 hi, hc]
  simp [Op.eqItems, List.range, List.range.loop, part, ha, run_equalIn_int W 9998 3 .i64 .i64 _ _ Tryz.underlying3, Result.andThen]
  by_cases h1 : a = a' <;> by_cases h2 : b = b' <;> by_cases h3 : c = c' <;> simp [h1, h2, h3]
theorem eqTexts (a b c d e f a' b' c' d' e' f' : Tx) (W : World) : (binOp .eql 93 (.agg #[.string (bs a), .string (bs b), .string (bs c), .string (bs d), .string (bs e), .string (bs f)]) (.agg #[.string (bs a'), .string (bs b'), .string (bs c'), .string (bs d'), .string (bs e'), .string (bs f')])).run Tryz.prog W = .ok (.bool (decide (a = a' ∧ b = b' ∧ c = c' ∧ d = d' ∧ e = e' ∧ f = f'))) W := by
  obtain ⟨i, hi⟩ := info_size1 (t := 9) (by kernel_rfl)
  have hc : Tryz.prog.cellsOf 9 = 1 := by kernel_rfl
  have ha : ∀ W, (isAgg 9).run Tryz.prog W = .ok false W := fun W => by kernel_rfl
  rw [run_eql_struct, show (10000 : Nat) = 9998 + 1 + 1 from rfl, run_equalIn_array _ _ _ _ Tryz.underlying93 hi, hc]
  simp [Op.eqItems, List.range, List.range.loop, part, ha, run_equalIn_string W 9998 9 _ _ Tryz.underlying9, Result.andThen, Lib.toList_data, list_bs]
  by_cases h1 : a = a'
  · by_cases h2 : b = b'
    · by_cases h3 : c = c'
      · by_cases h4 : d = d'
        · by_cases h5 : e = e'
          · by_cases h6 : f = f' <;> simp [h1, h2, h3, h4, h5, h6]
          · simp [h1, h2, h3, h4, h5]
        · simp [h1, h2, h3, h4]
      · simp [h1, h2, h3]
    · simp [h1, h2]
  · simp [h1]
end Go.Proofs.YtlbhgjilgdmedaaGreatDoor
namespace Go.Proofs.YtlbhgjilgdmedaaGreatDoor
set_option maxRecDepth 100000
open Go.ChangeShapes Go.WideShapes Go.ChangeAt Go.RowKit

theorem sameEq (r : Ru) (lb : List Tx) (A B : Option Addr) (ca cb : Nat) (la ln : Int) (w : World) (ha : LAt w A ca r.list) (hb : LAt w B cb lb) :
    Calls Tryz.prog 18 #[ruV r (.slice A r.list.length ca) la, ruV { r with list := lb } (.slice B lb.length cb) ln] w (ValB (.bool (decide (r.list = lb))) w) := by
  obtain ⟨kd, nm, l, rn, rm, rf, rt, rb, ra, ri⟩ := r
  refine same_lists kd rn rm la _ _ _ _ _ _ A l.length ca kd rn rm ln _ _ _ _ _ _ B lb.length cb w (fun W => ?_) (fun W => ?_) _ (fun W hW => Equal_any l lb A B ca cb W (ha.below hW) (hb.below hW))
  · rw [eqNums]; simp
  · rw [eqTexts]; simp
end Go.Proofs.YtlbhgjilgdmedaaGreatDoor
