/-
  Same.
-/
import Derived.Test.YtnnmjmjbfeoggaaGreatDoorPrint2
import Derived.Deep.RegionHeld3
import Derived.Deep.DeepCutAuto
import Derived.Laws.StructEq
import Derived.ChangeKeysEq
import Derived.Lib.QuietBelow
namespace Go.Proofs.YtnnmjmjbfeoggaaGreatDoor
set_option maxRecDepth 100000
open Go.ChangeShapes Go.WideShapes Go.ChangeAt Go.RowKit

theorem cells22 {a0 a3 a4 a10 : Int} {a1 a5 a6 a7 a8 a9 : ByteArray} {A : Option Addr} {na ca : Nat} {b0 b3 b4 b10 : Int} {b1 b5 b6 b7 b8 b9 : ByteArray} {B : Option Addr} {nb cb : Nat} {w W : World} (RA : W.heap[w.heap.size]? = some (.cells #[.int .i64 a0, .string a1, .slice A na ca, .int .i64 a3, .int .i64 a4, .string a5, .string a6, .string a7, .string a8, .string a9, .int .i64 a10] 28 (0, 0))) (RB : W.heap[w.heap.size + 1]? = some (.cells #[.int .i64 b0, .string b1, .slice B nb cb, .int .i64 b3, .int .i64 b4, .string b5, .string b6, .string b7, .string b8, .string b9, .int .i64 b10] 28 (0, 0))) : W.cell? ⟨w.heap.size, 0, none⟩ = some (.int .i64 a0) ∧ W.cell? ⟨w.heap.size, 1, none⟩ = some (.string a1) ∧ W.cell? ⟨w.heap.size, 2, none⟩ = some (.slice A na ca) ∧ W.cell? ⟨w.heap.size, 3, none⟩ = some (.int .i64 a3) ∧ W.cell? ⟨w.heap.size, 4, none⟩ = some (.int .i64 a4) ∧ W.cell? ⟨w.heap.size, 5, none⟩ = some (.string a5) ∧ W.cell? ⟨w.heap.size, 6, none⟩ = some (.string a6) ∧ W.cell? ⟨w.heap.size, 7, none⟩ = some (.string a7) ∧ W.cell? ⟨w.heap.size, 8, none⟩ = some (.string a8) ∧ W.cell? ⟨w.heap.size, 9, none⟩ = some (.string a9) ∧ W.cell? ⟨w.heap.size, 10, none⟩ = some (.int .i64 a10) ∧ W.cell? ⟨w.heap.size + 1, 0, none⟩ = some (.int .i64 b0) ∧ W.cell? ⟨w.heap.size + 1, 1, none⟩ = some (.string b1) ∧ W.cell? ⟨w.heap.size + 1, 2, none⟩ = some (.slice B nb cb) ∧ W.cell? ⟨w.heap.size + 1, 3, none⟩ = some (.int .i64 b3) ∧ W.cell? ⟨w.heap.size + 1, 4, none⟩ = some (.int .i64 b4) ∧ W.cell? ⟨w.heap.size + 1, 5, none⟩ = some (.string b5) ∧ W.cell? ⟨w.heap.size + 1, 6, none⟩ = some (.string b6) ∧ W.cell? ⟨w.heap.size + 1, 7, none⟩ = some (.string b7) ∧ W.cell? ⟨w.heap.size + 1, 8, none⟩ = some (.string b8) ∧ W.cell? ⟨w.heap.size + 1, 9, none⟩ = some (.string b9) ∧ W.cell? ⟨w.heap.size + 1, 10, none⟩ = some (.int .i64 b10) := ⟨row_q0 RA, row_q1 RA, row_q2 RA, row_q3 RA, row_q4 RA, row_q5 RA, row_q6 RA, row_q7 RA, row_q8 RA, row_q9 RA, row_q10 RA, row_q0 RB, row_q1 RB, row_q2 RB, row_q3 RB, row_q4 RB, row_q5 RB, row_q6 RB, row_q7 RB, row_q8 RB, row_q9 RB, row_q10 RB⟩

theorem numbers_lit (a0 a3 a4 a10 : Int) (a1 a5 a6 a7 a8 a9 : ByteArray) (A : Option Addr) (na ca : Nat) (w : World) : Calls Tryz.prog 145 #[.agg #[.int .i64 a0, .string a1, .slice A na ca, .int .i64 a3, .int .i64 a4, .string a5, .string a6, .string a7, .string a8, .string a9, .int .i64 a10]] w (ValB (.agg #[.int .i64 a0, .int .i64 a3, .int .i64 a4]) w) := by
  go_enter Tryz.func145, Tryz.ntmps145
  go_wp2
  (try simp only [Exit.inBlock, Exit.then])
  refine bodyPost_ret (results_cell_row rfl _ _ (w.heap.size + 1) _ _ _ _ rfl (alloc_at (by simp) _) Tryz.underlying199 rfl (by kernel_rfl)) rfl ?_
  exact ⟨rfl, ((Below.refl _ _).alloc (Nat.le_refl _) _).alloc (by simp) _⟩

theorem rnames_lit (a0 a3 a4 a10 : Int) (a1 a5 a6 a7 a8 a9 : ByteArray) (A : Option Addr) (na ca : Nat) (w : World) : Calls Tryz.prog 146 #[.agg #[.int .i64 a0, .string a1, .slice A na ca, .int .i64 a3, .int .i64 a4, .string a5, .string a6, .string a7, .string a8, .string a9, .int .i64 a10]] w (ValB (.agg #[.string a1, .string a5, .string a6, .string a7, .string a8, .string a9]) w) := by
  go_enter Tryz.func146, Tryz.ntmps146
  go_wp2
  (try simp only [Exit.inBlock, Exit.then])
  refine bodyPost_ret (results_cell_row rfl _ _ (w.heap.size + 1) _ _ _ _ rfl (alloc_at (by simp) _) Tryz.underlying201 rfl (by kernel_rfl)) rfl ?_
  exact ⟨rfl, ((Below.refl _ _).alloc (Nat.le_refl _) _).alloc (by simp) _⟩

set_option maxHeartbeats 4000000 in
theorem same_lists (a0 a3 a4 a10 : Int) (a1 a5 a6 a7 a8 a9 : ByteArray) (A : Option Addr) (na ca : Nat) (b0 b3 b4 b10 : Int) (b1 b5 b6 b7 b8 b9 : ByteArray) (B : Option Addr) (nb cb : Nat) (w : World) (h1 : (∀ W, (binOp .eql 199 (.agg #[.int .i64 a0, .int .i64 a3, .int .i64 a4]) (.agg #[.int .i64 b0, .int .i64 b3, .int .i64 b4])).run Tryz.prog W = .ok (.bool true) W)) (h2 : (∀ W, (binOp .eql 201 (.agg #[.string a1, .string a5, .string a6, .string a7, .string a8, .string a9]) (.agg #[.string b1, .string b5, .string b6, .string b7, .string b8, .string b9])).run Tryz.prog W = .ok (.bool true) W)) (r : Bool) (heq : ∀ W, Below w.heap.size w W → Calls Tryz.prog 75 #[.slice A na ca, .slice B nb cb] W (ValB (.bool r) W)) :
    Calls Tryz.prog 93 #[.agg #[.int .i64 a0, .string a1, .slice A na ca, .int .i64 a3, .int .i64 a4, .string a5, .string a6, .string a7, .string a8, .string a9, .int .i64 a10], .agg #[.int .i64 b0, .string b1, .slice B nb cb, .int .i64 b3, .int .i64 b4, .string b5, .string b6, .string b7, .string b8, .string b9, .int .i64 b10]] w (ValB (.bool r) w) := by
  have RA : ((w.alloc (.cells #[.int .i64 a0, .string a1, .slice A na ca, .int .i64 a3, .int .i64 a4, .string a5, .string a6, .string a7, .string a8, .string a9, .int .i64 a10] 28)).alloc (.cells #[.int .i64 b0, .string b1, .slice B nb cb, .int .i64 b3, .int .i64 b4, .string b5, .string b6, .string b7, .string b8, .string b9, .int .i64 b10] 28)).drew.heap[w.heap.size]? = some (.cells #[.int .i64 a0, .string a1, .slice A na ca, .int .i64 a3, .int .i64 a4, .string a5, .string a6, .string a7, .string a8, .string a9, .int .i64 a10] 28 (0, 0)) := (row_alloc (heap_alloc_new _ _) _ : ((w.alloc (.cells #[.int .i64 a0, .string a1, .slice A na ca, .int .i64 a3, .int .i64 a4, .string a5, .string a6, .string a7, .string a8, .string a9, .int .i64 a10] 28)).alloc (.cells #[.int .i64 b0, .string b1, .slice B nb cb, .int .i64 b3, .int .i64 b4, .string b5, .string b6, .string b7, .string b8, .string b9, .int .i64 b10] 28)).heap[w.heap.size]? = some (.cells #[.int .i64 a0, .string a1, .slice A na ca, .int .i64 a3, .int .i64 a4, .string a5, .string a6, .string a7, .string a8, .string a9, .int .i64 a10] 28 (0, 0)))
  have RB : ((w.alloc (.cells #[.int .i64 a0, .string a1, .slice A na ca, .int .i64 a3, .int .i64 a4, .string a5, .string a6, .string a7, .string a8, .string a9, .int .i64 a10] 28)).alloc (.cells #[.int .i64 b0, .string b1, .slice B nb cb, .int .i64 b3, .int .i64 b4, .string b5, .string b6, .string b7, .string b8, .string b9, .int .i64 b10] 28)).drew.heap[w.heap.size + 1]? = some (.cells #[.int .i64 b0, .string b1, .slice B nb cb, .int .i64 b3, .int .i64 b4, .string b5, .string b6, .string b7, .string b8, .string b9, .int .i64 b10] 28 (0, 0)) := (alloc_at (by simp) _ : ((w.alloc (.cells #[.int .i64 a0, .string a1, .slice A na ca, .int .i64 a3, .int .i64 a4, .string a5, .string a6, .string a7, .string a8, .string a9, .int .i64 a10] 28)).alloc (.cells #[.int .i64 b0, .string b1, .slice B nb cb, .int .i64 b3, .int .i64 b4, .string b5, .string b6, .string b7, .string b8, .string b9, .int .i64 b10] 28)).heap[w.heap.size + 1]? = some (.cells #[.int .i64 b0, .string b1, .slice B nb cb, .int .i64 b3, .int .i64 b4, .string b5, .string b6, .string b7, .string b8, .string b9, .int .i64 b10] 28 (0, 0)))
  have HB : Below w.heap.size w ((w.alloc (.cells #[.int .i64 a0, .string a1, .slice A na ca, .int .i64 a3, .int .i64 a4, .string a5, .string a6, .string a7, .string a8, .string a9, .int .i64 a10] 28)).alloc (.cells #[.int .i64 b0, .string b1, .slice B nb cb, .int .i64 b3, .int .i64 b4, .string b5, .string b6, .string b7, .string b8, .string b9, .int .i64 b10] 28)).drew := (((Below.refl _ _).alloc (Nat.le_refl _) _).alloc (by simp) _).drew
  go_enter Tryz.func93, Tryz.ntmps93
  go_upto_region 1 with fail
  go_region_held3 (fun w' => w'.cell? ⟨w.heap.size, 0, none⟩ = some (.int .i64 a0) ∧ w'.cell? ⟨w.heap.size, 1, none⟩ = some (.string a1) ∧ w'.cell? ⟨w.heap.size, 2, none⟩ = some (.slice A na ca) ∧ w'.cell? ⟨w.heap.size, 3, none⟩ = some (.int .i64 a3) ∧ w'.cell? ⟨w.heap.size, 4, none⟩ = some (.int .i64 a4) ∧ w'.cell? ⟨w.heap.size, 5, none⟩ = some (.string a5) ∧ w'.cell? ⟨w.heap.size, 6, none⟩ = some (.string a6) ∧ w'.cell? ⟨w.heap.size, 7, none⟩ = some (.string a7) ∧ w'.cell? ⟨w.heap.size, 8, none⟩ = some (.string a8) ∧ w'.cell? ⟨w.heap.size, 9, none⟩ = some (.string a9) ∧ w'.cell? ⟨w.heap.size, 10, none⟩ = some (.int .i64 a10) ∧ w'.cell? ⟨w.heap.size + 1, 0, none⟩ = some (.int .i64 b0) ∧ w'.cell? ⟨w.heap.size + 1, 1, none⟩ = some (.string b1) ∧ w'.cell? ⟨w.heap.size + 1, 2, none⟩ = some (.slice B nb cb) ∧ w'.cell? ⟨w.heap.size + 1, 3, none⟩ = some (.int .i64 b3) ∧ w'.cell? ⟨w.heap.size + 1, 4, none⟩ = some (.int .i64 b4) ∧ w'.cell? ⟨w.heap.size + 1, 5, none⟩ = some (.string b5) ∧ w'.cell? ⟨w.heap.size + 1, 6, none⟩ = some (.string b6) ∧ w'.cell? ⟨w.heap.size + 1, 7, none⟩ = some (.string b7) ∧ w'.cell? ⟨w.heap.size + 1, 8, none⟩ = some (.string b8) ∧ w'.cell? ⟨w.heap.size + 1, 9, none⟩ = some (.string b9) ∧ w'.cell? ⟨w.heap.size + 1, 10, none⟩ = some (.int .i64 b10)) (first | exact cells22 (by assumption) (by assumption) | exact cells22 RA RB)
    (first
      | (go_at_call 145; refine (numbers_lit _ _ _ _ _ _ _ _ _ _ _ _ _ _).mono ?_; rintro e w5 ⟨rfl, hb5⟩; have RA := row_below RA hb5; have RB := row_below RB hb5; have HB := below_then HB hb5 HB.size)
      | (go_at_call 146; refine (rnames_lit _ _ _ _ _ _ _ _ _ _ _ _ _ _).mono ?_; rintro e w5 ⟨rfl, hb5⟩; have RA := row_below RA hb5; have RB := row_below RB hb5; have HB := below_then HB hb5 HB.size)
      | (go_at_call 75; refine (heq _ HB).mono ?_; rintro e w5 ⟨rfl, hb5⟩; have RA := row_below RA hb5; have RB := row_below RB hb5; have HB := below_then HB hb5 HB.size))
  all_goals
    go_wp2
    go_ret
    exact ⟨rfl, HB⟩

end Go.Proofs.YtnnmjmjbfeoggaaGreatDoor
namespace Go.Proofs.YtnnmjmjbfeoggaaGreatDoor
set_option maxRecDepth 100000
open Go.ChangeShapes Go.WideShapes Go.ChangeAt Go.RowKit

theorem info_size1 {t : TypeId} (h : (Tryz.prog.info? t).map (·.size) = some 1) : ∃ i, Tryz.prog.info? t = some i := by
  cases hh : Tryz.prog.info? t with
  | none => rw [hh] at h; cases h
  | some i => exact ⟨i, rfl⟩
theorem eqNums (a b c a' b' c' : Int) (W : World) : (binOp .eql 199 (.agg #[.int .i64 a, .int .i64 b, .int .i64 c]) (.agg #[.int .i64 a', .int .i64 b', .int .i64 c'])).run Tryz.prog W = .ok (.bool (decide (a = a' ∧ b = b' ∧ c = c'))) W := by
  obtain ⟨i, hi⟩ := info_size1 (t := 3) (by kernel_rfl)
  have hc : Tryz.prog.cellsOf 3 = 1 := by kernel_rfl
  have ha : ∀ W, (isAgg 3).run Tryz.prog W = .ok false W := fun W => by kernel_rfl
  rw [run_eql_struct, show (10000 : Nat) = 9998 + 1 + 1 from rfl, run_equalIn_array _ _ _ _ Tryz.underlying199 hi, hc]
  simp [Op.eqItems, List.range, List.range.loop, part, ha, run_equalIn_int W 9998 3 .i64 .i64 _ _ Tryz.underlying3, Result.andThen]
  by_cases h1 : a = a' <;> by_cases h2 : b = b' <;> by_cases h3 : c = c' <;> simp [h1, h2, h3]
theorem eqTexts (a b c d e f a' b' c' d' e' f' : Tx) (W : World) : (binOp .eql 201 (.agg #[.string (bs a), .string (bs b), .string (bs c), .string (bs d), .string (bs e), .string (bs f)]) (.agg #[.string (bs a'), .string (bs b'), .string (bs c'), .string (bs d'), .string (bs e'), .string (bs f')])).run Tryz.prog W = .ok (.bool (decide (a = a' ∧ b = b' ∧ c = c' ∧ d = d' ∧ e = e' ∧ f = f'))) W := by
  obtain ⟨i, hi⟩ := info_size1 (t := 9) (by kernel_rfl)
  have hc : Tryz.prog.cellsOf 9 = 1 := by kernel_rfl
  have ha : ∀ W, (isAgg 9).run Tryz.prog W = .ok false W := fun W => by kernel_rfl
  rw [run_eql_struct, show (10000 : Nat) = 9998 + 1 + 1 from rfl, run_equalIn_array _ _ _ _ Tryz.underlying201 hi, hc]
  simp [Op.eqItems, List.range, List.range.loop, part, ha, run_equalIn_string W 9998 9 _ _ Tryz.underlying9, Result.andThen, Lib.toList_data, list_bs]
  by_cases h1 : a = a'
  · by_cases h2 : b = b'
    · by_cases h3 : c = c'
      · by_cases h4 : d = d'
        · by_cases h5 : e = e'
          · by_cases h6 : f = f' <;> simp [h1, h2, h3, h4, h5, h6]
          · simp [h1, h2, h3, h4, h5]
        · simp [h1, h2, h3, h4]
      · simp [h1, h2, h3]
    · simp [h1, h2]
  · simp [h1]
end Go.Proofs.YtnnmjmjbfeoggaaGreatDoor
namespace Go.Proofs.YtnnmjmjbfeoggaaGreatDoor
set_option maxRecDepth 100000
open Go.ChangeShapes Go.WideShapes Go.ChangeAt Go.RowKit

theorem sameEq (r : Ru) (lb : List Tx) (A B : Option Addr) (ca cb : Nat) (la ln : Int) (w : World) (ha : LAt w A ca r.list) (hb : LAt w B cb lb) :
    Calls Tryz.prog 93 #[ruV r (.slice A r.list.length ca) la, ruV { r with list := lb } (.slice B lb.length cb) ln] w (ValB (.bool (decide (r.list = lb))) w) := by
  obtain ⟨kd, nm, l, rn, rm, rf, rt, rb, ra, ri⟩ := r
  refine same_lists kd rn rm la _ _ _ _ _ _ A l.length ca kd rn rm ln _ _ _ _ _ _ B lb.length cb w (fun W => ?_) (fun W => ?_) _ (fun W hW => Equal_any l lb A B ca cb W (ha.below hW) (hb.below hW))
  · rw [eqNums]; simp
  · rw [eqTexts]; simp
end Go.Proofs.YtnnmjmjbfeoggaaGreatDoor
namespace Go.Proofs.YtnnmjmjbfeoggaaGreatDoor
set_option maxRecDepth 100000
open Go.ChangeShapes Go.WideShapes Go.ChangeAt Go.RowKit Go.Sort

set_option maxHeartbeats 1000000 in
theorem same_nums (a0 a3 a4 a10 : Int) (a1 a5 a6 a7 a8 a9 : ByteArray) (A : Option Addr) (na ca : Nat) (b0 b3 b4 b10 : Int) (b1 b5 b6 b7 b8 b9 : ByteArray) (B : Option Addr) (nb cb : Nat) (w : World) (h1 : (∀ W, (binOp .eql 199 (.agg #[.int .i64 a0, .int .i64 a3, .int .i64 a4]) (.agg #[.int .i64 b0, .int .i64 b3, .int .i64 b4])).run Tryz.prog W = .ok (.bool false) W)) :
    Calls Tryz.prog 93 #[.agg #[.int .i64 a0, .string a1, .slice A na ca, .int .i64 a3, .int .i64 a4, .string a5, .string a6, .string a7, .string a8, .string a9, .int .i64 a10], .agg #[.int .i64 b0, .string b1, .slice B nb cb, .int .i64 b3, .int .i64 b4, .string b5, .string b6, .string b7, .string b8, .string b9, .int .i64 b10]] w (ValB (.bool false) w) := by
  have RA : ((w.alloc (.cells #[.int .i64 a0, .string a1, .slice A na ca, .int .i64 a3, .int .i64 a4, .string a5, .string a6, .string a7, .string a8, .string a9, .int .i64 a10] 28)).alloc (.cells #[.int .i64 b0, .string b1, .slice B nb cb, .int .i64 b3, .int .i64 b4, .string b5, .string b6, .string b7, .string b8, .string b9, .int .i64 b10] 28)).heap[w.heap.size]? = some (.cells #[.int .i64 a0, .string a1, .slice A na ca, .int .i64 a3, .int .i64 a4, .string a5, .string a6, .string a7, .string a8, .string a9, .int .i64 a10] 28 (0, 0)) := (row_alloc (heap_alloc_new _ _) _ : ((w.alloc (.cells #[.int .i64 a0, .string a1, .slice A na ca, .int .i64 a3, .int .i64 a4, .string a5, .string a6, .string a7, .string a8, .string a9, .int .i64 a10] 28)).alloc (.cells #[.int .i64 b0, .string b1, .slice B nb cb, .int .i64 b3, .int .i64 b4, .string b5, .string b6, .string b7, .string b8, .string b9, .int .i64 b10] 28)).heap[w.heap.size]? = some (.cells #[.int .i64 a0, .string a1, .slice A na ca, .int .i64 a3, .int .i64 a4, .string a5, .string a6, .string a7, .string a8, .string a9, .int .i64 a10] 28 (0, 0)))
  have RB : ((w.alloc (.cells #[.int .i64 a0, .string a1, .slice A na ca, .int .i64 a3, .int .i64 a4, .string a5, .string a6, .string a7, .string a8, .string a9, .int .i64 a10] 28)).alloc (.cells #[.int .i64 b0, .string b1, .slice B nb cb, .int .i64 b3, .int .i64 b4, .string b5, .string b6, .string b7, .string b8, .string b9, .int .i64 b10] 28)).heap[w.heap.size + 1]? = some (.cells #[.int .i64 b0, .string b1, .slice B nb cb, .int .i64 b3, .int .i64 b4, .string b5, .string b6, .string b7, .string b8, .string b9, .int .i64 b10] 28 (0, 0)) := (alloc_at (by simp) _ : ((w.alloc (.cells #[.int .i64 a0, .string a1, .slice A na ca, .int .i64 a3, .int .i64 a4, .string a5, .string a6, .string a7, .string a8, .string a9, .int .i64 a10] 28)).alloc (.cells #[.int .i64 b0, .string b1, .slice B nb cb, .int .i64 b3, .int .i64 b4, .string b5, .string b6, .string b7, .string b8, .string b9, .int .i64 b10] 28)).heap[w.heap.size + 1]? = some (.cells #[.int .i64 b0, .string b1, .slice B nb cb, .int .i64 b3, .int .i64 b4, .string b5, .string b6, .string b7, .string b8, .string b9, .int .i64 b10] 28 (0, 0)))
  have HB : Below w.heap.size w ((w.alloc (.cells #[.int .i64 a0, .string a1, .slice A na ca, .int .i64 a3, .int .i64 a4, .string a5, .string a6, .string a7, .string a8, .string a9, .int .i64 a10] 28)).alloc (.cells #[.int .i64 b0, .string b1, .slice B nb cb, .int .i64 b3, .int .i64 b4, .string b5, .string b6, .string b7, .string b8, .string b9, .int .i64 b10] 28)) := (((Below.refl _ _).alloc (Nat.le_refl _) _).alloc (by simp) _)
  go_enter Tryz.func93, Tryz.ntmps93
  go_upto_region 1 with fail
  generalize ((w.alloc (.cells #[.int .i64 a0, .string a1, .slice A na ca, .int .i64 a3, .int .i64 a4, .string a5, .string a6, .string a7, .string a8, .string a9, .int .i64 a10] 28)).alloc (.cells #[.int .i64 b0, .string b1, .slice B nb cb, .int .i64 b3, .int .i64 b4, .string b5, .string b6, .string b7, .string b8, .string b9, .int .i64 b10] 28)) = W0 at *
  have ca0 : ∀ d os, (grow (redrawn W0 d) os).cell? ⟨w.heap.size, 0, none⟩ = some (.int .i64 a0) := fun d os => cell_regrown (row_q0 RA) d os
  have ca1 : ∀ d os, (grow (redrawn W0 d) os).cell? ⟨w.heap.size, 1, none⟩ = some (.string a1) := fun d os => cell_regrown (row_q1 RA) d os
  have ca2 : ∀ d os, (grow (redrawn W0 d) os).cell? ⟨w.heap.size, 2, none⟩ = some (.slice A na ca) := fun d os => cell_regrown (row_q2 RA) d os
  have ca3 : ∀ d os, (grow (redrawn W0 d) os).cell? ⟨w.heap.size, 3, none⟩ = some (.int .i64 a3) := fun d os => cell_regrown (row_q3 RA) d os
  have ca4 : ∀ d os, (grow (redrawn W0 d) os).cell? ⟨w.heap.size, 4, none⟩ = some (.int .i64 a4) := fun d os => cell_regrown (row_q4 RA) d os
  have ca5 : ∀ d os, (grow (redrawn W0 d) os).cell? ⟨w.heap.size, 5, none⟩ = some (.string a5) := fun d os => cell_regrown (row_q5 RA) d os
  have ca6 : ∀ d os, (grow (redrawn W0 d) os).cell? ⟨w.heap.size, 6, none⟩ = some (.string a6) := fun d os => cell_regrown (row_q6 RA) d os
  have ca7 : ∀ d os, (grow (redrawn W0 d) os).cell? ⟨w.heap.size, 7, none⟩ = some (.string a7) := fun d os => cell_regrown (row_q7 RA) d os
  have ca8 : ∀ d os, (grow (redrawn W0 d) os).cell? ⟨w.heap.size, 8, none⟩ = some (.string a8) := fun d os => cell_regrown (row_q8 RA) d os
  have ca9 : ∀ d os, (grow (redrawn W0 d) os).cell? ⟨w.heap.size, 9, none⟩ = some (.string a9) := fun d os => cell_regrown (row_q9 RA) d os
  have ca10 : ∀ d os, (grow (redrawn W0 d) os).cell? ⟨w.heap.size, 10, none⟩ = some (.int .i64 a10) := fun d os => cell_regrown (row_q10 RA) d os
  have cb0 : ∀ d os, (grow (redrawn W0 d) os).cell? ⟨w.heap.size + 1, 0, none⟩ = some (.int .i64 b0) := fun d os => cell_regrown (row_q0 RB) d os
  have cb1 : ∀ d os, (grow (redrawn W0 d) os).cell? ⟨w.heap.size + 1, 1, none⟩ = some (.string b1) := fun d os => cell_regrown (row_q1 RB) d os
  have cb2 : ∀ d os, (grow (redrawn W0 d) os).cell? ⟨w.heap.size + 1, 2, none⟩ = some (.slice B nb cb) := fun d os => cell_regrown (row_q2 RB) d os
  have cb3 : ∀ d os, (grow (redrawn W0 d) os).cell? ⟨w.heap.size + 1, 3, none⟩ = some (.int .i64 b3) := fun d os => cell_regrown (row_q3 RB) d os
  have cb4 : ∀ d os, (grow (redrawn W0 d) os).cell? ⟨w.heap.size + 1, 4, none⟩ = some (.int .i64 b4) := fun d os => cell_regrown (row_q4 RB) d os
  have cb5 : ∀ d os, (grow (redrawn W0 d) os).cell? ⟨w.heap.size + 1, 5, none⟩ = some (.string b5) := fun d os => cell_regrown (row_q5 RB) d os
  have cb6 : ∀ d os, (grow (redrawn W0 d) os).cell? ⟨w.heap.size + 1, 6, none⟩ = some (.string b6) := fun d os => cell_regrown (row_q6 RB) d os
  have cb7 : ∀ d os, (grow (redrawn W0 d) os).cell? ⟨w.heap.size + 1, 7, none⟩ = some (.string b7) := fun d os => cell_regrown (row_q7 RB) d os
  have cb8 : ∀ d os, (grow (redrawn W0 d) os).cell? ⟨w.heap.size + 1, 8, none⟩ = some (.string b8) := fun d os => cell_regrown (row_q8 RB) d os
  have cb9 : ∀ d os, (grow (redrawn W0 d) os).cell? ⟨w.heap.size + 1, 9, none⟩ = some (.string b9) := fun d os => cell_regrown (row_q9 RB) d os
  have cb10 : ∀ d os, (grow (redrawn W0 d) os).cell? ⟨w.heap.size + 1, 10, none⟩ = some (.int .i64 b10) := fun d os => cell_regrown (row_q10 RB) d os
  have n1 := fun d os => Calls.regrown_of (numbers_lit a0 a3 a4 a10 a1 a5 a6 a7 a8 a9 A na ca (grow (redrawn W0 d) os))
  have n2 := fun d os => Calls.regrown_of (numbers_lit b0 b3 b4 b10 b1 b5 b6 b7 b8 b9 B nb cb (grow (redrawn W0 d) os))
  have t1 := fun d os => Calls.regrown_of (rnames_lit a0 a3 a4 a10 a1 a5 a6 a7 a8 a9 A na ca (grow (redrawn W0 d) os))
  have t2 := fun d os => Calls.regrown_of (rnames_lit b0 b3 b4 b10 b1 b5 b6 b7 b8 b9 B nb cb (grow (redrawn W0 d) os))
  clear RA RB
  refine wp_region_quiet_below (by kernel_rfl) (by kernel_rfl) ?_
  quiet_step (fail)
  quiet_step (exact n1 _ _)
  quiet_step (fail)
  quiet_step (exact n2 _ _)
  quiet_step (fail)
  quiet_step (fail)
  clear n1 n2
  clear t1 t2
  repeat (quiet_step (fail))
  refine wpQuiet_nil ?_
  intro _ hw'
  obtain ⟨⟨dq, osq⟩, hw''⟩ := hw'
  subst hw''
  go_wp2
  go_ret
  exact ⟨rfl, HB.trans ((below_regrown W0 dq osq).mono HB.size)⟩

set_option maxHeartbeats 1000000 in
theorem same_texts (a0 a3 a4 a10 : Int) (a1 a5 a6 a7 a8 a9 : ByteArray) (A : Option Addr) (na ca : Nat) (b0 b3 b4 b10 : Int) (b1 b5 b6 b7 b8 b9 : ByteArray) (B : Option Addr) (nb cb : Nat) (w : World) (h1 : (∀ W, (binOp .eql 199 (.agg #[.int .i64 a0, .int .i64 a3, .int .i64 a4]) (.agg #[.int .i64 b0, .int .i64 b3, .int .i64 b4])).run Tryz.prog W = .ok (.bool true) W)) (h2 : (∀ W, (binOp .eql 201 (.agg #[.string a1, .string a5, .string a6, .string a7, .string a8, .string a9]) (.agg #[.string b1, .string b5, .string b6, .string b7, .string b8, .string b9])).run Tryz.prog W = .ok (.bool false) W)) :
    Calls Tryz.prog 93 #[.agg #[.int .i64 a0, .string a1, .slice A na ca, .int .i64 a3, .int .i64 a4, .string a5, .string a6, .string a7, .string a8, .string a9, .int .i64 a10], .agg #[.int .i64 b0, .string b1, .slice B nb cb, .int .i64 b3, .int .i64 b4, .string b5, .string b6, .string b7, .string b8, .string b9, .int .i64 b10]] w (ValB (.bool false) w) := by
  have RA : ((w.alloc (.cells #[.int .i64 a0, .string a1, .slice A na ca, .int .i64 a3, .int .i64 a4, .string a5, .string a6, .string a7, .string a8, .string a9, .int .i64 a10] 28)).alloc (.cells #[.int .i64 b0, .string b1, .slice B nb cb, .int .i64 b3, .int .i64 b4, .string b5, .string b6, .string b7, .string b8, .string b9, .int .i64 b10] 28)).heap[w.heap.size]? = some (.cells #[.int .i64 a0, .string a1, .slice A na ca, .int .i64 a3, .int .i64 a4, .string a5, .string a6, .string a7, .string a8, .string a9, .int .i64 a10] 28 (0, 0)) := (row_alloc (heap_alloc_new _ _) _ : ((w.alloc (.cells #[.int .i64 a0, .string a1, .slice A na ca, .int .i64 a3, .int .i64 a4, .string a5, .string a6, .string a7, .string a8, .string a9, .int .i64 a10] 28)).alloc (.cells #[.int .i64 b0, .string b1, .slice B nb cb, .int .i64 b3, .int .i64 b4, .string b5, .string b6, .string b7, .string b8, .string b9, .int .i64 b10] 28)).heap[w.heap.size]? = some (.cells #[.int .i64 a0, .string a1, .slice A na ca, .int .i64 a3, .int .i64 a4, .string a5, .string a6, .string a7, .string a8, .string a9, .int .i64 a10] 28 (0, 0)))
  have RB : ((w.alloc (.cells #[.int .i64 a0, .string a1, .slice A na ca, .int .i64 a3, .int .i64 a4, .string a5, .string a6, .string a7, .string a8, .string a9, .int .i64 a10] 28)).alloc (.cells #[.int .i64 b0, .string b1, .slice B nb cb, .int .i64 b3, .int .i64 b4, .string b5, .string b6, .string b7, .string b8, .string b9, .int .i64 b10] 28)).heap[w.heap.size + 1]? = some (.cells #[.int .i64 b0, .string b1, .slice B nb cb, .int .i64 b3, .int .i64 b4, .string b5, .string b6, .string b7, .string b8, .string b9, .int .i64 b10] 28 (0, 0)) := (alloc_at (by simp) _ : ((w.alloc (.cells #[.int .i64 a0, .string a1, .slice A na ca, .int .i64 a3, .int .i64 a4, .string a5, .string a6, .string a7, .string a8, .string a9, .int .i64 a10] 28)).alloc (.cells #[.int .i64 b0, .string b1, .slice B nb cb, .int .i64 b3, .int .i64 b4, .string b5, .string b6, .string b7, .string b8, .string b9, .int .i64 b10] 28)).heap[w.heap.size + 1]? = some (.cells #[.int .i64 b0, .string b1, .slice B nb cb, .int .i64 b3, .int .i64 b4, .string b5, .string b6, .string b7, .string b8, .string b9, .int .i64 b10] 28 (0, 0)))
  have HB : Below w.heap.size w ((w.alloc (.cells #[.int .i64 a0, .string a1, .slice A na ca, .int .i64 a3, .int .i64 a4, .string a5, .string a6, .string a7, .string a8, .string a9, .int .i64 a10] 28)).alloc (.cells #[.int .i64 b0, .string b1, .slice B nb cb, .int .i64 b3, .int .i64 b4, .string b5, .string b6, .string b7, .string b8, .string b9, .int .i64 b10] 28)) := (((Below.refl _ _).alloc (Nat.le_refl _) _).alloc (by simp) _)
  go_enter Tryz.func93, Tryz.ntmps93
  go_upto_region 1 with fail
  generalize ((w.alloc (.cells #[.int .i64 a0, .string a1, .slice A na ca, .int .i64 a3, .int .i64 a4, .string a5, .string a6, .string a7, .string a8, .string a9, .int .i64 a10] 28)).alloc (.cells #[.int .i64 b0, .string b1, .slice B nb cb, .int .i64 b3, .int .i64 b4, .string b5, .string b6, .string b7, .string b8, .string b9, .int .i64 b10] 28)) = W0 at *
  have ca0 : ∀ d os, (grow (redrawn W0 d) os).cell? ⟨w.heap.size, 0, none⟩ = some (.int .i64 a0) := fun d os => cell_regrown (row_q0 RA) d os
  have ca1 : ∀ d os, (grow (redrawn W0 d) os).cell? ⟨w.heap.size, 1, none⟩ = some (.string a1) := fun d os => cell_regrown (row_q1 RA) d os
  have ca2 : ∀ d os, (grow (redrawn W0 d) os).cell? ⟨w.heap.size, 2, none⟩ = some (.slice A na ca) := fun d os => cell_regrown (row_q2 RA) d os
  have ca3 : ∀ d os, (grow (redrawn W0 d) os).cell? ⟨w.heap.size, 3, none⟩ = some (.int .i64 a3) := fun d os => cell_regrown (row_q3 RA) d os
  have ca4 : ∀ d os, (grow (redrawn W0 d) os).cell? ⟨w.heap.size, 4, none⟩ = some (.int .i64 a4) := fun d os => cell_regrown (row_q4 RA) d os
  have ca5 : ∀ d os, (grow (redrawn W0 d) os).cell? ⟨w.heap.size, 5, none⟩ = some (.string a5) := fun d os => cell_regrown (row_q5 RA) d os
  have ca6 : ∀ d os, (grow (redrawn W0 d) os).cell? ⟨w.heap.size, 6, none⟩ = some (.string a6) := fun d os => cell_regrown (row_q6 RA) d os
  have ca7 : ∀ d os, (grow (redrawn W0 d) os).cell? ⟨w.heap.size, 7, none⟩ = some (.string a7) := fun d os => cell_regrown (row_q7 RA) d os
  have ca8 : ∀ d os, (grow (redrawn W0 d) os).cell? ⟨w.heap.size, 8, none⟩ = some (.string a8) := fun d os => cell_regrown (row_q8 RA) d os
  have ca9 : ∀ d os, (grow (redrawn W0 d) os).cell? ⟨w.heap.size, 9, none⟩ = some (.string a9) := fun d os => cell_regrown (row_q9 RA) d os
  have ca10 : ∀ d os, (grow (redrawn W0 d) os).cell? ⟨w.heap.size, 10, none⟩ = some (.int .i64 a10) := fun d os => cell_regrown (row_q10 RA) d os
  have cb0 : ∀ d os, (grow (redrawn W0 d) os).cell? ⟨w.heap.size + 1, 0, none⟩ = some (.int .i64 b0) := fun d os => cell_regrown (row_q0 RB) d os
  have cb1 : ∀ d os, (grow (redrawn W0 d) os).cell? ⟨w.heap.size + 1, 1, none⟩ = some (.string b1) := fun d os => cell_regrown (row_q1 RB) d os
  have cb2 : ∀ d os, (grow (redrawn W0 d) os).cell? ⟨w.heap.size + 1, 2, none⟩ = some (.slice B nb cb) := fun d os => cell_regrown (row_q2 RB) d os
  have cb3 : ∀ d os, (grow (redrawn W0 d) os).cell? ⟨w.heap.size + 1, 3, none⟩ = some (.int .i64 b3) := fun d os => cell_regrown (row_q3 RB) d os
  have cb4 : ∀ d os, (grow (redrawn W0 d) os).cell? ⟨w.heap.size + 1, 4, none⟩ = some (.int .i64 b4) := fun d os => cell_regrown (row_q4 RB) d os
  have cb5 : ∀ d os, (grow (redrawn W0 d) os).cell? ⟨w.heap.size + 1, 5, none⟩ = some (.string b5) := fun d os => cell_regrown (row_q5 RB) d os
  have cb6 : ∀ d os, (grow (redrawn W0 d) os).cell? ⟨w.heap.size + 1, 6, none⟩ = some (.string b6) := fun d os => cell_regrown (row_q6 RB) d os
  have cb7 : ∀ d os, (grow (redrawn W0 d) os).cell? ⟨w.heap.size + 1, 7, none⟩ = some (.string b7) := fun d os => cell_regrown (row_q7 RB) d os
  have cb8 : ∀ d os, (grow (redrawn W0 d) os).cell? ⟨w.heap.size + 1, 8, none⟩ = some (.string b8) := fun d os => cell_regrown (row_q8 RB) d os
  have cb9 : ∀ d os, (grow (redrawn W0 d) os).cell? ⟨w.heap.size + 1, 9, none⟩ = some (.string b9) := fun d os => cell_regrown (row_q9 RB) d os
  have cb10 : ∀ d os, (grow (redrawn W0 d) os).cell? ⟨w.heap.size + 1, 10, none⟩ = some (.int .i64 b10) := fun d os => cell_regrown (row_q10 RB) d os
  have n1 := fun d os => Calls.regrown_of (numbers_lit a0 a3 a4 a10 a1 a5 a6 a7 a8 a9 A na ca (grow (redrawn W0 d) os))
  have n2 := fun d os => Calls.regrown_of (numbers_lit b0 b3 b4 b10 b1 b5 b6 b7 b8 b9 B nb cb (grow (redrawn W0 d) os))
  have t1 := fun d os => Calls.regrown_of (rnames_lit a0 a3 a4 a10 a1 a5 a6 a7 a8 a9 A na ca (grow (redrawn W0 d) os))
  have t2 := fun d os => Calls.regrown_of (rnames_lit b0 b3 b4 b10 b1 b5 b6 b7 b8 b9 B nb cb (grow (redrawn W0 d) os))
  clear RA RB
  refine wp_region_quiet_below (by kernel_rfl) (by kernel_rfl) ?_
  quiet_step (fail)
  quiet_step (exact n1 _ _)
  quiet_step (fail)
  quiet_step (exact n2 _ _)
  quiet_step (fail)
  quiet_step (fail)
  clear n1 n2
  quiet_step (fail)
  quiet_step (exact t1 _ _)
  quiet_step (fail)
  quiet_step (exact t2 _ _)
  clear t1 t2
  repeat (quiet_step (fail))
  refine wpQuiet_nil ?_
  intro _ hw'
  obtain ⟨⟨dq, osq⟩, hw''⟩ := hw'
  subst hw''
  go_wp2
  go_ret
  exact ⟨rfl, HB.trans ((below_regrown W0 dq osq).mono HB.size)⟩

end Go.Proofs.YtnnmjmjbfeoggaaGreatDoor
