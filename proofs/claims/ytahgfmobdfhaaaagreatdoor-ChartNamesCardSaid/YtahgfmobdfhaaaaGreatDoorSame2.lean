/-
  rule.same: two rules whose numbers, or whose names, are not alike.
-/
import Derived.Test.YtahgfmobdfhaaaaGreatDoorPrint
import Derived.Lib.QuietBelow
namespace Go.Proofs.YtahgfmobdfhaaaaGreatDoor
set_option maxRecDepth 100000
open Go.ChangeShapes Go.WideShapes Go.ChangeAt Go.RowKit Go.Sort

set_option maxHeartbeats 1000000 in
theorem same_nums (a0 a3 a4 a10 : Int) (a1 a5 a6 a7 a8 a9 : ByteArray) (A : Option Addr) (na ca : Nat) (b0 b3 b4 b10 : Int) (b1 b5 b6 b7 b8 b9 : ByteArray) (B : Option Addr) (nb cb : Nat) (w : World) (h1 : (∀ W, (binOp .eql 132 (.agg #[.int .i64 a0, .int .i64 a3, .int .i64 a4]) (.agg #[.int .i64 b0, .int .i64 b3, .int .i64 b4])).run Tryz.prog W = .ok (.bool false) W)) :
    Calls Tryz.prog 27 #[.agg #[.int .i64 a0, .string a1, .slice A na ca, .int .i64 a3, .int .i64 a4, .string a5, .string a6, .string a7, .string a8, .string a9, .int .i64 a10], .agg #[.int .i64 b0, .string b1, .slice B nb cb, .int .i64 b3, .int .i64 b4, .string b5, .string b6, .string b7, .string b8, .string b9, .int .i64 b10]] w (ValB (.bool false) w) := by
  have RA : ((w.alloc (.cells #[.int .i64 a0, .string a1, .slice A na ca, .int .i64 a3, .int .i64 a4, .string a5, .string a6, .string a7, .string a8, .string a9, .int .i64 a10] 41)).alloc (.cells #[.int .i64 b0, .string b1, .slice B nb cb, .int .i64 b3, .int .i64 b4, .string b5, .string b6, .string b7, .string b8, .string b9, .int .i64 b10] 41)).heap[w.heap.size]? = some (.cells #[.int .i64 a0, .string a1, .slice A na ca, .int .i64 a3, .int .i64 a4, .string a5, .string a6, .string a7, .string a8, .string a9, .int .i64 a10] 41 (0, 0)) := (row_alloc (heap_alloc_new _ _) _ : ((w.alloc (.cells #[.int .i64 a0, .string a1, .slice A na ca, .int .i64 a3, .int .i64 a4, .string a5, .string a6, .string a7, .string a8, .string a9, .int .i64 a10] 41)).alloc (.cells #[.int .i64 b0, .string b1, .slice B nb cb, .int .i64 b3, .int .i64 b4, .string b5, .string b6, .string b7, .string b8, .string b9, .int .i64 b10] 41)).heap[w.heap.size]? = some (.cells #[.int .i64 a0, .string a1, .slice A na ca, .int .i64 a3, .int .i64 a4, .string a5, .string a6, .string a7, .string a8, .string a9, .int .i64 a10] 41 (0, 0)))
  have RB : ((w.alloc (.cells #[.int .i64 a0, .string a1, .slice A na ca, .int .i64 a3, .int .i64 a4, .string a5, .string a6, .string a7, .string a8, .string a9, .int .i64 a10] 41)).alloc (.cells #[.int .i64 b0, .string b1, .slice B nb cb, .int .i64 b3, .int .i64 b4, .string b5, .string b6, .string b7, .string b8, .string b9, .int .i64 b10] 41)).heap[w.heap.size + 1]? = some (.cells #[.int .i64 b0, .string b1, .slice B nb cb, .int .i64 b3, .int .i64 b4, .string b5, .string b6, .string b7, .string b8, .string b9, .int .i64 b10] 41 (0, 0)) := (alloc_at (by simp) _ : ((w.alloc (.cells #[.int .i64 a0, .string a1, .slice A na ca, .int .i64 a3, .int .i64 a4, .string a5, .string a6, .string a7, .string a8, .string a9, .int .i64 a10] 41)).alloc (.cells #[.int .i64 b0, .string b1, .slice B nb cb, .int .i64 b3, .int .i64 b4, .string b5, .string b6, .string b7, .string b8, .string b9, .int .i64 b10] 41)).heap[w.heap.size + 1]? = some (.cells #[.int .i64 b0, .string b1, .slice B nb cb, .int .i64 b3, .int .i64 b4, .string b5, .string b6, .string b7, .string b8, .string b9, .int .i64 b10] 41 (0, 0)))
  have HB : Below w.heap.size w ((w.alloc (.cells #[.int .i64 a0, .string a1, .slice A na ca, .int .i64 a3, .int .i64 a4, .string a5, .string a6, .string a7, .string a8, .string a9, .int .i64 a10] 41)).alloc (.cells #[.int .i64 b0, .string b1, .slice B nb cb, .int .i64 b3, .int .i64 b4, .string b5, .string b6, .string b7, .string b8, .string b9, .int .i64 b10] 41)) := (((Below.refl _ _).alloc (Nat.le_refl _) _).alloc (by simp) _)
  go_enter Tryz.func27, Tryz.ntmps27
  go_upto_region 1 with fail
  generalize ((w.alloc (.cells #[.int .i64 a0, .string a1, .slice A na ca, .int .i64 a3, .int .i64 a4, .string a5, .string a6, .string a7, .string a8, .string a9, .int .i64 a10] 41)).alloc (.cells #[.int .i64 b0, .string b1, .slice B nb cb, .int .i64 b3, .int .i64 b4, .string b5, .string b6, .string b7, .string b8, .string b9, .int .i64 b10] 41)) = W0 at *
  have ca0 : ∀ d os, (grow (redrawn W0 d) os).cell? ⟨w.heap.size, 0, none⟩ = some (.int .i64 a0) := fun d os => cell_regrown (row_q0 RA) d os
  have ca1 : ∀ d os, (grow (redrawn W0 d) os).cell? ⟨w.heap.size, 1, none⟩ = some (.string a1) := fun d os => cell_regrown (row_q1 RA) d os
  have ca2 : ∀ d os, (grow (redrawn W0 d) os).cell? ⟨w.heap.size, 2, none⟩ = some (.slice A na ca) := fun d os => cell_regrown (row_q2 RA) d os
  have ca3 : ∀ d os, (grow (redrawn W0 d) os).cell? ⟨w.heap.size, 3, none⟩ = some (.int .i64 a3) := fun d os => cell_regrown (row_q3 RA) d os
  have ca4 : ∀ d os, (grow (redrawn W0 d) os).cell? ⟨w.heap.size, 4, none⟩ = some (.int .i64 a4) := fun d os => cell_regrown (row_q4 RA) d os
  have ca5 : ∀ d os, (grow (redrawn W0 d) os).cell? ⟨w.heap.size, 5, none⟩ = some (.string a5) := fun d os => cell_regrown (row_q5 RA) d os
  have ca6 : ∀ d os, (grow (redrawn W0 d) os).cell? ⟨w.heap.size, 6, none⟩ = some (.string a6) := fun d os => cell_regrown (row_q6 RA) d os
  have ca7 : ∀ d os, (grow (redrawn W0 d) os).cell? ⟨w.heap.size, 7, none⟩ = some (.string a7) := fun d os => cell_regrown (row_q7 RA) d os
  have ca8 : ∀ d os, (grow (redrawn W0 d) os).cell? ⟨w.heap.size, 8, none⟩ = some (.string a8) := fun d os => cell_regrown (row_q8 RA) d os
  have ca9 : ∀ d os, (grow (redrawn W0 d) os).cell? ⟨w.heap.size, 9, none⟩ = some (.string a9) := fun d os => cell_regrown (row_q9 RA) d os
  have ca10 : ∀ d os, (grow (redrawn W0 d) os).cell? ⟨w.heap.size, 10, none⟩ = some (.int .i64 a10) := fun d os => cell_regrown (row_q10 RA) d os
  have cb0 : ∀ d os, (grow (redrawn W0 d) os).cell? ⟨w.heap.size + 1, 0, none⟩ = some (.int .i64 b0) := fun d os => cell_regrown (row_q0 RB) d os
  have cb1 : ∀ d os, (grow (redrawn W0 d) os).cell? ⟨w.heap.size + 1, 1, none⟩ = some (.string b1) := fun d os => cell_regrown (row_q1 RB) d os
  have cb2 : ∀ d os, (grow (redrawn W0 d) os).cell? ⟨w.heap.size + 1, 2, none⟩ = some (.slice B nb cb) := fun d os => cell_regrown (row_q2 RB) d os
  have cb3 : ∀ d os, (grow (redrawn W0 d) os).cell? ⟨w.heap.size + 1, 3, none⟩ = some (.int .i64 b3) := fun d os => cell_regrown (row_q3 RB) d os
  have cb4 : ∀ d os, (grow (redrawn W0 d) os).cell? ⟨w.heap.size + 1, 4, none⟩ = some (.int .i64 b4) := fun d os => cell_regrown (row_q4 RB) d os
  have cb5 : ∀ d os, (grow (redrawn W0 d) os).cell? ⟨w.heap.size + 1, 5, none⟩ = some (.string b5) := fun d os => cell_regrown (row_q5 RB) d os
  have cb6 : ∀ d os, (grow (redrawn W0 d) os).cell? ⟨w.heap.size + 1, 6, none⟩ = some (.string b6) := fun d os => cell_regrown (row_q6 RB) d os
  have cb7 : ∀ d os, (grow (redrawn W0 d) os).cell? ⟨w.heap.size + 1, 7, none⟩ = some (.string b7) := fun d os => cell_regrown (row_q7 RB) d os
  have cb8 : ∀ d os, (grow (redrawn W0 d) os).cell? ⟨w.heap.size + 1, 8, none⟩ = some (.string b8) := fun d os => cell_regrown (row_q8 RB) d os
  have cb9 : ∀ d os, (grow (redrawn W0 d) os).cell? ⟨w.heap.size + 1, 9, none⟩ = some (.string b9) := fun d os => cell_regrown (row_q9 RB) d os
  have cb10 : ∀ d os, (grow (redrawn W0 d) os).cell? ⟨w.heap.size + 1, 10, none⟩ = some (.int .i64 b10) := fun d os => cell_regrown (row_q10 RB) d os
  have n1 := fun d os => Calls.regrown_of (numbers_lit a0 a3 a4 a10 a1 a5 a6 a7 a8 a9 A na ca (grow (redrawn W0 d) os))
  have n2 := fun d os => Calls.regrown_of (numbers_lit b0 b3 b4 b10 b1 b5 b6 b7 b8 b9 B nb cb (grow (redrawn W0 d) os))
  have t1 := fun d os => Calls.regrown_of (rnames_lit a0 a3 a4 a10 a1 a5 a6 a7 a8 a9 A na ca (grow (redrawn W0 d) os))
  have t2 := fun d os => Calls.regrown_of (rnames_lit b0 b3 b4 b10 b1 b5 b6 b7 b8 b9 B nb cb (grow (redrawn W0 d) os))
  clear RA RB
  refine wp_region_quiet_below (by kernel_rfl) (by kernel_rfl) ?_
  quiet_step (fail)
  quiet_step (exact n1 _ _)
  quiet_step (fail)
  quiet_step (exact n2 _ _)
  quiet_step (fail)
  quiet_step (fail)
  clear n1 n2
  clear t1 t2
  repeat (quiet_step (fail))
  refine wpQuiet_nil ?_
  intro _ hw'
  obtain ⟨⟨dq, osq⟩, hw''⟩ := hw'
  subst hw''
  go_wp2
  go_ret
  exact ⟨rfl, HB.trans ((below_regrown W0 dq osq).mono HB.size)⟩

set_option maxHeartbeats 1000000 in
theorem same_texts (a0 a3 a4 a10 : Int) (a1 a5 a6 a7 a8 a9 : ByteArray) (A : Option Addr) (na ca : Nat) (b0 b3 b4 b10 : Int) (b1 b5 b6 b7 b8 b9 : ByteArray) (B : Option Addr) (nb cb : Nat) (w : World) (h1 : (∀ W, (binOp .eql 132 (.agg #[.int .i64 a0, .int .i64 a3, .int .i64 a4]) (.agg #[.int .i64 b0, .int .i64 b3, .int .i64 b4])).run Tryz.prog W = .ok (.bool true) W)) (h2 : (∀ W, (binOp .eql 134 (.agg #[.string a1, .string a5, .string a6, .string a7, .string a8, .string a9]) (.agg #[.string b1, .string b5, .string b6, .string b7, .string b8, .string b9])).run Tryz.prog W = .ok (.bool false) W)) :
    Calls Tryz.prog 27 #[.agg #[.int .i64 a0, .string a1, .slice A na ca, .int .i64 a3, .int .i64 a4, .string a5, .string a6, .string a7, .string a8, .string a9, .int .i64 a10], .agg #[.int .i64 b0, .string b1, .slice B nb cb, .int .i64 b3, .int .i64 b4, .string b5, .string b6, .string b7, .string b8, .string b9, .int .i64 b10]] w (ValB (.bool false) w) := by
  have RA : ((w.alloc (.cells #[.int .i64 a0, .string a1, .slice A na ca, .int .i64 a3, .int .i64 a4, .string a5, .string a6, .string a7, .string a8, .string a9, .int .i64 a10] 41)).alloc (.cells #[.int .i64 b0, .string b1, .slice B nb cb, .int .i64 b3, .int .i64 b4, .string b5, .string b6, .string b7, .string b8, .string b9, .int .i64 b10] 41)).heap[w.heap.size]? = some (.cells #[.int .i64 a0, .string a1, .slice A na ca, .int .i64 a3, .int .i64 a4, .string a5, .string a6, .string a7, .string a8, .string a9, .int .i64 a10] 41 (0, 0)) := (row_alloc (heap_alloc_new _ _) _ : ((w.alloc (.cells #[.int .i64 a0, .string a1, .slice A na ca, .int .i64 a3, .int .i64 a4, .string a5, .string a6, .string a7, .string a8, .string a9, .int .i64 a10] 41)).alloc (.cells #[.int .i64 b0, .string b1, .slice B nb cb, .int .i64 b3, .int .i64 b4, .string b5, .string b6, .string b7, .string b8, .string b9, .int .i64 b10] 41)).heap[w.heap.size]? = some (.cells #[.int .i64 a0, .string a1, .slice A na ca, .int .i64 a3, .int .i64 a4, .string a5, .string a6, .string a7, .string a8, .string a9, .int .i64 a10] 41 (0, 0)))
  have RB : ((w.alloc (.cells #[.int .i64 a0, .string a1, .slice A na ca, .int .i64 a3, .int .i64 a4, .string a5, .string a6, .string a7, .string a8, .string a9, .int .i64 a10] 41)).alloc (.cells #[.int .i64 b0, .string b1, .slice B nb cb, .int .i64 b3, .int .i64 b4, .string b5, .string b6, .string b7, .string b8, .string b9, .int .i64 b10] 41)).heap[w.heap.size + 1]? = some (.cells #[.int .i64 b0, .string b1, .slice B nb cb, .int .i64 b3, .int .i64 b4, .string b5, .string b6, .string b7, .string b8, .string b9, .int .i64 b10] 41 (0, 0)) := (alloc_at (by simp) _ : ((w.alloc (.cells #[.int .i64 a0, .string a1, .slice A na ca, .int .i64 a3, .int .i64 a4, .string a5, .string a6, .string a7, .string a8, .string a9, .int .i64 a10] 41)).alloc (.cells #[.int .i64 b0, .string b1, .slice B nb cb, .int .i64 b3, .int .i64 b4, .string b5, .string b6, .string b7, .string b8, .string b9, .int .i64 b10] 41)).heap[w.heap.size + 1]? = some (.cells #[.int .i64 b0, .string b1, .slice B nb cb, .int .i64 b3, .int .i64 b4, .string b5, .string b6, .string b7, .string b8, .string b9, .int .i64 b10] 41 (0, 0)))
  have HB : Below w.heap.size w ((w.alloc (.cells #[.int .i64 a0, .string a1, .slice A na ca, .int .i64 a3, .int .i64 a4, .string a5, .string a6, .string a7, .string a8, .string a9, .int .i64 a10] 41)).alloc (.cells #[.int .i64 b0, .string b1, .slice B nb cb, .int .i64 b3, .int .i64 b4, .string b5, .string b6, .string b7, .string b8, .string b9, .int .i64 b10] 41)) := (((Below.refl _ _).alloc (Nat.le_refl _) _).alloc (by simp) _)
  go_enter Tryz.func27, Tryz.ntmps27
  go_upto_region 1 with fail
  generalize ((w.alloc (.cells #[.int .i64 a0, .string a1, .slice A na ca, .int .i64 a3, .int .i64 a4, .string a5, .string a6, .string a7, .string a8, .string a9, .int .i64 a10] 41)).alloc (.cells #[.int .i64 b0, .string b1, .slice B nb cb, .int .i64 b3, .int .i64 b4, .string b5, .string b6, .string b7, .string b8, .string b9, .int .i64 b10] 41)) = W0 at *
  have ca0 : ∀ d os, (grow (redrawn W0 d) os).cell? ⟨w.heap.size, 0, none⟩ = some (.int .i64 a0) := fun d os => cell_regrown (row_q0 RA) d os
  have ca1 : ∀ d os, (grow (redrawn W0 d) os).cell? ⟨w.heap.size, 1, none⟩ = some (.string a1) := fun d os => cell_regrown (row_q1 RA) d os
  have ca2 : ∀ d os, (grow (redrawn W0 d) os).cell? ⟨w.heap.size, 2, none⟩ = some (.slice A na ca) := fun d os => cell_regrown (row_q2 RA) d os
  have ca3 : ∀ d os, (grow (redrawn W0 d) os).cell? ⟨w.heap.size, 3, none⟩ = some (.int .i64 a3) := fun d os => cell_regrown (row_q3 RA) d os
  have ca4 : ∀ d os, (grow (redrawn W0 d) os).cell? ⟨w.heap.size, 4, none⟩ = some (.int .i64 a4) := fun d os => cell_regrown (row_q4 RA) d os
  have ca5 : ∀ d os, (grow (redrawn W0 d) os).cell? ⟨w.heap.size, 5, none⟩ = some (.string a5) := fun d os => cell_regrown (row_q5 RA) d os
  have ca6 : ∀ d os, (grow (redrawn W0 d) os).cell? ⟨w.heap.size, 6, none⟩ = some (.string a6) := fun d os => cell_regrown (row_q6 RA) d os
  have ca7 : ∀ d os, (grow (redrawn W0 d) os).cell? ⟨w.heap.size, 7, none⟩ = some (.string a7) := fun d os => cell_regrown (row_q7 RA) d os
  have ca8 : ∀ d os, (grow (redrawn W0 d) os).cell? ⟨w.heap.size, 8, none⟩ = some (.string a8) := fun d os => cell_regrown (row_q8 RA) d os
  have ca9 : ∀ d os, (grow (redrawn W0 d) os).cell? ⟨w.heap.size, 9, none⟩ = some (.string a9) := fun d os => cell_regrown (row_q9 RA) d os
  have ca10 : ∀ d os, (grow (redrawn W0 d) os).cell? ⟨w.heap.size, 10, none⟩ = some (.int .i64 a10) := fun d os => cell_regrown (row_q10 RA) d os
  have cb0 : ∀ d os, (grow (redrawn W0 d) os).cell? ⟨w.heap.size + 1, 0, none⟩ = some (.int .i64 b0) := fun d os => cell_regrown (row_q0 RB) d os
  have cb1 : ∀ d os, (grow (redrawn W0 d) os).cell? ⟨w.heap.size + 1, 1, none⟩ = some (.string b1) := fun d os => cell_regrown (row_q1 RB) d os
  have cb2 : ∀ d os, (grow (redrawn W0 d) os).cell? ⟨w.heap.size + 1, 2, none⟩ = some (.slice B nb cb) := fun d os => cell_regrown (row_q2 RB) d os
  have cb3 : ∀ d os, (grow (redrawn W0 d) os).cell? ⟨w.heap.size + 1, 3, none⟩ = some (.int .i64 b3) := fun d os => cell_regrown (row_q3 RB) d os
  have cb4 : ∀ d os, (grow (redrawn W0 d) os).cell? ⟨w.heap.size + 1, 4, none⟩ = some (.int .i64 b4) := fun d os => cell_regrown (row_q4 RB) d os
  have cb5 : ∀ d os, (grow (redrawn W0 d) os).cell? ⟨w.heap.size + 1, 5, none⟩ = some (.string b5) := fun d os => cell_regrown (row_q5 RB) d os
  have cb6 : ∀ d os, (grow (redrawn W0 d) os).cell? ⟨w.heap.size + 1, 6, none⟩ = some (.string b6) := fun d os => cell_regrown (row_q6 RB) d os
  have cb7 : ∀ d os, (grow (redrawn W0 d) os).cell? ⟨w.heap.size + 1, 7, none⟩ = some (.string b7) := fun d os => cell_regrown (row_q7 RB) d os
  have cb8 : ∀ d os, (grow (redrawn W0 d) os).cell? ⟨w.heap.size + 1, 8, none⟩ = some (.string b8) := fun d os => cell_regrown (row_q8 RB) d os
  have cb9 : ∀ d os, (grow (redrawn W0 d) os).cell? ⟨w.heap.size + 1, 9, none⟩ = some (.string b9) := fun d os => cell_regrown (row_q9 RB) d os
  have cb10 : ∀ d os, (grow (redrawn W0 d) os).cell? ⟨w.heap.size + 1, 10, none⟩ = some (.int .i64 b10) := fun d os => cell_regrown (row_q10 RB) d os
  have n1 := fun d os => Calls.regrown_of (numbers_lit a0 a3 a4 a10 a1 a5 a6 a7 a8 a9 A na ca (grow (redrawn W0 d) os))
  have n2 := fun d os => Calls.regrown_of (numbers_lit b0 b3 b4 b10 b1 b5 b6 b7 b8 b9 B nb cb (grow (redrawn W0 d) os))
  have t1 := fun d os => Calls.regrown_of (rnames_lit a0 a3 a4 a10 a1 a5 a6 a7 a8 a9 A na ca (grow (redrawn W0 d) os))
  have t2 := fun d os => Calls.regrown_of (rnames_lit b0 b3 b4 b10 b1 b5 b6 b7 b8 b9 B nb cb (grow (redrawn W0 d) os))
  clear RA RB
  refine wp_region_quiet_below (by kernel_rfl) (by kernel_rfl) ?_
  quiet_step (fail)
  quiet_step (exact n1 _ _)
  quiet_step (fail)
  quiet_step (exact n2 _ _)
  quiet_step (fail)
  quiet_step (fail)
  clear n1 n2
  quiet_step (fail)
  quiet_step (exact t1 _ _)
  quiet_step (fail)
  quiet_step (exact t2 _ _)
  clear t1 t2
  repeat (quiet_step (fail))
  refine wpQuiet_nil ?_
  intro _ hw'
  obtain ⟨⟨dq, osq⟩, hw''⟩ := hw'
  subst hw''
  go_wp2
  go_ret
  exact ⟨rfl, HB.trans ((below_regrown W0 dq osq).mono HB.size)⟩

end Go.Proofs.YtahgfmobdfhaaaaGreatDoor
