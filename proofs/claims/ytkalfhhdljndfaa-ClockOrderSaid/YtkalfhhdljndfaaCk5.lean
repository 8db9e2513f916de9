/-
  Package clock: compare.
-/
import Derived.Test.YtkalfhhdljndfaaCk4
import Derived.Deep.RegionHeld3
import Derived.Sort.Grow
namespace Go.Proofs.Ytkalfhhdljndfaa
set_option maxRecDepth 100000
open Go.ChangeShapes Go.WideShapes Go.ChangeAt Go.RowKit

set_option maxHeartbeats 4000000 in
theorem compare_any (t1 t2 i1 i2 : Int) (d1 d2 : ByteArray) (w : World) :
    Calls Try.prog 11 #[.agg #[.int .i64 t1, .string d1, .int .i64 i1], .agg #[.int .i64 t2, .string d2, .int .i64 i2]] w fun e w' => e = .returned (.int .i64 (or3 (cmpI t1 t2) (cmpB d1.toList d2.toList) (cmpI i1 i2))) ∧ ∃ q os', w' = Go.Sort.grow (w.drewN q) os' := by
  have CT := Lib.hid (fun W => cmpI_any t1 t2 W)
  have CI := Lib.hid (fun W => cmpI_any i1 i2 W)
  have CD := Lib.hid (fun W => cmpS_any d1 d2 W)
  have ORX := Lib.hid (fun g a b c W h0 h1 h2 => Or_any g a b c W h0 h1 h2)
  generalize cmpI t1 t2 = r1 at *
  generalize cmpI i1 i2 = r3 at *
  generalize cmpB d1.toList d2.toList = r2 at *
  have R0 : ((w.alloc (.cells #[.int .i64 t1, .string d1, .int .i64 i1] 27)).alloc (.cells #[.int .i64 t2, .string d2, .int .i64 i2] 27)).heap[w.heap.size]? = _ := (heap_alloc_old _ _ (by simp)).trans (heap_alloc_new _ _)
  have R1 : ((w.alloc (.cells #[.int .i64 t1, .string d1, .int .i64 i1] 27)).alloc (.cells #[.int .i64 t2, .string d2, .int .i64 i2] 27)).heap[w.heap.size + 1]? = some (.cells #[.int .i64 t2, .string d2, .int .i64 i2] 27 (0, 0)) := by
    have := heap_alloc_new (w.alloc (.cells #[.int .i64 t1, .string d1, .int .i64 i1] 27)) (.cells #[.int .i64 t2, .string d2, .int .i64 i2] 27)
    simpa using this
  go_enter Try.func11, Try.ntmps11
  go_upto_region 1 with fail
  obtain ⟨w0, hw0⟩ : ∃ W, W = (w.alloc (.cells #[.int .i64 t1, .string d1, .int .i64 i1] 27)).alloc (.cells #[.int .i64 t2, .string d2, .int .i64 i2] 27) := ⟨_, rfl⟩
  rw [← hw0] at R0 R1
  go_must (rw [← hw0])
  have HW0 := Lib.hid hw0
  clear hw0
  have x0 := cell_of_row _ _ 0 _ _ _ R0; have x1 := cell_of_row _ _ 1 _ _ _ R0; have x2 := cell_of_row _ _ 2 _ _ _ R0
  have y0 := cell_of_row _ _ 0 _ _ _ R1; have y1 := cell_of_row _ _ 1 _ _ _ R1; have y2 := cell_of_row _ _ 2 _ _ _ R1
  clear R0 R1
  go_region_held3 (fun w' => w'.cell? ⟨w.heap.size, 0, none⟩ = some (.int .i64 t1) ∧ w'.cell? ⟨w.heap.size, 1, none⟩ = some (.string d1) ∧ w'.cell? ⟨w.heap.size, 2, none⟩ = some (.int .i64 i1) ∧ w'.cell? ⟨w.heap.size + 1, 0, none⟩ = some (.int .i64 t2) ∧ w'.cell? ⟨w.heap.size + 1, 1, none⟩ = some (.string d2) ∧ w'.cell? ⟨w.heap.size + 1, 2, none⟩ = some (.int .i64 i2))
    (first | exact ⟨x0, x1, x2, y0, y1, y2⟩ | go_keep)
    (first
      | (go_at_call_of 16 (Value.int .i64 t1); refine (CT.out _).mono ?_; rintro e w2 ⟨rfl, rfl⟩)
      | (go_at_call_of 16 (Value.int .i64 i1); refine (CI.out _).mono ?_; rintro e w2 ⟨rfl, rfl⟩)
      | (go_at_call 17; refine (CD.out _).mono ?_; rintro e w2 ⟨rfl, rfl⟩)
      | (go_at_call 15; refine (ORX.out _ r1 r2 r3 _ (cell_of_row _ _ 0 _ _ _ (heap_alloc_new _ _)) (cell_of_row _ _ 1 _ _ _ (heap_alloc_new _ _)) (cell_of_row _ _ 2 _ _ _ (heap_alloc_new _ _))).mono ?_; rintro e w2 ⟨rfl, rfl⟩))
  go_wp2
  go_ret
  refine ⟨rfl, 1, #[.cells #[.int .i64 t1, .string d1, .int .i64 i1] 27 (0, 0), .cells #[.int .i64 t2, .string d2, .int .i64 i2] 27 (0, 0), .cells #[.int .i64 r1, .int .i64 r2, .int .i64 r3] 3 (0, 0)], ?_⟩
  rw [HW0.out, Go.Sort.alloc_eq_grow, Go.Sort.alloc_eq_grow, Go.Sort.alloc_eq_grow, Go.Sort.grow_grow, Go.Sort.grow_grow]
  rfl
end Go.Proofs.Ytkalfhhdljndfaa
