/-
  Package clock: Next of none, and of one; law10's wakes.
-/
import Derived.Test.YtkalfhhdljndfaaDArg
import Derived.Test.YtkalfhhdljndfaaSt11
import Derived.Deep.RegionHeld3
namespace Go.Proofs.Ytkalfhhdljndfaa
set_option maxRecDepth 100000
open Go.ChangeShapes Go.WideShapes Go.ChangeAt Go.RowKit

theorem Next_none (w : World) :
    Calls Try.prog 12 #[.slice none 0 0, .int .i64 5] w fun e w' => e = .returned (.tuple #[.agg #[.int .i64 0, .string ⟨#[]⟩, .int .i64 0], .bool false]) ∧ Below w.heap.size w w' := by
  go_enter Try.func12, Try.ntmps12
  go_wp2
  refine bodyPost_ret (run_cellU rfl _ _ w.heap.size _ _ _ _ rfl (heap_alloc_new w (.cells #[.int .i64 0, .string ⟨#[]⟩, .int .i64 0] 27)) Try.underlying27 rfl (by kernel_rfl)) rfl ?_
  exact ⟨rfl, box_b _ _⟩
theorem due_rows (w : World) : ((w.alloc (.cells #[.int .i64 0, .string ⟨#[]⟩, .int .i64 0] 27)).alloc (.cells #[.int .i64 5, .string ⟨#[97]⟩, .int .i64 0] 27)).heap[w.heap.size]? = some (.cells #[.int .i64 0, .string ⟨#[]⟩, .int .i64 0] 27 (0, 0)) ∧ ((w.alloc (.cells #[.int .i64 0, .string ⟨#[]⟩, .int .i64 0] 27)).alloc (.cells #[.int .i64 5, .string ⟨#[97]⟩, .int .i64 0] 27)).heap[w.heap.size + 1]? = some (.cells #[.int .i64 5, .string ⟨#[97]⟩, .int .i64 0] 27 (0, 0)) ∧ Below w.heap.size w ((w.alloc (.cells #[.int .i64 0, .string ⟨#[]⟩, .int .i64 0] 27)).alloc (.cells #[.int .i64 5, .string ⟨#[97]⟩, .int .i64 0] 27)) := by
  refine ⟨(heap_alloc_old _ _ (by simp)).trans (heap_alloc_new _ _), ?_, ((Below.refl _ _).alloc (Nat.le_refl _) _).alloc (by simp) _⟩
  have := heap_alloc_new (w.alloc (.cells #[.int .i64 0, .string ⟨#[]⟩, .int .i64 0] 27)) (.cells #[.int .i64 5, .string ⟨#[97]⟩, .int .i64 0] 27)
  simpa using this
set_option maxHeartbeats 2000000 in
theorem MinD_one (g : Nat) (fv : Value) (w : World) (h0 : w.cell? ⟨g, 0, none⟩ = some (.int .i64 5)) (h1 : w.cell? ⟨g, 1, none⟩ = some (.string ⟨#[97]⟩)) (h2 : w.cell? ⟨g, 2, none⟩ = some (.int .i64 0)) (hg : g < w.heap.size) :
    Calls Try.prog 18 #[.slice (some ⟨g, 0, none⟩) 1 1, fv] w fun e w' => e = .returned (.agg #[.int .i64 5, .string ⟨#[97]⟩, .int .i64 0]) ∧ Below w.heap.size w w' := by
  obtain ⟨R0, R1, hB⟩ := due_rows w
  have HB := Lib.hid hB
  have k0 := (World.cell?_alloc_lt w (.cells #[.int .i64 0, .string ⟨#[]⟩, .int .i64 0] 27) ⟨g, 0, none⟩ hg).trans h0; have k1 := (World.cell?_alloc_lt w (.cells #[.int .i64 0, .string ⟨#[]⟩, .int .i64 0] 27) ⟨g, 1, none⟩ hg).trans h1; have k2 := (World.cell?_alloc_lt w (.cells #[.int .i64 0, .string ⟨#[]⟩, .int .i64 0] 27) ⟨g, 2, none⟩ hg).trans h2
  clear hB
  go_enter Try.func18, Try.ntmps18
  go_upto_region 4 with fail
  generalize ((w.alloc (.cells #[.int .i64 0, .string ⟨#[]⟩, .int .i64 0] 27)).alloc (.cells #[.int .i64 5, .string ⟨#[97]⟩, .int .i64 0] 27)) = w1 at *
  have z0 := cell_of_row _ _ 0 _ _ _ R0; have z1 := cell_of_row _ _ 1 _ _ _ R0; have z2 := cell_of_row _ _ 2 _ _ _ R0
  have f0 := fzc_of R0 0; have f1 := fzc_of R0 1; have f2 := fzc_of R0 2
  have y0 := cell_of_row _ _ 0 _ _ _ R1; have y1 := cell_of_row _ _ 1 _ _ _ R1; have y2 := cell_of_row _ _ 2 _ _ _ R1
  have HR0 := Lib.hid R0
  clear R0 R1 h0 h1 h2 k0 k1 k2
  go_wp2
  go_loopw [6] (fun i wr => i = .int .i64 1 ∧ wr = w1) (fun _ _ => 0)
  case atStart => exact ⟨rfl, rfl⟩
  case round =>
    obtain ⟨rfl, rfl⟩ := hrel
    go_wp2
    (try simp only [Exit.inBlock, Exit.then])
    refine bodyPost_ret (results_cell_row rfl _ _ w.heap.size _ _ _ _ rfl (sets3_row HR0.out _ _ _) Try.underlying27 rfl (by kernel_rfl)) rfl ?_
    exact ⟨rfl, sets3_below HB.out (Nat.le_refl _) (Nat.le_refl _) _ _ _⟩
set_option maxHeartbeats 2000000 in
theorem Next_one (g : Nat) (w : World) (h0 : w.cell? ⟨g, 0, none⟩ = some (.int .i64 5)) (h1 : w.cell? ⟨g, 1, none⟩ = some (.string ⟨#[97]⟩)) (h2 : w.cell? ⟨g, 2, none⟩ = some (.int .i64 0)) (hg : g < w.heap.size) :
    Calls Try.prog 12 #[.slice (some ⟨g, 0, none⟩) 1 1, .int .i64 5] w fun e w' => e = .returned (.tuple #[.agg #[.int .i64 5, .string ⟨#[97]⟩, .int .i64 0], .bool true]) ∧ Below w.heap.size w w' := by
  have MD := Lib.hid (fun fv => MinD_one g fv (w.alloc (.cells #[.int .i64 0, .string ⟨#[]⟩, .int .i64 0] 27)) ((World.cell?_alloc_lt _ _ _ hg).trans h0) ((World.cell?_alloc_lt _ _ _ hg).trans h1) ((World.cell?_alloc_lt _ _ _ hg).trans h2) (by simp; omega))
  have HR := Lib.hid (heap_alloc_new w (.cells #[.int .i64 0, .string ⟨#[]⟩, .int .i64 0] 27))
  have HB := Lib.hid (box_b w (.cells #[.int .i64 0, .string ⟨#[]⟩, .int .i64 0] 27))
  have hlt : w.heap.size < (w.alloc (.cells #[.int .i64 0, .string ⟨#[]⟩, .int .i64 0] 27)).heap.size := by simp
  clear h0 h1 h2 hg
  go_enter Try.func12, Try.ntmps12
  go_upto_region 1 with fail
  generalize w.alloc (.cells #[.int .i64 0, .string ⟨#[]⟩, .int .i64 0] 27) = w0 at *
  go_upto_region 4 with (go_at_call 18; refine (MD.out _).mono ?_; rintro e w2 ⟨rfl, hb2⟩; have HB2 := Lib.hid hb2; clear hb2)
  have hb3 := below_then HB2.out (box_b w2 (.cells #[.int .i64 5, .string ⟨#[97]⟩, .int .i64 0] 27)) HB2.out.size
  have R3 := heap_alloc_new w2 (.cells #[.int .i64 5, .string ⟨#[97]⟩, .int .i64 0] 27)
  have R0 := (hb3.block _ hlt).trans HR.out
  generalize w2.heap.size = g3 at *
  generalize w2.alloc (.cells #[.int .i64 5, .string ⟨#[97]⟩, .int .i64 0] 27) = w3 at *
  have z0 := cell_of_row _ _ 0 _ _ _ R0; have z1 := cell_of_row _ _ 1 _ _ _ R0; have z2 := cell_of_row _ _ 2 _ _ _ R0
  have f0 := fzc_of R0 0; have f1 := fzc_of R0 1; have f2 := fzc_of R0 2
  have y0 := cell_of_row _ _ 0 _ _ _ R3; have y1 := cell_of_row _ _ 1 _ _ _ R3; have y2 := cell_of_row _ _ 2 _ _ _ R3
  have HR0 := Lib.hid R0
  have HB3 := Lib.hid (below_then HB.out hb3 HB.out.size)
  clear R0 R3 HB2 hb3 MD HR HB
  go_wp2
  (try simp only [Exit.inBlock, Exit.then])
  refine bodyPost_ret (run_cellU rfl _ _ w.heap.size _ _ _ _ rfl (sets3_row HR0.out _ _ _) Try.underlying27 rfl (by kernel_rfl)) rfl ?_
  exact ⟨rfl, sets3_below HB3.out (Nat.le_refl _) (Nat.le_refl _) _ _ _⟩
set_option maxHeartbeats 2000000 in
theorem wakes10 (w : World) : Calls Try.prog 7 #[] w (TrueOn w) := by
  have NN := Lib.hid (fun W => Next_none W)
  have N1 := Lib.hid (fun W g h0 h1 h2 hg => Next_one g W h0 h1 h2 hg)
  go_enter Try.func7, Try.ntmps7
  go_upto_region 2 with (go_at_call 12; refine (NN.out _).mono ?_; rintro e w2 ⟨rfl, hb2⟩; have HB2 := Lib.hid hb2; clear hb2)
  have HB3 := Lib.hid (below_then HB2.out (box_b w2 (.cells #[.int .i64 0, .string ⟨#[]⟩, .int .i64 0] 27)) HB2.out.size)
  clear HB2
  generalize w2.alloc (.cells #[.int .i64 0, .string ⟨#[]⟩, .int .i64 0] 27) = w3 at *
  have R5 := heap_alloc_new w3 (.cells #[.int .i64 5, .string ⟨#[97]⟩, .int .i64 0] 27)
  have NX := Lib.hid (N1.out (w3.alloc (.cells #[.int .i64 5, .string ⟨#[97]⟩, .int .i64 0] 27)) w3.heap.size (cell_of_row _ _ 0 _ _ _ R5) (cell_of_row _ _ 1 _ _ _ R5) (cell_of_row _ _ 2 _ _ _ R5) (by simp))
  have HB5 := Lib.hid (below_then HB3.out (box_b w3 (.cells #[.int .i64 5, .string ⟨#[97]⟩, .int .i64 0] 27)) HB3.out.size)
  clear N1 NN R5 HB3
  go_upto_region 3 with (go_at_call 12; refine NX.out.mono ?_; rintro e w6 ⟨rfl, hb6⟩; have HB6 := Lib.hid (below_then HB5.out hb6 HB5.out.size); clear hb6)
  have HB7 := Lib.hid (below_then HB6.out (box_b w6 (.cells #[.int .i64 5, .string ⟨#[97]⟩, .int .i64 0] 27)) HB6.out.size)
  clear NX HB5 HB6
  go_wp2
  go_ret
  exact ⟨rfl, HB7.out⟩
end Go.Proofs.Ytkalfhhdljndfaa
