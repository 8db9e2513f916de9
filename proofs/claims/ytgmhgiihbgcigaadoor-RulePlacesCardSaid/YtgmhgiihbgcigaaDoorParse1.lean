/-
  rule.Parse: the walks, of a line that has no words.
-/
import Derived.Test.YtgmhgiihbgcigaaDoorParse0
namespace Go.Proofs.YtgmhgiihbgcigaaDoor
set_option maxRecDepth 100000
open Go.ChangeShapes Go.WideShapes Go.ChangeAt Go.RowKit

set_option maxHeartbeats 2000000 in
theorem parse_bad (s : ByteArray) (n : Int) (bad : Nat) (w : World) (hpos : 0 < bad) (hsp : ∀ W, Calls Tryd.prog 15 #[.string s] W (SplitTo [] bad W)) :
    Calls Tryd.prog 7 #[.string s, .int .i64 n] w (ParseTo (.bad bad 2) n w) := by
  have HSP := Lib.hid hsp
  clear hsp
  have g1 : decide ((0 : Int) < bad) = true := by simp; omega
  go_enter Tryd.func7, Tryd.ntmps7
  go_upto_region 3 with (go_at_call 15; refine (HSP.out _).mono ?_; rintro e w1 ⟨v, rfl, hown, hb⟩; obtain ⟨A1, c1, rfl⟩ := own_slice hown; have hbw := (Below.refl w.heap.size w).alloc (Nat.le_refl _) (.cells zero11 27); have hb1 : Below w.heap.size w w1 := below_then hbw hb (by simp); have R1 : w1.heap[w.heap.size]? = some (.cells zero11 27 (0, 0)) := (hb.block _ (by simp)).trans (heap_alloc_new _ _))
  have q0 := row_q0 R1; have q1 := row_q1 R1; have q2 := row_q2 R1; have q3 := row_q3 R1; have q4 := row_q4 R1; have q5 := row_q5 R1; have q6 := row_q6 R1; have q7 := row_q7 R1; have q8 := row_q8 R1; have q9 := row_q9 R1; have q10 := row_q10 R1
  have f0 := row_fz R1 0; have f1 := row_fz R1 1; have f2 := row_fz R1 2; have f3 := row_fz R1 3; have f4 := row_fz R1 4; have f5 := row_fz R1 5; have f6 := row_fz R1 6; have f7 := row_fz R1 7; have f8 := row_fz R1 8; have f9 := row_fz R1 9; have f10 := row_fz R1 10
  have qa0 := fun O => row_q0 (row_alloc R1 O); have qa1 := fun O => row_q1 (row_alloc R1 O); have qa2 := fun O => row_q2 (row_alloc R1 O); have qa3 := fun O => row_q3 (row_alloc R1 O); have qa4 := fun O => row_q4 (row_alloc R1 O); have qa5 := fun O => row_q5 (row_alloc R1 O); have qa6 := fun O => row_q6 (row_alloc R1 O); have qa7 := fun O => row_q7 (row_alloc R1 O); have qa8 := fun O => row_q8 (row_alloc R1 O); have qa9 := fun O => row_q9 (row_alloc R1 O); have qa10 := fun O => row_q10 (row_alloc R1 O)
  have fa0 := fun O => row_fz (row_alloc R1 O) 0; have fa1 := fun O => row_fz (row_alloc R1 O) 1; have fa2 := fun O => row_fz (row_alloc R1 O) 2; have fa3 := fun O => row_fz (row_alloc R1 O) 3; have fa4 := fun O => row_fz (row_alloc R1 O) 4; have fa5 := fun O => row_fz (row_alloc R1 O) 5; have fa6 := fun O => row_fz (row_alloc R1 O) 6; have fa7 := fun O => row_fz (row_alloc R1 O) 7; have fa8 := fun O => row_fz (row_alloc R1 O) 8; have fa9 := fun O => row_fz (row_alloc R1 O) 9; have fa10 := fun O => row_fz (row_alloc R1 O) 10
  go_wp2

  clear q0 f0 q1 f1 q2 f2 q3 f3 q4 f4 q5 f5 q6 f6 q7 f7 q8 f8 q9 f9 q10 f10 qa0 fa0 qa1 fa1 qa2 fa2 qa3 fa3 qa4 fa4 qa5 fa5 qa6 fa6 qa7 fa7 qa8 fa8 qa9 fa9 qa10 fa10
  have RA := row_alloc R1 (.cells #[.int .i64 n, .int .i64 bad, .iface 37 (.int .i64 2)] 51)
  have FB : FaultAt (w1.alloc (.cells #[.int .i64 n, .int .i64 bad, .iface 37 (.int .i64 2)] 51)) w1.heap.size n bad 2 := ⟨new_cell w1 _ _ 0, new_cell w1 _ _ 1, new_cell w1 _ _ 2⟩
  have BA := (hb1).alloc (hb1).size (.cells #[.int .i64 n, .int .i64 bad, .iface 37 (.int .i64 2)] 51)
  have SA : w1.heap.size < (w1.alloc (.cells #[.int .i64 n, .int .i64 bad, .iface 37 (.int .i64 2)] 51)).heap.size := by simp
  have T5 := row_tell (.int .i64 0) (.string ⟨#[]⟩) (.slice none 0 0) (.int .i64 0) (.int .i64 0) (.string ⟨#[]⟩) (.string ⟨#[]⟩) (.string ⟨#[]⟩) (.string ⟨#[]⟩) (.string ⟨#[]⟩) (.int .i64 0) RA _ rfl
  generalize (World.setCell (World.setCell (World.setCell (World.setCell (World.setCell (World.setCell (World.setCell (World.setCell (World.setCell (World.setCell (World.setCell (w1.alloc (.cells #[.int .i64 n, .int .i64 bad, .iface 37 (.int .i64 2)] 51)) ⟨w.heap.size, 0, none⟩ (.int .i64 0)) ⟨w.heap.size, 1, none⟩ (.string ⟨#[]⟩)) ⟨w.heap.size, 2, none⟩ (.slice none 0 0)) ⟨w.heap.size, 3, none⟩ (.int .i64 0)) ⟨w.heap.size, 4, none⟩ (.int .i64 0)) ⟨w.heap.size, 5, none⟩ (.string ⟨#[]⟩)) ⟨w.heap.size, 6, none⟩ (.string ⟨#[]⟩)) ⟨w.heap.size, 7, none⟩ (.string ⟨#[]⟩)) ⟨w.heap.size, 8, none⟩ (.string ⟨#[]⟩)) ⟨w.heap.size, 9, none⟩ (.string ⟨#[]⟩)) ⟨w.heap.size, 10, none⟩ (.int .i64 0)) = X5 at *
  obtain ⟨RX5, GX5⟩ := T5
  (try simp only [Exit.inBlock, Exit.then])
  refine bodyPost_ret (run_cell3 rfl _ _ w.heap.size _ _ _ _ rfl RX5 Tryd.underlying27 rfl (by kernel_rfl)) rfl ?_
  exact fault_end BA GX5 SA FB (hb1).size (by have := (Array.getElem?_eq_some_iff.1 R1).1; omega)


set_option maxHeartbeats 2000000 in
theorem parse_empty (s : ByteArray) (n : Int) (w : World) (hsp : ∀ W, Calls Tryd.prog 15 #[.string s] W (SplitTo [] 0 W)) :
    Calls Tryd.prog 7 #[.string s, .int .i64 n] w (ParseTo .empty n w) := by
  have HSP := Lib.hid hsp
  clear hsp
  go_enter Tryd.func7, Tryd.ntmps7
  go_upto_region 4 with (go_at_call 15; refine (HSP.out _).mono ?_; rintro e w1 ⟨v, rfl, hown, hb⟩; obtain ⟨A1, c1, rfl⟩ := own_slice hown; have hbw := (Below.refl w.heap.size w).alloc (Nat.le_refl _) (.cells zero11 27); have hb1 : Below w.heap.size w w1 := below_then hbw hb (by simp); have R1 : w1.heap[w.heap.size]? = some (.cells zero11 27 (0, 0)) := (hb.block _ (by simp)).trans (heap_alloc_new _ _))
  have q0 := row_q0 R1; have q1 := row_q1 R1; have q2 := row_q2 R1; have q3 := row_q3 R1; have q4 := row_q4 R1; have q5 := row_q5 R1; have q6 := row_q6 R1; have q7 := row_q7 R1; have q8 := row_q8 R1; have q9 := row_q9 R1; have q10 := row_q10 R1
  have f0 := row_fz R1 0; have f1 := row_fz R1 1; have f2 := row_fz R1 2; have f3 := row_fz R1 3; have f4 := row_fz R1 4; have f5 := row_fz R1 5; have f6 := row_fz R1 6; have f7 := row_fz R1 7; have f8 := row_fz R1 8; have f9 := row_fz R1 9; have f10 := row_fz R1 10
  go_wp2
  clear q0 f0 q1 f1 q2 f2 q3 f3 q4 f4 q5 f5 q6 f6 q7 f7 q8 f8 q9 f9 q10 f10
  have T5 := row_tell (.int .i64 0) (.string ⟨#[]⟩) (.slice none 0 0) (.int .i64 0) (.int .i64 0) (.string ⟨#[]⟩) (.string ⟨#[]⟩) (.string ⟨#[]⟩) (.string ⟨#[]⟩) (.string ⟨#[]⟩) (.int .i64 0) R1 _ rfl
  generalize (World.setCell (World.setCell (World.setCell (World.setCell (World.setCell (World.setCell (World.setCell (World.setCell (World.setCell (World.setCell (World.setCell w1 ⟨w.heap.size, 0, none⟩ (.int .i64 0)) ⟨w.heap.size, 1, none⟩ (.string ⟨#[]⟩)) ⟨w.heap.size, 2, none⟩ (.slice none 0 0)) ⟨w.heap.size, 3, none⟩ (.int .i64 0)) ⟨w.heap.size, 4, none⟩ (.int .i64 0)) ⟨w.heap.size, 5, none⟩ (.string ⟨#[]⟩)) ⟨w.heap.size, 6, none⟩ (.string ⟨#[]⟩)) ⟨w.heap.size, 7, none⟩ (.string ⟨#[]⟩)) ⟨w.heap.size, 8, none⟩ (.string ⟨#[]⟩)) ⟨w.heap.size, 9, none⟩ (.string ⟨#[]⟩)) ⟨w.heap.size, 10, none⟩ (.int .i64 0)) = X5 at *
  obtain ⟨RX5, GX5⟩ := T5
  (try simp only [Exit.inBlock, Exit.then])
  refine bodyPost_ret (run_cell3 rfl _ _ w.heap.size _ _ _ _ rfl RX5 Tryd.underlying27 rfl (by kernel_rfl)) rfl ?_
  exact ⟨hb1.grown GX5 hb1.size (fun j e => by cases e; exact Nat.le_refl _), rfl⟩

end Go.Proofs.YtgmhgiihbgcigaaDoor
