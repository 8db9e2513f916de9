import Derived.Test.YtgffbgmieppckaaGreatDoorLw1
import Derived.Test.YtgffbgmieppckaaGreatDoorSameEq
import Derived.Test.YtgffbgmieppckaaGreatDoorShelf
import Derived.Test.YtgffbgmieppckaaGreatDoorPrint2
import Derived.Test.YtgffbgmieppckaaGreatDoorDT0
import Derived.Lib.QuietBelow
namespace Go.Proofs.YtgffbgmieppckaaGreatDoor
set_option maxRecDepth 100000
open Go.ChangeShapes Go.WideShapes Go.ChangeAt Go.RowKit
theorem map_bs (l : List Tx) : (l.map bs).map (·.data.toList) = l := by
 rw [List.map_map]
 conv => rhs; rw [← List.map_id l]
 apply List.map_congr_left
 intro a _; rfl
theorem Join_any (v : Value) (l : List Tx) (base : Nat) (w : World) (h : OwnL w base v l) (hj : (joinP l).length ≤ 140737488355328) (hl : l.length ≤ 1048676) (h0 : 0 < l.length) :
  Calls Tryz.prog 132 #[v, .string ⟨#[32]⟩] w fun e w' => e = .returned (.string (bs (joinP l))) ∧ Below w.heap.size w w' := by
 obtain ⟨g, cap, rfl, hb, hg, hc, hcells⟩ := own_form h h0
 have hm : (l.map bs).length = l.length := by simp
 have e32 : (⟨#[32]⟩ : ByteArray).data.toList = [32] := rfl
 have := Tryz.strings_Join g 0 cap (l.map bs) ⟨#[32]⟩ w (fun j x hx => by rw [Nat.zero_add]; refine hcells j _ ?_; simp only [scells, List.getElem?_map] at hx ⊢; cases hh : l[j]? with | none => rw [hh] at hx; simp at hx | some t => rw [hh] at hx; simp at hx ⊢; exact hx) hg (by rw [hm]; omega) (by rw [hm]; exact hc) (by rw [map_bs, e32]; exact hj)
 rw [hm, map_bs, e32] at this
 exact this.mono fun e w' h => ⟨h.1, h.2⟩
theorem print_ok (kd : Int) (nm : Tx) (l : List Tx) (rn rm : Int) (rf rt rb ra ri : Tx) (A : Option Addr) (ca : Nat) (ln : Int) (W : List Tx) (w : World) (hla : LAt w A ca l)
  (hlw : ∀ X, Below w.heap.size w X → Calls Tryz.prog 133 #[.agg #[.int .i64 kd, .string (bs nm), .slice A l.length ca, .int .i64 rn, .int .i64 rm, .string (bs rf), .string (bs rt), .string (bs rb), .string (bs ra), .string (bs ri), .int .i64 ln]] X (LineTo W X)) (h0 : 0 < W.length) (hn : W.length ≤ 1048676) (hj : (joinP W).length ≤ 1099511627776) (hp : parseL (joinP W) = .ok ⟨kd, nm, l, rn, rm, rf, rt, rb, ra, ri⟩) :
  Calls Tryz.prog 70 #[.agg #[.int .i64 kd, .string (bs nm), .slice A l.length ca, .int .i64 rn, .int .i64 rm, .string (bs rf), .string (bs rt), .string (bs rb), .string (bs ra), .string (bs ri), .int .i64 ln]] w fun e w' => e = .returned (.tuple #[.string (bs (joinP W)), .nilIface]) ∧ Below w.heap.size w w' := by
 have hpar := fun X => Parse_any (bs (joinP W)) ln X (by rw [size_bs]; omega) (fun _ => by have := partL_le (bs (joinP W)).data.toList; rw [list_bs] at this ⊢; omega)
 rw [list_bs, hp] at hpar
 have HP := Lib.hid hpar
 have B0 : Below w.heap.size w (w.alloc (.cells #[.int .i64 kd, .string (bs nm), .slice A l.length ca, .int .i64 rn, .int .i64 rm, .string (bs rf), .string (bs rt), .string (bs rb), .string (bs ra), .string (bs ri), .int .i64 ln] 31)) := (Below.refl _ _).alloc (Nat.le_refl _) _
 have R0 : (w.alloc (.cells #[.int .i64 kd, .string (bs nm), .slice A l.length ca, .int .i64 rn, .int .i64 rm, .string (bs rf), .string (bs rt), .string (bs rb), .string (bs ra), .string (bs ri), .int .i64 ln] 31)).heap[w.heap.size]? = some (.cells #[.int .i64 kd, .string (bs nm), .slice A l.length ca, .int .i64 rn, .int .i64 rm, .string (bs rf), .string (bs rt), .string (bs rb), .string (bs ra), .string (bs ri), .int .i64 ln] 31 (0, 0)) := heap_alloc_new _ _
 have LW := Lib.hid (hlw _ B0)
 clear hpar hlw hp
 go_enter Tryz.func70, Tryz.ntmps70
 go_upto_region 2 with (first
  | (go_at_call 133; refine LW.out.mono ?_; rintro e w1 ⟨v, rfl, ho, hb1⟩)
  | (go_at_call 132; refine (Join_any _ _ _ _ ho (by omega) hn h0).mono ?_; rintro e w2 ⟨rfl, hb2⟩))
 have R2 := row_below (row_below R0 hb1) hb2
 have B2 := below_then (below_then B0 hb1 B0.size) hb2 (Nat.le_trans B0.size hb1.size)
 obtain ⟨q0, q1, q2, q3, q4, q5, q6, q7, q8, q9, q10⟩ := row_qs0 R2
 go_upto_region 3 with (go_at_call 134; refine (HP.out _).mono ?_; rintro e w3 ⟨hb3, L, rfl, ho3⟩; obtain ⟨A2, c2, rfl⟩ := own_slice ho3; dsimp only [ruV])
 clear q0 q1 q2 q3 q4 q5 q6 q7 q8 q9 q10
 have R3 := row_below R2 hb3
 have B3 := below_then B2 hb3 B2.size
 have RA : (w3.alloc (.cells #[.int .i64 kd, .string (bs nm), .slice A2 l.length c2, .int .i64 rn, .int .i64 rm, .string (bs rf), .string (bs rt), .string (bs rb), .string (bs ra), .string (bs ri), .int .i64 ln] 31)).heap[w.heap.size]? = some (.cells #[.int .i64 kd, .string (bs nm), .slice A l.length ca, .int .i64 rn, .int .i64 rm, .string (bs rf), .string (bs rt), .string (bs rb), .string (bs ra), .string (bs ri), .int .i64 ln] 31 (0, 0)) := row_alloc R3 _
 have RB : (w3.alloc (.cells #[.int .i64 kd, .string (bs nm), .slice A2 l.length c2, .int .i64 rn, .int .i64 rm, .string (bs rf), .string (bs rt), .string (bs rb), .string (bs ra), .string (bs ri), .int .i64 ln] 31)).heap[w3.heap.size]? = some (.cells #[.int .i64 kd, .string (bs nm), .slice A2 l.length c2, .int .i64 rn, .int .i64 rm, .string (bs rf), .string (bs rt), .string (bs rb), .string (bs ra), .string (bs ri), .int .i64 ln] 31 (0, 0)) := heap_alloc_new _ _
 have LB : LAt (w3.alloc (.cells #[.int .i64 kd, .string (bs nm), .slice A2 l.length c2, .int .i64 rn, .int .i64 rm, .string (bs rf), .string (bs rt), .string (bs rb), .string (bs ra), .string (bs ri), .int .i64 ln] 31)) A2 c2 l := (lAt_of (listAt_of ho3) hla.2.1).below ((Below.refl _ _).alloc (Nat.le_refl _) _)
 have B4 : Below w.heap.size w (w3.alloc (.cells #[.int .i64 kd, .string (bs nm), .slice A2 l.length c2, .int .i64 rn, .int .i64 rm, .string (bs rf), .string (bs rt), .string (bs rb), .string (bs ra), .string (bs ri), .int .i64 ln] 31)) := B3.alloc B3.size _
 have hb12 := hb1
 clear ho ho3 R3 R2 R0 LW HP
 generalize w3.alloc (.cells #[.int .i64 kd, .string (bs nm), .slice A2 l.length c2, .int .i64 rn, .int .i64 rm, .string (bs rf), .string (bs rt), .string (bs rb), .string (bs ra), .string (bs ri), .int .i64 ln] 31) = w4 at *
 generalize w3.heap.size = b4 at *
 have RA5 := row_alloc RA (.cells #[.pointer none] 175)
 have RB5 := row_alloc RB (.cells #[.pointer none] 175)
 have B5 : Below w4.heap.size w4 (w4.alloc (.cells #[.pointer none] 175)) := (Below.refl _ _).alloc (Nat.le_refl _) _
 have SM : Calls Tryz.prog 135 #[.agg #[.int .i64 kd, .string (bs nm), .slice A2 l.length c2, .int .i64 rn, .int .i64 rm, .string (bs rf), .string (bs rt), .string (bs rb), .string (bs ra), .string (bs ri), .int .i64 ln], .agg #[.int .i64 kd, .string (bs nm), .slice A l.length ca, .int .i64 rn, .int .i64 rm, .string (bs rf), .string (bs rt), .string (bs rb), .string (bs ra), .string (bs ri), .int .i64 ln]] (w4.alloc (.cells #[.pointer none] 175)) (ValB (.bool true) (w4.alloc (.cells #[.pointer none] 175))) := by
  have := sameEq ⟨kd, nm, l, rn, rm, rf, rt, rb, ra, ri⟩ l A2 A c2 ca ln ln _ (LB.below B5) ((hla.below B4).below B5)
  rw [decide_eq_true rfl] at this
  exact this
 clear RA RB LB hla hb12
 obtain ⟨q0, q1, q2, q3, q4, q5, q6, q7, q8, q9, q10⟩ := row_qs0 RA5
 obtain ⟨r0, r1, r2, r3, r4, r5, r6, r7, r8, r9, r10⟩ := row_qs0 RB5
 go_wp2_with (first
  | (go_at_call 93; refine (As_nil _ _).mono ?_; rintro e w5 ⟨rfl, rfl⟩)
  | (go_at_call 135; refine SM.mono ?_; rintro e w6 ⟨rfl, hb6⟩))
 go_ret2
 exact ⟨rfl, below_then (B4.alloc B4.size _) hb6 (by have := B4.size; simp; omega)⟩
end Go.Proofs.YtgffbgmieppckaaGreatDoor
namespace Go.Proofs.YtgffbgmieppckaaGreatDoor
set_option maxRecDepth 100000
open Go.ChangeShapes Go.WideShapes Go.ChangeAt Go.RowKit Go.Sort
set_option maxHeartbeats 1000000 in
theorem same_nums (a0 a3 a4 a10 : Int) (a1 a5 a6 a7 a8 a9 : ByteArray) (A : Option Addr) (na ca : Nat) (b0 b3 b4 b10 : Int) (b1 b5 b6 b7 b8 b9 : ByteArray) (B : Option Addr) (nb cb : Nat) (w : World) (h1 : (∀ W, (binOp .eql 298 (.agg #[.int .i64 a0, .int .i64 a3, .int .i64 a4]) (.agg #[.int .i64 b0, .int .i64 b3, .int .i64 b4])).run Tryz.prog W = .ok (.bool false) W)) :
  Calls Tryz.prog 135 #[.agg #[.int .i64 a0, .string a1, .slice A na ca, .int .i64 a3, .int .i64 a4, .string a5, .string a6, .string a7, .string a8, .string a9, .int .i64 a10], .agg #[.int .i64 b0, .string b1, .slice B nb cb, .int .i64 b3, .int .i64 b4, .string b5, .string b6, .string b7, .string b8, .string b9, .int .i64 b10]] w (ValB (.bool false) w) := by
 have RA : ((w.alloc (.cells #[.int .i64 a0, .string a1, .slice A na ca, .int .i64 a3, .int .i64 a4, .string a5, .string a6, .string a7, .string a8, .string a9, .int .i64 a10] 31)).alloc (.cells #[.int .i64 b0, .string b1, .slice B nb cb, .int .i64 b3, .int .i64 b4, .string b5, .string b6, .string b7, .string b8, .string b9, .int .i64 b10] 31)).heap[w.heap.size]? = some (.cells #[.int .i64 a0, .string a1, .slice A na ca, .int .i64 a3, .int .i64 a4, .string a5, .string a6, .string a7, .string a8, .string a9, .int .i64 a10] 31 (0, 0)) := (row_alloc (heap_alloc_new _ _) _ : ((w.alloc (.cells #[.int .i64 a0, .string a1, .slice A na ca, .int .i64 a3, .int .i64 a4, .string a5, .string a6, .string a7, .string a8, .string a9, .int .i64 a10] 31)).alloc (.cells #[.int .i64 b0, .string b1, .slice B nb cb, .int .i64 b3, .int .i64 b4, .string b5, .string b6, .string b7, .string b8, .string b9, .int .i64 b10] 31)).heap[w.heap.size]? = some (.cells #[.int .i64 a0, .string a1, .slice A na ca, .int .i64 a3, .int .i64 a4, .string a5, .string a6, .string a7, .string a8, .string a9, .int .i64 a10] 31 (0, 0)))
 have RB : ((w.alloc (.cells #[.int .i64 a0, .string a1, .slice A na ca, .int .i64 a3, .int .i64 a4, .string a5, .string a6, .string a7, .string a8, .string a9, .int .i64 a10] 31)).alloc (.cells #[.int .i64 b0, .string b1, .slice B nb cb, .int .i64 b3, .int .i64 b4, .string b5, .string b6, .string b7, .string b8, .string b9, .int .i64 b10] 31)).heap[w.heap.size + 1]? = some (.cells #[.int .i64 b0, .string b1, .slice B nb cb, .int .i64 b3, .int .i64 b4, .string b5, .string b6, .string b7, .string b8, .string b9, .int .i64 b10] 31 (0, 0)) := (alloc_at (by simp) _ : ((w.alloc (.cells #[.int .i64 a0, .string a1, .slice A na ca, .int .i64 a3, .int .i64 a4, .string a5, .string a6, .string a7, .string a8, .string a9, .int .i64 a10] 31)).alloc (.cells #[.int .i64 b0, .string b1, .slice B nb cb, .int .i64 b3, .int .i64 b4, .string b5, .string b6, .string b7, .string b8, .string b9, .int .i64 b10] 31)).heap[w.heap.size + 1]? = some (.cells #[.int .i64 b0, .string b1, .slice B nb cb, .int .i64 b3, .int .i64 b4, .string b5, .string b6, .string b7, .string b8, .string b9, .int .i64 b10] 31 (0, 0)))
 have HB : Below w.heap.size w ((w.alloc (.cells #[.int .i64 a0, .string a1, .slice A na ca, .int .i64 a3, .int .i64 a4, .string a5, .string a6, .string a7, .string a8, .string a9, .int .i64 a10] 31)).alloc (.cells #[.int .i64 b0, .string b1, .slice B nb cb, .int .i64 b3, .int .i64 b4, .string b5, .string b6, .string b7, .string b8, .string b9, .int .i64 b10] 31)) := (((Below.refl _ _).alloc (Nat.le_refl _) _).alloc (by simp) _)
 go_enter Tryz.func135, Tryz.ntmps135
 go_upto_region 1 with fail
 generalize ((w.alloc (.cells #[.int .i64 a0, .string a1, .slice A na ca, .int .i64 a3, .int .i64 a4, .string a5, .string a6, .string a7, .string a8, .string a9, .int .i64 a10] 31)).alloc (.cells #[.int .i64 b0, .string b1, .slice B nb cb, .int .i64 b3, .int .i64 b4, .string b5, .string b6, .string b7, .string b8, .string b9, .int .i64 b10] 31)) = W0 at *
 have ca0 : ∀ d os, (grow (redrawn W0 d) os).cell? ⟨w.heap.size, 0, none⟩ = some (.int .i64 a0) := fun d os => cell_regrown (row_q0 RA) d os
 have ca1 : ∀ d os, (grow (redrawn W0 d) os).cell? ⟨w.heap.size, 1, none⟩ = some (.string a1) := fun d os => cell_regrown (row_q1 RA) d os
 have ca2 : ∀ d os, (grow (redrawn W0 d) os).cell? ⟨w.heap.size, 2, none⟩ = some (.slice A na ca) := fun d os => cell_regrown (row_q2 RA) d os
 have ca3 : ∀ d os, (grow (redrawn W0 d) os).cell? ⟨w.heap.size, 3, none⟩ = some (.int .i64 a3) := fun d os => cell_regrown (row_q3 RA) d os
 have ca4 : ∀ d os, (grow (redrawn W0 d) os).cell? ⟨w.heap.size, 4, none⟩ = some (.int .i64 a4) := fun d os => cell_regrown (row_q4 RA) d os
 have ca5 : ∀ d os, (grow (redrawn W0 d) os).cell? ⟨w.heap.size, 5, none⟩ = some (.string a5) := fun d os => cell_regrown (row_q5 RA) d os
 have ca6 : ∀ d os, (grow (redrawn W0 d) os).cell? ⟨w.heap.size, 6, none⟩ = some (.string a6) := fun d os => cell_regrown (row_q6 RA) d os
 have ca7 : ∀ d os, (grow (redrawn W0 d) os).cell? ⟨w.heap.size, 7, none⟩ = some (.string a7) := fun d os => cell_regrown (row_q7 RA) d os
 have ca8 : ∀ d os, (grow (redrawn W0 d) os).cell? ⟨w.heap.size, 8, none⟩ = some (.string a8) := fun d os => cell_regrown (row_q8 RA) d os
 have ca9 : ∀ d os, (grow (redrawn W0 d) os).cell? ⟨w.heap.size, 9, none⟩ = some (.string a9) := fun d os => cell_regrown (row_q9 RA) d os
 have ca10 : ∀ d os, (grow (redrawn W0 d) os).cell? ⟨w.heap.size, 10, none⟩ = some (.int .i64 a10) := fun d os => cell_regrown (row_q10 RA) d os
 have cb0 : ∀ d os, (grow (redrawn W0 d) os).cell? ⟨w.heap.size + 1, 0, none⟩ = some (.int .i64 b0) := fun d os => cell_regrown (row_q0 RB) d os
 have cb1 : ∀ d os, (grow (redrawn W0 d) os).cell? ⟨w.heap.size + 1, 1, none⟩ = some (.string b1) := fun d os => cell_regrown (row_q1 RB) d os
 have cb2 : ∀ d os, (grow (redrawn W0 d) os).cell? ⟨w.heap.size + 1, 2, none⟩ = some (.slice B nb cb) := fun d os => cell_regrown (row_q2 RB) d os
 have cb3 : ∀ d os, (grow (redrawn W0 d) os).cell? ⟨w.heap.size + 1, 3, none⟩ = some (.int .i64 b3) := fun d os => cell_regrown (row_q3 RB) d os
 have cb4 : ∀ d os, (grow (redrawn W0 d) os).cell? ⟨w.heap.size + 1, 4, none⟩ = some (.int .i64 b4) := fun d os => cell_regrown (row_q4 RB) d os
 have cb5 : ∀ d os, (grow (redrawn W0 d) os).cell? ⟨w.heap.size + 1, 5, none⟩ = some (.string b5) := fun d os => cell_regrown (row_q5 RB) d os
 have cb6 : ∀ d os, (grow (redrawn W0 d) os).cell? ⟨w.heap.size + 1, 6, none⟩ = some (.string b6) := fun d os => cell_regrown (row_q6 RB) d os
 have cb7 : ∀ d os, (grow (redrawn W0 d) os).cell? ⟨w.heap.size + 1, 7, none⟩ = some (.string b7) := fun d os => cell_regrown (row_q7 RB) d os
 have cb8 : ∀ d os, (grow (redrawn W0 d) os).cell? ⟨w.heap.size + 1, 8, none⟩ = some (.string b8) := fun d os => cell_regrown (row_q8 RB) d os
 have cb9 : ∀ d os, (grow (redrawn W0 d) os).cell? ⟨w.heap.size + 1, 9, none⟩ = some (.string b9) := fun d os => cell_regrown (row_q9 RB) d os
 have cb10 : ∀ d os, (grow (redrawn W0 d) os).cell? ⟨w.heap.size + 1, 10, none⟩ = some (.int .i64 b10) := fun d os => cell_regrown (row_q10 RB) d os
 have n1 := fun d os => Calls.regrown_of (numbers_lit a0 a3 a4 a10 a1 a5 a6 a7 a8 a9 A na ca (grow (redrawn W0 d) os))
 have n2 := fun d os => Calls.regrown_of (numbers_lit b0 b3 b4 b10 b1 b5 b6 b7 b8 b9 B nb cb (grow (redrawn W0 d) os))
 have t1 := fun d os => Calls.regrown_of (rnames_lit a0 a3 a4 a10 a1 a5 a6 a7 a8 a9 A na ca (grow (redrawn W0 d) os))
 have t2 := fun d os => Calls.regrown_of (rnames_lit b0 b3 b4 b10 b1 b5 b6 b7 b8 b9 B nb cb (grow (redrawn W0 d) os))
 clear RA RB
 refine wp_region_quiet_below (by kernel_rfl) (by kernel_rfl) ?_
 quiet_step (fail)
 quiet_step (exact n1 _ _)
 quiet_step (fail)
 quiet_step (exact n2 _ _)
 quiet_step (fail)
 quiet_step (fail)
 clear n1 n2
 clear t1 t2
 repeat (quiet_step (fail))
 refine wpQuiet_nil ?_
 intro _ hw'
 obtain ⟨⟨dq, osq⟩, hw''⟩ := hw'
 subst hw''
 go_wp2
 go_ret
 exact ⟨rfl, HB.trans ((below_regrown W0 dq osq).mono HB.size)⟩
set_option maxHeartbeats 1000000 in
theorem same_texts (a0 a3 a4 a10 : Int) (a1 a5 a6 a7 a8 a9 : ByteArray) (A : Option Addr) (na ca : Nat) (b0 b3 b4 b10 : Int) (b1 b5 b6 b7 b8 b9 : ByteArray) (B : Option Addr) (nb cb : Nat) (w : World) (h1 : (∀ W, (binOp .eql 298 (.agg #[.int .i64 a0, .int .i64 a3, .int .i64 a4]) (.agg #[.int .i64 b0, .int .i64 b3, .int .i64 b4])).run Tryz.prog W = .ok (.bool true) W)) (h2 : (∀ W, (binOp .eql 300 (.agg #[.string a1, .string a5, .string a6, .string a7, .string a8, .string a9]) (.agg #[.string b1, .string b5, .string b6, .string b7, .string b8, .string b9])).run Tryz.prog W = .ok (.bool false) W)) :
  Calls Tryz.prog 135 #[.agg #[.int .i64 a0, .string a1, .slice A na ca, .int .i64 a3, .int .i64 a4, .string a5, .string a6, .string a7, .string a8, .string a9, .int .i64 a10], .agg #[.int .i64 b0, .string b1, .slice B nb cb, .int .i64 b3, .int .i64 b4, .string b5, .string b6, .string b7, .string b8, .string b9, .int .i64 b10]] w (ValB (.bool false) w) := by
 have RA : ((w.alloc (.cells #[.int .i64 a0, .string a1, .slice A na ca, .int .i64 a3, .int .i64 a4, .string a5, .string a6, .string a7, .string a8, .string a9, .int .i64 a10] 31)).alloc (.cells #[.int .i64 b0, .string b1, .slice B nb cb, .int .i64 b3, .int .i64 b4, .string b5, .string b6, .string b7, .string b8, .string b9, .int .i64 b10] 31)).heap[w.heap.size]? = some (.cells #[.int .i64 a0, .string a1, .slice A na ca, .int .i64 a3, .int .i64 a4, .string a5, .string a6, .string a7, .string a8, .string a9, .int .i64 a10] 31 (0, 0)) := (row_alloc (heap_alloc_new _ _) _ : ((w.alloc (.cells #[.int .i64 a0, .string a1, .slice A na ca, .int .i64 a3, .int .i64 a4, .string a5, .string a6, .string a7, .string a8, .string a9, .int .i64 a10] 31)).alloc (.cells #[.int .i64 b0, .string b1, .slice B nb cb, .int .i64 b3, .int .i64 b4, .string b5, .string b6, .string b7, .string b8, .string b9, .int .i64 b10] 31)).heap[w.heap.size]? = some (.cells #[.int .i64 a0, .string a1, .slice A na ca, .int .i64 a3, .int .i64 a4, .string a5, .string a6, .string a7, .string a8, .string a9, .int .i64 a10] 31 (0, 0)))
 have RB : ((w.alloc (.cells #[.int .i64 a0, .string a1, .slice A na ca, .int .i64 a3, .int .i64 a4, .string a5, .string a6, .string a7, .string a8, .string a9, .int .i64 a10] 31)).alloc (.cells #[.int .i64 b0, .string b1, .slice B nb cb, .int .i64 b3, .int .i64 b4, .string b5, .string b6, .string b7, .string b8, .string b9, .int .i64 b10] 31)).heap[w.heap.size + 1]? = some (.cells #[.int .i64 b0, .string b1, .slice B nb cb, .int .i64 b3, .int .i64 b4, .string b5, .string b6, .string b7, .string b8, .string b9, .int .i64 b10] 31 (0, 0)) := (alloc_at (by simp) _ : ((w.alloc (.cells #[.int .i64 a0, .string a1, .slice A na ca, .int .i64 a3, .int .i64 a4, .string a5, .string a6, .string a7, .string a8, .string a9, .int .i64 a10] 31)).alloc (.cells #[.int .i64 b0, .string b1, .slice B nb cb, .int .i64 b3, .int .i64 b4, .string b5, .string b6, .string b7, .string b8, .string b9, .int .i64 b10] 31)).heap[w.heap.size + 1]? = some (.cells #[.int .i64 b0, .string b1, .slice B nb cb, .int .i64 b3, .int .i64 b4, .string b5, .string b6, .string b7, .string b8, .string b9, .int .i64 b10] 31 (0, 0)))
 have HB : Below w.heap.size w ((w.alloc (.cells #[.int .i64 a0, .string a1, .slice A na ca, .int .i64 a3, .int .i64 a4, .string a5, .string a6, .string a7, .string a8, .string a9, .int .i64 a10] 31)).alloc (.cells #[.int .i64 b0, .string b1, .slice B nb cb, .int .i64 b3, .int .i64 b4, .string b5, .string b6, .string b7, .string b8, .string b9, .int .i64 b10] 31)) := (((Below.refl _ _).alloc (Nat.le_refl _) _).alloc (by simp) _)
 go_enter Tryz.func135, Tryz.ntmps135
 go_upto_region 1 with fail
 generalize ((w.alloc (.cells #[.int .i64 a0, .string a1, .slice A na ca, .int .i64 a3, .int .i64 a4, .string a5, .string a6, .string a7, .string a8, .string a9, .int .i64 a10] 31)).alloc (.cells #[.int .i64 b0, .string b1, .slice B nb cb, .int .i64 b3, .int .i64 b4, .string b5, .string b6, .string b7, .string b8, .string b9, .int .i64 b10] 31)) = W0 at *
 have ca0 : ∀ d os, (grow (redrawn W0 d) os).cell? ⟨w.heap.size, 0, none⟩ = some (.int .i64 a0) := fun d os => cell_regrown (row_q0 RA) d os
 have ca1 : ∀ d os, (grow (redrawn W0 d) os).cell? ⟨w.heap.size, 1, none⟩ = some (.string a1) := fun d os => cell_regrown (row_q1 RA) d os
 have ca2 : ∀ d os, (grow (redrawn W0 d) os).cell? ⟨w.heap.size, 2, none⟩ = some (.slice A na ca) := fun d os => cell_regrown (row_q2 RA) d os
 have ca3 : ∀ d os, (grow (redrawn W0 d) os).cell? ⟨w.heap.size, 3, none⟩ = some (.int .i64 a3) := fun d os => cell_regrown (row_q3 RA) d os
 have ca4 : ∀ d os, (grow (redrawn W0 d) os).cell? ⟨w.heap.size, 4, none⟩ = some (.int .i64 a4) := fun d os => cell_regrown (row_q4 RA) d os
 have ca5 : ∀ d os, (grow (redrawn W0 d) os).cell? ⟨w.heap.size, 5, none⟩ = some (.string a5) := fun d os => cell_regrown (row_q5 RA) d os
 have ca6 : ∀ d os, (grow (redrawn W0 d) os).cell? ⟨w.heap.size, 6, none⟩ = some (.string a6) := fun d os => cell_regrown (row_q6 RA) d os
 have ca7 : ∀ d os, (grow (redrawn W0 d) os).cell? ⟨w.heap.size, 7, none⟩ = some (.string a7) := fun d os => cell_regrown (row_q7 RA) d os
 have ca8 : ∀ d os, (grow (redrawn W0 d) os).cell? ⟨w.heap.size, 8, none⟩ = some (.string a8) := fun d os => cell_regrown (row_q8 RA) d os
 have ca9 : ∀ d os, (grow (redrawn W0 d) os).cell? ⟨w.heap.size, 9, none⟩ = some (.string a9) := fun d os => cell_regrown (row_q9 RA) d os
 have ca10 : ∀ d os, (grow (redrawn W0 d) os).cell? ⟨w.heap.size, 10, none⟩ = some (.int .i64 a10) := fun d os => cell_regrown (row_q10 RA) d os
 have cb0 : ∀ d os, (grow (redrawn W0 d) os).cell? ⟨w.heap.size + 1, 0, none⟩ = some (.int .i64 b0) := fun d os => cell_regrown (row_q0 RB) d os
 have cb1 : ∀ d os, (grow (redrawn W0 d) os).cell? ⟨w.heap.size + 1, 1, none⟩ = some (.string b1) := fun d os => cell_regrown (row_q1 RB) d os
 have cb2 : ∀ d os, (grow (redrawn W0 d) os).cell? ⟨w.heap.size + 1, 2, none⟩ = some (.slice B nb cb) := fun d os => cell_regrown (row_q2 RB) d os
 have cb3 : ∀ d os, (grow (redrawn W0 d) os).cell? ⟨w.heap.size + 1, 3, none⟩ = some (.int .i64 b3) := fun d os => cell_regrown (row_q3 RB) d os
 have cb4 : ∀ d os, (grow (redrawn W0 d) os).cell? ⟨w.heap.size + 1, 4, none⟩ = some (.int .i64 b4) := fun d os => cell_regrown (row_q4 RB) d os
 have cb5 : ∀ d os, (grow (redrawn W0 d) os).cell? ⟨w.heap.size + 1, 5, none⟩ = some (.string b5) := fun d os => cell_regrown (row_q5 RB) d os
 have cb6 : ∀ d os, (grow (redrawn W0 d) os).cell? ⟨w.heap.size + 1, 6, none⟩ = some (.string b6) := fun d os => cell_regrown (row_q6 RB) d os
 have cb7 : ∀ d os, (grow (redrawn W0 d) os).cell? ⟨w.heap.size + 1, 7, none⟩ = some (.string b7) := fun d os => cell_regrown (row_q7 RB) d os
 have cb8 : ∀ d os, (grow (redrawn W0 d) os).cell? ⟨w.heap.size + 1, 8, none⟩ = some (.string b8) := fun d os => cell_regrown (row_q8 RB) d os
 have cb9 : ∀ d os, (grow (redrawn W0 d) os).cell? ⟨w.heap.size + 1, 9, none⟩ = some (.string b9) := fun d os => cell_regrown (row_q9 RB) d os
 have cb10 : ∀ d os, (grow (redrawn W0 d) os).cell? ⟨w.heap.size + 1, 10, none⟩ = some (.int .i64 b10) := fun d os => cell_regrown (row_q10 RB) d os
 have n1 := fun d os => Calls.regrown_of (numbers_lit a0 a3 a4 a10 a1 a5 a6 a7 a8 a9 A na ca (grow (redrawn W0 d) os))
 have n2 := fun d os => Calls.regrown_of (numbers_lit b0 b3 b4 b10 b1 b5 b6 b7 b8 b9 B nb cb (grow (redrawn W0 d) os))
 have t1 := fun d os => Calls.regrown_of (rnames_lit a0 a3 a4 a10 a1 a5 a6 a7 a8 a9 A na ca (grow (redrawn W0 d) os))
 have t2 := fun d os => Calls.regrown_of (rnames_lit b0 b3 b4 b10 b1 b5 b6 b7 b8 b9 B nb cb (grow (redrawn W0 d) os))
 clear RA RB
 refine wp_region_quiet_below (by kernel_rfl) (by kernel_rfl) ?_
 quiet_step (fail)
 quiet_step (exact n1 _ _)
 quiet_step (fail)
 quiet_step (exact n2 _ _)
 quiet_step (fail)
 quiet_step (fail)
 clear n1 n2
 quiet_step (fail)
 quiet_step (exact t1 _ _)
 quiet_step (fail)
 quiet_step (exact t2 _ _)
 clear t1 t2
 repeat (quiet_step (fail))
 refine wpQuiet_nil ?_
 intro _ hw'
 obtain ⟨⟨dq, osq⟩, hw''⟩ := hw'
 subst hw''
 go_wp2
 go_ret
 exact ⟨rfl, HB.trans ((below_regrown W0 dq osq).mono HB.size)⟩
end Go.Proofs.YtgffbgmieppckaaGreatDoor
