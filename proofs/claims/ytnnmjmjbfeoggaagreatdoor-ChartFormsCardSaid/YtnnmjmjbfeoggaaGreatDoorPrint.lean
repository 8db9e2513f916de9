/-
  rule.Print at a rule that has a line.
-/
import Derived.Test.YtnnmjmjbfeoggaaGreatDoorLwAny
import Derived.Test.YtnnmjmjbfeoggaaGreatDoorSame2
import Derived.Test.YtnnmjmjbfeoggaaGreatDoorShelf
import Derived.Test.YtnnmjmjbfeoggaaGreatDoorOkP
import Derived.Test.YtnnmjmjbfeoggaaGreatDoorAs
namespace Go.Proofs.YtnnmjmjbfeoggaaGreatDoor
set_option maxRecDepth 100000
open Go.ChangeShapes Go.WideShapes Go.ChangeAt Go.RowKit


theorem map_bs (l : List Tx) : (l.map bs).map (·.data.toList) = l := by
  rw [List.map_map]
  conv => rhs; rw [← List.map_id l]
  apply List.map_congr_left
  intro a _; rfl
theorem Join_any (v : Value) (l : List Tx) (base : Nat) (w : World) (h : OwnL w base v l) (hj : (joinP l).length ≤ 140737488355328) (hl : l.length ≤ 1048676) (h0 : 0 < l.length) :
    Calls Tryz.prog 90 #[v, .string ⟨#[32]⟩] w fun e w' => e = .returned (.string (bs (joinP l))) ∧ Below w.heap.size w w' := by
  obtain ⟨g, cap, rfl, hb, hg, hc, hcells⟩ := own_form h h0
  have hm : (l.map bs).length = l.length := by simp
  have e32 : (⟨#[32]⟩ : ByteArray).data.toList = [32] := rfl
  have := Tryz.strings_Join g 0 cap (l.map bs) ⟨#[32]⟩ w (fun j x hx => by rw [Nat.zero_add]; refine hcells j _ ?_; simp only [scells, List.getElem?_map] at hx ⊢; cases hh : l[j]? with | none => rw [hh] at hx; simp at hx | some t => rw [hh] at hx; simp at hx ⊢; exact hx) hg (by rw [hm]; omega) (by rw [hm]; exact hc) (by rw [map_bs, e32]; exact hj)
  rw [hm, map_bs, e32] at this
  exact this.mono fun e w' h => ⟨h.1, h.2⟩

/-- A rule that has a line (lw: its words' call; line is read as the rule): the line -/
theorem print_ok (kd : Int) (nm : Tx) (l : List Tx) (rn rm : Int) (rf rt rb ra ri : Tx) (A : Option Addr) (ca : Nat) (ln : Int) (W : List Tx) (w : World) (hla : LAt w A ca l)
    (hlw : ∀ X, Below w.heap.size w X → Calls Tryz.prog 91 #[.agg #[.int .i64 kd, .string (bs nm), .slice A l.length ca, .int .i64 rn, .int .i64 rm, .string (bs rf), .string (bs rt), .string (bs rb), .string (bs ra), .string (bs ri), .int .i64 ln]] X (LineTo W X)) (h0 : 0 < W.length) (hn : W.length ≤ 1048676) (hj : (joinP W).length ≤ 1099511627776) (hp : parseL (joinP W) = .ok ⟨kd, nm, l, rn, rm, rf, rt, rb, ra, ri⟩) :
    Calls Tryz.prog 42 #[.agg #[.int .i64 kd, .string (bs nm), .slice A l.length ca, .int .i64 rn, .int .i64 rm, .string (bs rf), .string (bs rt), .string (bs rb), .string (bs ra), .string (bs ri), .int .i64 ln]] w fun e w' => e = .returned (.tuple #[.string (bs (joinP W)), .nilIface]) ∧ Below w.heap.size w w' := by
  have hpar := fun X => Parse_any (bs (joinP W)) ln X (by rw [size_bs]; omega) (fun _ => by have := partL_le (bs (joinP W)).data.toList; rw [list_bs] at this ⊢; omega)
  rw [list_bs, hp] at hpar
  have HP := Lib.hid hpar
  have B0 : Below w.heap.size w (w.alloc (.cells #[.int .i64 kd, .string (bs nm), .slice A l.length ca, .int .i64 rn, .int .i64 rm, .string (bs rf), .string (bs rt), .string (bs rb), .string (bs ra), .string (bs ri), .int .i64 ln] 28)) := (Below.refl _ _).alloc (Nat.le_refl _) _
  have R0 : (w.alloc (.cells #[.int .i64 kd, .string (bs nm), .slice A l.length ca, .int .i64 rn, .int .i64 rm, .string (bs rf), .string (bs rt), .string (bs rb), .string (bs ra), .string (bs ri), .int .i64 ln] 28)).heap[w.heap.size]? = some (.cells #[.int .i64 kd, .string (bs nm), .slice A l.length ca, .int .i64 rn, .int .i64 rm, .string (bs rf), .string (bs rt), .string (bs rb), .string (bs ra), .string (bs ri), .int .i64 ln] 28 (0, 0)) := heap_alloc_new _ _
  have LW := Lib.hid (hlw _ B0)
  clear hpar hlw hp
  go_enter Tryz.func42, Tryz.ntmps42
  go_upto_region 2 with (first
    | (go_at_call 91; refine LW.out.mono ?_; rintro e w1 ⟨v, rfl, ho, hb1⟩)
    | (go_at_call 90; refine (Join_any _ _ _ _ ho (by omega) hn h0).mono ?_; rintro e w2 ⟨rfl, hb2⟩))
  have R2 := row_below (row_below R0 hb1) hb2
  have B2 := below_then (below_then B0 hb1 B0.size) hb2 (Nat.le_trans B0.size hb1.size)
  have q0 := row_q0 R2; have q1 := row_q1 R2; have q2 := row_q2 R2; have q3 := row_q3 R2; have q4 := row_q4 R2; have q5 := row_q5 R2; have q6 := row_q6 R2; have q7 := row_q7 R2; have q8 := row_q8 R2; have q9 := row_q9 R2; have q10 := row_q10 R2
  go_upto_region 3 with (go_at_call 92; refine (HP.out _).mono ?_; rintro e w3 ⟨hb3, L, rfl, ho3⟩; obtain ⟨A2, c2, rfl⟩ := own_slice ho3; dsimp only [ruV])
  clear q0 q1 q2 q3 q4 q5 q6 q7 q8 q9 q10
  have R3 := row_below R2 hb3
  have B3 := below_then B2 hb3 B2.size
  have RA : (w3.alloc (.cells #[.int .i64 kd, .string (bs nm), .slice A2 l.length c2, .int .i64 rn, .int .i64 rm, .string (bs rf), .string (bs rt), .string (bs rb), .string (bs ra), .string (bs ri), .int .i64 ln] 28)).heap[w.heap.size]? = some (.cells #[.int .i64 kd, .string (bs nm), .slice A l.length ca, .int .i64 rn, .int .i64 rm, .string (bs rf), .string (bs rt), .string (bs rb), .string (bs ra), .string (bs ri), .int .i64 ln] 28 (0, 0)) := row_alloc R3 _
  have RB : (w3.alloc (.cells #[.int .i64 kd, .string (bs nm), .slice A2 l.length c2, .int .i64 rn, .int .i64 rm, .string (bs rf), .string (bs rt), .string (bs rb), .string (bs ra), .string (bs ri), .int .i64 ln] 28)).heap[w3.heap.size]? = some (.cells #[.int .i64 kd, .string (bs nm), .slice A2 l.length c2, .int .i64 rn, .int .i64 rm, .string (bs rf), .string (bs rt), .string (bs rb), .string (bs ra), .string (bs ri), .int .i64 ln] 28 (0, 0)) := heap_alloc_new _ _
  have LB : LAt (w3.alloc (.cells #[.int .i64 kd, .string (bs nm), .slice A2 l.length c2, .int .i64 rn, .int .i64 rm, .string (bs rf), .string (bs rt), .string (bs rb), .string (bs ra), .string (bs ri), .int .i64 ln] 28)) A2 c2 l := (lAt_of (listAt_of ho3) hla.2.1).below ((Below.refl _ _).alloc (Nat.le_refl _) _)
  have B4 : Below w.heap.size w (w3.alloc (.cells #[.int .i64 kd, .string (bs nm), .slice A2 l.length c2, .int .i64 rn, .int .i64 rm, .string (bs rf), .string (bs rt), .string (bs rb), .string (bs ra), .string (bs ri), .int .i64 ln] 28)) := B3.alloc B3.size _
  have hb12 := hb1
  clear ho ho3 R3 R2 R0 LW HP
  generalize w3.alloc (.cells #[.int .i64 kd, .string (bs nm), .slice A2 l.length c2, .int .i64 rn, .int .i64 rm, .string (bs rf), .string (bs rt), .string (bs rb), .string (bs ra), .string (bs ri), .int .i64 ln] 28) = w4 at *
  generalize w3.heap.size = b4 at *
  have RA5 := row_alloc RA (.cells #[.pointer none] 124)
  have RB5 := row_alloc RB (.cells #[.pointer none] 124)
  have B5 : Below w4.heap.size w4 (w4.alloc (.cells #[.pointer none] 124)) := (Below.refl _ _).alloc (Nat.le_refl _) _
  have SM : Calls Tryz.prog 93 #[.agg #[.int .i64 kd, .string (bs nm), .slice A2 l.length c2, .int .i64 rn, .int .i64 rm, .string (bs rf), .string (bs rt), .string (bs rb), .string (bs ra), .string (bs ri), .int .i64 ln], .agg #[.int .i64 kd, .string (bs nm), .slice A l.length ca, .int .i64 rn, .int .i64 rm, .string (bs rf), .string (bs rt), .string (bs rb), .string (bs ra), .string (bs ri), .int .i64 ln]] (w4.alloc (.cells #[.pointer none] 124)) (ValB (.bool true) (w4.alloc (.cells #[.pointer none] 124))) := by
    have := sameEq ⟨kd, nm, l, rn, rm, rf, rt, rb, ra, ri⟩ l A2 A c2 ca ln ln _ (LB.below B5) ((hla.below B4).below B5)
    rw [decide_eq_true rfl] at this
    exact this
  clear RA RB LB hla hb12
  have q0 := row_q0 RA5; have q1 := row_q1 RA5; have q2 := row_q2 RA5; have q3 := row_q3 RA5; have q4 := row_q4 RA5; have q5 := row_q5 RA5; have q6 := row_q6 RA5; have q7 := row_q7 RA5; have q8 := row_q8 RA5; have q9 := row_q9 RA5; have q10 := row_q10 RA5
  have r0 := row_q0 RB5; have r1 := row_q1 RB5; have r2 := row_q2 RB5; have r3 := row_q3 RB5; have r4 := row_q4 RB5; have r5 := row_q5 RB5; have r6 := row_q6 RB5; have r7 := row_q7 RB5; have r8 := row_q8 RB5; have r9 := row_q9 RB5; have r10 := row_q10 RB5
  go_wp2_with (first
    | (go_at_call 71; refine (As_nil _ _).mono ?_; rintro e w5 ⟨rfl, rfl⟩)
    | (go_at_call 93; refine SM.mono ?_; rintro e w6 ⟨rfl, hb6⟩))
  go_ret2
  exact ⟨rfl, below_then (B4.alloc B4.size _) hb6 (by have := B4.size; simp; omega)⟩
end Go.Proofs.YtnnmjmjbfeoggaaGreatDoor
