/-
  rule.Print at a rule that has no line, and at any rule.
-/
import Derived.Test.YtahgfmobdfhaaaaGreatDoorPrint
import Derived.Test.YtahgfmobdfhaaaaGreatDoorSame2
import Derived.Test.YtahgfmobdfhaaaaGreatDoorPlain06
import Derived.Test.YtahgfmobdfhaaaaGreatDoorRuleSt
import Derived.Test.YtahgfmobdfhaaaaGreatDoorCh5
namespace Go.Proofs.YtahgfmobdfhaaaaGreatDoor
set_option maxRecDepth 100000
open Go.ChangeShapes Go.WideShapes Go.ChangeAt Go.RowKit

theorem HandleAt.below' {w w' : World} (h : HandleAt w) (hb : Below w.heap.size w w') : HandleAt w' := (hb.cell (World.block_lt_of_cell? w _ h)).trans h
theorem sameNe (r s : Ru) (A B : Option Addr) (ca cb : Nat) (la ln : Int) (w : World) (ha : LAt w A ca r.list) (hb : LAt w B cb s.list) (hne : r ≠ s) :
    Calls Tryz.prog 27 #[ruV r (.slice A r.list.length ca) la, ruV s (.slice B s.list.length cb) ln] w (ValB (.bool false) w) := by
  obtain ⟨kd, nm, l, rn, rm, rf, rt, rb, ra, ri⟩ := r
  obtain ⟨kd', nm', l', rn', rm', rf', rt', rb', ra', ri'⟩ := s
  by_cases h1 : kd = kd' ∧ rn = rn' ∧ rm = rm'
  · by_cases h2 : nm = nm' ∧ rf = rf' ∧ rt = rt' ∧ rb = rb' ∧ ra = ra' ∧ ri = ri'
    · have h3 : l ≠ l' := by
        intro e
        obtain ⟨rfl, rfl, rfl⟩ := h1
        obtain ⟨rfl, rfl, rfl, rfl, rfl, rfl⟩ := h2
        subst e
        exact hne rfl
      refine same_lists kd rn rm la _ _ _ _ _ _ A l.length ca kd' rn' rm' ln _ _ _ _ _ _ B l'.length cb w (fun W => ?_) (fun W => ?_) _ (fun W hW => ?_)
      · rw [eqNums, decide_eq_true h1]
      · rw [eqTexts, decide_eq_true h2]
      · have := Equal_any l l' A B ca cb W (ha.below hW) (hb.below hW)
        rw [decide_eq_false h3] at this
        exact this
    · refine same_texts kd rn rm la _ _ _ _ _ _ A l.length ca kd' rn' rm' ln _ _ _ _ _ _ B l'.length cb w (fun W => ?_) (fun W => ?_)
      · rw [eqNums, decide_eq_true h1]
      · rw [eqTexts, decide_eq_false h2]
  · refine same_nums kd rn rm la _ _ _ _ _ _ A l.length ca kd' rn' rm' ln _ _ _ _ _ _ B l'.length cb w (fun W => ?_)
    rw [eqNums, decide_eq_false h1]

set_option maxHeartbeats 4000000 in
theorem print_differ (kd : Int) (nm : Tx) (l : List Tx) (rn rm : Int) (rf rt rb ra ri : Tx) (A : Option Addr) (ca : Nat) (ln : Int) (W : List Tx) (w : World) (hla : LAt w A ca l)
    (hlw : ∀ X, Below w.heap.size w X → Calls Tryz.prog 24 #[.agg #[.int .i64 kd, .string (bs nm), .slice A l.length ca, .int .i64 rn, .int .i64 rm, .string (bs rf), .string (bs rt), .string (bs rb), .string (bs ra), .string (bs ri), .int .i64 ln]] X (LineTo W X)) (h0 : 0 < W.length) (hn : W.length ≤ 1048676) (hj : (joinP W).length ≤ 1099511627776) (kd' : Int) (nm' : Tx) (l' : List Tx) (rn' rm' : Int) (rf' rt' rb' ra' ri' : Tx) (hp : parseL (joinP W) = .ok ⟨kd', nm', l', rn', rm', rf', rt', rb', ra', ri'⟩) (hne : (⟨kd', nm', l', rn', rm', rf', rt', rb', ra', ri'⟩ : Ru) ≠ ⟨kd, nm, l, rn, rm, rf, rt, rb, ra, ri⟩) (hl' : l'.length ≤ 9223372036854775807) :
    Calls Tryz.prog 11 #[.agg #[.int .i64 kd, .string (bs nm), .slice A l.length ca, .int .i64 rn, .int .i64 rm, .string (bs rf), .string (bs rt), .string (bs rb), .string (bs ra), .string (bs ri), .int .i64 ln]] w fun e w' => e = .returned (.tuple #[.string (bs []), .iface 45 (.int .i64 1)]) ∧ Below w.heap.size w w' := by
  have hpar := fun X => Parse_any (bs (joinP W)) ln X (by rw [size_bs]; omega) (fun _ => by have := partL_le (bs (joinP W)).data.toList; rw [list_bs] at this ⊢; omega)
  rw [list_bs, hp] at hpar
  have HP := Lib.hid hpar
  have B0 : Below w.heap.size w (w.alloc (.cells #[.int .i64 kd, .string (bs nm), .slice A l.length ca, .int .i64 rn, .int .i64 rm, .string (bs rf), .string (bs rt), .string (bs rb), .string (bs ra), .string (bs ri), .int .i64 ln] 41)) := (Below.refl _ _).alloc (Nat.le_refl _) _
  have R0 : (w.alloc (.cells #[.int .i64 kd, .string (bs nm), .slice A l.length ca, .int .i64 rn, .int .i64 rm, .string (bs rf), .string (bs rt), .string (bs rb), .string (bs ra), .string (bs ri), .int .i64 ln] 41)).heap[w.heap.size]? = some (.cells #[.int .i64 kd, .string (bs nm), .slice A l.length ca, .int .i64 rn, .int .i64 rm, .string (bs rf), .string (bs rt), .string (bs rb), .string (bs ra), .string (bs ri), .int .i64 ln] 41 (0, 0)) := heap_alloc_new _ _
  have LW := Lib.hid (hlw _ B0)
  clear hpar hlw hp
  go_enter Tryz.func11, Tryz.ntmps11
  go_upto_region 2 with (first
    | (go_at_call 24; refine LW.out.mono ?_; rintro e w1 ⟨v, rfl, ho, hb1⟩)
    | (go_at_call 23; refine (Join_any _ _ _ _ ho (by omega) hn h0).mono ?_; rintro e w2 ⟨rfl, hb2⟩))
  have R2 := row_below (row_below R0 hb1) hb2
  have B2 := below_then (below_then B0 hb1 B0.size) hb2 (Nat.le_trans B0.size hb1.size)
  have q0 := row_q0 R2; have q1 := row_q1 R2; have q2 := row_q2 R2; have q3 := row_q3 R2; have q4 := row_q4 R2; have q5 := row_q5 R2; have q6 := row_q6 R2; have q7 := row_q7 R2; have q8 := row_q8 R2; have q9 := row_q9 R2; have q10 := row_q10 R2
  go_upto_region 3 with (go_at_call 25; refine (HP.out _).mono ?_; rintro e w3 ⟨hb3, L, rfl, ho3⟩; obtain ⟨A2, c2, rfl⟩ := own_slice ho3; dsimp only [ruV])
  clear q0 q1 q2 q3 q4 q5 q6 q7 q8 q9 q10
  have R3 := row_below R2 hb3
  have B3 := below_then B2 hb3 B2.size
  have RA : (w3.alloc (.cells #[.int .i64 kd', .string (bs nm'), .slice A2 l'.length c2, .int .i64 rn', .int .i64 rm', .string (bs rf'), .string (bs rt'), .string (bs rb'), .string (bs ra'), .string (bs ri'), .int .i64 ln] 41)).heap[w.heap.size]? = some (.cells #[.int .i64 kd, .string (bs nm), .slice A l.length ca, .int .i64 rn, .int .i64 rm, .string (bs rf), .string (bs rt), .string (bs rb), .string (bs ra), .string (bs ri), .int .i64 ln] 41 (0, 0)) := row_alloc R3 _
  have RB : (w3.alloc (.cells #[.int .i64 kd', .string (bs nm'), .slice A2 l'.length c2, .int .i64 rn', .int .i64 rm', .string (bs rf'), .string (bs rt'), .string (bs rb'), .string (bs ra'), .string (bs ri'), .int .i64 ln] 41)).heap[w3.heap.size]? = some (.cells #[.int .i64 kd', .string (bs nm'), .slice A2 l'.length c2, .int .i64 rn', .int .i64 rm', .string (bs rf'), .string (bs rt'), .string (bs rb'), .string (bs ra'), .string (bs ri'), .int .i64 ln] 41 (0, 0)) := heap_alloc_new _ _
  have LB : LAt (w3.alloc (.cells #[.int .i64 kd', .string (bs nm'), .slice A2 l'.length c2, .int .i64 rn', .int .i64 rm', .string (bs rf'), .string (bs rt'), .string (bs rb'), .string (bs ra'), .string (bs ri'), .int .i64 ln] 41)) A2 c2 l' := (lAt_of (listAt_of ho3) hl').below ((Below.refl _ _).alloc (Nat.le_refl _) _)
  have B4 : Below w.heap.size w (w3.alloc (.cells #[.int .i64 kd', .string (bs nm'), .slice A2 l'.length c2, .int .i64 rn', .int .i64 rm', .string (bs rf'), .string (bs rt'), .string (bs rb'), .string (bs ra'), .string (bs ri'), .int .i64 ln] 41)) := B3.alloc B3.size _
  have hb12 := hb1
  clear ho ho3 R3 R2 R0 LW HP
  generalize w3.alloc (.cells #[.int .i64 kd', .string (bs nm'), .slice A2 l'.length c2, .int .i64 rn', .int .i64 rm', .string (bs rf'), .string (bs rt'), .string (bs rb'), .string (bs ra'), .string (bs ri'), .int .i64 ln] 41) = w4 at *
  generalize w3.heap.size = b4 at *
  have RA5 := row_alloc RA (.cells #[.pointer none] 60)
  have RB5 := row_alloc RB (.cells #[.pointer none] 60)
  have B5 : Below w4.heap.size w4 (w4.alloc (.cells #[.pointer none] 60)) := (Below.refl _ _).alloc (Nat.le_refl _) _
  have SM := Lib.hid (sameNe ⟨kd', nm', l', rn', rm', rf', rt', rb', ra', ri'⟩ ⟨kd, nm, l, rn, rm, rf, rt, rb, ra, ri⟩ A2 A c2 ca ln ln (w4.alloc (.cells #[.pointer none] 60)) (LB.below B5) ((hla.below B4).below B5) hne)
  dsimp only [ruV] at SM
  clear RA RB LB hla hb12 hne
  have q0 := row_q0 RA5; have q1 := row_q1 RA5; have q2 := row_q2 RA5; have q3 := row_q3 RA5; have q4 := row_q4 RA5; have q5 := row_q5 RA5; have q6 := row_q6 RA5; have q7 := row_q7 RA5; have q8 := row_q8 RA5; have q9 := row_q9 RA5; have q10 := row_q10 RA5
  have r0 := row_q0 RB5; have r1 := row_q1 RB5; have r2 := row_q2 RB5; have r3 := row_q3 RB5; have r4 := row_q4 RB5; have r5 := row_q5 RB5; have r6 := row_q6 RB5; have r7 := row_q7 RB5; have r8 := row_q8 RB5; have r9 := row_q9 RB5; have r10 := row_q10 RB5
  go_wp2_with (first
    | (go_at_call 26; refine (As_nil _ _).mono ?_; rintro e w5 ⟨rfl, rfl⟩)
    | (go_at_call 27; refine SM.out.mono ?_; rintro e w6 ⟨rfl, hb6⟩))
  go_ret2
  exact ⟨rfl, below_then (B4.alloc B4.size _) hb6 (by have := B4.size; simp; omega)⟩

set_option maxHeartbeats 4000000 in
theorem print_empty (kd : Int) (nm : Tx) (l : List Tx) (rn rm : Int) (rf rt rb ra ri : Tx) (A : Option Addr) (ca : Nat) (ln : Int) (W : List Tx) (w : World) (_hla : LAt w A ca l)
    (hlw : ∀ X, Below w.heap.size w X → Calls Tryz.prog 24 #[.agg #[.int .i64 kd, .string (bs nm), .slice A l.length ca, .int .i64 rn, .int .i64 rm, .string (bs rf), .string (bs rt), .string (bs rb), .string (bs ra), .string (bs ri), .int .i64 ln]] X (LineTo W X)) (h0 : 0 < W.length) (hn : W.length ≤ 1048676) (hj : (joinP W).length ≤ 1099511627776) (hp : parseL (joinP W) = .empty) :
    Calls Tryz.prog 11 #[.agg #[.int .i64 kd, .string (bs nm), .slice A l.length ca, .int .i64 rn, .int .i64 rm, .string (bs rf), .string (bs rt), .string (bs rb), .string (bs ra), .string (bs ri), .int .i64 ln]] w fun e w' => e = .returned (.tuple #[.string (bs []), .iface 45 (.int .i64 1)]) ∧ Below w.heap.size w w' := by
  have hpar := fun X => Parse_any (bs (joinP W)) ln X (by rw [size_bs]; omega) (fun _ => by have := partL_le (bs (joinP W)).data.toList; rw [list_bs] at this ⊢; omega)
  rw [list_bs, hp] at hpar
  have HP := Lib.hid hpar
  have B0 : Below w.heap.size w (w.alloc (.cells #[.int .i64 kd, .string (bs nm), .slice A l.length ca, .int .i64 rn, .int .i64 rm, .string (bs rf), .string (bs rt), .string (bs rb), .string (bs ra), .string (bs ri), .int .i64 ln] 41)) := (Below.refl _ _).alloc (Nat.le_refl _) _
  have R0 : (w.alloc (.cells #[.int .i64 kd, .string (bs nm), .slice A l.length ca, .int .i64 rn, .int .i64 rm, .string (bs rf), .string (bs rt), .string (bs rb), .string (bs ra), .string (bs ri), .int .i64 ln] 41)).heap[w.heap.size]? = some (.cells #[.int .i64 kd, .string (bs nm), .slice A l.length ca, .int .i64 rn, .int .i64 rm, .string (bs rf), .string (bs rt), .string (bs rb), .string (bs ra), .string (bs ri), .int .i64 ln] 41 (0, 0)) := heap_alloc_new _ _
  have LW := Lib.hid (hlw _ B0)
  clear hpar hlw hp
  go_enter Tryz.func11, Tryz.ntmps11
  go_upto_region 2 with (first
    | (go_at_call 24; refine LW.out.mono ?_; rintro e w1 ⟨v, rfl, ho, hb1⟩)
    | (go_at_call 23; refine (Join_any _ _ _ _ ho (by omega) hn h0).mono ?_; rintro e w2 ⟨rfl, hb2⟩))
  have R2 := row_below (row_below R0 hb1) hb2
  have B2 := below_then (below_then B0 hb1 B0.size) hb2 (Nat.le_trans B0.size hb1.size)
  have q0 := row_q0 R2; have q1 := row_q1 R2; have q2 := row_q2 R2; have q3 := row_q3 R2; have q4 := row_q4 R2; have q5 := row_q5 R2; have q6 := row_q6 R2; have q7 := row_q7 R2; have q8 := row_q8 R2; have q9 := row_q9 R2; have q10 := row_q10 R2
  go_upto_region 3 with (go_at_call 25; refine (HP.out _).mono ?_; rintro e w3 ⟨hb3, rfl⟩; dsimp only [zeroV, zero11])
  have B3 := below_then B2 hb3 B2.size
  clear q0 q1 q2 q3 q4 q5 q6 q7 q8 q9 q10
  go_wp2_with (first
    | (go_at_call 26; refine (As_nil _ _).mono ?_; rintro e w5 ⟨rfl, rfl⟩))
  go_ret2
  exact ⟨rfl, (B3.alloc B3.size _).alloc (by have := B3.size; simp; omega) _⟩

set_option maxHeartbeats 4000000 in
theorem print_bad (kd : Int) (nm : Tx) (l : List Tx) (rn rm : Int) (rf rt rb ra ri : Tx) (A : Option Addr) (ca : Nat) (ln : Int) (W : List Tx) (w : World) (_hla : LAt w A ca l)
    (hlw : ∀ X, Below w.heap.size w X → Calls Tryz.prog 24 #[.agg #[.int .i64 kd, .string (bs nm), .slice A l.length ca, .int .i64 rn, .int .i64 rm, .string (bs rf), .string (bs rt), .string (bs rb), .string (bs ra), .string (bs ri), .int .i64 ln]] X (LineTo W X)) (h0 : 0 < W.length) (hn : W.length ≤ 1048676) (hj : (joinP W).length ≤ 1099511627776) (c : Nat) (k : Int) (hp : parseL (joinP W) = .bad c k) (hg : HandleAt w) :
    Calls Tryz.prog 11 #[.agg #[.int .i64 kd, .string (bs nm), .slice A l.length ca, .int .i64 rn, .int .i64 rm, .string (bs rf), .string (bs rt), .string (bs rb), .string (bs ra), .string (bs ri), .int .i64 ln]] w fun e w' => e = .returned (.tuple #[.string (bs []), .iface 45 (.int .i64 1)]) ∧ Below w.heap.size w w' := by
  have hpar := fun X => Parse_any (bs (joinP W)) ln X (by rw [size_bs]; omega) (fun _ => by have := partL_le (bs (joinP W)).data.toList; rw [list_bs] at this ⊢; omega)
  rw [list_bs, hp] at hpar
  have HP := Lib.hid hpar
  have B0 : Below w.heap.size w (w.alloc (.cells #[.int .i64 kd, .string (bs nm), .slice A l.length ca, .int .i64 rn, .int .i64 rm, .string (bs rf), .string (bs rt), .string (bs rb), .string (bs ra), .string (bs ri), .int .i64 ln] 41)) := (Below.refl _ _).alloc (Nat.le_refl _) _
  have R0 : (w.alloc (.cells #[.int .i64 kd, .string (bs nm), .slice A l.length ca, .int .i64 rn, .int .i64 rm, .string (bs rf), .string (bs rt), .string (bs rb), .string (bs ra), .string (bs ri), .int .i64 ln] 41)).heap[w.heap.size]? = some (.cells #[.int .i64 kd, .string (bs nm), .slice A l.length ca, .int .i64 rn, .int .i64 rm, .string (bs rf), .string (bs rt), .string (bs rb), .string (bs ra), .string (bs ri), .int .i64 ln] 41 (0, 0)) := heap_alloc_new _ _
  have LW := Lib.hid (hlw _ B0)
  clear hpar hlw hp
  go_enter Tryz.func11, Tryz.ntmps11
  go_upto_region 2 with (first
    | (go_at_call 24; refine LW.out.mono ?_; rintro e w1 ⟨v, rfl, ho, hb1⟩)
    | (go_at_call 23; refine (Join_any _ _ _ _ ho (by omega) hn h0).mono ?_; rintro e w2 ⟨rfl, hb2⟩))
  have R2 := row_below (row_below R0 hb1) hb2
  have B2 := below_then (below_then B0 hb1 B0.size) hb2 (Nat.le_trans B0.size hb1.size)
  have q0 := row_q0 R2; have q1 := row_q1 R2; have q2 := row_q2 R2; have q3 := row_q3 R2; have q4 := row_q4 R2; have q5 := row_q5 R2; have q6 := row_q6 R2; have q7 := row_q7 R2; have q8 := row_q8 R2; have q9 := row_q9 R2; have q10 := row_q10 R2
  go_upto_region 3 with (go_at_call 25; refine (HP.out _).mono ?_; rintro e w3 ⟨hb3, b, rfl, hlb, hbl, hF⟩; dsimp only [zeroV, zero11])
  have B3 := below_then B2 hb3 B2.size
  clear q0 q1 q2 q3 q4 q5 q6 q7 q8 q9 q10
  have hg3 : HandleAt w3 := hg.below' B3
  have B4 : Below w.heap.size w (w3.alloc (.cells #[.int .i64 0, .string ⟨#[]⟩, .slice none 0 0, .int .i64 0, .int .i64 0, .string ⟨#[]⟩, .string ⟨#[]⟩, .string ⟨#[]⟩, .string ⟨#[]⟩, .string ⟨#[]⟩, .int .i64 0] 41)) := B3.alloc B3.size _
  have hg4 : HandleAt (w3.alloc (.cells #[.int .i64 0, .string ⟨#[]⟩, .slice none 0 0, .int .i64 0, .int .i64 0, .string ⟨#[]⟩, .string ⟨#[]⟩, .string ⟨#[]⟩, .string ⟨#[]⟩, .string ⟨#[]⟩, .int .i64 0] 41)) := hg3.below' ((Below.refl _ _).alloc (Nat.le_refl _) _)
  clear HP LW hF hg3
  generalize w3.alloc (.cells #[.int .i64 0, .string ⟨#[]⟩, .slice none 0 0, .int .i64 0, .int .i64 0, .string ⟨#[]⟩, .string ⟨#[]⟩, .string ⟨#[]⟩, .string ⟨#[]⟩, .string ⟨#[]⟩, .int .i64 0] 41) = w4 at *
  have hgl := World.block_lt_of_cell? _ _ hg4
  have hg5 : HandleAt (w4.alloc (.cells #[.pointer none] 60)) := (World.cell?_alloc_lt _ _ _ hgl).trans hg4
  have hah := As_hit ⟨b, 0, none⟩ w4.heap.size (.pointer none) (w4.alloc (.cells #[.pointer none] 60)) hg5 (new_cell _ _ _ 0) (new_fz _ _ _ 0) (by simp only at hgl; omega)
  have HAH := Lib.hid hah
  clear hah hg4 hg5 hg
  go_wp2_with (go_at_call 26; refine HAH.out.mono ?_; rintro e w5 ⟨rfl, ht, hb5⟩)
  go_ret2
  exact ⟨rfl, B4.trans ((((Below.refl _ _).alloc (Nat.le_refl _) _).trans hb5).mono B4.size)⟩

/-- what Print answers -/
def PrintTo (p : Option Tx) (w : World) (e : Ending) (w' : World) : Prop := Below w.heap.size w w' ∧ match p with
  | some t => e = .returned (.tuple #[.string (bs t), .nilIface])
  | none => e = .returned (.tuple #[.string (bs []), .iface 45 (.int .i64 1)])
/-- a rule's line, where it has one -/
noncomputable def printP (r : Ru) : Option Tx := by
  classical exact match parseL (joinP (lineP r)) with
    | .ok s => if s = r then some (joinP (lineP r)) else none
    | _ => none
theorem printP_some {r : Ru} {t : Tx} : printP r = some t ↔ (t = joinP (lineP r) ∧ parseL (joinP (lineP r)) = .ok r) := by
  unfold printP
  split
  · rename_i s h
    split
    · rename_i e; subst e; rw [h]; simp [eq_comm]
    · rename_i e
      rw [h]
      constructor
      · intro h; cases h
      · rintro ⟨_, h⟩; injection h with h; exact absurd h e
  · rename_i h
    constructor
    · intro h; cases h
    · rintro ⟨_, h2⟩; exact absurd h2 (h r)
theorem ok_list {L : Tx} {r : Ru} (h : parseL L = .ok r) : r.list.length ≤ L.length := by
  have hc := words_count L
  have hp := partL_le L
  have hb := words_bounds L
  unfold parseL at h
  split at h
  · cases h
  split at h
  · cases h
  rename_i hne
  unfold parseW at h
  split at h
  · cases h
  rename_i hm
  split at h
  · cases h
  have hr : (ruleP (tx (wordsL L))).1 = r := by injection h
  obtain ⟨hk, hm0⟩ := mis_zero (fun x hx => (hb x hx).1) (by cases hh : wordsL L with | nil => exact absurd hh hne | cons a r => simp) (show misP (wordsL L) (ruleP (tx (wordsL L))).2 = 0 by omega)
  have hF := (formed hm0 (rule_le _)).1
  rw [hr, tx_len] at hF
  omega
theorem print_any (r : Ru) (A : Option Addr) (ca : Nat) (ln : Int) (w : World) (hla : LAt w A ca r.list)
    (hlw : ∀ X, Below w.heap.size w X → Calls Tryz.prog 24 #[ruV r (.slice A r.list.length ca) ln] X (LineTo (lineP r) X)) (hn : (lineP r).length ≤ 1048676) (hj : (joinP (lineP r)).length ≤ 1099511627776) (hg : HandleAt w) :
    Calls Tryz.prog 11 #[ruV r (.slice A r.list.length ca) ln] w (PrintTo (printP r) w) := by
  have h0 : 0 < (lineP r).length := by simp [lineP]
  cases hp : parseL (joinP (lineP r)) with
  | ok s =>
    by_cases e : s = r
    · subst e
      rw [printP_some.2 ⟨rfl, hp⟩]
      obtain ⟨kd, nm, l, rn, rm, rf, rt, rb, ra, ri⟩ := s
      exact (print_ok kd nm l rn rm rf rt rb ra ri A ca ln _ w hla hlw h0 hn hj hp).mono fun e w' h => ⟨h.2, h.1⟩
    · have hq : printP r = none := by
        cases hh : printP r with
        | none => rfl
        | some t => have := (printP_some.1 hh).2; rw [hp] at this; injection this with this; exact absurd this e
      rw [hq]
      have hl' := ok_list hp
      obtain ⟨kd, nm, l, rn, rm, rf, rt, rb, ra, ri⟩ := r
      obtain ⟨kd', nm', l', rn', rm', rf', rt', rb', ra', ri'⟩ := s
      exact (print_differ kd nm l rn rm rf rt rb ra ri A ca ln _ w hla hlw h0 hn hj kd' nm' l' rn' rm' rf' rt' rb' ra' ri' hp e (by simp only at hl'; omega)).mono fun e w' h => ⟨h.2, h.1⟩
  | empty =>
    have hq : printP r = none := by
      cases hh : printP r with
      | none => rfl
      | some t => have := (printP_some.1 hh).2; rw [hp] at this; cases this
    rw [hq]
    obtain ⟨kd, nm, l, rn, rm, rf, rt, rb, ra, ri⟩ := r
    exact (print_empty kd nm l rn rm rf rt rb ra ri A ca ln _ w hla hlw h0 hn hj hp).mono fun e w' h => ⟨h.2, h.1⟩
  | bad c k =>
    have hq : printP r = none := by
      cases hh : printP r with
      | none => rfl
      | some t => have := (printP_some.1 hh).2; rw [hp] at this; cases this
    rw [hq]
    obtain ⟨kd, nm, l, rn, rm, rf, rt, rb, ra, ri⟩ := r
    exact (print_bad kd nm l rn rm rf rt rb ra ri A ca ln _ w hla hlw h0 hn hj c k hp hg).mono fun e w' h => ⟨h.2, h.1⟩
end Go.Proofs.YtahgfmobdfhaaaaGreatDoor
/-
  rule.Print at a rule that is not too big.
-/
namespace Go.Proofs.YtahgfmobdfhaaaaGreatDoor
set_option maxRecDepth 100000
open Go.ChangeShapes Go.WideShapes Go.ChangeAt Go.RowKit

theorem print_in (x : Ru) (A : Option Addr) (c : Nat) (ln : Int) (W : World) (hL : LIn W A c x.list) (hn : -9223372036854775808 ≤ x.n ∧ x.n ≤ 9223372036854775807) (hm : -9223372036854775808 ≤ x.m ∧ x.m ≤ 9223372036854775807) (hs : totR x ≤ 1048576) (hg : HandleAt W) (ht : TabAt W) :
    Calls Tryz.prog 11 #[ruV x (.slice A x.list.length c) ln] W (PrintTo (printP x) W) := by
  have h1 := line_sum x hn.1 hn.2 hm.1 hm.2
  have h2 := sum_len (lineP x)
  have h3 := join_sum (lineP x)
  have h4 := sum_len x.list
  have h5 : x.list.length ≤ 1048576 := by simp only [totR] at hs; omega
  exact print_any x A c ln W (hL.at (by omega)) (fun X hX => lineWords_any x A c ln X (hL.below hX) h5 hn.1 hn.2 hm.1 hm.2 (ht.below hX)) (by omega) (by omega) hg
end Go.Proofs.YtahgfmobdfhaaaaGreatDoor
/-
  Package chart: Compile.
-/
namespace Go.Proofs.YtahgfmobdfhaaaaGreatDoor
set_option maxRecDepth 100000
open Go.ChangeShapes Go.WideShapes Go.ChangeAt Go.RowKit

section
variable {w0 W : World} {b : Nat} {acc : List RL} {c : Ch} {vN vK vP vT vS : Value}
theorem tk_zero {c' : Ch} {err : Int} {e : Ending} {w' : World} (h : TkTo w0 W b acc c' vS err e w') (h0 : err = 0) : e = .returned .nilIface ∧ ∃ vN vK vP vT, BA w0 w' b acc c' vN vK vP vT vS := by
  rcases h with h | h
  · exact h.2
  · exact absurd h0 h.1
theorem tk_pos {c' : Ch} {err : Int} {e : Ending} {w' : World} (h : TkTo w0 W b acc c' vS err e w') (h0 : err ≠ 0) : e = .returned (.iface 45 (.int .i64 err)) ∧ Below W.heap.size W w' := by
  rcases h with h | h
  · exact absurd h.1 h0
  · exact h.2
theorem tk_on {c' : Ch} {err : Int} {e : Ending} {w' : World} (h0 : err = 0) (he : e = .returned .nilIface) (h : ∃ vN vK vP vT, BA w0 w' b acc c' vN vK vP vT vS) : TkTo w0 W b acc c' vS err e w' := .inl ⟨h0, he, h⟩
set_option maxHeartbeats 4000000 in
theorem takeR_any (R : BA w0 W b acc c vN vK vP vT vS) (hf : ChF c) (hi : ChI c) (ha : acc.length ≤ 1000) (r : Ru) (A : Option Addr) (n9 c9 : Nat) (ln : Int) (hn : (Lit.int .i64 r.n).wf = true) :
    Calls Tryz.prog 13 #[.pointer (some ⟨b, 0, none⟩), ruV r (.slice A n9 c9) ln] W (TkTo w0 W b acc (takeC (acc.map er) c r) vS (takeE (acc.map er) c r)) := by
  have RB := R.below (box_b W (.cells #[.int .i64 r.kind, .string (bs r.name), .slice A n9 c9, .int .i64 r.n, .int .i64 r.m, .string (bs r.from_), .string (bs r.to_), .string (bs r.by_), .string (bs r.task), .string (bs r.in_), .int .i64 ln] 41))
  have HW := Lib.hid (box_b W (.cells #[.int .i64 r.kind, .string (bs r.name), .slice A n9 c9, .int .i64 r.n, .int .i64 r.m, .string (bs r.from_), .string (bs r.to_), .string (bs r.by_), .string (bs r.task), .string (bs r.in_), .int .i64 ln] 41))
  have TS := Lib.hid (takeState_any RB hf hi r A n9 c9 ln hn)
  have TT := Lib.hid (takeTrans_any RB hf ha r A n9 c9 ln)
  have HE1 : Hid (takeE (acc.map er) c r = if r.kind = 8 then stErr c r else if isTr r then trErr (acc.map er) c r else 0) := rfl
  have HC1 : Hid (takeC (acc.map er) c r = if r.kind = 8 then stAdd c r else if isTr r then trAdd (acc.map er) c r else c) := rfl
  have HT1 : Hid (isTr r ↔ (r.kind = 9 ∨ r.kind = 10 ∨ r.kind = 11)) := Iff.rfl
  generalize stErr c r = e1 at *
  generalize trErr (acc.map er) c r = e2 at *
  generalize takeE (acc.map er) c r = e3 at *
  generalize takeC (acc.map er) c r = c3 at *
  generalize stAdd c r = c1 at *
  generalize trAdd (acc.map er) c r = c2 at *
  obtain ⟨kd, nm, l, rn, rm, rf, rt, rb, ra, ri⟩ := r
  simp only at hn
  dsimp only [ruV] at TS TT ⊢
  have R0 := heap_alloc_new W (.cells #[.int .i64 kd, .string (bs nm), .slice A n9 c9, .int .i64 rn, .int .i64 rm, .string (bs rf), .string (bs rt), .string (bs rb), .string (bs ra), .string (bs ri), .int .i64 ln] 41)
  have p0 := row_q0 R0; have p1 := row_q1 R0; have p2 := row_q2 R0; have p3 := row_q3 R0; have p4 := row_q4 R0; have p5 := row_q5 R0; have p6 := row_q6 R0; have p7 := row_q7 R0; have p8 := row_q8 R0; have p9 := row_q9 R0; have p10 := row_q10 R0
  clear R0 R hf hi
  by_cases h8 : kd = 8
  · have HE : Hid (e3 = e1) := by show _ = _; rw [HE1.out, if_pos h8]
    have HC : Hid (c3 = c1) := by show _ = _; rw [HC1.out, if_pos h8]
    clear HE1 HC1 HT1 TT RB
    subst h8
    by_cases h0 : e1 = 0
    · have TZ := Lib.hid (TS.out.mono fun e w' h => tk_zero h h0)
      have H0 := Lib.hid h0
      clear h0 TS
      go_enter Tryz.func13, Tryz.ntmps13
      go_wp2_with (go_at_call 30; refine TZ.out.mono ?_; rintro e w2 ⟨rfl, h2⟩)
      go_ret
      exact tk_on (HE.out.trans H0.out) rfl (HC.out.symm ▸ h2)
    · have TZ := Lib.hid (TS.out.mono fun e w' h => tk_pos h h0)
      have H0 := Lib.hid h0
      clear h0 TS
      go_enter Tryz.func13, Tryz.ntmps13
      go_wp2_with (go_at_call 30; refine TZ.out.mono ?_; rintro e w2 ⟨rfl, h2⟩)
      go_ret
      exact tkTo_no HE.out H0.out (below_then HW.out h2 HW.out.size)
  have g8 : (kd == 8) = false := beq_eq_false_iff_ne.2 h8
  by_cases ht : kd = 9 ∨ kd = 10 ∨ kd = 11
  · have HE : Hid (e3 = e2) := by show _ = _; rw [HE1.out, if_neg h8, if_pos (HT1.out.2 ht)]
    have HC : Hid (c3 = c2) := by show _ = _; rw [HC1.out, if_neg h8, if_pos (HT1.out.2 ht)]
    clear HE1 HC1 HT1 TS RB h8
    by_cases h0 : e2 = 0
    · have TZ := Lib.hid (TT.out.mono fun e w' h => tk_zero h h0)
      have H0 := Lib.hid h0
      clear h0 TT
      rcases ht with rfl | rfl | rfl
      all_goals
        go_enter Tryz.func13, Tryz.ntmps13
        go_wp2_with (go_at_call 31; refine TZ.out.mono ?_; rintro e w2 ⟨rfl, h2⟩)
        go_ret
        exact tk_on (HE.out.trans H0.out) rfl (HC.out.symm ▸ h2)
    · have TZ := Lib.hid (TT.out.mono fun e w' h => tk_pos h h0)
      have H0 := Lib.hid h0
      clear h0 TT
      rcases ht with rfl | rfl | rfl
      all_goals
        go_enter Tryz.func13, Tryz.ntmps13
        go_wp2_with (go_at_call 31; refine TZ.out.mono ?_; rintro e w2 ⟨rfl, h2⟩)
        go_ret
        exact tkTo_no HE.out H0.out (below_then HW.out h2 HW.out.size)
  · have HE : Hid (e3 = 0) := by show _ = _; rw [HE1.out, if_neg h8, if_neg (fun h => ht (HT1.out.1 h))]
    have HC : Hid (c3 = c) := by show _ = _; rw [HC1.out, if_neg h8, if_neg (fun h => ht (HT1.out.1 h))]
    have g9 : (kd == 9) = false := beq_eq_false_iff_ne.2 fun e => ht (.inl e)
    have g10 : (kd == 10) = false := beq_eq_false_iff_ne.2 fun e => ht (.inr (.inl e))
    have g11 : (kd == 11) = false := beq_eq_false_iff_ne.2 fun e => ht (.inr (.inr e))
    have HR := Lib.hid RB
    clear HE1 HC1 HT1 TS TT h8 ht RB
    go_enter Tryz.func13, Tryz.ntmps13
    go_wp2
    go_ret
    exact tk_on HE.out rfl (HC.out.symm ▸ ⟨_, _, _, _, HR.out⟩)
end
end Go.Proofs.YtahgfmobdfhaaaaGreatDoor
/-
  Rules that are small.
-/
namespace Go.Proofs.YtahgfmobdfhaaaaGreatDoor
set_option maxRecDepth 100000

def Small (x : Ru) : Prop := (-9223372036854775808 ≤ x.n ∧ x.n ≤ 9223372036854775807) ∧ (-9223372036854775808 ≤ x.m ∧ x.m ≤ 9223372036854775807) ∧ totR x ≤ 1048576
end Go.Proofs.YtahgfmobdfhaaaaGreatDoor
