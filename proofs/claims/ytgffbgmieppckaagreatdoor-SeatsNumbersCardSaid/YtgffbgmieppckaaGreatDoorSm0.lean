import Derived.Test.YtgffbgmieppckaaGreatDoorSame2
import Derived.Test.YtgffbgmieppckaaGreatDoorPol6
import Derived.Test.YtgffbgmieppckaaGreatDoorSameEq
namespace Go.Proofs.YtgffbgmieppckaaGreatDoor
set_option maxRecDepth 100000
open Go.ChangeShapes Go.WideShapes Go.ChangeAt Go.RowKit
theorem HandleAt.below' {w w' : World} (h : HandleAt w) (hb : Below w.heap.size w w') : HandleAt w' := (hb.cell (World.block_lt_of_cell? w _ h)).trans h
theorem sameNe (r s : Ru) (A B : Option Addr) (ca cb : Nat) (la ln : Int) (w : World) (ha : LAt w A ca r.list) (hb : LAt w B cb s.list) (hne : r ≠ s) :
  Calls Tryz.prog 135 #[ruV r (.slice A r.list.length ca) la, ruV s (.slice B s.list.length cb) ln] w (ValB (.bool false) w) := by
 obtain ⟨kd, nm, l, rn, rm, rf, rt, rb, ra, ri⟩ := r
 obtain ⟨kd', nm', l', rn', rm', rf', rt', rb', ra', ri'⟩ := s
 by_cases h1 : kd = kd' ∧ rn = rn' ∧ rm = rm'
 ·by_cases h2 : nm = nm' ∧ rf = rf' ∧ rt = rt' ∧ rb = rb' ∧ ra = ra' ∧ ri = ri'
  ·have h3 : l ≠ l' := by
    intro e
    obtain ⟨rfl, rfl, rfl⟩ := h1
    obtain ⟨rfl, rfl, rfl, rfl, rfl, rfl⟩ := h2
    subst e
    exact hne rfl
   refine same_lists kd rn rm la _ _ _ _ _ _ A l.length ca kd' rn' rm' ln _ _ _ _ _ _ B l'.length cb w (fun W => ?_) (fun W => ?_) _ (fun W hW => ?_)
   ·rw [eqNums, decide_eq_true h1]
   ·rw [eqTexts, decide_eq_true h2]
   ·have := Equal_any l l' A B ca cb W (ha.below hW) (hb.below hW)
    rw [decide_eq_false h3] at this
    exact this
  ·refine same_texts kd rn rm la _ _ _ _ _ _ A l.length ca kd' rn' rm' ln _ _ _ _ _ _ B l'.length cb w (fun W => ?_) (fun W => ?_)
   ·rw [eqNums, decide_eq_true h1]
   ·rw [eqTexts, decide_eq_false h2]
 ·refine same_nums kd rn rm la _ _ _ _ _ _ A l.length ca kd' rn' rm' ln _ _ _ _ _ _ B l'.length cb w (fun W => ?_)
  rw [eqNums, decide_eq_false h1]
set_option maxHeartbeats 4000000 in
theorem print_differ (kd : Int) (nm : Tx) (l : List Tx) (rn rm : Int) (rf rt rb ra ri : Tx) (A : Option Addr) (ca : Nat) (ln : Int) (W : List Tx) (w : World) (hla : LAt w A ca l)
  (hlw : ∀ X, Below w.heap.size w X → Calls Tryz.prog 133 #[.agg #[.int .i64 kd, .string (bs nm), .slice A l.length ca, .int .i64 rn, .int .i64 rm, .string (bs rf), .string (bs rt), .string (bs rb), .string (bs ra), .string (bs ri), .int .i64 ln]] X (LineTo W X)) (h0 : 0 < W.length) (hn : W.length ≤ 1048676) (hj : (joinP W).length ≤ 1099511627776) (kd' : Int) (nm' : Tx) (l' : List Tx) (rn' rm' : Int) (rf' rt' rb' ra' ri' : Tx) (hp : parseL (joinP W) = .ok ⟨kd', nm', l', rn', rm', rf', rt', rb', ra', ri'⟩) (hne : (⟨kd', nm', l', rn', rm', rf', rt', rb', ra', ri'⟩ : Ru) ≠ ⟨kd, nm, l, rn, rm, rf, rt, rb, ra, ri⟩) (hl' : l'.length ≤ 9223372036854775807) :
  Calls Tryz.prog 70 #[.agg #[.int .i64 kd, .string (bs nm), .slice A l.length ca, .int .i64 rn, .int .i64 rm, .string (bs rf), .string (bs rt), .string (bs rb), .string (bs ra), .string (bs ri), .int .i64 ln]] w fun e w' => e = .returned (.tuple #[.string (bs []), .iface 39 (.int .i64 1)]) ∧ Below w.heap.size w w' := by
 have hpar := fun X => Parse_any (bs (joinP W)) ln X (by rw [size_bs]; omega) (fun _ => by have := partL_le (bs (joinP W)).data.toList; rw [list_bs] at this ⊢; omega)
 rw [list_bs, hp] at hpar
 have HP := Lib.hid hpar
 have B0 : Below w.heap.size w (w.alloc (.cells #[.int .i64 kd, .string (bs nm), .slice A l.length ca, .int .i64 rn, .int .i64 rm, .string (bs rf), .string (bs rt), .string (bs rb), .string (bs ra), .string (bs ri), .int .i64 ln] 31)) := (Below.refl _ _).alloc (Nat.le_refl _) _
 have R0 : (w.alloc (.cells #[.int .i64 kd, .string (bs nm), .slice A l.length ca, .int .i64 rn, .int .i64 rm, .string (bs rf), .string (bs rt), .string (bs rb), .string (bs ra), .string (bs ri), .int .i64 ln] 31)).heap[w.heap.size]? = some (.cells #[.int .i64 kd, .string (bs nm), .slice A l.length ca, .int .i64 rn, .int .i64 rm, .string (bs rf), .string (bs rt), .string (bs rb), .string (bs ra), .string (bs ri), .int .i64 ln] 31 (0, 0)) := heap_alloc_new _ _
 have LW := Lib.hid (hlw _ B0)
 clear hpar hlw hp
 go_enter Tryz.func70, Tryz.ntmps70
 go_upto_region 2 with (first
  | (go_at_call 133; refine LW.out.mono ?_; rintro e w1 ⟨v, rfl, ho, hb1⟩)
  | (go_at_call 132; refine (Join_any _ _ _ _ ho (by omega) hn h0).mono ?_; rintro e w2 ⟨rfl, hb2⟩))
 have R2 := row_below (row_below R0 hb1) hb2
 have B2 := below_then (below_then B0 hb1 B0.size) hb2 (Nat.le_trans B0.size hb1.size)
 obtain ⟨q0, q1, q2, q3, q4, q5, q6, q7, q8, q9, q10⟩ := row_qs0 R2
 go_upto_region 3 with (go_at_call 134; refine (HP.out _).mono ?_; rintro e w3 ⟨hb3, L, rfl, ho3⟩; obtain ⟨A2, c2, rfl⟩ := own_slice ho3; dsimp only [ruV])
 clear q0 q1 q2 q3 q4 q5 q6 q7 q8 q9 q10
 have R3 := row_below R2 hb3
 have B3 := below_then B2 hb3 B2.size
 have RA : (w3.alloc (.cells #[.int .i64 kd', .string (bs nm'), .slice A2 l'.length c2, .int .i64 rn', .int .i64 rm', .string (bs rf'), .string (bs rt'), .string (bs rb'), .string (bs ra'), .string (bs ri'), .int .i64 ln] 31)).heap[w.heap.size]? = some (.cells #[.int .i64 kd, .string (bs nm), .slice A l.length ca, .int .i64 rn, .int .i64 rm, .string (bs rf), .string (bs rt), .string (bs rb), .string (bs ra), .string (bs ri), .int .i64 ln] 31 (0, 0)) := row_alloc R3 _
 have RB : (w3.alloc (.cells #[.int .i64 kd', .string (bs nm'), .slice A2 l'.length c2, .int .i64 rn', .int .i64 rm', .string (bs rf'), .string (bs rt'), .string (bs rb'), .string (bs ra'), .string (bs ri'), .int .i64 ln] 31)).heap[w3.heap.size]? = some (.cells #[.int .i64 kd', .string (bs nm'), .slice A2 l'.length c2, .int .i64 rn', .int .i64 rm', .string (bs rf'), .string (bs rt'), .string (bs rb'), .string (bs ra'), .string (bs ri'), .int .i64 ln] 31 (0, 0)) := heap_alloc_new _ _
 have LB : LAt (w3.alloc (.cells #[.int .i64 kd', .string (bs nm'), .slice A2 l'.length c2, .int .i64 rn', .int .i64 rm', .string (bs rf'), .string (bs rt'), .string (bs rb'), .string (bs ra'), .string (bs ri'), .int .i64 ln] 31)) A2 c2 l' := (lAt_of (listAt_of ho3) hl').below ((Below.refl _ _).alloc (Nat.le_refl _) _)
 have B4 : Below w.heap.size w (w3.alloc (.cells #[.int .i64 kd', .string (bs nm'), .slice A2 l'.length c2, .int .i64 rn', .int .i64 rm', .string (bs rf'), .string (bs rt'), .string (bs rb'), .string (bs ra'), .string (bs ri'), .int .i64 ln] 31)) := B3.alloc B3.size _
 have hb12 := hb1
 clear ho ho3 R3 R2 R0 LW HP
 generalize w3.alloc (.cells #[.int .i64 kd', .string (bs nm'), .slice A2 l'.length c2, .int .i64 rn', .int .i64 rm', .string (bs rf'), .string (bs rt'), .string (bs rb'), .string (bs ra'), .string (bs ri'), .int .i64 ln] 31) = w4 at *
 generalize w3.heap.size = b4 at *
 have RA5 := row_alloc RA (.cells #[.pointer none] 175)
 have RB5 := row_alloc RB (.cells #[.pointer none] 175)
 have B5 : Below w4.heap.size w4 (w4.alloc (.cells #[.pointer none] 175)) := (Below.refl _ _).alloc (Nat.le_refl _) _
 have SM := Lib.hid (sameNe ⟨kd', nm', l', rn', rm', rf', rt', rb', ra', ri'⟩ ⟨kd, nm, l, rn, rm, rf, rt, rb, ra, ri⟩ A2 A c2 ca ln ln (w4.alloc (.cells #[.pointer none] 175)) (LB.below B5) ((hla.below B4).below B5) hne)
 dsimp only [ruV] at SM
 clear RA RB LB hla hb12 hne
 obtain ⟨q0, q1, q2, q3, q4, q5, q6, q7, q8, q9, q10⟩ := row_qs0 RA5
 obtain ⟨r0, r1, r2, r3, r4, r5, r6, r7, r8, r9, r10⟩ := row_qs0 RB5
 go_wp2_with (first
  | (go_at_call 93; refine (As_nil _ _).mono ?_; rintro e w5 ⟨rfl, rfl⟩)
  | (go_at_call 135; refine SM.out.mono ?_; rintro e w6 ⟨rfl, hb6⟩))
 go_ret2
 exact ⟨rfl, below_then (B4.alloc B4.size _) hb6 (by have := B4.size; simp; omega)⟩
set_option maxHeartbeats 4000000 in
theorem print_empty (kd : Int) (nm : Tx) (l : List Tx) (rn rm : Int) (rf rt rb ra ri : Tx) (A : Option Addr) (ca : Nat) (ln : Int) (W : List Tx) (w : World) (_hla : LAt w A ca l)
  (hlw : ∀ X, Below w.heap.size w X → Calls Tryz.prog 133 #[.agg #[.int .i64 kd, .string (bs nm), .slice A l.length ca, .int .i64 rn, .int .i64 rm, .string (bs rf), .string (bs rt), .string (bs rb), .string (bs ra), .string (bs ri), .int .i64 ln]] X (LineTo W X)) (h0 : 0 < W.length) (hn : W.length ≤ 1048676) (hj : (joinP W).length ≤ 1099511627776) (hp : parseL (joinP W) = .empty) :
  Calls Tryz.prog 70 #[.agg #[.int .i64 kd, .string (bs nm), .slice A l.length ca, .int .i64 rn, .int .i64 rm, .string (bs rf), .string (bs rt), .string (bs rb), .string (bs ra), .string (bs ri), .int .i64 ln]] w fun e w' => e = .returned (.tuple #[.string (bs []), .iface 39 (.int .i64 1)]) ∧ Below w.heap.size w w' := by
 have hpar := fun X => Parse_any (bs (joinP W)) ln X (by rw [size_bs]; omega) (fun _ => by have := partL_le (bs (joinP W)).data.toList; rw [list_bs] at this ⊢; omega)
 rw [list_bs, hp] at hpar
 have HP := Lib.hid hpar
 have B0 : Below w.heap.size w (w.alloc (.cells #[.int .i64 kd, .string (bs nm), .slice A l.length ca, .int .i64 rn, .int .i64 rm, .string (bs rf), .string (bs rt), .string (bs rb), .string (bs ra), .string (bs ri), .int .i64 ln] 31)) := (Below.refl _ _).alloc (Nat.le_refl _) _
 have R0 : (w.alloc (.cells #[.int .i64 kd, .string (bs nm), .slice A l.length ca, .int .i64 rn, .int .i64 rm, .string (bs rf), .string (bs rt), .string (bs rb), .string (bs ra), .string (bs ri), .int .i64 ln] 31)).heap[w.heap.size]? = some (.cells #[.int .i64 kd, .string (bs nm), .slice A l.length ca, .int .i64 rn, .int .i64 rm, .string (bs rf), .string (bs rt), .string (bs rb), .string (bs ra), .string (bs ri), .int .i64 ln] 31 (0, 0)) := heap_alloc_new _ _
 have LW := Lib.hid (hlw _ B0)
 clear hpar hlw hp
 go_enter Tryz.func70, Tryz.ntmps70
 go_upto_region 2 with (first
  | (go_at_call 133; refine LW.out.mono ?_; rintro e w1 ⟨v, rfl, ho, hb1⟩)
  | (go_at_call 132; refine (Join_any _ _ _ _ ho (by omega) hn h0).mono ?_; rintro e w2 ⟨rfl, hb2⟩))
 have R2 := row_below (row_below R0 hb1) hb2
 have B2 := below_then (below_then B0 hb1 B0.size) hb2 (Nat.le_trans B0.size hb1.size)
 obtain ⟨q0, q1, q2, q3, q4, q5, q6, q7, q8, q9, q10⟩ := row_qs0 R2
 go_upto_region 3 with (go_at_call 134; refine (HP.out _).mono ?_; rintro e w3 ⟨hb3, rfl⟩; dsimp only [zeroV, zero11])
 have B3 := below_then B2 hb3 B2.size
 clear q0 q1 q2 q3 q4 q5 q6 q7 q8 q9 q10
 go_wp2_with (first
  | (go_at_call 93; refine (As_nil _ _).mono ?_; rintro e w5 ⟨rfl, rfl⟩))
 go_ret2
 exact ⟨rfl, (B3.alloc B3.size _).alloc (by have := B3.size; simp; omega) _⟩
set_option maxHeartbeats 4000000 in
theorem print_bad (kd : Int) (nm : Tx) (l : List Tx) (rn rm : Int) (rf rt rb ra ri : Tx) (A : Option Addr) (ca : Nat) (ln : Int) (W : List Tx) (w : World) (_hla : LAt w A ca l)
  (hlw : ∀ X, Below w.heap.size w X → Calls Tryz.prog 133 #[.agg #[.int .i64 kd, .string (bs nm), .slice A l.length ca, .int .i64 rn, .int .i64 rm, .string (bs rf), .string (bs rt), .string (bs rb), .string (bs ra), .string (bs ri), .int .i64 ln]] X (LineTo W X)) (h0 : 0 < W.length) (hn : W.length ≤ 1048676) (hj : (joinP W).length ≤ 1099511627776) (c : Nat) (k : Int) (hp : parseL (joinP W) = .bad c k) (hg : HandleAt w) :
  Calls Tryz.prog 70 #[.agg #[.int .i64 kd, .string (bs nm), .slice A l.length ca, .int .i64 rn, .int .i64 rm, .string (bs rf), .string (bs rt), .string (bs rb), .string (bs ra), .string (bs ri), .int .i64 ln]] w fun e w' => e = .returned (.tuple #[.string (bs []), .iface 39 (.int .i64 1)]) ∧ Below w.heap.size w w' := by
 have hpar := fun X => Parse_any (bs (joinP W)) ln X (by rw [size_bs]; omega) (fun _ => by have := partL_le (bs (joinP W)).data.toList; rw [list_bs] at this ⊢; omega)
 rw [list_bs, hp] at hpar
 have HP := Lib.hid hpar
 have B0 : Below w.heap.size w (w.alloc (.cells #[.int .i64 kd, .string (bs nm), .slice A l.length ca, .int .i64 rn, .int .i64 rm, .string (bs rf), .string (bs rt), .string (bs rb), .string (bs ra), .string (bs ri), .int .i64 ln] 31)) := (Below.refl _ _).alloc (Nat.le_refl _) _
 have R0 : (w.alloc (.cells #[.int .i64 kd, .string (bs nm), .slice A l.length ca, .int .i64 rn, .int .i64 rm, .string (bs rf), .string (bs rt), .string (bs rb), .string (bs ra), .string (bs ri), .int .i64 ln] 31)).heap[w.heap.size]? = some (.cells #[.int .i64 kd, .string (bs nm), .slice A l.length ca, .int .i64 rn, .int .i64 rm, .string (bs rf), .string (bs rt), .string (bs rb), .string (bs ra), .string (bs ri), .int .i64 ln] 31 (0, 0)) := heap_alloc_new _ _
 have LW := Lib.hid (hlw _ B0)
 clear hpar hlw hp
 go_enter Tryz.func70, Tryz.ntmps70
 go_upto_region 2 with (first
  | (go_at_call 133; refine LW.out.mono ?_; rintro e w1 ⟨v, rfl, ho, hb1⟩)
  | (go_at_call 132; refine (Join_any _ _ _ _ ho (by omega) hn h0).mono ?_; rintro e w2 ⟨rfl, hb2⟩))
 have R2 := row_below (row_below R0 hb1) hb2
 have B2 := below_then (below_then B0 hb1 B0.size) hb2 (Nat.le_trans B0.size hb1.size)
 obtain ⟨q0, q1, q2, q3, q4, q5, q6, q7, q8, q9, q10⟩ := row_qs0 R2
 go_upto_region 3 with (go_at_call 134; refine (HP.out _).mono ?_; rintro e w3 ⟨hb3, b, rfl, hlb, hbl, hF⟩; dsimp only [zeroV, zero11])
 have B3 := below_then B2 hb3 B2.size
 clear q0 q1 q2 q3 q4 q5 q6 q7 q8 q9 q10
 have hg3 : HandleAt w3 := hg.below' B3
 have B4 : Below w.heap.size w (w3.alloc (.cells #[.int .i64 0, .string ⟨#[]⟩, .slice none 0 0, .int .i64 0, .int .i64 0, .string ⟨#[]⟩, .string ⟨#[]⟩, .string ⟨#[]⟩, .string ⟨#[]⟩, .string ⟨#[]⟩, .int .i64 0] 31)) := B3.alloc B3.size _
 have hg4 : HandleAt (w3.alloc (.cells #[.int .i64 0, .string ⟨#[]⟩, .slice none 0 0, .int .i64 0, .int .i64 0, .string ⟨#[]⟩, .string ⟨#[]⟩, .string ⟨#[]⟩, .string ⟨#[]⟩, .string ⟨#[]⟩, .int .i64 0] 31)) := hg3.below' ((Below.refl _ _).alloc (Nat.le_refl _) _)
 clear HP LW hF hg3
 generalize w3.alloc (.cells #[.int .i64 0, .string ⟨#[]⟩, .slice none 0 0, .int .i64 0, .int .i64 0, .string ⟨#[]⟩, .string ⟨#[]⟩, .string ⟨#[]⟩, .string ⟨#[]⟩, .string ⟨#[]⟩, .int .i64 0] 31) = w4 at *
 have hgl := World.block_lt_of_cell? _ _ hg4
 have hg5 : HandleAt (w4.alloc (.cells #[.pointer none] 175)) := (World.cell?_alloc_lt _ _ _ hgl).trans hg4
 have hah := As_hit ⟨b, 0, none⟩ w4.heap.size (.pointer none) (w4.alloc (.cells #[.pointer none] 175)) hg5 (new_cell _ _ _ 0) (new_fz _ _ _ 0) (by simp only at hgl; omega)
 have HAH := Lib.hid hah
 clear hah hg4 hg5 hg
 go_wp2_with (go_at_call 93; refine HAH.out.mono ?_; rintro e w5 ⟨rfl, ht, hb5⟩)
 go_ret2
 exact ⟨rfl, B4.trans ((((Below.refl _ _).alloc (Nat.le_refl _) _).trans hb5).mono B4.size)⟩
def PrintTo (p : Option Tx) (w : World) (e : Ending) (w' : World) : Prop := Below w.heap.size w w' ∧ match p with
 | some t => e = .returned (.tuple #[.string (bs t), .nilIface])
 | none => e = .returned (.tuple #[.string (bs []), .iface 39 (.int .i64 1)])
noncomputable def printP (r : Ru) : Option Tx := by
 classical exact match parseL (joinP (lineP r)) with
  | .ok s => if s = r then some (joinP (lineP r)) else none
  | _ => none
theorem printP_some {r : Ru} {t : Tx} : printP r = some t ↔ (t = joinP (lineP r) ∧ parseL (joinP (lineP r)) = .ok r) := by
 unfold printP
 split
 ·rename_i s h
  split
  ·rename_i e; subst e; rw [h]; simp [eq_comm]
  ·rename_i e
   rw [h]
   constructor
   ·intro h; cases h
   ·rintro ⟨_, h⟩; injection h with h; exact absurd h e
 ·rename_i h
  constructor
  ·intro h; cases h
  ·rintro ⟨_, h2⟩; exact absurd h2 (h r)
theorem ok_list {L : Tx} {r : Ru} (h : parseL L = .ok r) : r.list.length ≤ L.length := by
 have hc := words_count L
 have hp := partL_le L
 have hb := words_bounds L
 unfold parseL at h
 split at h
 ·cases h
 split at h
 ·cases h
 rename_i hne
 unfold parseW at h
 split at h
 ·cases h
 rename_i hm
 split at h
 ·cases h
 have hr : (ruleP (tx (wordsL L))).1 = r := by injection h
 obtain ⟨hk, hm0⟩ := mis_zero (fun x hx => (hb x hx).1) (by cases hh : wordsL L with | nil => exact absurd hh hne | cons a r => simp) (show misP (wordsL L) (ruleP (tx (wordsL L))).2 = 0 by omega)
 have hF := (formed hm0 (rule_le _)).1
 rw [hr, tx_len] at hF
 omega
theorem print_any (r : Ru) (A : Option Addr) (ca : Nat) (ln : Int) (w : World) (hla : LAt w A ca r.list)
  (hlw : ∀ X, Below w.heap.size w X → Calls Tryz.prog 133 #[ruV r (.slice A r.list.length ca) ln] X (LineTo (lineP r) X)) (hn : (lineP r).length ≤ 1048676) (hj : (joinP (lineP r)).length ≤ 1099511627776) (hg : HandleAt w) :
  Calls Tryz.prog 70 #[ruV r (.slice A r.list.length ca) ln] w (PrintTo (printP r) w) := by
 have h0 : 0 < (lineP r).length := by simp [lineP]
 cases hp : parseL (joinP (lineP r)) with
 | ok s =>
  by_cases e : s = r
  ·subst e
   rw [printP_some.2 ⟨rfl, hp⟩]
   obtain ⟨kd, nm, l, rn, rm, rf, rt, rb, ra, ri⟩ := s
   exact (print_ok kd nm l rn rm rf rt rb ra ri A ca ln _ w hla hlw h0 hn hj hp).mono fun e w' h => ⟨h.2, h.1⟩
  ·have hq : printP r = none := by
    cases hh : printP r with
    | none => rfl
    | some t => have := (printP_some.1 hh).2; rw [hp] at this; injection this with this; exact absurd this e
   rw [hq]
   have hl' := ok_list hp
   obtain ⟨kd, nm, l, rn, rm, rf, rt, rb, ra, ri⟩ := r
   obtain ⟨kd', nm', l', rn', rm', rf', rt', rb', ra', ri'⟩ := s
   exact (print_differ kd nm l rn rm rf rt rb ra ri A ca ln _ w hla hlw h0 hn hj kd' nm' l' rn' rm' rf' rt' rb' ra' ri' hp e (by simp only at hl'; omega)).mono fun e w' h => ⟨h.2, h.1⟩
 | empty =>
  have hq : printP r = none := by
   cases hh : printP r with
   | none => rfl
   | some t => have := (printP_some.1 hh).2; rw [hp] at this; cases this
  rw [hq]
  obtain ⟨kd, nm, l, rn, rm, rf, rt, rb, ra, ri⟩ := r
  exact (print_empty kd nm l rn rm rf rt rb ra ri A ca ln _ w hla hlw h0 hn hj hp).mono fun e w' h => ⟨h.2, h.1⟩
 | bad c k =>
  have hq : printP r = none := by
   cases hh : printP r with
   | none => rfl
   | some t => have := (printP_some.1 hh).2; rw [hp] at this; cases this
  rw [hq]
  obtain ⟨kd, nm, l, rn, rm, rf, rt, rb, ra, ri⟩ := r
  exact (print_bad kd nm l rn rm rf rt rb ra ri A ca ln _ w hla hlw h0 hn hj c k hp hg).mono fun e w' h => ⟨h.2, h.1⟩
theorem print_in (x : Ru) (A : Option Addr) (c : Nat) (ln : Int) (W : World) (hL : LIn W A c x.list) (hn : -9223372036854775808 ≤ x.n ∧ x.n ≤ 9223372036854775807) (hm : -9223372036854775808 ≤ x.m ∧ x.m ≤ 9223372036854775807) (hs : totR x ≤ 1048576) (hg : HandleAt W) (ht : TabAt W) :
  Calls Tryz.prog 70 #[ruV x (.slice A x.list.length c) ln] W (PrintTo (printP x) W) := by
 have h1 := line_sum x hn.1 hn.2 hm.1 hm.2
 have h2 := sum_len (lineP x)
 have h3 := join_sum (lineP x)
 have h4 := sum_len x.list
 have h5 : x.list.length ≤ 1048576 := by simp only [totR] at hs; omega
 exact print_any x A c ln W (hL.at (by omega)) (fun X hX => lineWords_any x A c ln X (hL.below hX) h5 hn.1 hn.2 hm.1 hm.2 (ht.below hX)) (by omega) (by omega) hg
end Go.Proofs.YtgffbgmieppckaaGreatDoor
namespace Go.Proofs.YtgffbgmieppckaaGreatDoor
set_option maxRecDepth 100000
def Small (x : Ru) : Prop := (-9223372036854775808 ≤ x.n ∧ x.n ≤ 9223372036854775807) ∧ (-9223372036854775808 ≤ x.m ∧ x.m ≤ 9223372036854775807) ∧ totR x ≤ 1048576
end Go.Proofs.YtgffbgmieppckaaGreatDoor
