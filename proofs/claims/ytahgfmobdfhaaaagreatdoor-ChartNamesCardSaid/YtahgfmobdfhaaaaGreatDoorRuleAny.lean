/-
  rule() of any kind: the last kinds, and all.
-/
import Derived.Test.YtahgfmobdfhaaaaGreatDoorRs
import Derived.Test.YtahgfmobdfhaaaaGreatDoorRule4
namespace Go.Proofs.YtahgfmobdfhaaaaGreatDoor
set_option maxRecDepth 100000
open Go.ChangeShapes Go.WideShapes Go.ChangeAt Go.RowKit
set_option maxHeartbeats 2000000 in
theorem rule_none (b g cap : Nat) (ws : List (Nat × List UInt8)) (s0 : St) (w : World) (h : Rd w b g cap ws ⟨0, false⟩) (hC : choiceP (tx ws) kindT ⟨0, false⟩ = ((-1), s0)) :
    Calls Tryz.prog 61 #[.pointer (some ⟨b, 0, none⟩)] w (RuleTo b g cap ws ({ kind := (-1) }, s0) w) := by
  have kc := fun W t h1 h2 h3 => kindChoice b g cap ws ⟨0, false⟩ t W h1 h2 h3 _ hC
  have KC := Lib.hid kc
  clear kc hC
  have hblt := h.blt
  go_enter Tryz.func61, Tryz.ntmps61
  go_upto_region 2 with (first
    | (go_at_call 56; refine (kindWords_any _).mono ?_; rintro e w1 ⟨t, rfl, ht, hst, hb1⟩; have HT := Lib.hid ht; clear ht; have hr1 := h.below2 hb1; have htb : t ≠ b := by have := HT.out; simp at this; omega)
    | (go_at_call 89; refine (KC.out _ _ hr1 hst htb).mono ?_; rintro e w2 ⟨rfl, h2, g2⟩))
  have R0 := RS.start h hb1 h2 g2 (.int .i64 (-1))
  clear hb1 hr1 hst HT htb g2 h2
  go_upto_region 35 with fail
  have R9 := R0
  generalize (w2.alloc _) = W9 at *
  try simp only [List.setIfInBounds_toArray, List.set] at R9
  have q0 := R9.q0; have q1 := R9.q1; have q2 := R9.q2; have q3 := R9.q3; have q4 := R9.q4; have q5 := R9.q5; have q6 := R9.q6; have q7 := R9.q7; have q8 := R9.q8; have q9 := R9.q9; have q10 := R9.q10
  have z0 := R9.z0; have z1 := R9.z1; have z2 := R9.z2; have z3 := R9.z3; have z4 := R9.z4; have z5 := R9.z5; have z6 := R9.z6; have z7 := R9.z7; have z8 := R9.z8; have z9 := R9.z9; have z10 := R9.z10
  have f0 := R9.fzt 0; have f1 := R9.fzt 1; have f2 := R9.fzt 2; have f3 := R9.fzt 3; have f4 := R9.fzt 4; have f5 := R9.fzt 5; have f6 := R9.fzt 6; have f7 := R9.fzt 7; have f8 := R9.fzt 8; have f9 := R9.fzt 9; have f10 := R9.fzt 10
  go_wp2
  have T5 := R9.tell _ rfl
  generalize (World.setCell (World.setCell (World.setCell (World.setCell (World.setCell (World.setCell (World.setCell (World.setCell (World.setCell (World.setCell (World.setCell W9 ⟨w.heap.size, 0, none⟩ (.int .i64 (-1))) ⟨w.heap.size, 1, none⟩ (.string ⟨#[]⟩)) ⟨w.heap.size, 2, none⟩ (.slice none 0 0)) ⟨w.heap.size, 3, none⟩ (.int .i64 0)) ⟨w.heap.size, 4, none⟩ (.int .i64 0)) ⟨w.heap.size, 5, none⟩ (.string ⟨#[]⟩)) ⟨w.heap.size, 6, none⟩ (.string ⟨#[]⟩)) ⟨w.heap.size, 7, none⟩ (.string ⟨#[]⟩)) ⟨w.heap.size, 8, none⟩ (.string ⟨#[]⟩)) ⟨w.heap.size, 9, none⟩ (.string ⟨#[]⟩)) ⟨w.heap.size, 10, none⟩ (.int .i64 0)) = X5 at *
  obtain ⟨h5, r5, g5, gt⟩ := T5
  clear q0 z0 f0 q1 z1 f1 q2 z2 f2 q3 z3 f3 q4 z4 f4 q5 z5 f5 q6 z6 f6 q7 z7 f7 q8 z8 f8 q9 z9 f9 q10 z10 f10
  (try simp only [Exit.inBlock, Exit.then])
  refine bodyPost_ret (results_cell_row rfl _ _ w.heap.size _ _ _ _ rfl r5 Tryz.underlying41 rfl (by kernel_rfl)) rfl ?_
  exact ruleTo_mk rfl h5 (ownL_nil _ _) g5 rfl

set_option maxHeartbeats 2000000 in
theorem rule_zero (b g cap : Nat) (ws : List (Nat × List UInt8)) (s0 : St) (w : World) (h : Rd w b g cap ws ⟨0, false⟩) (hC : choiceP (tx ws) kindT ⟨0, false⟩ = (0, s0)) :
    Calls Tryz.prog 61 #[.pointer (some ⟨b, 0, none⟩)] w (RuleTo b g cap ws ({ kind := 0 }, s0) w) := by
  have kc := fun W t h1 h2 h3 => kindChoice b g cap ws ⟨0, false⟩ t W h1 h2 h3 _ hC
  have KC := Lib.hid kc
  clear kc hC
  have hblt := h.blt
  go_enter Tryz.func61, Tryz.ntmps61
  go_upto_region 2 with (first
    | (go_at_call 56; refine (kindWords_any _).mono ?_; rintro e w1 ⟨t, rfl, ht, hst, hb1⟩; have HT := Lib.hid ht; clear ht; have hr1 := h.below2 hb1; have htb : t ≠ b := by have := HT.out; simp at this; omega)
    | (go_at_call 89; refine (KC.out _ _ hr1 hst htb).mono ?_; rintro e w2 ⟨rfl, h2, g2⟩))
  have R0 := RS.start h hb1 h2 g2 (.int .i64 0)
  clear hb1 hr1 hst HT htb g2 h2
  go_upto_region 35 with fail
  have R9 := R0
  generalize (w2.alloc _) = W9 at *
  try simp only [List.setIfInBounds_toArray, List.set] at R9
  have q0 := R9.q0; have q1 := R9.q1; have q2 := R9.q2; have q3 := R9.q3; have q4 := R9.q4; have q5 := R9.q5; have q6 := R9.q6; have q7 := R9.q7; have q8 := R9.q8; have q9 := R9.q9; have q10 := R9.q10
  have z0 := R9.z0; have z1 := R9.z1; have z2 := R9.z2; have z3 := R9.z3; have z4 := R9.z4; have z5 := R9.z5; have z6 := R9.z6; have z7 := R9.z7; have z8 := R9.z8; have z9 := R9.z9; have z10 := R9.z10
  have f0 := R9.fzt 0; have f1 := R9.fzt 1; have f2 := R9.fzt 2; have f3 := R9.fzt 3; have f4 := R9.fzt 4; have f5 := R9.fzt 5; have f6 := R9.fzt 6; have f7 := R9.fzt 7; have f8 := R9.fzt 8; have f9 := R9.fzt 9; have f10 := R9.fzt 10
  go_wp2
  have T5 := R9.tell _ rfl
  generalize (World.setCell (World.setCell (World.setCell (World.setCell (World.setCell (World.setCell (World.setCell (World.setCell (World.setCell (World.setCell (World.setCell W9 ⟨w.heap.size, 0, none⟩ (.int .i64 0)) ⟨w.heap.size, 1, none⟩ (.string ⟨#[]⟩)) ⟨w.heap.size, 2, none⟩ (.slice none 0 0)) ⟨w.heap.size, 3, none⟩ (.int .i64 0)) ⟨w.heap.size, 4, none⟩ (.int .i64 0)) ⟨w.heap.size, 5, none⟩ (.string ⟨#[]⟩)) ⟨w.heap.size, 6, none⟩ (.string ⟨#[]⟩)) ⟨w.heap.size, 7, none⟩ (.string ⟨#[]⟩)) ⟨w.heap.size, 8, none⟩ (.string ⟨#[]⟩)) ⟨w.heap.size, 9, none⟩ (.string ⟨#[]⟩)) ⟨w.heap.size, 10, none⟩ (.int .i64 0)) = X5 at *
  obtain ⟨h5, r5, g5, gt⟩ := T5
  clear q0 z0 f0 q1 z1 f1 q2 z2 f2 q3 z3 f3 q4 z4 f4 q5 z5 f5 q6 z6 f6 q7 z7 f7 q8 z8 f8 q9 z9 f9 q10 z10 f10
  (try simp only [Exit.inBlock, Exit.then])
  refine bodyPost_ret (results_cell_row rfl _ _ w.heap.size _ _ _ _ rfl r5 Tryz.underlying41 rfl (by kernel_rfl)) rfl ?_
  exact ruleTo_mk rfl h5 (ownL_nil _ _) g5 rfl
end Go.Proofs.YtahgfmobdfhaaaaGreatDoor
namespace Go.Proofs.YtahgfmobdfhaaaaGreatDoor
set_option maxRecDepth 100000
open Go.ChangeShapes Go.WideShapes Go.ChangeAt Go.RowKit
set_option maxHeartbeats 2000000 in
theorem rule_roleA (b g cap : Nat) (ws : List (Nat × List UInt8)) (s0 : St) (w : World) (h : Rd w b g cap ws ⟨0, false⟩) (hC : choiceP (tx ws) kindT ⟨0, false⟩ = (1, s0)) (hp : pk (tx ws) (nameP (tx ws) s0).2 = [62]) :
    Calls Tryz.prog 61 #[.pointer (some ⟨b, 0, none⟩)] w (RuleTo b g cap ws ({ kind := 1, name := (nameP (tx ws) s0).1, list := (namesP (tx ws) 1 [] (tk true (nameP (tx ws) s0).2) ((tx ws).length + 1)).1 }, (namesP (tx ws) 1 [] (tk true (nameP (tx ws) s0).2) ((tx ws).length + 1)).2) w) := by
  have kc := fun W t h1 h2 h3 => kindChoice b g cap ws ⟨0, false⟩ t W h1 h2 h3 _ hC
  have KC := Lib.hid kc
  clear kc hC
  have hblt := h.blt
  have sk : ∀ W, Rd W b g cap ws (nameP (tx ws) s0).2 → Calls Tryz.prog 91 #[.pointer (some ⟨b, 0, none⟩), .string (bs [62])] W (RdTo b g cap ws (tk true (nameP (tx ws) s0).2) (.bool true) W) := fun W hW => by
    have := skip_any b g cap ws _ [62] W hW (by simp)
    rw [show skipP (tx ws) [62] (nameP (tx ws) s0).2 = (true, tk true (nameP (tx ws) s0).2) by simp [skipP, hp]] at this
    exact this
  have SK := Lib.hid sk
  clear sk
  go_enter Tryz.func61, Tryz.ntmps61
  go_upto_region 2 with (first
    | (go_at_call 56; refine (kindWords_any _).mono ?_; rintro e w1 ⟨t, rfl, ht, hst, hb1⟩; have HT := Lib.hid ht; clear ht; have hr1 := h.below2 hb1; have htb : t ≠ b := by have := HT.out; simp at this; omega)
    | (go_at_call 89; refine (KC.out _ _ hr1 hst htb).mono ?_; rintro e w2 ⟨rfl, h2, g2⟩))
  have R0 := RS.start h hb1 h2 g2 (.int .i64 1)
  clear hb1 hr1 hst HT htb g2 h2
  go_upto_region 4 with fail
  go_upto_region 5 with (go_at_call 90; refine (name_any b g cap ws _ _ R0.rd).mono ?_; rintro e w3 ⟨rfl, h3, g3⟩; have R3 := R0.call h3 g3; (try simp only [List.setIfInBounds_toArray, List.set] at R3); have q1 := R3.q1; have f1 := R3.fz 1; clear h3 g3)
  go_upto_region 6 with (go_at_call 91; refine (SK.out _ (R3.store 1 (.string (bs (nameP (tx ws) s0).1))).rd).mono ?_; rintro e w4 ⟨rfl, h4, g4⟩; have R4 := (R3.store 1 (.string (bs (nameP (tx ws) s0).1))).call h4 g4; (try simp only [List.setIfInBounds_toArray, List.set] at R4); clear f1 q1; clear h4 g4)
  go_upto_region 35 with (go_at_call 92; refine (names_any b g cap ws _ 1 _ R4.rd (by omega)).mono ?_; rintro e w5 ⟨vL, rfl, h5, ho, g5⟩; obtain ⟨AL, cL, rfl⟩ := own_slice ho; have R5 := R4.call h5 g5; have OX := RS.own R4 g5 ho; clear ho; (try simp only [List.setIfInBounds_toArray, List.set] at R5); have q2 := R5.q2; have f2 := R5.fz 2; clear h5 g5)
  have R9 := (R5.store 2 (.slice AL (namesP (tx ws) 1 [] (tk true (nameP (tx ws) s0).2) ((tx ws).length + 1)).1.length cL))
  generalize (w5).setCell ⟨w2.heap.size, 2, none⟩ (.slice AL (namesP (tx ws) 1 [] (tk true (nameP (tx ws) s0).2) ((tx ws).length + 1)).1.length cL) = W9 at *
  try simp only [List.setIfInBounds_toArray, List.set] at R9
  clear f2 q2
  have q0 := R9.q0; have q1 := R9.q1; have q2 := R9.q2; have q3 := R9.q3; have q4 := R9.q4; have q5 := R9.q5; have q6 := R9.q6; have q7 := R9.q7; have q8 := R9.q8; have q9 := R9.q9; have q10 := R9.q10
  have z0 := R9.z0; have z1 := R9.z1; have z2 := R9.z2; have z3 := R9.z3; have z4 := R9.z4; have z5 := R9.z5; have z6 := R9.z6; have z7 := R9.z7; have z8 := R9.z8; have z9 := R9.z9; have z10 := R9.z10
  have f0 := R9.fzt 0; have f1 := R9.fzt 1; have f2 := R9.fzt 2; have f3 := R9.fzt 3; have f4 := R9.fzt 4; have f5 := R9.fzt 5; have f6 := R9.fzt 6; have f7 := R9.fzt 7; have f8 := R9.fzt 8; have f9 := R9.fzt 9; have f10 := R9.fzt 10
  go_wp2
  have T5 := R9.tell _ rfl
  generalize (World.setCell (World.setCell (World.setCell (World.setCell (World.setCell (World.setCell (World.setCell (World.setCell (World.setCell (World.setCell (World.setCell W9 ⟨w.heap.size, 0, none⟩ (.int .i64 1)) ⟨w.heap.size, 1, none⟩ (.string (bs (nameP (tx ws) s0).1))) ⟨w.heap.size, 2, none⟩ (.slice AL (namesP (tx ws) 1 [] (tk true (nameP (tx ws) s0).2) ((tx ws).length + 1)).1.length cL)) ⟨w.heap.size, 3, none⟩ (.int .i64 0)) ⟨w.heap.size, 4, none⟩ (.int .i64 0)) ⟨w.heap.size, 5, none⟩ (.string ⟨#[]⟩)) ⟨w.heap.size, 6, none⟩ (.string ⟨#[]⟩)) ⟨w.heap.size, 7, none⟩ (.string ⟨#[]⟩)) ⟨w.heap.size, 8, none⟩ (.string ⟨#[]⟩)) ⟨w.heap.size, 9, none⟩ (.string ⟨#[]⟩)) ⟨w.heap.size, 10, none⟩ (.int .i64 0)) = X5 at *
  obtain ⟨h5, r5, g5, gt⟩ := T5
  clear q0 z0 f0 q1 z1 f1 q2 z2 f2 q3 z3 f3 q4 z4 f4 q5 z5 f5 q6 z6 f6 q7 z7 f7 q8 z8 f8 q9 z9 f9 q10 z10 f10
  (try simp only [Exit.inBlock, Exit.then])
  refine bodyPost_ret (results_cell_row rfl _ _ w.heap.size _ _ _ _ rfl r5 Tryz.underlying41 rfl (by kernel_rfl)) rfl ?_
  exact ruleTo_mk rfl h5 (OX _ gt) g5 rfl

set_option maxHeartbeats 2000000 in
theorem rule_roleB (b g cap : Nat) (ws : List (Nat × List UInt8)) (s0 : St) (w : World) (h : Rd w b g cap ws ⟨0, false⟩) (hC : choiceP (tx ws) kindT ⟨0, false⟩ = (1, s0)) (hp : ¬ pk (tx ws) (nameP (tx ws) s0).2 = [62]) :
    Calls Tryz.prog 61 #[.pointer (some ⟨b, 0, none⟩)] w (RuleTo b g cap ws ({ kind := 1, name := (nameP (tx ws) s0).1 }, (nameP (tx ws) s0).2) w) := by
  have kc := fun W t h1 h2 h3 => kindChoice b g cap ws ⟨0, false⟩ t W h1 h2 h3 _ hC
  have KC := Lib.hid kc
  clear kc hC
  have hblt := h.blt
  have sk : ∀ W, Rd W b g cap ws (nameP (tx ws) s0).2 → Calls Tryz.prog 91 #[.pointer (some ⟨b, 0, none⟩), .string (bs [62])] W (RdTo b g cap ws ((nameP (tx ws) s0).2) (.bool false) W) := fun W hW => by
    have := skip_any b g cap ws _ [62] W hW (by simp)
    rw [show skipP (tx ws) [62] (nameP (tx ws) s0).2 = (false, (nameP (tx ws) s0).2) by simp [skipP, hp]] at this
    exact this
  have SK := Lib.hid sk
  clear sk
  go_enter Tryz.func61, Tryz.ntmps61
  go_upto_region 2 with (first
    | (go_at_call 56; refine (kindWords_any _).mono ?_; rintro e w1 ⟨t, rfl, ht, hst, hb1⟩; have HT := Lib.hid ht; clear ht; have hr1 := h.below2 hb1; have htb : t ≠ b := by have := HT.out; simp at this; omega)
    | (go_at_call 89; refine (KC.out _ _ hr1 hst htb).mono ?_; rintro e w2 ⟨rfl, h2, g2⟩))
  have R0 := RS.start h hb1 h2 g2 (.int .i64 1)
  clear hb1 hr1 hst HT htb g2 h2
  go_upto_region 4 with fail
  go_upto_region 5 with (go_at_call 90; refine (name_any b g cap ws _ _ R0.rd).mono ?_; rintro e w3 ⟨rfl, h3, g3⟩; have R3 := R0.call h3 g3; (try simp only [List.setIfInBounds_toArray, List.set] at R3); have q1 := R3.q1; have f1 := R3.fz 1; clear h3 g3)
  go_upto_region 35 with (go_at_call 91; refine (SK.out _ (R3.store 1 (.string (bs (nameP (tx ws) s0).1))).rd).mono ?_; rintro e w4 ⟨rfl, h4, g4⟩; have R4 := (R3.store 1 (.string (bs (nameP (tx ws) s0).1))).call h4 g4; (try simp only [List.setIfInBounds_toArray, List.set] at R4); clear f1 q1; clear h4 g4)
  have R9 := R4
  generalize w4 = W9 at *
  try simp only [List.setIfInBounds_toArray, List.set] at R9
  have q0 := R9.q0; have q1 := R9.q1; have q2 := R9.q2; have q3 := R9.q3; have q4 := R9.q4; have q5 := R9.q5; have q6 := R9.q6; have q7 := R9.q7; have q8 := R9.q8; have q9 := R9.q9; have q10 := R9.q10
  have z0 := R9.z0; have z1 := R9.z1; have z2 := R9.z2; have z3 := R9.z3; have z4 := R9.z4; have z5 := R9.z5; have z6 := R9.z6; have z7 := R9.z7; have z8 := R9.z8; have z9 := R9.z9; have z10 := R9.z10
  have f0 := R9.fzt 0; have f1 := R9.fzt 1; have f2 := R9.fzt 2; have f3 := R9.fzt 3; have f4 := R9.fzt 4; have f5 := R9.fzt 5; have f6 := R9.fzt 6; have f7 := R9.fzt 7; have f8 := R9.fzt 8; have f9 := R9.fzt 9; have f10 := R9.fzt 10
  go_wp2
  have T5 := R9.tell _ rfl
  generalize (World.setCell (World.setCell (World.setCell (World.setCell (World.setCell (World.setCell (World.setCell (World.setCell (World.setCell (World.setCell (World.setCell W9 ⟨w.heap.size, 0, none⟩ (.int .i64 1)) ⟨w.heap.size, 1, none⟩ (.string (bs (nameP (tx ws) s0).1))) ⟨w.heap.size, 2, none⟩ (.slice none 0 0)) ⟨w.heap.size, 3, none⟩ (.int .i64 0)) ⟨w.heap.size, 4, none⟩ (.int .i64 0)) ⟨w.heap.size, 5, none⟩ (.string ⟨#[]⟩)) ⟨w.heap.size, 6, none⟩ (.string ⟨#[]⟩)) ⟨w.heap.size, 7, none⟩ (.string ⟨#[]⟩)) ⟨w.heap.size, 8, none⟩ (.string ⟨#[]⟩)) ⟨w.heap.size, 9, none⟩ (.string ⟨#[]⟩)) ⟨w.heap.size, 10, none⟩ (.int .i64 0)) = X5 at *
  obtain ⟨h5, r5, g5, gt⟩ := T5
  clear q0 z0 f0 q1 z1 f1 q2 z2 f2 q3 z3 f3 q4 z4 f4 q5 z5 f5 q6 z6 f6 q7 z7 f7 q8 z8 f8 q9 z9 f9 q10 z10 f10
  (try simp only [Exit.inBlock, Exit.then])
  refine bodyPost_ret (results_cell_row rfl _ _ w.heap.size _ _ _ _ rfl r5 Tryz.underlying41 rfl (by kernel_rfl)) rfl ?_
  exact ruleTo_mk rfl h5 (ownL_nil _ _) g5 rfl
end Go.Proofs.YtahgfmobdfhaaaaGreatDoor
namespace Go.Proofs.YtahgfmobdfhaaaaGreatDoor
set_option maxRecDepth 100000
open Go.ChangeShapes Go.WideShapes Go.ChangeAt Go.RowKit

theorem idx_range (l : List Tx) (x : Tx) : ∀ i : Int, 0 ≤ i → idx l x i = -1 ∨ (i ≤ idx l x i ∧ idx l x i < i + l.length) := by
  induction l with
  | nil => intro i _; exact .inl rfl
  | cons t r ih =>
    intro i hi
    rw [idx]; split
    · right; simp; omega
    · rcases ih (i + 1) (by omega) with h | h
      · exact .inl h
      · right; simp only [List.length_cons]; omega
theorem rule_any (b g cap : Nat) (ws : List (Nat × List UInt8)) (w : World) (h : Rd w b g cap ws ⟨0, false⟩) :
    Calls Tryz.prog 61 #[.pointer (some ⟨b, 0, none⟩)] w (RuleTo b g cap ws (ruleP (tx ws)) w) := by
  unfold ruleP
  rcases hC : choiceP (tx ws) kindT ⟨0, false⟩ with ⟨c, s0⟩
  have hr := idx_range kindT (pk (tx ws) ⟨0, false⟩) 0 (by omega)
  have hc : c = idx kindT (pk (tx ws) ⟨0, false⟩) 0 := (congrArg Prod.fst hC).symm
  rw [← hc, show kindT.length = 12 from rfl] at hr
  clear hc
  have : c = -1 ∨ c = 0 ∨ c = 1 ∨ c = 2 ∨ c = 3 ∨ c = 4 ∨ c = 5 ∨ c = 6 ∨ c = 7 ∨ c = 8 ∨ c = 9 ∨ c = 10 ∨ c = 11 := by omega
  clear hr
  rcases this with rfl | rfl | rfl | rfl | rfl | rfl | rfl | rfl | rfl | rfl | rfl | rfl | rfl
  · exact rule_none b g cap ws s0 w h hC
  · exact rule_zero b g cap ws s0 w h hC
  · show Calls _ _ _ _ (RuleTo b g cap ws (roleP (tx ws) s0) w)
    unfold roleP
    by_cases hp : pk (tx ws) (nameP (tx ws) s0).2 = [62]
    · rw [if_pos hp]; exact rule_roleA b g cap ws s0 w h hC hp
    · rw [if_neg hp]; exact rule_roleB b g cap ws s0 w h hC hp
  · exact rule_user2 b g cap ws s0 w h hC
  · exact rule_user3 b g cap ws s0 w h hC
  · exact rule_ssd4 b g cap ws s0 w h hC
  · exact rule_ssd5 b g cap ws s0 w h hC
  · exact rule_excl b g cap ws s0 w h hC
  · exact rule_lend b g cap ws s0 w h hC
  · exact rule_state b g cap ws s0 w h hC
  · exact rule_on b g cap ws s0 w h hC
  · exact rule_auto b g cap ws s0 w h hC
  · exact rule_after b g cap ws s0 w h hC
end Go.Proofs.YtahgfmobdfhaaaaGreatDoor
