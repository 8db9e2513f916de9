/-
  rule.wrong.
-/
import Derived.Test.YtahgfmobdfhaaaaGreatDoorRs
namespace Go.Proofs.YtahgfmobdfhaaaaGreatDoor
set_option maxRecDepth 100000
open Go.ChangeShapes Go.WideShapes Go.ChangeAt Go.RowKit
set_option maxHeartbeats 2000000 in
theorem rule_auto (b g cap : Nat) (ws : List (Nat × List UInt8)) (s0 : St) (w : World) (h : Rd w b g cap ws ⟨0, false⟩) (hC : choiceP (tx ws) kindT ⟨0, false⟩ = (10, s0)) :
    Calls Tryz.prog 61 #[.pointer (some ⟨b, 0, none⟩)] w (RuleTo b g cap ws (autoP (tx ws) s0) w) := by
  have kc := fun W t h1 h2 h3 => kindChoice b g cap ws ⟨0, false⟩ t W h1 h2 h3 _ hC
  have KC := Lib.hid kc
  clear kc hC
  have hblt := h.blt
  go_enter Tryz.func61, Tryz.ntmps61
  go_upto_region 2 with (first
    | (go_at_call 56; refine (kindWords_any _).mono ?_; rintro e w1 ⟨t, rfl, ht, hst, hb1⟩; have HT := Lib.hid ht; clear ht; have hr1 := h.below2 hb1; have htb : t ≠ b := by have := HT.out; simp at this; omega)
    | (go_at_call 89; refine (KC.out _ _ hr1 hst htb).mono ?_; rintro e w2 ⟨rfl, h2, g2⟩))
  have R0 := RS.start h hb1 h2 g2 (.int .i64 10)
  clear hb1 hr1 hst HT htb g2 h2
  go_upto_region 31 with fail
  go_upto_region 35 with (go_at_call 95; refine (fromTo_any b g cap ws _ _ R0.rd).mono ?_; rintro e w3 ⟨rfl, h3, g3⟩; have R3 := R0.call h3 g3; (try simp only [List.setIfInBounds_toArray, List.set] at R3); have q5 := R3.q5; have f5 := R3.fz 5; have q6 := R3.q6; have f6 := R3.fz 6; clear h3 g3)
  have R9 := ((R3.store 5 (.string (bs (fromToP (tx ws) s0).1))).store 6 (.string (bs (fromToP (tx ws) s0).2.1)))
  generalize ((w3).setCell ⟨w2.heap.size, 5, none⟩ (.string (bs (fromToP (tx ws) s0).1))).setCell ⟨w2.heap.size, 6, none⟩ (.string (bs (fromToP (tx ws) s0).2.1)) = W9 at *
  try simp only [List.setIfInBounds_toArray, List.set] at R9
  clear f5 f6 q5 q6
  have q0 := R9.q0; have q1 := R9.q1; have q2 := R9.q2; have q3 := R9.q3; have q4 := R9.q4; have q5 := R9.q5; have q6 := R9.q6; have q7 := R9.q7; have q8 := R9.q8; have q9 := R9.q9; have q10 := R9.q10
  have z0 := R9.z0; have z1 := R9.z1; have z2 := R9.z2; have z3 := R9.z3; have z4 := R9.z4; have z5 := R9.z5; have z6 := R9.z6; have z7 := R9.z7; have z8 := R9.z8; have z9 := R9.z9; have z10 := R9.z10
  have f0 := R9.fzt 0; have f1 := R9.fzt 1; have f2 := R9.fzt 2; have f3 := R9.fzt 3; have f4 := R9.fzt 4; have f5 := R9.fzt 5; have f6 := R9.fzt 6; have f7 := R9.fzt 7; have f8 := R9.fzt 8; have f9 := R9.fzt 9; have f10 := R9.fzt 10
  go_wp2
  have T5 := R9.tell _ rfl
  generalize (World.setCell (World.setCell (World.setCell (World.setCell (World.setCell (World.setCell (World.setCell (World.setCell (World.setCell (World.setCell (World.setCell W9 ⟨w.heap.size, 0, none⟩ (.int .i64 10)) ⟨w.heap.size, 1, none⟩ (.string ⟨#[]⟩)) ⟨w.heap.size, 2, none⟩ (.slice none 0 0)) ⟨w.heap.size, 3, none⟩ (.int .i64 0)) ⟨w.heap.size, 4, none⟩ (.int .i64 0)) ⟨w.heap.size, 5, none⟩ (.string (bs (fromToP (tx ws) s0).1))) ⟨w.heap.size, 6, none⟩ (.string (bs (fromToP (tx ws) s0).2.1))) ⟨w.heap.size, 7, none⟩ (.string ⟨#[]⟩)) ⟨w.heap.size, 8, none⟩ (.string ⟨#[]⟩)) ⟨w.heap.size, 9, none⟩ (.string ⟨#[]⟩)) ⟨w.heap.size, 10, none⟩ (.int .i64 0)) = X5 at *
  obtain ⟨h5, r5, g5, gt⟩ := T5
  clear q0 z0 f0 q1 z1 f1 q2 z2 f2 q3 z3 f3 q4 z4 f4 q5 z5 f5 q6 z6 f6 q7 z7 f7 q8 z8 f8 q9 z9 f9 q10 z10 f10
  (try simp only [Exit.inBlock, Exit.then])
  refine bodyPost_ret (results_cell_row rfl _ _ w.heap.size _ _ _ _ rfl r5 Tryz.underlying41 rfl (by kernel_rfl)) rfl ?_
  exact ruleTo_mk rfl h5 (ownL_nil _ _) g5 rfl

set_option maxHeartbeats 2000000 in
theorem rule_after (b g cap : Nat) (ws : List (Nat × List UInt8)) (s0 : St) (w : World) (h : Rd w b g cap ws ⟨0, false⟩) (hC : choiceP (tx ws) kindT ⟨0, false⟩ = (11, s0)) :
    Calls Tryz.prog 61 #[.pointer (some ⟨b, 0, none⟩)] w (RuleTo b g cap ws (afterP (tx ws) s0) w) := by
  have kc := fun W t h1 h2 h3 => kindChoice b g cap ws ⟨0, false⟩ t W h1 h2 h3 _ hC
  have KC := Lib.hid kc
  clear kc hC
  have hblt := h.blt
  go_enter Tryz.func61, Tryz.ntmps61
  go_upto_region 2 with (first
    | (go_at_call 56; refine (kindWords_any _).mono ?_; rintro e w1 ⟨t, rfl, ht, hst, hb1⟩; have HT := Lib.hid ht; clear ht; have hr1 := h.below2 hb1; have htb : t ≠ b := by have := HT.out; simp at this; omega)
    | (go_at_call 89; refine (KC.out _ _ hr1 hst htb).mono ?_; rintro e w2 ⟨rfl, h2, g2⟩))
  have R0 := RS.start h hb1 h2 g2 (.int .i64 11)
  clear hb1 hr1 hst HT htb g2 h2
  go_upto_region 33 with fail
  go_upto_region 34 with (go_at_call 93; refine (number_any b g cap ws _ _ R0.rd).mono ?_; rintro e w3 ⟨rfl, h3, g3⟩; have R3 := R0.call h3 g3; (try simp only [List.setIfInBounds_toArray, List.set] at R3); have q3 := R3.q3; have f3 := R3.fz 3; clear h3 g3)
  go_upto_region 35 with (go_at_call 95; refine (fromTo_any b g cap ws _ _ (R3.store 3 (.int .i64 (numberP (tx ws) s0).1)).rd).mono ?_; rintro e w4 ⟨rfl, h4, g4⟩; have R4 := (R3.store 3 (.int .i64 (numberP (tx ws) s0).1)).call h4 g4; (try simp only [List.setIfInBounds_toArray, List.set] at R4); clear f3 q3; have q5 := R4.q5; have f5 := R4.fz 5; have q6 := R4.q6; have f6 := R4.fz 6; clear h4 g4)
  have R9 := ((R4.store 5 (.string (bs (fromToP (tx ws) (numberP (tx ws) s0).2).1))).store 6 (.string (bs (fromToP (tx ws) (numberP (tx ws) s0).2).2.1)))
  generalize ((w4).setCell ⟨w2.heap.size, 5, none⟩ (.string (bs (fromToP (tx ws) (numberP (tx ws) s0).2).1))).setCell ⟨w2.heap.size, 6, none⟩ (.string (bs (fromToP (tx ws) (numberP (tx ws) s0).2).2.1)) = W9 at *
  try simp only [List.setIfInBounds_toArray, List.set] at R9
  clear f5 f6 q5 q6
  have q0 := R9.q0; have q1 := R9.q1; have q2 := R9.q2; have q3 := R9.q3; have q4 := R9.q4; have q5 := R9.q5; have q6 := R9.q6; have q7 := R9.q7; have q8 := R9.q8; have q9 := R9.q9; have q10 := R9.q10
  have z0 := R9.z0; have z1 := R9.z1; have z2 := R9.z2; have z3 := R9.z3; have z4 := R9.z4; have z5 := R9.z5; have z6 := R9.z6; have z7 := R9.z7; have z8 := R9.z8; have z9 := R9.z9; have z10 := R9.z10
  have f0 := R9.fzt 0; have f1 := R9.fzt 1; have f2 := R9.fzt 2; have f3 := R9.fzt 3; have f4 := R9.fzt 4; have f5 := R9.fzt 5; have f6 := R9.fzt 6; have f7 := R9.fzt 7; have f8 := R9.fzt 8; have f9 := R9.fzt 9; have f10 := R9.fzt 10
  go_wp2
  have T5 := R9.tell _ rfl
  generalize (World.setCell (World.setCell (World.setCell (World.setCell (World.setCell (World.setCell (World.setCell (World.setCell (World.setCell (World.setCell (World.setCell W9 ⟨w.heap.size, 0, none⟩ (.int .i64 11)) ⟨w.heap.size, 1, none⟩ (.string ⟨#[]⟩)) ⟨w.heap.size, 2, none⟩ (.slice none 0 0)) ⟨w.heap.size, 3, none⟩ (.int .i64 (numberP (tx ws) s0).1)) ⟨w.heap.size, 4, none⟩ (.int .i64 0)) ⟨w.heap.size, 5, none⟩ (.string (bs (fromToP (tx ws) (numberP (tx ws) s0).2).1))) ⟨w.heap.size, 6, none⟩ (.string (bs (fromToP (tx ws) (numberP (tx ws) s0).2).2.1))) ⟨w.heap.size, 7, none⟩ (.string ⟨#[]⟩)) ⟨w.heap.size, 8, none⟩ (.string ⟨#[]⟩)) ⟨w.heap.size, 9, none⟩ (.string ⟨#[]⟩)) ⟨w.heap.size, 10, none⟩ (.int .i64 0)) = X5 at *
  obtain ⟨h5, r5, g5, gt⟩ := T5
  clear q0 z0 f0 q1 z1 f1 q2 z2 f2 q3 z3 f3 q4 z4 f4 q5 z5 f5 q6 z6 f6 q7 z7 f7 q8 z8 f8 q9 z9 f9 q10 z10 f10
  (try simp only [Exit.inBlock, Exit.then])
  refine bodyPost_ret (results_cell_row rfl _ _ w.heap.size _ _ _ _ rfl r5 Tryz.underlying41 rfl (by kernel_rfl)) rfl ?_
  exact ruleTo_mk rfl h5 (ownL_nil _ _) g5 rfl

set_option maxHeartbeats 2000000 in
theorem rule_lend (b g cap : Nat) (ws : List (Nat × List UInt8)) (s0 : St) (w : World) (h : Rd w b g cap ws ⟨0, false⟩) (hC : choiceP (tx ws) kindT ⟨0, false⟩ = (7, s0)) :
    Calls Tryz.prog 61 #[.pointer (some ⟨b, 0, none⟩)] w (RuleTo b g cap ws (lendP (tx ws) s0) w) := by
  have kc := fun W t h1 h2 h3 => kindChoice b g cap ws ⟨0, false⟩ t W h1 h2 h3 _ hC
  have KC := Lib.hid kc
  clear kc hC
  have hblt := h.blt
  go_enter Tryz.func61, Tryz.ntmps61
  go_upto_region 2 with (first
    | (go_at_call 56; refine (kindWords_any _).mono ?_; rintro e w1 ⟨t, rfl, ht, hst, hb1⟩; have HT := Lib.hid ht; clear ht; have hr1 := h.below2 hb1; have htb : t ≠ b := by have := HT.out; simp at this; omega)
    | (go_at_call 89; refine (KC.out _ _ hr1 hst htb).mono ?_; rintro e w2 ⟨rfl, h2, g2⟩))
  have R0 := RS.start h hb1 h2 g2 (.int .i64 7)
  clear hb1 hr1 hst HT htb g2 h2
  go_upto_region 18 with fail
  go_upto_region 19 with (go_at_call 90; refine (name_any b g cap ws _ _ R0.rd).mono ?_; rintro e w3 ⟨rfl, h3, g3⟩; have R3 := R0.call h3 g3; (try simp only [List.setIfInBounds_toArray, List.set] at R3); have q1 := R3.q1; have f1 := R3.fz 1; clear h3 g3)
  go_upto_region 20 with (go_at_call 93; refine (number_any b g cap ws _ _ (R3.store 1 (.string (bs (nameP (tx ws) s0).1))).rd).mono ?_; rintro e w4 ⟨rfl, h4, g4⟩; have R4 := (R3.store 1 (.string (bs (nameP (tx ws) s0).1))).call h4 g4; (try simp only [List.setIfInBounds_toArray, List.set] at R4); clear f1 q1; have q3 := R4.q3; have f3 := R4.fz 3; clear h4 g4)
  go_upto_region 35 with (go_at_call 93; refine (number_any b g cap ws _ _ (R4.store 3 (.int .i64 (numberP (tx ws) (nameP (tx ws) s0).2).1)).rd).mono ?_; rintro e w5 ⟨rfl, h5, g5⟩; have R5 := (R4.store 3 (.int .i64 (numberP (tx ws) (nameP (tx ws) s0).2).1)).call h5 g5; (try simp only [List.setIfInBounds_toArray, List.set] at R5); clear f3 q3; have q4 := R5.q4; have f4 := R5.fz 4; clear h5 g5)
  have R9 := (R5.store 4 (.int .i64 (numberP (tx ws) (numberP (tx ws) (nameP (tx ws) s0).2).2).1))
  generalize (w5).setCell ⟨w2.heap.size, 4, none⟩ (.int .i64 (numberP (tx ws) (numberP (tx ws) (nameP (tx ws) s0).2).2).1) = W9 at *
  try simp only [List.setIfInBounds_toArray, List.set] at R9
  clear f4 q4
  have q0 := R9.q0; have q1 := R9.q1; have q2 := R9.q2; have q3 := R9.q3; have q4 := R9.q4; have q5 := R9.q5; have q6 := R9.q6; have q7 := R9.q7; have q8 := R9.q8; have q9 := R9.q9; have q10 := R9.q10
  have z0 := R9.z0; have z1 := R9.z1; have z2 := R9.z2; have z3 := R9.z3; have z4 := R9.z4; have z5 := R9.z5; have z6 := R9.z6; have z7 := R9.z7; have z8 := R9.z8; have z9 := R9.z9; have z10 := R9.z10
  have f0 := R9.fzt 0; have f1 := R9.fzt 1; have f2 := R9.fzt 2; have f3 := R9.fzt 3; have f4 := R9.fzt 4; have f5 := R9.fzt 5; have f6 := R9.fzt 6; have f7 := R9.fzt 7; have f8 := R9.fzt 8; have f9 := R9.fzt 9; have f10 := R9.fzt 10
  go_wp2
  have T5 := R9.tell _ rfl
  generalize (World.setCell (World.setCell (World.setCell (World.setCell (World.setCell (World.setCell (World.setCell (World.setCell (World.setCell (World.setCell (World.setCell W9 ⟨w.heap.size, 0, none⟩ (.int .i64 7)) ⟨w.heap.size, 1, none⟩ (.string (bs (nameP (tx ws) s0).1))) ⟨w.heap.size, 2, none⟩ (.slice none 0 0)) ⟨w.heap.size, 3, none⟩ (.int .i64 (numberP (tx ws) (nameP (tx ws) s0).2).1)) ⟨w.heap.size, 4, none⟩ (.int .i64 (numberP (tx ws) (numberP (tx ws) (nameP (tx ws) s0).2).2).1)) ⟨w.heap.size, 5, none⟩ (.string ⟨#[]⟩)) ⟨w.heap.size, 6, none⟩ (.string ⟨#[]⟩)) ⟨w.heap.size, 7, none⟩ (.string ⟨#[]⟩)) ⟨w.heap.size, 8, none⟩ (.string ⟨#[]⟩)) ⟨w.heap.size, 9, none⟩ (.string ⟨#[]⟩)) ⟨w.heap.size, 10, none⟩ (.int .i64 0)) = X5 at *
  obtain ⟨h5, r5, g5, gt⟩ := T5
  clear q0 z0 f0 q1 z1 f1 q2 z2 f2 q3 z3 f3 q4 z4 f4 q5 z5 f5 q6 z6 f6 q7 z7 f7 q8 z8 f8 q9 z9 f9 q10 z10 f10
  (try simp only [Exit.inBlock, Exit.then])
  refine bodyPost_ret (results_cell_row rfl _ _ w.heap.size _ _ _ _ rfl r5 Tryz.underlying41 rfl (by kernel_rfl)) rfl ?_
  exact ruleTo_mk rfl h5 (ownL_nil _ _) g5 rfl
end Go.Proofs.YtahgfmobdfhaaaaGreatDoor
namespace Go.Proofs.YtahgfmobdfhaaaaGreatDoor
set_option maxRecDepth 100000
open Go.ChangeShapes Go.WideShapes Go.ChangeAt Go.RowKit
set_option maxHeartbeats 2000000 in
theorem rule_on (b g cap : Nat) (ws : List (Nat × List UInt8)) (s0 : St) (w : World) (h : Rd w b g cap ws ⟨0, false⟩) (hC : choiceP (tx ws) kindT ⟨0, false⟩ = (9, s0)) :
    Calls Tryz.prog 61 #[.pointer (some ⟨b, 0, none⟩)] w (RuleTo b g cap ws (onP (tx ws) s0) w) := by
  have kc := fun W t h1 h2 h3 => kindChoice b g cap ws ⟨0, false⟩ t W h1 h2 h3 _ hC
  have KC := Lib.hid kc
  clear kc hC
  have hblt := h.blt
  go_enter Tryz.func61, Tryz.ntmps61
  go_upto_region 2 with (first
    | (go_at_call 56; refine (kindWords_any _).mono ?_; rintro e w1 ⟨t, rfl, ht, hst, hb1⟩; have HT := Lib.hid ht; clear ht; have hr1 := h.below2 hb1; have htb : t ≠ b := by have := HT.out; simp at this; omega)
    | (go_at_call 89; refine (KC.out _ _ hr1 hst htb).mono ?_; rintro e w2 ⟨rfl, h2, g2⟩))
  have R0 := RS.start h hb1 h2 g2 (.int .i64 9)
  clear hb1 hr1 hst HT htb g2 h2
  go_upto_region 26 with fail
  go_upto_region 27 with (go_at_call 90; refine (name_any b g cap ws _ _ R0.rd).mono ?_; rintro e w3 ⟨rfl, h3, g3⟩; have R3 := R0.call h3 g3; (try simp only [List.setIfInBounds_toArray, List.set] at R3); have q1 := R3.q1; have f1 := R3.fz 1; clear h3 g3)
  go_upto_region 28 with (go_at_call 95; refine (fromTo_any b g cap ws _ _ (R3.store 1 (.string (bs (nameP (tx ws) s0).1))).rd).mono ?_; rintro e w4 ⟨rfl, h4, g4⟩; have R4 := (R3.store 1 (.string (bs (nameP (tx ws) s0).1))).call h4 g4; (try simp only [List.setIfInBounds_toArray, List.set] at R4); clear f1 q1; have q5 := R4.q5; have f5 := R4.fz 5; have q6 := R4.q6; have f6 := R4.fz 6; clear h4 g4)
  go_upto_region 29 with (go_at_call 94; refine (option_any b g cap ws _ [98, 121] _ ((R4.store 5 (.string (bs (fromToP (tx ws) (nameP (tx ws) s0).2).1))).store 6 (.string (bs (fromToP (tx ws) (nameP (tx ws) s0).2).2.1))).rd (by simp)).mono ?_; rintro e w5 ⟨rfl, h5, g5⟩; have R5 := ((R4.store 5 (.string (bs (fromToP (tx ws) (nameP (tx ws) s0).2).1))).store 6 (.string (bs (fromToP (tx ws) (nameP (tx ws) s0).2).2.1))).call h5 g5; (try simp only [List.setIfInBounds_toArray, List.set] at R5); clear f5 f6 q5 q6; have q7 := R5.q7; have f7 := R5.fz 7; clear h5 g5)
  go_upto_region 35 with (go_at_call 94; refine (option_any b g cap ws _ [116, 97, 115, 107] _ (R5.store 7 (.string (bs (optionP (tx ws) [98, 121] (fromToP (tx ws) (nameP (tx ws) s0).2).2.2).1))).rd (by simp)).mono ?_; rintro e w6 ⟨rfl, h6, g6⟩; have R6 := (R5.store 7 (.string (bs (optionP (tx ws) [98, 121] (fromToP (tx ws) (nameP (tx ws) s0).2).2.2).1))).call h6 g6; (try simp only [List.setIfInBounds_toArray, List.set] at R6); clear f7 q7; have q8 := R6.q8; have f8 := R6.fz 8; clear h6 g6)
  have R9 := (R6.store 8 (.string (bs (optionP (tx ws) [116, 97, 115, 107] (optionP (tx ws) [98, 121] (fromToP (tx ws) (nameP (tx ws) s0).2).2.2).2).1)))
  generalize (w6).setCell ⟨w2.heap.size, 8, none⟩ (.string (bs (optionP (tx ws) [116, 97, 115, 107] (optionP (tx ws) [98, 121] (fromToP (tx ws) (nameP (tx ws) s0).2).2.2).2).1)) = W9 at *
  try simp only [List.setIfInBounds_toArray, List.set] at R9
  clear f8 q8
  have q0 := R9.q0; have q1 := R9.q1; have q2 := R9.q2; have q3 := R9.q3; have q4 := R9.q4; have q5 := R9.q5; have q6 := R9.q6; have q7 := R9.q7; have q8 := R9.q8; have q9 := R9.q9; have q10 := R9.q10
  have z0 := R9.z0; have z1 := R9.z1; have z2 := R9.z2; have z3 := R9.z3; have z4 := R9.z4; have z5 := R9.z5; have z6 := R9.z6; have z7 := R9.z7; have z8 := R9.z8; have z9 := R9.z9; have z10 := R9.z10
  have f0 := R9.fzt 0; have f1 := R9.fzt 1; have f2 := R9.fzt 2; have f3 := R9.fzt 3; have f4 := R9.fzt 4; have f5 := R9.fzt 5; have f6 := R9.fzt 6; have f7 := R9.fzt 7; have f8 := R9.fzt 8; have f9 := R9.fzt 9; have f10 := R9.fzt 10
  go_wp2
  have T5 := R9.tell _ rfl
  generalize (World.setCell (World.setCell (World.setCell (World.setCell (World.setCell (World.setCell (World.setCell (World.setCell (World.setCell (World.setCell (World.setCell W9 ⟨w.heap.size, 0, none⟩ (.int .i64 9)) ⟨w.heap.size, 1, none⟩ (.string (bs (nameP (tx ws) s0).1))) ⟨w.heap.size, 2, none⟩ (.slice none 0 0)) ⟨w.heap.size, 3, none⟩ (.int .i64 0)) ⟨w.heap.size, 4, none⟩ (.int .i64 0)) ⟨w.heap.size, 5, none⟩ (.string (bs (fromToP (tx ws) (nameP (tx ws) s0).2).1))) ⟨w.heap.size, 6, none⟩ (.string (bs (fromToP (tx ws) (nameP (tx ws) s0).2).2.1))) ⟨w.heap.size, 7, none⟩ (.string (bs (optionP (tx ws) [98, 121] (fromToP (tx ws) (nameP (tx ws) s0).2).2.2).1))) ⟨w.heap.size, 8, none⟩ (.string (bs (optionP (tx ws) [116, 97, 115, 107] (optionP (tx ws) [98, 121] (fromToP (tx ws) (nameP (tx ws) s0).2).2.2).2).1))) ⟨w.heap.size, 9, none⟩ (.string ⟨#[]⟩)) ⟨w.heap.size, 10, none⟩ (.int .i64 0)) = X5 at *
  obtain ⟨h5, r5, g5, gt⟩ := T5
  clear q0 z0 f0 q1 z1 f1 q2 z2 f2 q3 z3 f3 q4 z4 f4 q5 z5 f5 q6 z6 f6 q7 z7 f7 q8 z8 f8 q9 z9 f9 q10 z10 f10
  (try simp only [Exit.inBlock, Exit.then])
  refine bodyPost_ret (results_cell_row rfl _ _ w.heap.size _ _ _ _ rfl r5 Tryz.underlying41 rfl (by kernel_rfl)) rfl ?_
  exact ruleTo_mk rfl h5 (ownL_nil _ _) g5 rfl

set_option maxHeartbeats 2000000 in
theorem rule_state (b g cap : Nat) (ws : List (Nat × List UInt8)) (s0 : St) (w : World) (h : Rd w b g cap ws ⟨0, false⟩) (hC : choiceP (tx ws) kindT ⟨0, false⟩ = (8, s0)) :
    Calls Tryz.prog 61 #[.pointer (some ⟨b, 0, none⟩)] w (RuleTo b g cap ws (stateP (tx ws) s0) w) := by
  have kc := fun W t h1 h2 h3 => kindChoice b g cap ws ⟨0, false⟩ t W h1 h2 h3 _ hC
  have KC := Lib.hid kc
  clear kc hC
  have hblt := h.blt
  go_enter Tryz.func61, Tryz.ntmps61
  go_upto_region 2 with (first
    | (go_at_call 56; refine (kindWords_any _).mono ?_; rintro e w1 ⟨t, rfl, ht, hst, hb1⟩; have HT := Lib.hid ht; clear ht; have hr1 := h.below2 hb1; have htb : t ≠ b := by have := HT.out; simp at this; omega)
    | (go_at_call 89; refine (KC.out _ _ hr1 hst htb).mono ?_; rintro e w2 ⟨rfl, h2, g2⟩))
  have R0 := RS.start h hb1 h2 g2 (.int .i64 8)
  clear hb1 hr1 hst HT htb g2 h2
  go_upto_region 22 with fail
  go_upto_region 23 with (go_at_call 90; refine (name_any b g cap ws _ _ R0.rd).mono ?_; rintro e w3 ⟨rfl, h3, g3⟩; have R3 := R0.call h3 g3; (try simp only [List.setIfInBounds_toArray, List.set] at R3); have q1 := R3.q1; have f1 := R3.fz 1; clear h3 g3)
  go_upto_region 24 with (first
    | (go_at_call 58; refine (stateWords_any _).mono ?_; rintro e w4a ⟨t2, rfl, ht2, hst2, hb2⟩; have HT2 := Lib.hid ht2; clear ht2; have R4a := (R3.store 1 (.string (bs (nameP (tx ws) s0).1))).below hb2; have htb2 : t2 ≠ b := by have := HT2.out; have := (R3.store 1 (.string (bs (nameP (tx ws) s0).1))).rd.blt; omega)
    | (go_at_call 89; refine (stateChoice b g cap ws _ t2 _ R4a.rd hst2 htb2).mono ?_; rintro e w4 ⟨rfl, h4, g4⟩; have R4 := R4a.call h4 g4; (try simp only [List.setIfInBounds_toArray, List.set] at R4); clear f1 q1; have q3 := R4.q3; have f3 := R4.fz 3; clear h4 g4 hst2 htb2 R4a HT2))
  go_upto_region 35 with (go_at_call 94; refine (option_any b g cap ws _ [105, 110] _ (R4.store 3 (.int .i64 (choiceP (tx ws) stateT (nameP (tx ws) s0).2).1)).rd (by simp)).mono ?_; rintro e w5 ⟨rfl, h5, g5⟩; have R5 := (R4.store 3 (.int .i64 (choiceP (tx ws) stateT (nameP (tx ws) s0).2).1)).call h5 g5; (try simp only [List.setIfInBounds_toArray, List.set] at R5); clear f3 q3; have q9 := R5.q9; have f9 := R5.fz 9; clear h5 g5)
  have R9 := (R5.store 9 (.string (bs (optionP (tx ws) [105, 110] (choiceP (tx ws) stateT (nameP (tx ws) s0).2).2).1)))
  generalize (w5).setCell ⟨w2.heap.size, 9, none⟩ (.string (bs (optionP (tx ws) [105, 110] (choiceP (tx ws) stateT (nameP (tx ws) s0).2).2).1)) = W9 at *
  try simp only [List.setIfInBounds_toArray, List.set] at R9
  clear f9 q9
  have q0 := R9.q0; have q1 := R9.q1; have q2 := R9.q2; have q3 := R9.q3; have q4 := R9.q4; have q5 := R9.q5; have q6 := R9.q6; have q7 := R9.q7; have q8 := R9.q8; have q9 := R9.q9; have q10 := R9.q10
  have z0 := R9.z0; have z1 := R9.z1; have z2 := R9.z2; have z3 := R9.z3; have z4 := R9.z4; have z5 := R9.z5; have z6 := R9.z6; have z7 := R9.z7; have z8 := R9.z8; have z9 := R9.z9; have z10 := R9.z10
  have f0 := R9.fzt 0; have f1 := R9.fzt 1; have f2 := R9.fzt 2; have f3 := R9.fzt 3; have f4 := R9.fzt 4; have f5 := R9.fzt 5; have f6 := R9.fzt 6; have f7 := R9.fzt 7; have f8 := R9.fzt 8; have f9 := R9.fzt 9; have f10 := R9.fzt 10
  go_wp2
  have T5 := R9.tell _ rfl
  generalize (World.setCell (World.setCell (World.setCell (World.setCell (World.setCell (World.setCell (World.setCell (World.setCell (World.setCell (World.setCell (World.setCell W9 ⟨w.heap.size, 0, none⟩ (.int .i64 8)) ⟨w.heap.size, 1, none⟩ (.string (bs (nameP (tx ws) s0).1))) ⟨w.heap.size, 2, none⟩ (.slice none 0 0)) ⟨w.heap.size, 3, none⟩ (.int .i64 (choiceP (tx ws) stateT (nameP (tx ws) s0).2).1)) ⟨w.heap.size, 4, none⟩ (.int .i64 0)) ⟨w.heap.size, 5, none⟩ (.string ⟨#[]⟩)) ⟨w.heap.size, 6, none⟩ (.string ⟨#[]⟩)) ⟨w.heap.size, 7, none⟩ (.string ⟨#[]⟩)) ⟨w.heap.size, 8, none⟩ (.string ⟨#[]⟩)) ⟨w.heap.size, 9, none⟩ (.string (bs (optionP (tx ws) [105, 110] (choiceP (tx ws) stateT (nameP (tx ws) s0).2).2).1))) ⟨w.heap.size, 10, none⟩ (.int .i64 0)) = X5 at *
  obtain ⟨h5, r5, g5, gt⟩ := T5
  clear q0 z0 f0 q1 z1 f1 q2 z2 f2 q3 z3 f3 q4 z4 f4 q5 z5 f5 q6 z6 f6 q7 z7 f7 q8 z8 f8 q9 z9 f9 q10 z10 f10
  (try simp only [Exit.inBlock, Exit.then])
  refine bodyPost_ret (results_cell_row rfl _ _ w.heap.size _ _ _ _ rfl r5 Tryz.underlying41 rfl (by kernel_rfl)) rfl ?_
  exact ruleTo_mk rfl h5 (ownL_nil _ _) g5 rfl
end Go.Proofs.YtahgfmobdfhaaaaGreatDoor
namespace Go.Proofs.YtahgfmobdfhaaaaGreatDoor
set_option maxRecDepth 100000
open Go.ChangeShapes Go.WideShapes Go.ChangeAt Go.RowKit
set_option maxHeartbeats 2000000 in
theorem rule_user2 (b g cap : Nat) (ws : List (Nat × List UInt8)) (s0 : St) (w : World) (h : Rd w b g cap ws ⟨0, false⟩) (hC : choiceP (tx ws) kindT ⟨0, false⟩ = (2, s0)) :
    Calls Tryz.prog 61 #[.pointer (some ⟨b, 0, none⟩)] w (RuleTo b g cap ws (userP (tx ws) 2 s0) w) := by
  have kc := fun W t h1 h2 h3 => kindChoice b g cap ws ⟨0, false⟩ t W h1 h2 h3 _ hC
  have KC := Lib.hid kc
  clear kc hC
  have hblt := h.blt
  go_enter Tryz.func61, Tryz.ntmps61
  go_upto_region 2 with (first
    | (go_at_call 56; refine (kindWords_any _).mono ?_; rintro e w1 ⟨t, rfl, ht, hst, hb1⟩; have HT := Lib.hid ht; clear ht; have hr1 := h.below2 hb1; have htb : t ≠ b := by have := HT.out; simp at this; omega)
    | (go_at_call 89; refine (KC.out _ _ hr1 hst htb).mono ?_; rintro e w2 ⟨rfl, h2, g2⟩))
  have R0 := RS.start h hb1 h2 g2 (.int .i64 2)
  clear hb1 hr1 hst HT htb g2 h2
  go_upto_region 9 with fail
  go_upto_region 10 with (go_at_call 90; refine (name_any b g cap ws _ _ R0.rd).mono ?_; rintro e w3 ⟨rfl, h3, g3⟩; have R3 := R0.call h3 g3; (try simp only [List.setIfInBounds_toArray, List.set] at R3); have q1 := R3.q1; have f1 := R3.fz 1; clear h3 g3)
  go_upto_region 35 with (go_at_call 92; refine (names_any b g cap ws _ 0 _ (R3.store 1 (.string (bs (nameP (tx ws) s0).1))).rd (by omega)).mono ?_; rintro e w4 ⟨vL, rfl, h4, ho, g4⟩; obtain ⟨AL, cL, rfl⟩ := own_slice ho; have R4 := (R3.store 1 (.string (bs (nameP (tx ws) s0).1))).call h4 g4; have OX := RS.own (R3.store 1 (.string (bs (nameP (tx ws) s0).1))) g4 ho; clear ho; (try simp only [List.setIfInBounds_toArray, List.set] at R4); clear f1 q1; have q2 := R4.q2; have f2 := R4.fz 2; clear h4 g4)
  have R9 := (R4.store 2 (.slice AL (namesP (tx ws) 0 [] (nameP (tx ws) s0).2 ((tx ws).length + 1)).1.length cL))
  generalize (w4).setCell ⟨w2.heap.size, 2, none⟩ (.slice AL (namesP (tx ws) 0 [] (nameP (tx ws) s0).2 ((tx ws).length + 1)).1.length cL) = W9 at *
  try simp only [List.setIfInBounds_toArray, List.set] at R9
  clear f2 q2
  have q0 := R9.q0; have q1 := R9.q1; have q2 := R9.q2; have q3 := R9.q3; have q4 := R9.q4; have q5 := R9.q5; have q6 := R9.q6; have q7 := R9.q7; have q8 := R9.q8; have q9 := R9.q9; have q10 := R9.q10
  have z0 := R9.z0; have z1 := R9.z1; have z2 := R9.z2; have z3 := R9.z3; have z4 := R9.z4; have z5 := R9.z5; have z6 := R9.z6; have z7 := R9.z7; have z8 := R9.z8; have z9 := R9.z9; have z10 := R9.z10
  have f0 := R9.fzt 0; have f1 := R9.fzt 1; have f2 := R9.fzt 2; have f3 := R9.fzt 3; have f4 := R9.fzt 4; have f5 := R9.fzt 5; have f6 := R9.fzt 6; have f7 := R9.fzt 7; have f8 := R9.fzt 8; have f9 := R9.fzt 9; have f10 := R9.fzt 10
  go_wp2
  have T5 := R9.tell _ rfl
  generalize (World.setCell (World.setCell (World.setCell (World.setCell (World.setCell (World.setCell (World.setCell (World.setCell (World.setCell (World.setCell (World.setCell W9 ⟨w.heap.size, 0, none⟩ (.int .i64 2)) ⟨w.heap.size, 1, none⟩ (.string (bs (nameP (tx ws) s0).1))) ⟨w.heap.size, 2, none⟩ (.slice AL (namesP (tx ws) 0 [] (nameP (tx ws) s0).2 ((tx ws).length + 1)).1.length cL)) ⟨w.heap.size, 3, none⟩ (.int .i64 0)) ⟨w.heap.size, 4, none⟩ (.int .i64 0)) ⟨w.heap.size, 5, none⟩ (.string ⟨#[]⟩)) ⟨w.heap.size, 6, none⟩ (.string ⟨#[]⟩)) ⟨w.heap.size, 7, none⟩ (.string ⟨#[]⟩)) ⟨w.heap.size, 8, none⟩ (.string ⟨#[]⟩)) ⟨w.heap.size, 9, none⟩ (.string ⟨#[]⟩)) ⟨w.heap.size, 10, none⟩ (.int .i64 0)) = X5 at *
  obtain ⟨h5, r5, g5, gt⟩ := T5
  clear q0 z0 f0 q1 z1 f1 q2 z2 f2 q3 z3 f3 q4 z4 f4 q5 z5 f5 q6 z6 f6 q7 z7 f7 q8 z8 f8 q9 z9 f9 q10 z10 f10
  (try simp only [Exit.inBlock, Exit.then])
  refine bodyPost_ret (results_cell_row rfl _ _ w.heap.size _ _ _ _ rfl r5 Tryz.underlying41 rfl (by kernel_rfl)) rfl ?_
  exact ruleTo_mk rfl h5 (OX _ gt) g5 rfl

set_option maxHeartbeats 2000000 in
theorem rule_user3 (b g cap : Nat) (ws : List (Nat × List UInt8)) (s0 : St) (w : World) (h : Rd w b g cap ws ⟨0, false⟩) (hC : choiceP (tx ws) kindT ⟨0, false⟩ = (3, s0)) :
    Calls Tryz.prog 61 #[.pointer (some ⟨b, 0, none⟩)] w (RuleTo b g cap ws (userP (tx ws) 3 s0) w) := by
  have kc := fun W t h1 h2 h3 => kindChoice b g cap ws ⟨0, false⟩ t W h1 h2 h3 _ hC
  have KC := Lib.hid kc
  clear kc hC
  have hblt := h.blt
  go_enter Tryz.func61, Tryz.ntmps61
  go_upto_region 2 with (first
    | (go_at_call 56; refine (kindWords_any _).mono ?_; rintro e w1 ⟨t, rfl, ht, hst, hb1⟩; have HT := Lib.hid ht; clear ht; have hr1 := h.below2 hb1; have htb : t ≠ b := by have := HT.out; simp at this; omega)
    | (go_at_call 89; refine (KC.out _ _ hr1 hst htb).mono ?_; rintro e w2 ⟨rfl, h2, g2⟩))
  have R0 := RS.start h hb1 h2 g2 (.int .i64 3)
  clear hb1 hr1 hst HT htb g2 h2
  go_upto_region 9 with fail
  go_upto_region 10 with (go_at_call 90; refine (name_any b g cap ws _ _ R0.rd).mono ?_; rintro e w3 ⟨rfl, h3, g3⟩; have R3 := R0.call h3 g3; (try simp only [List.setIfInBounds_toArray, List.set] at R3); have q1 := R3.q1; have f1 := R3.fz 1; clear h3 g3)
  go_upto_region 35 with (go_at_call 92; refine (names_any b g cap ws _ 0 _ (R3.store 1 (.string (bs (nameP (tx ws) s0).1))).rd (by omega)).mono ?_; rintro e w4 ⟨vL, rfl, h4, ho, g4⟩; obtain ⟨AL, cL, rfl⟩ := own_slice ho; have R4 := (R3.store 1 (.string (bs (nameP (tx ws) s0).1))).call h4 g4; have OX := RS.own (R3.store 1 (.string (bs (nameP (tx ws) s0).1))) g4 ho; clear ho; (try simp only [List.setIfInBounds_toArray, List.set] at R4); clear f1 q1; have q2 := R4.q2; have f2 := R4.fz 2; clear h4 g4)
  have R9 := (R4.store 2 (.slice AL (namesP (tx ws) 0 [] (nameP (tx ws) s0).2 ((tx ws).length + 1)).1.length cL))
  generalize (w4).setCell ⟨w2.heap.size, 2, none⟩ (.slice AL (namesP (tx ws) 0 [] (nameP (tx ws) s0).2 ((tx ws).length + 1)).1.length cL) = W9 at *
  try simp only [List.setIfInBounds_toArray, List.set] at R9
  clear f2 q2
  have q0 := R9.q0; have q1 := R9.q1; have q2 := R9.q2; have q3 := R9.q3; have q4 := R9.q4; have q5 := R9.q5; have q6 := R9.q6; have q7 := R9.q7; have q8 := R9.q8; have q9 := R9.q9; have q10 := R9.q10
  have z0 := R9.z0; have z1 := R9.z1; have z2 := R9.z2; have z3 := R9.z3; have z4 := R9.z4; have z5 := R9.z5; have z6 := R9.z6; have z7 := R9.z7; have z8 := R9.z8; have z9 := R9.z9; have z10 := R9.z10
  have f0 := R9.fzt 0; have f1 := R9.fzt 1; have f2 := R9.fzt 2; have f3 := R9.fzt 3; have f4 := R9.fzt 4; have f5 := R9.fzt 5; have f6 := R9.fzt 6; have f7 := R9.fzt 7; have f8 := R9.fzt 8; have f9 := R9.fzt 9; have f10 := R9.fzt 10
  go_wp2
  have T5 := R9.tell _ rfl
  generalize (World.setCell (World.setCell (World.setCell (World.setCell (World.setCell (World.setCell (World.setCell (World.setCell (World.setCell (World.setCell (World.setCell W9 ⟨w.heap.size, 0, none⟩ (.int .i64 3)) ⟨w.heap.size, 1, none⟩ (.string (bs (nameP (tx ws) s0).1))) ⟨w.heap.size, 2, none⟩ (.slice AL (namesP (tx ws) 0 [] (nameP (tx ws) s0).2 ((tx ws).length + 1)).1.length cL)) ⟨w.heap.size, 3, none⟩ (.int .i64 0)) ⟨w.heap.size, 4, none⟩ (.int .i64 0)) ⟨w.heap.size, 5, none⟩ (.string ⟨#[]⟩)) ⟨w.heap.size, 6, none⟩ (.string ⟨#[]⟩)) ⟨w.heap.size, 7, none⟩ (.string ⟨#[]⟩)) ⟨w.heap.size, 8, none⟩ (.string ⟨#[]⟩)) ⟨w.heap.size, 9, none⟩ (.string ⟨#[]⟩)) ⟨w.heap.size, 10, none⟩ (.int .i64 0)) = X5 at *
  obtain ⟨h5, r5, g5, gt⟩ := T5
  clear q0 z0 f0 q1 z1 f1 q2 z2 f2 q3 z3 f3 q4 z4 f4 q5 z5 f5 q6 z6 f6 q7 z7 f7 q8 z8 f8 q9 z9 f9 q10 z10 f10
  (try simp only [Exit.inBlock, Exit.then])
  refine bodyPost_ret (results_cell_row rfl _ _ w.heap.size _ _ _ _ rfl r5 Tryz.underlying41 rfl (by kernel_rfl)) rfl ?_
  exact ruleTo_mk rfl h5 (OX _ gt) g5 rfl

set_option maxHeartbeats 2000000 in
theorem rule_excl (b g cap : Nat) (ws : List (Nat × List UInt8)) (s0 : St) (w : World) (h : Rd w b g cap ws ⟨0, false⟩) (hC : choiceP (tx ws) kindT ⟨0, false⟩ = (6, s0)) :
    Calls Tryz.prog 61 #[.pointer (some ⟨b, 0, none⟩)] w (RuleTo b g cap ws (exclP (tx ws) s0) w) := by
  have kc := fun W t h1 h2 h3 => kindChoice b g cap ws ⟨0, false⟩ t W h1 h2 h3 _ hC
  have KC := Lib.hid kc
  clear kc hC
  have hblt := h.blt
  go_enter Tryz.func61, Tryz.ntmps61
  go_upto_region 2 with (first
    | (go_at_call 56; refine (kindWords_any _).mono ?_; rintro e w1 ⟨t, rfl, ht, hst, hb1⟩; have HT := Lib.hid ht; clear ht; have hr1 := h.below2 hb1; have htb : t ≠ b := by have := HT.out; simp at this; omega)
    | (go_at_call 89; refine (KC.out _ _ hr1 hst htb).mono ?_; rintro e w2 ⟨rfl, h2, g2⟩))
  have R0 := RS.start h hb1 h2 g2 (.int .i64 6)
  clear hb1 hr1 hst HT htb g2 h2
  go_upto_region 16 with fail
  go_upto_region 35 with (go_at_call 92; refine (names_any b g cap ws _ 2 _ R0.rd (by omega)).mono ?_; rintro e w3 ⟨vL, rfl, h3, ho, g3⟩; obtain ⟨AL, cL, rfl⟩ := own_slice ho; have R3 := R0.call h3 g3; have OX := RS.own R0 g3 ho; clear ho; (try simp only [List.setIfInBounds_toArray, List.set] at R3); have q2 := R3.q2; have f2 := R3.fz 2; clear h3 g3)
  have R9 := (R3.store 2 (.slice AL (namesP (tx ws) 2 [] s0 ((tx ws).length + 1)).1.length cL))
  generalize (w3).setCell ⟨w2.heap.size, 2, none⟩ (.slice AL (namesP (tx ws) 2 [] s0 ((tx ws).length + 1)).1.length cL) = W9 at *
  try simp only [List.setIfInBounds_toArray, List.set] at R9
  clear f2 q2
  have q0 := R9.q0; have q1 := R9.q1; have q2 := R9.q2; have q3 := R9.q3; have q4 := R9.q4; have q5 := R9.q5; have q6 := R9.q6; have q7 := R9.q7; have q8 := R9.q8; have q9 := R9.q9; have q10 := R9.q10
  have z0 := R9.z0; have z1 := R9.z1; have z2 := R9.z2; have z3 := R9.z3; have z4 := R9.z4; have z5 := R9.z5; have z6 := R9.z6; have z7 := R9.z7; have z8 := R9.z8; have z9 := R9.z9; have z10 := R9.z10
  have f0 := R9.fzt 0; have f1 := R9.fzt 1; have f2 := R9.fzt 2; have f3 := R9.fzt 3; have f4 := R9.fzt 4; have f5 := R9.fzt 5; have f6 := R9.fzt 6; have f7 := R9.fzt 7; have f8 := R9.fzt 8; have f9 := R9.fzt 9; have f10 := R9.fzt 10
  go_wp2
  have T5 := R9.tell _ rfl
  generalize (World.setCell (World.setCell (World.setCell (World.setCell (World.setCell (World.setCell (World.setCell (World.setCell (World.setCell (World.setCell (World.setCell W9 ⟨w.heap.size, 0, none⟩ (.int .i64 6)) ⟨w.heap.size, 1, none⟩ (.string ⟨#[]⟩)) ⟨w.heap.size, 2, none⟩ (.slice AL (namesP (tx ws) 2 [] s0 ((tx ws).length + 1)).1.length cL)) ⟨w.heap.size, 3, none⟩ (.int .i64 0)) ⟨w.heap.size, 4, none⟩ (.int .i64 0)) ⟨w.heap.size, 5, none⟩ (.string ⟨#[]⟩)) ⟨w.heap.size, 6, none⟩ (.string ⟨#[]⟩)) ⟨w.heap.size, 7, none⟩ (.string ⟨#[]⟩)) ⟨w.heap.size, 8, none⟩ (.string ⟨#[]⟩)) ⟨w.heap.size, 9, none⟩ (.string ⟨#[]⟩)) ⟨w.heap.size, 10, none⟩ (.int .i64 0)) = X5 at *
  obtain ⟨h5, r5, g5, gt⟩ := T5
  clear q0 z0 f0 q1 z1 f1 q2 z2 f2 q3 z3 f3 q4 z4 f4 q5 z5 f5 q6 z6 f6 q7 z7 f7 q8 z8 f8 q9 z9 f9 q10 z10 f10
  (try simp only [Exit.inBlock, Exit.then])
  refine bodyPost_ret (results_cell_row rfl _ _ w.heap.size _ _ _ _ rfl r5 Tryz.underlying41 rfl (by kernel_rfl)) rfl ?_
  exact ruleTo_mk rfl h5 (OX _ gt) g5 rfl
end Go.Proofs.YtahgfmobdfhaaaaGreatDoor
namespace Go.Proofs.YtahgfmobdfhaaaaGreatDoor
set_option maxRecDepth 100000
open Go.ChangeShapes Go.WideShapes Go.ChangeAt Go.RowKit
set_option maxHeartbeats 2000000 in
theorem rule_ssd4 (b g cap : Nat) (ws : List (Nat × List UInt8)) (s0 : St) (w : World) (h : Rd w b g cap ws ⟨0, false⟩) (hC : choiceP (tx ws) kindT ⟨0, false⟩ = (4, s0)) :
    Calls Tryz.prog 61 #[.pointer (some ⟨b, 0, none⟩)] w (RuleTo b g cap ws (ssdP (tx ws) 4 s0) w) := by
  have kc := fun W t h1 h2 h3 => kindChoice b g cap ws ⟨0, false⟩ t W h1 h2 h3 _ hC
  have KC := Lib.hid kc
  clear kc hC
  have hblt := h.blt
  go_enter Tryz.func61, Tryz.ntmps61
  go_upto_region 2 with (first
    | (go_at_call 56; refine (kindWords_any _).mono ?_; rintro e w1 ⟨t, rfl, ht, hst, hb1⟩; have HT := Lib.hid ht; clear ht; have hr1 := h.below2 hb1; have htb : t ≠ b := by have := HT.out; simp at this; omega)
    | (go_at_call 89; refine (KC.out _ _ hr1 hst htb).mono ?_; rintro e w2 ⟨rfl, h2, g2⟩))
  have R0 := RS.start h hb1 h2 g2 (.int .i64 4)
  clear hb1 hr1 hst HT htb g2 h2
  go_upto_region 13 with fail
  go_upto_region 14 with (go_at_call 93; refine (number_any b g cap ws _ _ R0.rd).mono ?_; rintro e w3 ⟨rfl, h3, g3⟩; have R3 := R0.call h3 g3; (try simp only [List.setIfInBounds_toArray, List.set] at R3); have q3 := R3.q3; have f3 := R3.fz 3; clear h3 g3)
  go_upto_region 35 with (go_at_call 92; refine (names_any b g cap ws _ 2 _ (R3.store 3 (.int .i64 (numberP (tx ws) s0).1)).rd (by omega)).mono ?_; rintro e w4 ⟨vL, rfl, h4, ho, g4⟩; obtain ⟨AL, cL, rfl⟩ := own_slice ho; have R4 := (R3.store 3 (.int .i64 (numberP (tx ws) s0).1)).call h4 g4; have OX := RS.own (R3.store 3 (.int .i64 (numberP (tx ws) s0).1)) g4 ho; clear ho; (try simp only [List.setIfInBounds_toArray, List.set] at R4); clear f3 q3; have q2 := R4.q2; have f2 := R4.fz 2; clear h4 g4)
  have R9 := (R4.store 2 (.slice AL (namesP (tx ws) 2 [] (numberP (tx ws) s0).2 ((tx ws).length + 1)).1.length cL))
  generalize (w4).setCell ⟨w2.heap.size, 2, none⟩ (.slice AL (namesP (tx ws) 2 [] (numberP (tx ws) s0).2 ((tx ws).length + 1)).1.length cL) = W9 at *
  try simp only [List.setIfInBounds_toArray, List.set] at R9
  clear f2 q2
  have q0 := R9.q0; have q1 := R9.q1; have q2 := R9.q2; have q3 := R9.q3; have q4 := R9.q4; have q5 := R9.q5; have q6 := R9.q6; have q7 := R9.q7; have q8 := R9.q8; have q9 := R9.q9; have q10 := R9.q10
  have z0 := R9.z0; have z1 := R9.z1; have z2 := R9.z2; have z3 := R9.z3; have z4 := R9.z4; have z5 := R9.z5; have z6 := R9.z6; have z7 := R9.z7; have z8 := R9.z8; have z9 := R9.z9; have z10 := R9.z10
  have f0 := R9.fzt 0; have f1 := R9.fzt 1; have f2 := R9.fzt 2; have f3 := R9.fzt 3; have f4 := R9.fzt 4; have f5 := R9.fzt 5; have f6 := R9.fzt 6; have f7 := R9.fzt 7; have f8 := R9.fzt 8; have f9 := R9.fzt 9; have f10 := R9.fzt 10
  go_wp2
  have T5 := R9.tell _ rfl
  generalize (World.setCell (World.setCell (World.setCell (World.setCell (World.setCell (World.setCell (World.setCell (World.setCell (World.setCell (World.setCell (World.setCell W9 ⟨w.heap.size, 0, none⟩ (.int .i64 4)) ⟨w.heap.size, 1, none⟩ (.string ⟨#[]⟩)) ⟨w.heap.size, 2, none⟩ (.slice AL (namesP (tx ws) 2 [] (numberP (tx ws) s0).2 ((tx ws).length + 1)).1.length cL)) ⟨w.heap.size, 3, none⟩ (.int .i64 (numberP (tx ws) s0).1)) ⟨w.heap.size, 4, none⟩ (.int .i64 0)) ⟨w.heap.size, 5, none⟩ (.string ⟨#[]⟩)) ⟨w.heap.size, 6, none⟩ (.string ⟨#[]⟩)) ⟨w.heap.size, 7, none⟩ (.string ⟨#[]⟩)) ⟨w.heap.size, 8, none⟩ (.string ⟨#[]⟩)) ⟨w.heap.size, 9, none⟩ (.string ⟨#[]⟩)) ⟨w.heap.size, 10, none⟩ (.int .i64 0)) = X5 at *
  obtain ⟨h5, r5, g5, gt⟩ := T5
  clear q0 z0 f0 q1 z1 f1 q2 z2 f2 q3 z3 f3 q4 z4 f4 q5 z5 f5 q6 z6 f6 q7 z7 f7 q8 z8 f8 q9 z9 f9 q10 z10 f10
  (try simp only [Exit.inBlock, Exit.then])
  refine bodyPost_ret (results_cell_row rfl _ _ w.heap.size _ _ _ _ rfl r5 Tryz.underlying41 rfl (by kernel_rfl)) rfl ?_
  exact ruleTo_mk rfl h5 (OX _ gt) g5 rfl

set_option maxHeartbeats 2000000 in
theorem rule_ssd5 (b g cap : Nat) (ws : List (Nat × List UInt8)) (s0 : St) (w : World) (h : Rd w b g cap ws ⟨0, false⟩) (hC : choiceP (tx ws) kindT ⟨0, false⟩ = (5, s0)) :
    Calls Tryz.prog 61 #[.pointer (some ⟨b, 0, none⟩)] w (RuleTo b g cap ws (ssdP (tx ws) 5 s0) w) := by
  have kc := fun W t h1 h2 h3 => kindChoice b g cap ws ⟨0, false⟩ t W h1 h2 h3 _ hC
  have KC := Lib.hid kc
  clear kc hC
  have hblt := h.blt
  go_enter Tryz.func61, Tryz.ntmps61
  go_upto_region 2 with (first
    | (go_at_call 56; refine (kindWords_any _).mono ?_; rintro e w1 ⟨t, rfl, ht, hst, hb1⟩; have HT := Lib.hid ht; clear ht; have hr1 := h.below2 hb1; have htb : t ≠ b := by have := HT.out; simp at this; omega)
    | (go_at_call 89; refine (KC.out _ _ hr1 hst htb).mono ?_; rintro e w2 ⟨rfl, h2, g2⟩))
  have R0 := RS.start h hb1 h2 g2 (.int .i64 5)
  clear hb1 hr1 hst HT htb g2 h2
  go_upto_region 13 with fail
  go_upto_region 14 with (go_at_call 93; refine (number_any b g cap ws _ _ R0.rd).mono ?_; rintro e w3 ⟨rfl, h3, g3⟩; have R3 := R0.call h3 g3; (try simp only [List.setIfInBounds_toArray, List.set] at R3); have q3 := R3.q3; have f3 := R3.fz 3; clear h3 g3)
  go_upto_region 35 with (go_at_call 92; refine (names_any b g cap ws _ 2 _ (R3.store 3 (.int .i64 (numberP (tx ws) s0).1)).rd (by omega)).mono ?_; rintro e w4 ⟨vL, rfl, h4, ho, g4⟩; obtain ⟨AL, cL, rfl⟩ := own_slice ho; have R4 := (R3.store 3 (.int .i64 (numberP (tx ws) s0).1)).call h4 g4; have OX := RS.own (R3.store 3 (.int .i64 (numberP (tx ws) s0).1)) g4 ho; clear ho; (try simp only [List.setIfInBounds_toArray, List.set] at R4); clear f3 q3; have q2 := R4.q2; have f2 := R4.fz 2; clear h4 g4)
  have R9 := (R4.store 2 (.slice AL (namesP (tx ws) 2 [] (numberP (tx ws) s0).2 ((tx ws).length + 1)).1.length cL))
  generalize (w4).setCell ⟨w2.heap.size, 2, none⟩ (.slice AL (namesP (tx ws) 2 [] (numberP (tx ws) s0).2 ((tx ws).length + 1)).1.length cL) = W9 at *
  try simp only [List.setIfInBounds_toArray, List.set] at R9
  clear f2 q2
  have q0 := R9.q0; have q1 := R9.q1; have q2 := R9.q2; have q3 := R9.q3; have q4 := R9.q4; have q5 := R9.q5; have q6 := R9.q6; have q7 := R9.q7; have q8 := R9.q8; have q9 := R9.q9; have q10 := R9.q10
  have z0 := R9.z0; have z1 := R9.z1; have z2 := R9.z2; have z3 := R9.z3; have z4 := R9.z4; have z5 := R9.z5; have z6 := R9.z6; have z7 := R9.z7; have z8 := R9.z8; have z9 := R9.z9; have z10 := R9.z10
  have f0 := R9.fzt 0; have f1 := R9.fzt 1; have f2 := R9.fzt 2; have f3 := R9.fzt 3; have f4 := R9.fzt 4; have f5 := R9.fzt 5; have f6 := R9.fzt 6; have f7 := R9.fzt 7; have f8 := R9.fzt 8; have f9 := R9.fzt 9; have f10 := R9.fzt 10
  go_wp2
  have T5 := R9.tell _ rfl
  generalize (World.setCell (World.setCell (World.setCell (World.setCell (World.setCell (World.setCell (World.setCell (World.setCell (World.setCell (World.setCell (World.setCell W9 ⟨w.heap.size, 0, none⟩ (.int .i64 5)) ⟨w.heap.size, 1, none⟩ (.string ⟨#[]⟩)) ⟨w.heap.size, 2, none⟩ (.slice AL (namesP (tx ws) 2 [] (numberP (tx ws) s0).2 ((tx ws).length + 1)).1.length cL)) ⟨w.heap.size, 3, none⟩ (.int .i64 (numberP (tx ws) s0).1)) ⟨w.heap.size, 4, none⟩ (.int .i64 0)) ⟨w.heap.size, 5, none⟩ (.string ⟨#[]⟩)) ⟨w.heap.size, 6, none⟩ (.string ⟨#[]⟩)) ⟨w.heap.size, 7, none⟩ (.string ⟨#[]⟩)) ⟨w.heap.size, 8, none⟩ (.string ⟨#[]⟩)) ⟨w.heap.size, 9, none⟩ (.string ⟨#[]⟩)) ⟨w.heap.size, 10, none⟩ (.int .i64 0)) = X5 at *
  obtain ⟨h5, r5, g5, gt⟩ := T5
  clear q0 z0 f0 q1 z1 f1 q2 z2 f2 q3 z3 f3 q4 z4 f4 q5 z5 f5 q6 z6 f6 q7 z7 f7 q8 z8 f8 q9 z9 f9 q10 z10 f10
  (try simp only [Exit.inBlock, Exit.then])
  refine bodyPost_ret (results_cell_row rfl _ _ w.heap.size _ _ _ _ rfl r5 Tryz.underlying41 rfl (by kernel_rfl)) rfl ?_
  exact ruleTo_mk rfl h5 (OX _ gt) g5 rfl
end Go.Proofs.YtahgfmobdfhaaaaGreatDoor
