import Derived.Test.YtkalfhhdljndfaaGreatDoorGl0
namespace Go.Proofs.YtkalfhhdljndfaaGreatDoor
set_option maxRecDepth 100000
open Go.ChangeShapes Go.WideShapes Go.ChangeAt Go.RowKit
def gc1 (t : Int) : Gr := ⟨1, [117, 97], [117, 98], [114, 98], t, 1, 0⟩
def gc2 (t : Int) : Gr := ⟨2, [117, 98], [117, 99], [114, 98], t, 2, 1⟩
def gc3 : Gr := ⟨3, [117, 99], [117, 97], [114, 98], 1, 3, 2⟩
theorem arg_noC {r : Rt} {x : Gr} {now time : Int} (hs : decide (x.fro = x.rcv) = false) (h1 : ¬ time < 1) (hl : ((lnP r.loans x.role).isSome && decide ((lnV r.loans x.role).2 < time)) = false) (h0 : 0 ≤ now) (h2 : now ≤ 1073741824) : argP r x now time = false := by
 unfold argP
 rw [hs, hl, decide_eq_false h1, decide_eq_false (by omega : ¬ now < 0), decide_eq_false (by omega : ¬ 1073741824 < now)]
 rfl
theorem gc_loan (d : Nat) : (lnV (gR d).loans [114, 98]).2 ≤ 1073741824 := by
 show (10 : Int) ≤ 1073741824; decide
theorem gc_e1 {d : Nat} (h1 : 1 ≤ d) (h3 : d ≤ 3) {t : Int} (t1 : 1 ≤ t) (t2 : t ≤ 10) : giveE gN gB (gR d) [] (giveX [] 0 [117, 97] [117, 98] [114, 98] 0) 0 t = 0 := by
 obtain rfl | rfl | rfl : d = 1 ∨ d = 2 ∨ d = 3 := by omega
 all_goals exact wr0 (by kernel_rfl) (arg_noC (by kernel_rfl) (by omega) (by show decide ((10 : Int) < t) = false; exact decide_eq_false (by omega)) (by decide) (by decide)) (by kernel_rfl) (by omega) (by kernel_rfl) (by show ¬ 20 ≤ 0; decide) (by kernel_rfl)
theorem gc_g1 (t : Int) : giveG [] (giveX [] 0 [117, 97] [117, 98] [114, 98] 0) 0 t = gc1 t := by
 show (⟨1, [117, 97], [117, 98], [114, 98], 0 + t, 1, 0⟩ : Gr) = ⟨1, [117, 97], [117, 98], [114, 98], t, 1, 0⟩
 rw [Int.zero_add]
theorem gc_e2 {d : Nat} (h1 : 1 ≤ d) (h3 : d ≤ 3) (t : Int) : giveE gN gB (gR d) [gc1 t] (giveX [gc1 t] 1 [117, 98] [117, 99] [114, 98] 1) 0 10 = if 2 ≤ d then 0 else 8 := by
 obtain rfl | rfl | rfl : d = 1 ∨ d = 2 ∨ d = 3 := by omega
 ·exact wr8 (by kernel_rfl) (arg_noC (by kernel_rfl) (by decide) (by kernel_rfl) (by decide) (by decide)) (by kernel_rfl)
 all_goals exact wr0 (by kernel_rfl) (arg_noC (by kernel_rfl) (by decide) (by kernel_rfl) (by decide) (by decide)) (by kernel_rfl) (by decide) (by kernel_rfl) (by show ¬ 20 ≤ 1; decide) (by kernel_rfl)
theorem gc_g2 {t : Int} (t2 : t ≤ 10) : giveG [gc1 t] (giveX [gc1 t] 1 [117, 98] [117, 99] [114, 98] 1) 0 10 = gc2 t := by
 show (⟨2, [117, 98], [117, 99], [114, 98], min (0 + 10) t, 2, 1⟩ : Gr) = ⟨2, [117, 98], [117, 99], [114, 98], t, 2, 1⟩
 rw [show min (0 + 10) t = t by omega]
theorem gc_e3 {d : Nat} (h1 : 2 ≤ d) (h3 : d ≤ 3) (t : Int) : giveE gN gB (gR d) [gc1 t, gc2 t] (giveX [gc1 t, gc2 t] 2 [117, 99] [117, 97] [114, 98] 2) 0 1 = if 3 ≤ d then 0 else 8 := by
 obtain rfl | rfl : d = 2 ∨ d = 3 := by omega
 ·exact wr8 (by kernel_rfl) (arg_noC (by kernel_rfl) (by decide) (by kernel_rfl) (by decide) (by decide)) (by kernel_rfl)
 ·exact wr0 (by kernel_rfl) (arg_noC (by kernel_rfl) (by decide) (by kernel_rfl) (by decide) (by decide)) (by kernel_rfl) (by decide) (by kernel_rfl) (by show ¬ 20 ≤ 2; decide) (by kernel_rfl)
theorem gc_g3 {t : Int} (t1 : 1 ≤ t) : giveG [gc1 t, gc2 t] (giveX [gc1 t, gc2 t] 2 [117, 99] [117, 97] [114, 98] 2) 0 1 = gc3 := by
 show (⟨3, [117, 99], [117, 97], [114, 98], min (0 + 1) t, 3, 2⟩ : Gr) = ⟨3, [117, 99], [117, 97], [114, 98], 1, 3, 2⟩
 rw [show min (0 + 1) t = 1 by omega]
theorem gc_holds (d : Nat) (t : Int) : holdsP gN gB (gR d) [gc1 t, gc2 t] [117, 99] = 2 := by kernel_rfl
theorem gc_i0 : GrI [] 0 := ⟨(by simp), (by decide), (by decide), (fun g hg => by cases hg), (fun g hg => by cases hg), (fun g hg => by cases hg)⟩
theorem gc_i1 {t : Int} (t1 : 1 ≤ t) (t2 : t ≤ 10) : GrI [gc1 t] 1 := by
 refine ⟨by simp, by decide, by decide, fun g hg => ?_, fun g hg => ?_, fun g hg => ?_⟩
 all_goals
  rw [List.mem_singleton] at hg
  subst hg
 ·exact ⟨(show (1 : Int) ≤ 1 by decide), (show (1 : Int) ≤ 1 by decide)⟩
 ·exact ⟨(show (1 : Int) ≤ 1 by decide), (show (1 : Int) ≤ 1073741824 by decide)⟩
 ·exact ⟨(show 0 ≤ t by omega), (show t ≤ 1073741824 by omega)⟩
theorem gc_i2 {t : Int} (t1 : 1 ≤ t) (t2 : t ≤ 10) : GrI [gc1 t, gc2 t] 2 := by
 refine ⟨by simp, by decide, by decide, fun g hg => ?_, fun g hg => ?_, fun g hg => ?_⟩
 all_goals
  rcases List.mem_cons.1 hg with rfl | hg
  rotate_left
  rw [List.mem_singleton] at hg
  subst hg
 ·exact ⟨(show (1 : Int) ≤ 2 by decide), (show (2 : Int) ≤ 2 by decide)⟩
 ·exact ⟨(show (1 : Int) ≤ 1 by decide), (show (1 : Int) ≤ 2 by decide)⟩
 ·exact ⟨(show (1 : Int) ≤ 2 by decide), (show (2 : Int) ≤ 1073741824 by decide)⟩
 ·exact ⟨(show (1 : Int) ≤ 1 by decide), (show (1 : Int) ≤ 1073741824 by decide)⟩
 ·exact ⟨(show 0 ≤ t by omega), (show t ≤ 1073741824 by omega)⟩
 ·exact ⟨(show 0 ≤ t by omega), (show t ≤ 1073741824 by omega)⟩
structure GcEnd (t : Int) (gs : List Gr) : Prop where
 few : gs.length ≤ 1000
 f1 : gFind gs 1 = some (gc1 t)
 f2 : gFind gs 2 = some (gc2 t)
 r1 : (remP (fun g => g.num == 1) gs).1.length = 0
 r2 : (remP (fun g => g.num == 2) gs).1.length = 1
theorem gc_end2 (t : Int) : GcEnd t [gc1 t, gc2 t] := ⟨by simp, rfl, rfl, rfl, rfl⟩
theorem gc_end3 (t : Int) : GcEnd t [gc1 t, gc2 t, gc3] := ⟨by simp, rfl, rfl, rfl, rfl⟩
end Go.Proofs.YtkalfhhdljndfaaGreatDoor
