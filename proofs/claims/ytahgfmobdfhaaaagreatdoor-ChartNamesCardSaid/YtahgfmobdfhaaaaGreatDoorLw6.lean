/-
  rule.lineWords: the walks, of what is no kind; of lists that are empty, and yet not nil.
-/
import Derived.Test.YtahgfmobdfhaaaaGreatDoorLw1
import Derived.Test.YtahgfmobdfhaaaaGreatDoorRd4
import Derived.Laws.AppendOwnNone
import Derived.Deep.AppendLies
namespace Go.Proofs.YtahgfmobdfhaaaaGreatDoor
set_option maxRecDepth 100000
open Go.ChangeShapes Go.WideShapes Go.ChangeAt Go.RowKit
set_option maxHeartbeats 4000000 in
theorem lw_none (nm rf rt rb ra ri : Tx) (kd rn rm ln : Int) {A : Option Addr} {na ca : Nat} (w : World) (k1 : (kd == 1) = false) (k2 : (kd == 2) = false) (k3 : (kd == 3) = false) (k4 : (kd == 4) = false) (k5 : (kd == 5) = false) (k6 : (kd == 6) = false) (k7 : (kd == 7) = false) (k8 : (kd == 8) = false) (k9 : (kd == 9) = false) (k10 : (kd == 10) = false) (k11 : (kd == 11) = false) :
    Calls Tryz.prog 24 #[.agg #[.int .i64 kd, .string (bs nm), .slice A na ca, .int .i64 rn, .int .i64 rm, .string (bs rf), .string (bs rt), .string (bs rb), .string (bs ra), .string (bs ri), .int .i64 ln]] w (LineTo ([wordP kindT kd]) w) := by
  have RA : (w.alloc (.cells #[.int .i64 kd, .string (bs nm), .slice A na ca, .int .i64 rn, .int .i64 rm, .string (bs rf), .string (bs rt), .string (bs rb), .string (bs ra), .string (bs ri), .int .i64 ln] 41)).drew.heap[w.heap.size]? = some (.cells #[.int .i64 kd, .string (bs nm), .slice A na ca, .int .i64 rn, .int .i64 rm, .string (bs rf), .string (bs rt), .string (bs rb), .string (bs ra), .string (bs ri), .int .i64 ln] 41 (0, 0)) := (heap_alloc_new _ _ : (w.alloc (.cells #[.int .i64 kd, .string (bs nm), .slice A na ca, .int .i64 rn, .int .i64 rm, .string (bs rf), .string (bs rt), .string (bs rb), .string (bs ra), .string (bs ri), .int .i64 ln] 41)).heap[w.heap.size]? = _)
  have HB : Below w.heap.size w (w.alloc (.cells #[.int .i64 kd, .string (bs nm), .slice A na ca, .int .i64 rn, .int .i64 rm, .string (bs rf), .string (bs rt), .string (bs rb), .string (bs ra), .string (bs ri), .int .i64 ln] 41)).drew := ((Below.refl _ _).alloc (Nat.le_refl _) _).drew
  obtain ⟨i0, hi, hz0, hz1, hz2⟩ := info_parts Tryz.infoString
  go_enter Tryz.func24, Tryz.ntmps24
  go_upto_region 1 with fail
  go_region_held3 (fun w' => w'.cell? ⟨w.heap.size, 0, none⟩ = some (.int .i64 kd)) (first | exact row_q0 RA | exact row_q0 (row_alloc RA _) | assumption)
    (first
      | (go_at_call 56; refine (kindWords_any _).mono ?_; rintro e w1 ⟨t, rfl, ht, hst, hb1⟩; have HT := Lib.hid ht; clear ht; have RA := row_below RA hb1; have HB := below_then HB hb1 HB.size)
      | (go_at_call 55; refine (wordAt_any t 12 12 kindT kd _ hst rfl (by decide) (by decide)).mono ?_; rintro e w2 ⟨rfl, rfl⟩))
  have L0 : LS w (w1.alloc (.cells #[.string (bs (wordP kindT kd))] 9)) #[.int .i64 kd, .string (bs nm), .slice A na ca, .int .i64 rn, .int .i64 rm, .string (bs rf), .string (bs rt), .string (bs rb), .string (bs ra), .string (bs ri), .int .i64 ln] (.slice (some ⟨w1.heap.size, 0, none⟩) 1 1) [wordP kindT kd] :=
    ⟨row_alloc RA _, own_new w1 _ [wordP kindT kd] (by have := (Array.getElem?_eq_some_iff.1 RA).1; omega) (by simp), HB.alloc HB.size _⟩
  generalize w1.alloc (.cells #[.string (bs (wordP kindT kd))] 9) = X0 at *
  generalize w1.heap.size = h1 at *
  have q0 := row_q0 L0.row
  clear HT hst hb1 RA HB
  obtain ⟨l0, hl0⟩ : ∃ q, q = [wordP kindT kd] := ⟨_, rfl⟩
  rw [← hl0] at L0
  have n0 : l0.length ≤ 1 := by rw [hl0]; simp
  have HL0 := Lib.hid hl0
  clear hl0
  go_wp2
  go_ret
  exact lineTo_mk HL0.out L0
end Go.Proofs.YtahgfmobdfhaaaaGreatDoor
namespace Go.Proofs.YtahgfmobdfhaaaaGreatDoor
set_option maxRecDepth 100000
open Go.ChangeShapes Go.WideShapes Go.ChangeAt Go.RowKit
set_option maxHeartbeats 4000000 in
theorem lw_roleE (nm rf rt rb ra ri : Tx) (rn rm ln : Int) (a : Addr) (c : Nat) (w : World) :
    Calls Tryz.prog 24 #[.agg #[.int .i64 1, .string (bs nm), .slice (some a) 0 c, .int .i64 rn, .int .i64 rm, .string (bs rf), .string (bs rt), .string (bs rb), .string (bs ra), .string (bs ri), .int .i64 ln]] w (LineTo ([wordP kindT 1] ++ [nm]) w) := by
  have RA : (w.alloc (.cells #[.int .i64 1, .string (bs nm), .slice (some a) 0 c, .int .i64 rn, .int .i64 rm, .string (bs rf), .string (bs rt), .string (bs rb), .string (bs ra), .string (bs ri), .int .i64 ln] 41)).drew.heap[w.heap.size]? = some (.cells #[.int .i64 1, .string (bs nm), .slice (some a) 0 c, .int .i64 rn, .int .i64 rm, .string (bs rf), .string (bs rt), .string (bs rb), .string (bs ra), .string (bs ri), .int .i64 ln] 41 (0, 0)) := (heap_alloc_new _ _ : (w.alloc (.cells #[.int .i64 1, .string (bs nm), .slice (some a) 0 c, .int .i64 rn, .int .i64 rm, .string (bs rf), .string (bs rt), .string (bs rb), .string (bs ra), .string (bs ri), .int .i64 ln] 41)).heap[w.heap.size]? = _)
  have HB : Below w.heap.size w (w.alloc (.cells #[.int .i64 1, .string (bs nm), .slice (some a) 0 c, .int .i64 rn, .int .i64 rm, .string (bs rf), .string (bs rt), .string (bs rb), .string (bs ra), .string (bs ri), .int .i64 ln] 41)).drew := ((Below.refl _ _).alloc (Nat.le_refl _) _).drew
  obtain ⟨i0, hi, hz0, hz1, hz2⟩ := info_parts Tryz.infoString
  go_enter Tryz.func24, Tryz.ntmps24
  go_upto_region 1 with fail
  go_region_held3 (fun w' => w'.cell? ⟨w.heap.size, 0, none⟩ = some (.int .i64 1)) (first | exact row_q0 RA | exact row_q0 (row_alloc RA _) | assumption)
    (first
      | (go_at_call 56; refine (kindWords_any _).mono ?_; rintro e w1 ⟨t, rfl, ht, hst, hb1⟩; have HT := Lib.hid ht; clear ht; have RA := row_below RA hb1; have HB := below_then HB hb1 HB.size)
      | (go_at_call 55; refine (wordAt_any t 12 12 kindT 1 _ hst rfl (by decide) (by decide)).mono ?_; rintro e w2 ⟨rfl, rfl⟩))
  have L0 : LS w (w1.alloc (.cells #[.string (bs (wordP kindT 1))] 9)) #[.int .i64 1, .string (bs nm), .slice (some a) 0 c, .int .i64 rn, .int .i64 rm, .string (bs rf), .string (bs rt), .string (bs rb), .string (bs ra), .string (bs ri), .int .i64 ln] (.slice (some ⟨w1.heap.size, 0, none⟩) 1 1) [wordP kindT 1] :=
    ⟨row_alloc RA _, own_new w1 _ [wordP kindT 1] (by have := (Array.getElem?_eq_some_iff.1 RA).1; omega) (by simp), HB.alloc HB.size _⟩
  generalize w1.alloc (.cells #[.string (bs (wordP kindT 1))] 9) = X0 at *
  generalize w1.heap.size = h1 at *
  clear HT hst hb1 RA HB
  obtain ⟨l0, hl0⟩ : ∃ q, q = [wordP kindT 1] := ⟨_, rfl⟩
  rw [← hl0] at L0
  have n0 : l0.length ≤ 1 := by rw [hl0]; simp
  have HL0 := Lib.hid hl0
  clear hl0
  have q1 := row_q1 L0.row; have q2 := row_q2 L0.row; have q3 := row_q3 L0.row; have q4 := row_q4 L0.row; have q5 := row_q5 L0.row; have q6 := row_q6 L0.row; have q7 := row_q7 L0.row; have q8 := row_q8 L0.row; have q9 := row_q9 L0.row
  go_upto_region 5 with (at_builtin; go_must (refine wpList_append_own _ rfl (.tmp 13) (.tmp 16) 28 rfl (w.heap.size + 1) 9 i0 _ 1 16 Tryz.underlying28 hi hz0 hz1 hz2 rfl (by decide) _ _ _ rfl (L0.own.alloc _) ⟨X0.heap.size, 0, none⟩ 1 1 (scells [nm]) rfl rfl (cells_new _ (scells [nm]) _) (scells_one _) (by unfold maxLen; omega) (by omega) (by have := L0.size; (try simp); omega) ?_); intro v1 X1 hown1 hg1 _)
  have L1 := L0.app (World.grownBy_alloc _ _ none) hg1 hown1
  clear q1 q2 q3 q4 q5 q6 q7 q8 q9
  obtain ⟨l1, hl1⟩ : ∃ q, q = l0 ++ [nm] := ⟨_, rfl⟩
  rw [← hl1] at L1
  have n1 : l1.length ≤ 6 := by rw [hl1]; simp; omega
  have HL1 := Lib.hid hl1
  clear hl1
  obtain ⟨A1, c1, rfl⟩ := own_slice L1.own
  have q1 := row_q1 L1.row; have q2 := row_q2 L1.row; have q3 := row_q3 L1.row; have q4 := row_q4 L1.row; have q5 := row_q5 L1.row; have q6 := row_q6 L1.row; have q7 := row_q7 L1.row; have q8 := row_q8 L1.row; have q9 := row_q9 L1.row
  go_upto_region 7 with fail
  clear q1 q2 q3 q4 q5 q6 q7 q8 q9
  have q1 := row_q1 L1.row; have q2 := row_q2 L1.row; have q3 := row_q3 L1.row; have q4 := row_q4 L1.row; have q5 := row_q5 L1.row; have q6 := row_q6 L1.row; have q7 := row_q7 L1.row; have q8 := row_q8 L1.row; have q9 := row_q9 L1.row
  have HSRC3 : ∀ j u, (scells [])[j]? = some u → X1.cell? (a.add j) = some u := (by intro j u hu; simp [scells] at hu)
  go_wp2_with (at_builtin; go_must (refine wpList_append_own _ rfl (.tmp 25) (.tmp 27) 28 rfl (w.heap.size + 1) 9 i0 _ 1 16 Tryz.underlying28 hi hz0 hz1 hz2 rfl (by decide) _ _ _ rfl L1.own a 0 c (scells []) rfl (by simp [scells]) HSRC3 (scells_one _) (by unfold maxLen; omega) (by omega) (by have := L1.size; (try simp); omega) ?_); intro v3 X3 hown3 hg3 _)
  have L3 := L1.app (World.grownBy.refl _ _) hg3 hown3
  clear q1 q2 q3 q4 q5 q6 q7 q8 q9
  go_ret
  exact lineTo_mk (by rw [HL1.out, HL0.out]; try simp) L3

set_option maxHeartbeats 4000000 in
theorem lw_exclE (nm rf rt rb ra ri : Tx) (rn rm ln : Int) (a : Addr) (c : Nat) (w : World) :
    Calls Tryz.prog 24 #[.agg #[.int .i64 6, .string (bs nm), .slice (some a) 0 c, .int .i64 rn, .int .i64 rm, .string (bs rf), .string (bs rt), .string (bs rb), .string (bs ra), .string (bs ri), .int .i64 ln]] w (LineTo ([wordP kindT 6]) w) := by
  have RA : (w.alloc (.cells #[.int .i64 6, .string (bs nm), .slice (some a) 0 c, .int .i64 rn, .int .i64 rm, .string (bs rf), .string (bs rt), .string (bs rb), .string (bs ra), .string (bs ri), .int .i64 ln] 41)).drew.heap[w.heap.size]? = some (.cells #[.int .i64 6, .string (bs nm), .slice (some a) 0 c, .int .i64 rn, .int .i64 rm, .string (bs rf), .string (bs rt), .string (bs rb), .string (bs ra), .string (bs ri), .int .i64 ln] 41 (0, 0)) := (heap_alloc_new _ _ : (w.alloc (.cells #[.int .i64 6, .string (bs nm), .slice (some a) 0 c, .int .i64 rn, .int .i64 rm, .string (bs rf), .string (bs rt), .string (bs rb), .string (bs ra), .string (bs ri), .int .i64 ln] 41)).heap[w.heap.size]? = _)
  have HB : Below w.heap.size w (w.alloc (.cells #[.int .i64 6, .string (bs nm), .slice (some a) 0 c, .int .i64 rn, .int .i64 rm, .string (bs rf), .string (bs rt), .string (bs rb), .string (bs ra), .string (bs ri), .int .i64 ln] 41)).drew := ((Below.refl _ _).alloc (Nat.le_refl _) _).drew
  obtain ⟨i0, hi, hz0, hz1, hz2⟩ := info_parts Tryz.infoString
  go_enter Tryz.func24, Tryz.ntmps24
  go_upto_region 1 with fail
  go_region_held3 (fun w' => w'.cell? ⟨w.heap.size, 0, none⟩ = some (.int .i64 6)) (first | exact row_q0 RA | exact row_q0 (row_alloc RA _) | assumption)
    (first
      | (go_at_call 56; refine (kindWords_any _).mono ?_; rintro e w1 ⟨t, rfl, ht, hst, hb1⟩; have HT := Lib.hid ht; clear ht; have RA := row_below RA hb1; have HB := below_then HB hb1 HB.size)
      | (go_at_call 55; refine (wordAt_any t 12 12 kindT 6 _ hst rfl (by decide) (by decide)).mono ?_; rintro e w2 ⟨rfl, rfl⟩))
  have L0 : LS w (w1.alloc (.cells #[.string (bs (wordP kindT 6))] 9)) #[.int .i64 6, .string (bs nm), .slice (some a) 0 c, .int .i64 rn, .int .i64 rm, .string (bs rf), .string (bs rt), .string (bs rb), .string (bs ra), .string (bs ri), .int .i64 ln] (.slice (some ⟨w1.heap.size, 0, none⟩) 1 1) [wordP kindT 6] :=
    ⟨row_alloc RA _, own_new w1 _ [wordP kindT 6] (by have := (Array.getElem?_eq_some_iff.1 RA).1; omega) (by simp), HB.alloc HB.size _⟩
  generalize w1.alloc (.cells #[.string (bs (wordP kindT 6))] 9) = X0 at *
  generalize w1.heap.size = h1 at *
  clear HT hst hb1 RA HB
  obtain ⟨l0, hl0⟩ : ∃ q, q = [wordP kindT 6] := ⟨_, rfl⟩
  rw [← hl0] at L0
  have n0 : l0.length ≤ 1 := by rw [hl0]; simp
  have HL0 := Lib.hid hl0
  clear hl0
  have q1 := row_q1 L0.row; have q2 := row_q2 L0.row; have q3 := row_q3 L0.row; have q4 := row_q4 L0.row; have q5 := row_q5 L0.row; have q6 := row_q6 L0.row; have q7 := row_q7 L0.row; have q8 := row_q8 L0.row; have q9 := row_q9 L0.row
  have HSRC1 : ∀ j u, (scells [])[j]? = some u → X0.cell? (a.add j) = some u := (by intro j u hu; simp [scells] at hu)
  go_wp2_with (at_builtin; go_must (refine wpList_append_own _ rfl (.tmp 56) (.tmp 58) 28 rfl (w.heap.size + 1) 9 i0 _ 1 16 Tryz.underlying28 hi hz0 hz1 hz2 rfl (by decide) _ _ _ rfl L0.own a 0 c (scells []) rfl (by simp [scells]) HSRC1 (scells_one _) (by unfold maxLen; omega) (by omega) (by have := L0.size; (try simp); omega) ?_); intro v1 X1 hown1 hg1 _)
  have L1 := L0.app (World.grownBy.refl _ _) hg1 hown1
  clear q1 q2 q3 q4 q5 q6 q7 q8 q9
  go_ret
  exact lineTo_mk (by rw [HL0.out]; try simp) L1

set_option maxHeartbeats 4000000 in
theorem lw_user2E (nm rf rt rb ra ri : Tx) (rn rm ln : Int) (a : Addr) (c : Nat) (w : World) :
    Calls Tryz.prog 24 #[.agg #[.int .i64 2, .string (bs nm), .slice (some a) 0 c, .int .i64 rn, .int .i64 rm, .string (bs rf), .string (bs rt), .string (bs rb), .string (bs ra), .string (bs ri), .int .i64 ln]] w (LineTo ([wordP kindT 2] ++ [nm]) w) := by
  have RA : (w.alloc (.cells #[.int .i64 2, .string (bs nm), .slice (some a) 0 c, .int .i64 rn, .int .i64 rm, .string (bs rf), .string (bs rt), .string (bs rb), .string (bs ra), .string (bs ri), .int .i64 ln] 41)).drew.heap[w.heap.size]? = some (.cells #[.int .i64 2, .string (bs nm), .slice (some a) 0 c, .int .i64 rn, .int .i64 rm, .string (bs rf), .string (bs rt), .string (bs rb), .string (bs ra), .string (bs ri), .int .i64 ln] 41 (0, 0)) := (heap_alloc_new _ _ : (w.alloc (.cells #[.int .i64 2, .string (bs nm), .slice (some a) 0 c, .int .i64 rn, .int .i64 rm, .string (bs rf), .string (bs rt), .string (bs rb), .string (bs ra), .string (bs ri), .int .i64 ln] 41)).heap[w.heap.size]? = _)
  have HB : Below w.heap.size w (w.alloc (.cells #[.int .i64 2, .string (bs nm), .slice (some a) 0 c, .int .i64 rn, .int .i64 rm, .string (bs rf), .string (bs rt), .string (bs rb), .string (bs ra), .string (bs ri), .int .i64 ln] 41)).drew := ((Below.refl _ _).alloc (Nat.le_refl _) _).drew
  obtain ⟨i0, hi, hz0, hz1, hz2⟩ := info_parts Tryz.infoString
  go_enter Tryz.func24, Tryz.ntmps24
  go_upto_region 1 with fail
  go_region_held3 (fun w' => w'.cell? ⟨w.heap.size, 0, none⟩ = some (.int .i64 2)) (first | exact row_q0 RA | exact row_q0 (row_alloc RA _) | assumption)
    (first
      | (go_at_call 56; refine (kindWords_any _).mono ?_; rintro e w1 ⟨t, rfl, ht, hst, hb1⟩; have HT := Lib.hid ht; clear ht; have RA := row_below RA hb1; have HB := below_then HB hb1 HB.size)
      | (go_at_call 55; refine (wordAt_any t 12 12 kindT 2 _ hst rfl (by decide) (by decide)).mono ?_; rintro e w2 ⟨rfl, rfl⟩))
  have L0 : LS w (w1.alloc (.cells #[.string (bs (wordP kindT 2))] 9)) #[.int .i64 2, .string (bs nm), .slice (some a) 0 c, .int .i64 rn, .int .i64 rm, .string (bs rf), .string (bs rt), .string (bs rb), .string (bs ra), .string (bs ri), .int .i64 ln] (.slice (some ⟨w1.heap.size, 0, none⟩) 1 1) [wordP kindT 2] :=
    ⟨row_alloc RA _, own_new w1 _ [wordP kindT 2] (by have := (Array.getElem?_eq_some_iff.1 RA).1; omega) (by simp), HB.alloc HB.size _⟩
  generalize w1.alloc (.cells #[.string (bs (wordP kindT 2))] 9) = X0 at *
  generalize w1.heap.size = h1 at *
  clear HT hst hb1 RA HB
  obtain ⟨l0, hl0⟩ : ∃ q, q = [wordP kindT 2] := ⟨_, rfl⟩
  rw [← hl0] at L0
  have n0 : l0.length ≤ 1 := by rw [hl0]; simp
  have HL0 := Lib.hid hl0
  clear hl0
  have q1 := row_q1 L0.row; have q2 := row_q2 L0.row; have q3 := row_q3 L0.row; have q4 := row_q4 L0.row; have q5 := row_q5 L0.row; have q6 := row_q6 L0.row; have q7 := row_q7 L0.row; have q8 := row_q8 L0.row; have q9 := row_q9 L0.row
  go_upto_region 11 with (at_builtin; go_must (refine wpList_append_own _ rfl (.tmp 32) (.tmp 35) 28 rfl (w.heap.size + 1) 9 i0 _ 1 16 Tryz.underlying28 hi hz0 hz1 hz2 rfl (by decide) _ _ _ rfl (L0.own.alloc _) ⟨X0.heap.size, 0, none⟩ 1 1 (scells [nm]) rfl rfl (cells_new _ (scells [nm]) _) (scells_one _) (by unfold maxLen; omega) (by omega) (by have := L0.size; (try simp); omega) ?_); intro v1 X1 hown1 hg1 _)
  have L1 := L0.app (World.grownBy_alloc _ _ none) hg1 hown1
  clear q1 q2 q3 q4 q5 q6 q7 q8 q9
  obtain ⟨l1, hl1⟩ : ∃ q, q = l0 ++ [nm] := ⟨_, rfl⟩
  rw [← hl1] at L1
  have n1 : l1.length ≤ 6 := by rw [hl1]; simp; omega
  have HL1 := Lib.hid hl1
  clear hl1
  obtain ⟨A1, c1, rfl⟩ := own_slice L1.own
  have q1 := row_q1 L1.row; have q2 := row_q2 L1.row; have q3 := row_q3 L1.row; have q4 := row_q4 L1.row; have q5 := row_q5 L1.row; have q6 := row_q6 L1.row; have q7 := row_q7 L1.row; have q8 := row_q8 L1.row; have q9 := row_q9 L1.row
  have HSRC2 : ∀ j u, (scells [])[j]? = some u → X1.cell? (a.add j) = some u := (by intro j u hu; simp [scells] at hu)
  go_wp2_with (at_builtin; go_must (refine wpList_append_own _ rfl (.tmp 37) (.tmp 39) 28 rfl (w.heap.size + 1) 9 i0 _ 1 16 Tryz.underlying28 hi hz0 hz1 hz2 rfl (by decide) _ _ _ rfl L1.own a 0 c (scells []) rfl (by simp [scells]) HSRC2 (scells_one _) (by unfold maxLen; omega) (by omega) (by have := L1.size; (try simp); omega) ?_); intro v2 X2 hown2 hg2 _)
  have L2 := L1.app (World.grownBy.refl _ _) hg2 hown2
  clear q1 q2 q3 q4 q5 q6 q7 q8 q9
  go_ret
  exact lineTo_mk (by rw [HL1.out, HL0.out]; try simp) L2

set_option maxHeartbeats 4000000 in
theorem lw_user3E (nm rf rt rb ra ri : Tx) (rn rm ln : Int) (a : Addr) (c : Nat) (w : World) :
    Calls Tryz.prog 24 #[.agg #[.int .i64 3, .string (bs nm), .slice (some a) 0 c, .int .i64 rn, .int .i64 rm, .string (bs rf), .string (bs rt), .string (bs rb), .string (bs ra), .string (bs ri), .int .i64 ln]] w (LineTo ([wordP kindT 3] ++ [nm]) w) := by
  have RA : (w.alloc (.cells #[.int .i64 3, .string (bs nm), .slice (some a) 0 c, .int .i64 rn, .int .i64 rm, .string (bs rf), .string (bs rt), .string (bs rb), .string (bs ra), .string (bs ri), .int .i64 ln] 41)).drew.heap[w.heap.size]? = some (.cells #[.int .i64 3, .string (bs nm), .slice (some a) 0 c, .int .i64 rn, .int .i64 rm, .string (bs rf), .string (bs rt), .string (bs rb), .string (bs ra), .string (bs ri), .int .i64 ln] 41 (0, 0)) := (heap_alloc_new _ _ : (w.alloc (.cells #[.int .i64 3, .string (bs nm), .slice (some a) 0 c, .int .i64 rn, .int .i64 rm, .string (bs rf), .string (bs rt), .string (bs rb), .string (bs ra), .string (bs ri), .int .i64 ln] 41)).heap[w.heap.size]? = _)
  have HB : Below w.heap.size w (w.alloc (.cells #[.int .i64 3, .string (bs nm), .slice (some a) 0 c, .int .i64 rn, .int .i64 rm, .string (bs rf), .string (bs rt), .string (bs rb), .string (bs ra), .string (bs ri), .int .i64 ln] 41)).drew := ((Below.refl _ _).alloc (Nat.le_refl _) _).drew
  obtain ⟨i0, hi, hz0, hz1, hz2⟩ := info_parts Tryz.infoString
  go_enter Tryz.func24, Tryz.ntmps24
  go_upto_region 1 with fail
  go_region_held3 (fun w' => w'.cell? ⟨w.heap.size, 0, none⟩ = some (.int .i64 3)) (first | exact row_q0 RA | exact row_q0 (row_alloc RA _) | assumption)
    (first
      | (go_at_call 56; refine (kindWords_any _).mono ?_; rintro e w1 ⟨t, rfl, ht, hst, hb1⟩; have HT := Lib.hid ht; clear ht; have RA := row_below RA hb1; have HB := below_then HB hb1 HB.size)
      | (go_at_call 55; refine (wordAt_any t 12 12 kindT 3 _ hst rfl (by decide) (by decide)).mono ?_; rintro e w2 ⟨rfl, rfl⟩))
  have L0 : LS w (w1.alloc (.cells #[.string (bs (wordP kindT 3))] 9)) #[.int .i64 3, .string (bs nm), .slice (some a) 0 c, .int .i64 rn, .int .i64 rm, .string (bs rf), .string (bs rt), .string (bs rb), .string (bs ra), .string (bs ri), .int .i64 ln] (.slice (some ⟨w1.heap.size, 0, none⟩) 1 1) [wordP kindT 3] :=
    ⟨row_alloc RA _, own_new w1 _ [wordP kindT 3] (by have := (Array.getElem?_eq_some_iff.1 RA).1; omega) (by simp), HB.alloc HB.size _⟩
  generalize w1.alloc (.cells #[.string (bs (wordP kindT 3))] 9) = X0 at *
  generalize w1.heap.size = h1 at *
  clear HT hst hb1 RA HB
  obtain ⟨l0, hl0⟩ : ∃ q, q = [wordP kindT 3] := ⟨_, rfl⟩
  rw [← hl0] at L0
  have n0 : l0.length ≤ 1 := by rw [hl0]; simp
  have HL0 := Lib.hid hl0
  clear hl0
  have q1 := row_q1 L0.row; have q2 := row_q2 L0.row; have q3 := row_q3 L0.row; have q4 := row_q4 L0.row; have q5 := row_q5 L0.row; have q6 := row_q6 L0.row; have q7 := row_q7 L0.row; have q8 := row_q8 L0.row; have q9 := row_q9 L0.row
  go_upto_region 11 with (at_builtin; go_must (refine wpList_append_own _ rfl (.tmp 32) (.tmp 35) 28 rfl (w.heap.size + 1) 9 i0 _ 1 16 Tryz.underlying28 hi hz0 hz1 hz2 rfl (by decide) _ _ _ rfl (L0.own.alloc _) ⟨X0.heap.size, 0, none⟩ 1 1 (scells [nm]) rfl rfl (cells_new _ (scells [nm]) _) (scells_one _) (by unfold maxLen; omega) (by omega) (by have := L0.size; (try simp); omega) ?_); intro v1 X1 hown1 hg1 _)
  have L1 := L0.app (World.grownBy_alloc _ _ none) hg1 hown1
  clear q1 q2 q3 q4 q5 q6 q7 q8 q9
  obtain ⟨l1, hl1⟩ : ∃ q, q = l0 ++ [nm] := ⟨_, rfl⟩
  rw [← hl1] at L1
  have n1 : l1.length ≤ 6 := by rw [hl1]; simp; omega
  have HL1 := Lib.hid hl1
  clear hl1
  obtain ⟨A1, c1, rfl⟩ := own_slice L1.own
  have q1 := row_q1 L1.row; have q2 := row_q2 L1.row; have q3 := row_q3 L1.row; have q4 := row_q4 L1.row; have q5 := row_q5 L1.row; have q6 := row_q6 L1.row; have q7 := row_q7 L1.row; have q8 := row_q8 L1.row; have q9 := row_q9 L1.row
  have HSRC2 : ∀ j u, (scells [])[j]? = some u → X1.cell? (a.add j) = some u := (by intro j u hu; simp [scells] at hu)
  go_wp2_with (at_builtin; go_must (refine wpList_append_own _ rfl (.tmp 37) (.tmp 39) 28 rfl (w.heap.size + 1) 9 i0 _ 1 16 Tryz.underlying28 hi hz0 hz1 hz2 rfl (by decide) _ _ _ rfl L1.own a 0 c (scells []) rfl (by simp [scells]) HSRC2 (scells_one _) (by unfold maxLen; omega) (by omega) (by have := L1.size; (try simp); omega) ?_); intro v2 X2 hown2 hg2 _)
  have L2 := L1.app (World.grownBy.refl _ _) hg2 hown2
  clear q1 q2 q3 q4 q5 q6 q7 q8 q9
  go_ret
  exact lineTo_mk (by rw [HL1.out, HL0.out]; try simp) L2

set_option maxHeartbeats 4000000 in
theorem lw_ssd4E (nm rf rt rb ra ri : Tx) (rn rm ln : Int) (a : Addr) (c : Nat) (w : World) (it : Tx) (hit : ∀ W, Below w.heap.size w W → Calls Tryz.prog 57 #[.int .i64 rn] W fun e w' => e = .returned (.string (bs it)) ∧ Below W.heap.size W w') :
    Calls Tryz.prog 24 #[.agg #[.int .i64 4, .string (bs nm), .slice (some a) 0 c, .int .i64 rn, .int .i64 rm, .string (bs rf), .string (bs rt), .string (bs rb), .string (bs ra), .string (bs ri), .int .i64 ln]] w (LineTo ([wordP kindT 4] ++ [it]) w) := by
  have RA : (w.alloc (.cells #[.int .i64 4, .string (bs nm), .slice (some a) 0 c, .int .i64 rn, .int .i64 rm, .string (bs rf), .string (bs rt), .string (bs rb), .string (bs ra), .string (bs ri), .int .i64 ln] 41)).drew.heap[w.heap.size]? = some (.cells #[.int .i64 4, .string (bs nm), .slice (some a) 0 c, .int .i64 rn, .int .i64 rm, .string (bs rf), .string (bs rt), .string (bs rb), .string (bs ra), .string (bs ri), .int .i64 ln] 41 (0, 0)) := (heap_alloc_new _ _ : (w.alloc (.cells #[.int .i64 4, .string (bs nm), .slice (some a) 0 c, .int .i64 rn, .int .i64 rm, .string (bs rf), .string (bs rt), .string (bs rb), .string (bs ra), .string (bs ri), .int .i64 ln] 41)).heap[w.heap.size]? = _)
  have HB : Below w.heap.size w (w.alloc (.cells #[.int .i64 4, .string (bs nm), .slice (some a) 0 c, .int .i64 rn, .int .i64 rm, .string (bs rf), .string (bs rt), .string (bs rb), .string (bs ra), .string (bs ri), .int .i64 ln] 41)).drew := ((Below.refl _ _).alloc (Nat.le_refl _) _).drew
  obtain ⟨i0, hi, hz0, hz1, hz2⟩ := info_parts Tryz.infoString
  go_enter Tryz.func24, Tryz.ntmps24
  go_upto_region 1 with fail
  go_region_held3 (fun w' => w'.cell? ⟨w.heap.size, 0, none⟩ = some (.int .i64 4)) (first | exact row_q0 RA | exact row_q0 (row_alloc RA _) | assumption)
    (first
      | (go_at_call 56; refine (kindWords_any _).mono ?_; rintro e w1 ⟨t, rfl, ht, hst, hb1⟩; have HT := Lib.hid ht; clear ht; have RA := row_below RA hb1; have HB := below_then HB hb1 HB.size)
      | (go_at_call 55; refine (wordAt_any t 12 12 kindT 4 _ hst rfl (by decide) (by decide)).mono ?_; rintro e w2 ⟨rfl, rfl⟩))
  have L0 : LS w (w1.alloc (.cells #[.string (bs (wordP kindT 4))] 9)) #[.int .i64 4, .string (bs nm), .slice (some a) 0 c, .int .i64 rn, .int .i64 rm, .string (bs rf), .string (bs rt), .string (bs rb), .string (bs ra), .string (bs ri), .int .i64 ln] (.slice (some ⟨w1.heap.size, 0, none⟩) 1 1) [wordP kindT 4] :=
    ⟨row_alloc RA _, own_new w1 _ [wordP kindT 4] (by have := (Array.getElem?_eq_some_iff.1 RA).1; omega) (by simp), HB.alloc HB.size _⟩
  generalize w1.alloc (.cells #[.string (bs (wordP kindT 4))] 9) = X0 at *
  generalize w1.heap.size = h1 at *
  clear HT hst hb1 RA HB
  obtain ⟨l0, hl0⟩ : ∃ q, q = [wordP kindT 4] := ⟨_, rfl⟩
  rw [← hl0] at L0
  have n0 : l0.length ≤ 1 := by rw [hl0]; simp
  have HL0 := Lib.hid hl0
  clear hl0
  have q1 := row_q1 L0.row; have q2 := row_q2 L0.row; have q3 := row_q3 L0.row; have q4 := row_q4 L0.row; have q5 := row_q5 L0.row; have q6 := row_q6 L0.row; have q7 := row_q7 L0.row; have q8 := row_q8 L0.row; have q9 := row_q9 L0.row
  go_upto_region 15 with (first | (go_at_call 57; refine (hit _ L0.low).mono ?_; rintro e XI ⟨rfl, hbI⟩; have LI := L0.below hbI) | (at_builtin; go_must (refine wpList_append_own _ rfl (.tmp 44) (.tmp 48) 28 rfl (w.heap.size + 1) 9 i0 _ 1 16 Tryz.underlying28 hi hz0 hz1 hz2 rfl (by decide) _ _ _ rfl (LI.own.alloc _) ⟨XI.heap.size, 0, none⟩ 1 1 (scells [it]) rfl rfl (cells_new _ (scells [it]) _) (scells_one _) (by unfold maxLen; omega) (by omega) (by have := LI.size; (try simp); omega) ?_); intro v1 X1 hown1 hg1 _))
  have L1 := LI.app (World.grownBy_alloc _ _ none) hg1 hown1
  clear q1 q2 q3 q4 q5 q6 q7 q8 q9
  obtain ⟨l1, hl1⟩ : ∃ q, q = l0 ++ [it] := ⟨_, rfl⟩
  rw [← hl1] at L1
  have n1 : l1.length ≤ 6 := by rw [hl1]; simp; omega
  have HL1 := Lib.hid hl1
  clear hl1
  obtain ⟨A1, c1, rfl⟩ := own_slice L1.own
  have q1 := row_q1 L1.row; have q2 := row_q2 L1.row; have q3 := row_q3 L1.row; have q4 := row_q4 L1.row; have q5 := row_q5 L1.row; have q6 := row_q6 L1.row; have q7 := row_q7 L1.row; have q8 := row_q8 L1.row; have q9 := row_q9 L1.row
  have HSRC2 : ∀ j u, (scells [])[j]? = some u → X1.cell? (a.add j) = some u := (by intro j u hu; simp [scells] at hu)
  go_wp2_with (at_builtin; go_must (refine wpList_append_own _ rfl (.tmp 50) (.tmp 52) 28 rfl (w.heap.size + 1) 9 i0 _ 1 16 Tryz.underlying28 hi hz0 hz1 hz2 rfl (by decide) _ _ _ rfl L1.own a 0 c (scells []) rfl (by simp [scells]) HSRC2 (scells_one _) (by unfold maxLen; omega) (by omega) (by have := L1.size; (try simp); omega) ?_); intro v2 X2 hown2 hg2 _)
  have L2 := L1.app (World.grownBy.refl _ _) hg2 hown2
  clear q1 q2 q3 q4 q5 q6 q7 q8 q9
  go_ret
  exact lineTo_mk (by rw [HL1.out, HL0.out]; try simp) L2

set_option maxHeartbeats 4000000 in
theorem lw_ssd5E (nm rf rt rb ra ri : Tx) (rn rm ln : Int) (a : Addr) (c : Nat) (w : World) (it : Tx) (hit : ∀ W, Below w.heap.size w W → Calls Tryz.prog 57 #[.int .i64 rn] W fun e w' => e = .returned (.string (bs it)) ∧ Below W.heap.size W w') :
    Calls Tryz.prog 24 #[.agg #[.int .i64 5, .string (bs nm), .slice (some a) 0 c, .int .i64 rn, .int .i64 rm, .string (bs rf), .string (bs rt), .string (bs rb), .string (bs ra), .string (bs ri), .int .i64 ln]] w (LineTo ([wordP kindT 5] ++ [it]) w) := by
  have RA : (w.alloc (.cells #[.int .i64 5, .string (bs nm), .slice (some a) 0 c, .int .i64 rn, .int .i64 rm, .string (bs rf), .string (bs rt), .string (bs rb), .string (bs ra), .string (bs ri), .int .i64 ln] 41)).drew.heap[w.heap.size]? = some (.cells #[.int .i64 5, .string (bs nm), .slice (some a) 0 c, .int .i64 rn, .int .i64 rm, .string (bs rf), .string (bs rt), .string (bs rb), .string (bs ra), .string (bs ri), .int .i64 ln] 41 (0, 0)) := (heap_alloc_new _ _ : (w.alloc (.cells #[.int .i64 5, .string (bs nm), .slice (some a) 0 c, .int .i64 rn, .int .i64 rm, .string (bs rf), .string (bs rt), .string (bs rb), .string (bs ra), .string (bs ri), .int .i64 ln] 41)).heap[w.heap.size]? = _)
  have HB : Below w.heap.size w (w.alloc (.cells #[.int .i64 5, .string (bs nm), .slice (some a) 0 c, .int .i64 rn, .int .i64 rm, .string (bs rf), .string (bs rt), .string (bs rb), .string (bs ra), .string (bs ri), .int .i64 ln] 41)).drew := ((Below.refl _ _).alloc (Nat.le_refl _) _).drew
  obtain ⟨i0, hi, hz0, hz1, hz2⟩ := info_parts Tryz.infoString
  go_enter Tryz.func24, Tryz.ntmps24
  go_upto_region 1 with fail
  go_region_held3 (fun w' => w'.cell? ⟨w.heap.size, 0, none⟩ = some (.int .i64 5)) (first | exact row_q0 RA | exact row_q0 (row_alloc RA _) | assumption)
    (first
      | (go_at_call 56; refine (kindWords_any _).mono ?_; rintro e w1 ⟨t, rfl, ht, hst, hb1⟩; have HT := Lib.hid ht; clear ht; have RA := row_below RA hb1; have HB := below_then HB hb1 HB.size)
      | (go_at_call 55; refine (wordAt_any t 12 12 kindT 5 _ hst rfl (by decide) (by decide)).mono ?_; rintro e w2 ⟨rfl, rfl⟩))
  have L0 : LS w (w1.alloc (.cells #[.string (bs (wordP kindT 5))] 9)) #[.int .i64 5, .string (bs nm), .slice (some a) 0 c, .int .i64 rn, .int .i64 rm, .string (bs rf), .string (bs rt), .string (bs rb), .string (bs ra), .string (bs ri), .int .i64 ln] (.slice (some ⟨w1.heap.size, 0, none⟩) 1 1) [wordP kindT 5] :=
    ⟨row_alloc RA _, own_new w1 _ [wordP kindT 5] (by have := (Array.getElem?_eq_some_iff.1 RA).1; omega) (by simp), HB.alloc HB.size _⟩
  generalize w1.alloc (.cells #[.string (bs (wordP kindT 5))] 9) = X0 at *
  generalize w1.heap.size = h1 at *
  clear HT hst hb1 RA HB
  obtain ⟨l0, hl0⟩ : ∃ q, q = [wordP kindT 5] := ⟨_, rfl⟩
  rw [← hl0] at L0
  have n0 : l0.length ≤ 1 := by rw [hl0]; simp
  have HL0 := Lib.hid hl0
  clear hl0
  have q1 := row_q1 L0.row; have q2 := row_q2 L0.row; have q3 := row_q3 L0.row; have q4 := row_q4 L0.row; have q5 := row_q5 L0.row; have q6 := row_q6 L0.row; have q7 := row_q7 L0.row; have q8 := row_q8 L0.row; have q9 := row_q9 L0.row
  go_upto_region 15 with (first | (go_at_call 57; refine (hit _ L0.low).mono ?_; rintro e XI ⟨rfl, hbI⟩; have LI := L0.below hbI) | (at_builtin; go_must (refine wpList_append_own _ rfl (.tmp 44) (.tmp 48) 28 rfl (w.heap.size + 1) 9 i0 _ 1 16 Tryz.underlying28 hi hz0 hz1 hz2 rfl (by decide) _ _ _ rfl (LI.own.alloc _) ⟨XI.heap.size, 0, none⟩ 1 1 (scells [it]) rfl rfl (cells_new _ (scells [it]) _) (scells_one _) (by unfold maxLen; omega) (by omega) (by have := LI.size; (try simp); omega) ?_); intro v1 X1 hown1 hg1 _))
  have L1 := LI.app (World.grownBy_alloc _ _ none) hg1 hown1
  clear q1 q2 q3 q4 q5 q6 q7 q8 q9
  obtain ⟨l1, hl1⟩ : ∃ q, q = l0 ++ [it] := ⟨_, rfl⟩
  rw [← hl1] at L1
  have n1 : l1.length ≤ 6 := by rw [hl1]; simp; omega
  have HL1 := Lib.hid hl1
  clear hl1
  obtain ⟨A1, c1, rfl⟩ := own_slice L1.own
  have q1 := row_q1 L1.row; have q2 := row_q2 L1.row; have q3 := row_q3 L1.row; have q4 := row_q4 L1.row; have q5 := row_q5 L1.row; have q6 := row_q6 L1.row; have q7 := row_q7 L1.row; have q8 := row_q8 L1.row; have q9 := row_q9 L1.row
  have HSRC2 : ∀ j u, (scells [])[j]? = some u → X1.cell? (a.add j) = some u := (by intro j u hu; simp [scells] at hu)
  go_wp2_with (at_builtin; go_must (refine wpList_append_own _ rfl (.tmp 50) (.tmp 52) 28 rfl (w.heap.size + 1) 9 i0 _ 1 16 Tryz.underlying28 hi hz0 hz1 hz2 rfl (by decide) _ _ _ rfl L1.own a 0 c (scells []) rfl (by simp [scells]) HSRC2 (scells_one _) (by unfold maxLen; omega) (by omega) (by have := L1.size; (try simp); omega) ?_); intro v2 X2 hown2 hg2 _)
  have L2 := L1.app (World.grownBy.refl _ _) hg2 hown2
  clear q1 q2 q3 q4 q5 q6 q7 q8 q9
  go_ret
  exact lineTo_mk (by rw [HL1.out, HL0.out]; try simp) L2
end Go.Proofs.YtahgfmobdfhaaaaGreatDoor
