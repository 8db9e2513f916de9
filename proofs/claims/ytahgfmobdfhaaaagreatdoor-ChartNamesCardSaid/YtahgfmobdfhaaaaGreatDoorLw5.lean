/-
  Lines that wrong tells.
-/
import Derived.Test.YtahgfmobdfhaaaaGreatDoorLw1
import Derived.Test.YtahgfmobdfhaaaaGreatDoorRd4
import Derived.Laws.AppendOwnNone
import Derived.Deep.AppendLies
namespace Go.Proofs.YtahgfmobdfhaaaaGreatDoor
set_option maxRecDepth 100000
open Go.ChangeShapes Go.WideShapes Go.ChangeAt Go.RowKit
set_option maxHeartbeats 4000000 in
theorem lw_ssd4N (nm rf rt rb ra ri : Tx) (rn rm ln : Int) (w : World) (it : Tx) (hit : ∀ W, Below w.heap.size w W → Calls Tryz.prog 57 #[.int .i64 rn] W fun e w' => e = .returned (.string (bs it)) ∧ Below W.heap.size W w') :
    Calls Tryz.prog 24 #[.agg #[.int .i64 4, .string (bs nm), .slice none 0 0, .int .i64 rn, .int .i64 rm, .string (bs rf), .string (bs rt), .string (bs rb), .string (bs ra), .string (bs ri), .int .i64 ln]] w (LineTo ([wordP kindT 4] ++ [it]) w) := by
  have RA : (w.alloc (.cells #[.int .i64 4, .string (bs nm), .slice none 0 0, .int .i64 rn, .int .i64 rm, .string (bs rf), .string (bs rt), .string (bs rb), .string (bs ra), .string (bs ri), .int .i64 ln] 41)).drew.heap[w.heap.size]? = some (.cells #[.int .i64 4, .string (bs nm), .slice none 0 0, .int .i64 rn, .int .i64 rm, .string (bs rf), .string (bs rt), .string (bs rb), .string (bs ra), .string (bs ri), .int .i64 ln] 41 (0, 0)) := (heap_alloc_new _ _ : (w.alloc (.cells #[.int .i64 4, .string (bs nm), .slice none 0 0, .int .i64 rn, .int .i64 rm, .string (bs rf), .string (bs rt), .string (bs rb), .string (bs ra), .string (bs ri), .int .i64 ln] 41)).heap[w.heap.size]? = _)
  have HB : Below w.heap.size w (w.alloc (.cells #[.int .i64 4, .string (bs nm), .slice none 0 0, .int .i64 rn, .int .i64 rm, .string (bs rf), .string (bs rt), .string (bs rb), .string (bs ra), .string (bs ri), .int .i64 ln] 41)).drew := ((Below.refl _ _).alloc (Nat.le_refl _) _).drew
  obtain ⟨i0, hi, hz0, hz1, hz2⟩ := info_parts Tryz.infoString
  go_enter Tryz.func24, Tryz.ntmps24
  go_upto_region 1 with fail
  go_region_held3 (fun w' => w'.cell? ⟨w.heap.size, 0, none⟩ = some (.int .i64 4)) (first | exact row_q0 RA | exact row_q0 (row_alloc RA _) | assumption)
    (first
      | (go_at_call 56; refine (kindWords_any _).mono ?_; rintro e w1 ⟨t, rfl, ht, hst, hb1⟩; have HT := Lib.hid ht; clear ht; have RA := row_below RA hb1; have HB := below_then HB hb1 HB.size)
      | (go_at_call 55; refine (wordAt_any t 12 12 kindT 4 _ hst rfl (by decide) (by decide)).mono ?_; rintro e w2 ⟨rfl, rfl⟩))
  have L0 : LS w (w1.alloc (.cells #[.string (bs (wordP kindT 4))] 9)) #[.int .i64 4, .string (bs nm), .slice none 0 0, .int .i64 rn, .int .i64 rm, .string (bs rf), .string (bs rt), .string (bs rb), .string (bs ra), .string (bs ri), .int .i64 ln] (.slice (some ⟨w1.heap.size, 0, none⟩) 1 1) [wordP kindT 4] :=
    ⟨row_alloc RA _, own_new w1 _ [wordP kindT 4] (by have := (Array.getElem?_eq_some_iff.1 RA).1; omega) (by simp), HB.alloc HB.size _⟩
  generalize w1.alloc (.cells #[.string (bs (wordP kindT 4))] 9) = X0 at *
  generalize w1.heap.size = h1 at *
  clear HT hst hb1 RA HB
  obtain ⟨l0, hl0⟩ : ∃ q, q = [wordP kindT 4] := ⟨_, rfl⟩
  rw [← hl0] at L0
  have n0 : l0.length ≤ 1 := by rw [hl0]; simp
  have HL0 := Lib.hid hl0
  clear hl0
  have q1 := row_q1 L0.row; have q2 := row_q2 L0.row; have q3 := row_q3 L0.row; have q4 := row_q4 L0.row; have q5 := row_q5 L0.row; have q6 := row_q6 L0.row; have q7 := row_q7 L0.row; have q8 := row_q8 L0.row; have q9 := row_q9 L0.row
  go_upto_region 15 with (first | (go_at_call 57; refine (hit _ L0.low).mono ?_; rintro e XI ⟨rfl, hbI⟩; have LI := L0.below hbI) | (at_builtin; go_must (refine wpList_append_own _ rfl (.tmp 44) (.tmp 48) 28 rfl (w.heap.size + 1) 9 i0 _ 1 16 Tryz.underlying28 hi hz0 hz1 hz2 rfl (by decide) _ _ _ rfl (LI.own.alloc _) ⟨XI.heap.size, 0, none⟩ 1 1 (scells [it]) rfl rfl (cells_new _ (scells [it]) _) (scells_one _) (by unfold maxLen; omega) (by omega) (by have := LI.size; (try simp); omega) ?_); intro v1 X1 hown1 hg1 _))
  have L1 := LI.app (World.grownBy_alloc _ _ none) hg1 hown1
  clear q1 q2 q3 q4 q5 q6 q7 q8 q9
  obtain ⟨l1, hl1⟩ : ∃ q, q = l0 ++ [it] := ⟨_, rfl⟩
  rw [← hl1] at L1
  have n1 : l1.length ≤ 6 := by rw [hl1]; simp; omega
  have HL1 := Lib.hid hl1
  clear hl1
  obtain ⟨A1, c1, rfl⟩ := own_slice L1.own
  have q1 := row_q1 L1.row; have q2 := row_q2 L1.row; have q3 := row_q3 L1.row; have q4 := row_q4 L1.row; have q5 := row_q5 L1.row; have q6 := row_q6 L1.row; have q7 := row_q7 L1.row; have q8 := row_q8 L1.row; have q9 := row_q9 L1.row
  go_wp2_with (at_builtin; go_must (refine wpList_append_own_none rfl (.tmp 50) (.tmp 52) 28 rfl (w.heap.size + 1) 9 i0 1 Tryz.underlying28 hi _ _ _ rfl L1.own rfl ?_))
  clear q1 q2 q3 q4 q5 q6 q7 q8 q9
  go_ret
  exact lineTo_mk (by rw [HL1.out, HL0.out]; try simp) L1

set_option maxHeartbeats 4000000 in
theorem lw_ssd4S (nm rf rt rb ra ri : Tx) (rn rm ln : Int) (g off c : Nat) (l : List Tx) (w : World) (hgl : g < w.heap.size) (hls : ∀ j (hj : j < l.length), w.cell? ⟨g, off + j, none⟩ = some (.string (bs l[j]))) (hll : l.length ≤ 1048576) (it : Tx) (hit : ∀ W, Below w.heap.size w W → Calls Tryz.prog 57 #[.int .i64 rn] W fun e w' => e = .returned (.string (bs it)) ∧ Below W.heap.size W w') :
    Calls Tryz.prog 24 #[.agg #[.int .i64 4, .string (bs nm), .slice (some ⟨g, off, none⟩) l.length c, .int .i64 rn, .int .i64 rm, .string (bs rf), .string (bs rt), .string (bs rb), .string (bs ra), .string (bs ri), .int .i64 ln]] w (LineTo ([wordP kindT 4] ++ [it] ++ l) w) := by
  have RA : (w.alloc (.cells #[.int .i64 4, .string (bs nm), .slice (some ⟨g, off, none⟩) l.length c, .int .i64 rn, .int .i64 rm, .string (bs rf), .string (bs rt), .string (bs rb), .string (bs ra), .string (bs ri), .int .i64 ln] 41)).drew.heap[w.heap.size]? = some (.cells #[.int .i64 4, .string (bs nm), .slice (some ⟨g, off, none⟩) l.length c, .int .i64 rn, .int .i64 rm, .string (bs rf), .string (bs rt), .string (bs rb), .string (bs ra), .string (bs ri), .int .i64 ln] 41 (0, 0)) := (heap_alloc_new _ _ : (w.alloc (.cells #[.int .i64 4, .string (bs nm), .slice (some ⟨g, off, none⟩) l.length c, .int .i64 rn, .int .i64 rm, .string (bs rf), .string (bs rt), .string (bs rb), .string (bs ra), .string (bs ri), .int .i64 ln] 41)).heap[w.heap.size]? = _)
  have HB : Below w.heap.size w (w.alloc (.cells #[.int .i64 4, .string (bs nm), .slice (some ⟨g, off, none⟩) l.length c, .int .i64 rn, .int .i64 rm, .string (bs rf), .string (bs rt), .string (bs rb), .string (bs ra), .string (bs ri), .int .i64 ln] 41)).drew := ((Below.refl _ _).alloc (Nat.le_refl _) _).drew
  obtain ⟨i0, hi, hz0, hz1, hz2⟩ := info_parts Tryz.infoString
  go_enter Tryz.func24, Tryz.ntmps24
  go_upto_region 1 with fail
  go_region_held3 (fun w' => w'.cell? ⟨w.heap.size, 0, none⟩ = some (.int .i64 4)) (first | exact row_q0 RA | exact row_q0 (row_alloc RA _) | assumption)
    (first
      | (go_at_call 56; refine (kindWords_any _).mono ?_; rintro e w1 ⟨t, rfl, ht, hst, hb1⟩; have HT := Lib.hid ht; clear ht; have RA := row_below RA hb1; have HB := below_then HB hb1 HB.size)
      | (go_at_call 55; refine (wordAt_any t 12 12 kindT 4 _ hst rfl (by decide) (by decide)).mono ?_; rintro e w2 ⟨rfl, rfl⟩))
  have L0 : LS w (w1.alloc (.cells #[.string (bs (wordP kindT 4))] 9)) #[.int .i64 4, .string (bs nm), .slice (some ⟨g, off, none⟩) l.length c, .int .i64 rn, .int .i64 rm, .string (bs rf), .string (bs rt), .string (bs rb), .string (bs ra), .string (bs ri), .int .i64 ln] (.slice (some ⟨w1.heap.size, 0, none⟩) 1 1) [wordP kindT 4] :=
    ⟨row_alloc RA _, own_new w1 _ [wordP kindT 4] (by have := (Array.getElem?_eq_some_iff.1 RA).1; omega) (by simp), HB.alloc HB.size _⟩
  generalize w1.alloc (.cells #[.string (bs (wordP kindT 4))] 9) = X0 at *
  generalize w1.heap.size = h1 at *
  clear HT hst hb1 RA HB
  obtain ⟨l0, hl0⟩ : ∃ q, q = [wordP kindT 4] := ⟨_, rfl⟩
  rw [← hl0] at L0
  have n0 : l0.length ≤ 1 := by rw [hl0]; simp
  have HL0 := Lib.hid hl0
  clear hl0
  have q1 := row_q1 L0.row; have q2 := row_q2 L0.row; have q3 := row_q3 L0.row; have q4 := row_q4 L0.row; have q5 := row_q5 L0.row; have q6 := row_q6 L0.row; have q7 := row_q7 L0.row; have q8 := row_q8 L0.row; have q9 := row_q9 L0.row
  go_upto_region 15 with (first | (go_at_call 57; refine (hit _ L0.low).mono ?_; rintro e XI ⟨rfl, hbI⟩; have LI := L0.below hbI) | (at_builtin; go_must (refine wpList_append_own _ rfl (.tmp 44) (.tmp 48) 28 rfl (w.heap.size + 1) 9 i0 _ 1 16 Tryz.underlying28 hi hz0 hz1 hz2 rfl (by decide) _ _ _ rfl (LI.own.alloc _) ⟨XI.heap.size, 0, none⟩ 1 1 (scells [it]) rfl rfl (cells_new _ (scells [it]) _) (scells_one _) (by unfold maxLen; omega) (by omega) (by have := LI.size; (try simp); omega) ?_); intro v1 X1 hown1 hg1 _))
  have L1 := LI.app (World.grownBy_alloc _ _ none) hg1 hown1
  clear q1 q2 q3 q4 q5 q6 q7 q8 q9
  obtain ⟨l1, hl1⟩ : ∃ q, q = l0 ++ [it] := ⟨_, rfl⟩
  rw [← hl1] at L1
  have n1 : l1.length ≤ 6 := by rw [hl1]; simp; omega
  have HL1 := Lib.hid hl1
  clear hl1
  obtain ⟨A1, c1, rfl⟩ := own_slice L1.own
  have q1 := row_q1 L1.row; have q2 := row_q2 L1.row; have q3 := row_q3 L1.row; have q4 := row_q4 L1.row; have q5 := row_q5 L1.row; have q6 := row_q6 L1.row; have q7 := row_q7 L1.row; have q8 := row_q8 L1.row; have q9 := row_q9 L1.row
  have HSRC2 : ∀ j u, (scells l)[j]? = some u → X1.cell? ((⟨g, off, none⟩ : Addr).add j) = some u := src_cells hgl L1.low hls
  go_wp2_with (at_builtin; go_must (refine wpList_append_own _ rfl (.tmp 50) (.tmp 52) 28 rfl (w.heap.size + 1) 9 i0 _ 1 16 Tryz.underlying28 hi hz0 hz1 hz2 rfl (by decide) _ _ _ rfl L1.own ⟨g, off, none⟩ l.length c (scells l) rfl (by simp [scells]) HSRC2 (scells_one _) (by unfold maxLen; omega) (by omega) (by have := L1.size; (try simp); omega) ?_); intro v2 X2 hown2 hg2 _)
  have L2 := L1.app (World.grownBy.refl _ _) hg2 hown2
  clear q1 q2 q3 q4 q5 q6 q7 q8 q9
  go_ret
  exact lineTo_mk (by rw [HL1.out, HL0.out]; try simp) L2

set_option maxHeartbeats 4000000 in
theorem lw_ssd5N (nm rf rt rb ra ri : Tx) (rn rm ln : Int) (w : World) (it : Tx) (hit : ∀ W, Below w.heap.size w W → Calls Tryz.prog 57 #[.int .i64 rn] W fun e w' => e = .returned (.string (bs it)) ∧ Below W.heap.size W w') :
    Calls Tryz.prog 24 #[.agg #[.int .i64 5, .string (bs nm), .slice none 0 0, .int .i64 rn, .int .i64 rm, .string (bs rf), .string (bs rt), .string (bs rb), .string (bs ra), .string (bs ri), .int .i64 ln]] w (LineTo ([wordP kindT 5] ++ [it]) w) := by
  have RA : (w.alloc (.cells #[.int .i64 5, .string (bs nm), .slice none 0 0, .int .i64 rn, .int .i64 rm, .string (bs rf), .string (bs rt), .string (bs rb), .string (bs ra), .string (bs ri), .int .i64 ln] 41)).drew.heap[w.heap.size]? = some (.cells #[.int .i64 5, .string (bs nm), .slice none 0 0, .int .i64 rn, .int .i64 rm, .string (bs rf), .string (bs rt), .string (bs rb), .string (bs ra), .string (bs ri), .int .i64 ln] 41 (0, 0)) := (heap_alloc_new _ _ : (w.alloc (.cells #[.int .i64 5, .string (bs nm), .slice none 0 0, .int .i64 rn, .int .i64 rm, .string (bs rf), .string (bs rt), .string (bs rb), .string (bs ra), .string (bs ri), .int .i64 ln] 41)).heap[w.heap.size]? = _)
  have HB : Below w.heap.size w (w.alloc (.cells #[.int .i64 5, .string (bs nm), .slice none 0 0, .int .i64 rn, .int .i64 rm, .string (bs rf), .string (bs rt), .string (bs rb), .string (bs ra), .string (bs ri), .int .i64 ln] 41)).drew := ((Below.refl _ _).alloc (Nat.le_refl _) _).drew
  obtain ⟨i0, hi, hz0, hz1, hz2⟩ := info_parts Tryz.infoString
  go_enter Tryz.func24, Tryz.ntmps24
  go_upto_region 1 with fail
  go_region_held3 (fun w' => w'.cell? ⟨w.heap.size, 0, none⟩ = some (.int .i64 5)) (first | exact row_q0 RA | exact row_q0 (row_alloc RA _) | assumption)
    (first
      | (go_at_call 56; refine (kindWords_any _).mono ?_; rintro e w1 ⟨t, rfl, ht, hst, hb1⟩; have HT := Lib.hid ht; clear ht; have RA := row_below RA hb1; have HB := below_then HB hb1 HB.size)
      | (go_at_call 55; refine (wordAt_any t 12 12 kindT 5 _ hst rfl (by decide) (by decide)).mono ?_; rintro e w2 ⟨rfl, rfl⟩))
  have L0 : LS w (w1.alloc (.cells #[.string (bs (wordP kindT 5))] 9)) #[.int .i64 5, .string (bs nm), .slice none 0 0, .int .i64 rn, .int .i64 rm, .string (bs rf), .string (bs rt), .string (bs rb), .string (bs ra), .string (bs ri), .int .i64 ln] (.slice (some ⟨w1.heap.size, 0, none⟩) 1 1) [wordP kindT 5] :=
    ⟨row_alloc RA _, own_new w1 _ [wordP kindT 5] (by have := (Array.getElem?_eq_some_iff.1 RA).1; omega) (by simp), HB.alloc HB.size _⟩
  generalize w1.alloc (.cells #[.string (bs (wordP kindT 5))] 9) = X0 at *
  generalize w1.heap.size = h1 at *
  clear HT hst hb1 RA HB
  obtain ⟨l0, hl0⟩ : ∃ q, q = [wordP kindT 5] := ⟨_, rfl⟩
  rw [← hl0] at L0
  have n0 : l0.length ≤ 1 := by rw [hl0]; simp
  have HL0 := Lib.hid hl0
  clear hl0
  have q1 := row_q1 L0.row; have q2 := row_q2 L0.row; have q3 := row_q3 L0.row; have q4 := row_q4 L0.row; have q5 := row_q5 L0.row; have q6 := row_q6 L0.row; have q7 := row_q7 L0.row; have q8 := row_q8 L0.row; have q9 := row_q9 L0.row
  go_upto_region 15 with (first | (go_at_call 57; refine (hit _ L0.low).mono ?_; rintro e XI ⟨rfl, hbI⟩; have LI := L0.below hbI) | (at_builtin; go_must (refine wpList_append_own _ rfl (.tmp 44) (.tmp 48) 28 rfl (w.heap.size + 1) 9 i0 _ 1 16 Tryz.underlying28 hi hz0 hz1 hz2 rfl (by decide) _ _ _ rfl (LI.own.alloc _) ⟨XI.heap.size, 0, none⟩ 1 1 (scells [it]) rfl rfl (cells_new _ (scells [it]) _) (scells_one _) (by unfold maxLen; omega) (by omega) (by have := LI.size; (try simp); omega) ?_); intro v1 X1 hown1 hg1 _))
  have L1 := LI.app (World.grownBy_alloc _ _ none) hg1 hown1
  clear q1 q2 q3 q4 q5 q6 q7 q8 q9
  obtain ⟨l1, hl1⟩ : ∃ q, q = l0 ++ [it] := ⟨_, rfl⟩
  rw [← hl1] at L1
  have n1 : l1.length ≤ 6 := by rw [hl1]; simp; omega
  have HL1 := Lib.hid hl1
  clear hl1
  obtain ⟨A1, c1, rfl⟩ := own_slice L1.own
  have q1 := row_q1 L1.row; have q2 := row_q2 L1.row; have q3 := row_q3 L1.row; have q4 := row_q4 L1.row; have q5 := row_q5 L1.row; have q6 := row_q6 L1.row; have q7 := row_q7 L1.row; have q8 := row_q8 L1.row; have q9 := row_q9 L1.row
  go_wp2_with (at_builtin; go_must (refine wpList_append_own_none rfl (.tmp 50) (.tmp 52) 28 rfl (w.heap.size + 1) 9 i0 1 Tryz.underlying28 hi _ _ _ rfl L1.own rfl ?_))
  clear q1 q2 q3 q4 q5 q6 q7 q8 q9
  go_ret
  exact lineTo_mk (by rw [HL1.out, HL0.out]; try simp) L1

set_option maxHeartbeats 4000000 in
theorem lw_ssd5S (nm rf rt rb ra ri : Tx) (rn rm ln : Int) (g off c : Nat) (l : List Tx) (w : World) (hgl : g < w.heap.size) (hls : ∀ j (hj : j < l.length), w.cell? ⟨g, off + j, none⟩ = some (.string (bs l[j]))) (hll : l.length ≤ 1048576) (it : Tx) (hit : ∀ W, Below w.heap.size w W → Calls Tryz.prog 57 #[.int .i64 rn] W fun e w' => e = .returned (.string (bs it)) ∧ Below W.heap.size W w') :
    Calls Tryz.prog 24 #[.agg #[.int .i64 5, .string (bs nm), .slice (some ⟨g, off, none⟩) l.length c, .int .i64 rn, .int .i64 rm, .string (bs rf), .string (bs rt), .string (bs rb), .string (bs ra), .string (bs ri), .int .i64 ln]] w (LineTo ([wordP kindT 5] ++ [it] ++ l) w) := by
  have RA : (w.alloc (.cells #[.int .i64 5, .string (bs nm), .slice (some ⟨g, off, none⟩) l.length c, .int .i64 rn, .int .i64 rm, .string (bs rf), .string (bs rt), .string (bs rb), .string (bs ra), .string (bs ri), .int .i64 ln] 41)).drew.heap[w.heap.size]? = some (.cells #[.int .i64 5, .string (bs nm), .slice (some ⟨g, off, none⟩) l.length c, .int .i64 rn, .int .i64 rm, .string (bs rf), .string (bs rt), .string (bs rb), .string (bs ra), .string (bs ri), .int .i64 ln] 41 (0, 0)) := (heap_alloc_new _ _ : (w.alloc (.cells #[.int .i64 5, .string (bs nm), .slice (some ⟨g, off, none⟩) l.length c, .int .i64 rn, .int .i64 rm, .string (bs rf), .string (bs rt), .string (bs rb), .string (bs ra), .string (bs ri), .int .i64 ln] 41)).heap[w.heap.size]? = _)
  have HB : Below w.heap.size w (w.alloc (.cells #[.int .i64 5, .string (bs nm), .slice (some ⟨g, off, none⟩) l.length c, .int .i64 rn, .int .i64 rm, .string (bs rf), .string (bs rt), .string (bs rb), .string (bs ra), .string (bs ri), .int .i64 ln] 41)).drew := ((Below.refl _ _).alloc (Nat.le_refl _) _).drew
  obtain ⟨i0, hi, hz0, hz1, hz2⟩ := info_parts Tryz.infoString
  go_enter Tryz.func24, Tryz.ntmps24
  go_upto_region 1 with fail
  go_region_held3 (fun w' => w'.cell? ⟨w.heap.size, 0, none⟩ = some (.int .i64 5)) (first | exact row_q0 RA | exact row_q0 (row_alloc RA _) | assumption)
    (first
      | (go_at_call 56; refine (kindWords_any _).mono ?_; rintro e w1 ⟨t, rfl, ht, hst, hb1⟩; have HT := Lib.hid ht; clear ht; have RA := row_below RA hb1; have HB := below_then HB hb1 HB.size)
      | (go_at_call 55; refine (wordAt_any t 12 12 kindT 5 _ hst rfl (by decide) (by decide)).mono ?_; rintro e w2 ⟨rfl, rfl⟩))
  have L0 : LS w (w1.alloc (.cells #[.string (bs (wordP kindT 5))] 9)) #[.int .i64 5, .string (bs nm), .slice (some ⟨g, off, none⟩) l.length c, .int .i64 rn, .int .i64 rm, .string (bs rf), .string (bs rt), .string (bs rb), .string (bs ra), .string (bs ri), .int .i64 ln] (.slice (some ⟨w1.heap.size, 0, none⟩) 1 1) [wordP kindT 5] :=
    ⟨row_alloc RA _, own_new w1 _ [wordP kindT 5] (by have := (Array.getElem?_eq_some_iff.1 RA).1; omega) (by simp), HB.alloc HB.size _⟩
  generalize w1.alloc (.cells #[.string (bs (wordP kindT 5))] 9) = X0 at *
  generalize w1.heap.size = h1 at *
  clear HT hst hb1 RA HB
  obtain ⟨l0, hl0⟩ : ∃ q, q = [wordP kindT 5] := ⟨_, rfl⟩
  rw [← hl0] at L0
  have n0 : l0.length ≤ 1 := by rw [hl0]; simp
  have HL0 := Lib.hid hl0
  clear hl0
  have q1 := row_q1 L0.row; have q2 := row_q2 L0.row; have q3 := row_q3 L0.row; have q4 := row_q4 L0.row; have q5 := row_q5 L0.row; have q6 := row_q6 L0.row; have q7 := row_q7 L0.row; have q8 := row_q8 L0.row; have q9 := row_q9 L0.row
  go_upto_region 15 with (first | (go_at_call 57; refine (hit _ L0.low).mono ?_; rintro e XI ⟨rfl, hbI⟩; have LI := L0.below hbI) | (at_builtin; go_must (refine wpList_append_own _ rfl (.tmp 44) (.tmp 48) 28 rfl (w.heap.size + 1) 9 i0 _ 1 16 Tryz.underlying28 hi hz0 hz1 hz2 rfl (by decide) _ _ _ rfl (LI.own.alloc _) ⟨XI.heap.size, 0, none⟩ 1 1 (scells [it]) rfl rfl (cells_new _ (scells [it]) _) (scells_one _) (by unfold maxLen; omega) (by omega) (by have := LI.size; (try simp); omega) ?_); intro v1 X1 hown1 hg1 _))
  have L1 := LI.app (World.grownBy_alloc _ _ none) hg1 hown1
  clear q1 q2 q3 q4 q5 q6 q7 q8 q9
  obtain ⟨l1, hl1⟩ : ∃ q, q = l0 ++ [it] := ⟨_, rfl⟩
  rw [← hl1] at L1
  have n1 : l1.length ≤ 6 := by rw [hl1]; simp; omega
  have HL1 := Lib.hid hl1
  clear hl1
  obtain ⟨A1, c1, rfl⟩ := own_slice L1.own
  have q1 := row_q1 L1.row; have q2 := row_q2 L1.row; have q3 := row_q3 L1.row; have q4 := row_q4 L1.row; have q5 := row_q5 L1.row; have q6 := row_q6 L1.row; have q7 := row_q7 L1.row; have q8 := row_q8 L1.row; have q9 := row_q9 L1.row
  have HSRC2 : ∀ j u, (scells l)[j]? = some u → X1.cell? ((⟨g, off, none⟩ : Addr).add j) = some u := src_cells hgl L1.low hls
  go_wp2_with (at_builtin; go_must (refine wpList_append_own _ rfl (.tmp 50) (.tmp 52) 28 rfl (w.heap.size + 1) 9 i0 _ 1 16 Tryz.underlying28 hi hz0 hz1 hz2 rfl (by decide) _ _ _ rfl L1.own ⟨g, off, none⟩ l.length c (scells l) rfl (by simp [scells]) HSRC2 (scells_one _) (by unfold maxLen; omega) (by omega) (by have := L1.size; (try simp); omega) ?_); intro v2 X2 hown2 hg2 _)
  have L2 := L1.app (World.grownBy.refl _ _) hg2 hown2
  clear q1 q2 q3 q4 q5 q6 q7 q8 q9
  go_ret
  exact lineTo_mk (by rw [HL1.out, HL0.out]; try simp) L2

set_option maxHeartbeats 4000000 in
theorem lw_roleN (nm rf rt rb ra ri : Tx) (rn rm ln : Int) (w : World) :
    Calls Tryz.prog 24 #[.agg #[.int .i64 1, .string (bs nm), .slice none 0 0, .int .i64 rn, .int .i64 rm, .string (bs rf), .string (bs rt), .string (bs rb), .string (bs ra), .string (bs ri), .int .i64 ln]] w (LineTo ([wordP kindT 1] ++ [nm]) w) := by
  have RA : (w.alloc (.cells #[.int .i64 1, .string (bs nm), .slice none 0 0, .int .i64 rn, .int .i64 rm, .string (bs rf), .string (bs rt), .string (bs rb), .string (bs ra), .string (bs ri), .int .i64 ln] 41)).drew.heap[w.heap.size]? = some (.cells #[.int .i64 1, .string (bs nm), .slice none 0 0, .int .i64 rn, .int .i64 rm, .string (bs rf), .string (bs rt), .string (bs rb), .string (bs ra), .string (bs ri), .int .i64 ln] 41 (0, 0)) := (heap_alloc_new _ _ : (w.alloc (.cells #[.int .i64 1, .string (bs nm), .slice none 0 0, .int .i64 rn, .int .i64 rm, .string (bs rf), .string (bs rt), .string (bs rb), .string (bs ra), .string (bs ri), .int .i64 ln] 41)).heap[w.heap.size]? = _)
  have HB : Below w.heap.size w (w.alloc (.cells #[.int .i64 1, .string (bs nm), .slice none 0 0, .int .i64 rn, .int .i64 rm, .string (bs rf), .string (bs rt), .string (bs rb), .string (bs ra), .string (bs ri), .int .i64 ln] 41)).drew := ((Below.refl _ _).alloc (Nat.le_refl _) _).drew
  obtain ⟨i0, hi, hz0, hz1, hz2⟩ := info_parts Tryz.infoString
  go_enter Tryz.func24, Tryz.ntmps24
  go_upto_region 1 with fail
  go_region_held3 (fun w' => w'.cell? ⟨w.heap.size, 0, none⟩ = some (.int .i64 1)) (first | exact row_q0 RA | exact row_q0 (row_alloc RA _) | assumption)
    (first
      | (go_at_call 56; refine (kindWords_any _).mono ?_; rintro e w1 ⟨t, rfl, ht, hst, hb1⟩; have HT := Lib.hid ht; clear ht; have RA := row_below RA hb1; have HB := below_then HB hb1 HB.size)
      | (go_at_call 55; refine (wordAt_any t 12 12 kindT 1 _ hst rfl (by decide) (by decide)).mono ?_; rintro e w2 ⟨rfl, rfl⟩))
  have L0 : LS w (w1.alloc (.cells #[.string (bs (wordP kindT 1))] 9)) #[.int .i64 1, .string (bs nm), .slice none 0 0, .int .i64 rn, .int .i64 rm, .string (bs rf), .string (bs rt), .string (bs rb), .string (bs ra), .string (bs ri), .int .i64 ln] (.slice (some ⟨w1.heap.size, 0, none⟩) 1 1) [wordP kindT 1] :=
    ⟨row_alloc RA _, own_new w1 _ [wordP kindT 1] (by have := (Array.getElem?_eq_some_iff.1 RA).1; omega) (by simp), HB.alloc HB.size _⟩
  generalize w1.alloc (.cells #[.string (bs (wordP kindT 1))] 9) = X0 at *
  generalize w1.heap.size = h1 at *
  clear HT hst hb1 RA HB
  obtain ⟨l0, hl0⟩ : ∃ q, q = [wordP kindT 1] := ⟨_, rfl⟩
  rw [← hl0] at L0
  have n0 : l0.length ≤ 1 := by rw [hl0]; simp
  have HL0 := Lib.hid hl0
  clear hl0
  have q1 := row_q1 L0.row; have q2 := row_q2 L0.row; have q3 := row_q3 L0.row; have q4 := row_q4 L0.row; have q5 := row_q5 L0.row; have q6 := row_q6 L0.row; have q7 := row_q7 L0.row; have q8 := row_q8 L0.row; have q9 := row_q9 L0.row
  go_upto_region 5 with (at_builtin; go_must (refine wpList_append_own _ rfl (.tmp 13) (.tmp 16) 28 rfl (w.heap.size + 1) 9 i0 _ 1 16 Tryz.underlying28 hi hz0 hz1 hz2 rfl (by decide) _ _ _ rfl (L0.own.alloc _) ⟨X0.heap.size, 0, none⟩ 1 1 (scells [nm]) rfl rfl (cells_new _ (scells [nm]) _) (scells_one _) (by unfold maxLen; omega) (by omega) (by have := L0.size; (try simp); omega) ?_); intro v1 X1 hown1 hg1 _)
  have L1 := L0.app (World.grownBy_alloc _ _ none) hg1 hown1
  clear q1 q2 q3 q4 q5 q6 q7 q8 q9
  obtain ⟨l1, hl1⟩ : ∃ q, q = l0 ++ [nm] := ⟨_, rfl⟩
  rw [← hl1] at L1
  have n1 : l1.length ≤ 6 := by rw [hl1]; simp; omega
  have HL1 := Lib.hid hl1
  clear hl1
  obtain ⟨A1, c1, rfl⟩ := own_slice L1.own
  have q1 := row_q1 L1.row; have q2 := row_q2 L1.row; have q3 := row_q3 L1.row; have q4 := row_q4 L1.row; have q5 := row_q5 L1.row; have q6 := row_q6 L1.row; have q7 := row_q7 L1.row; have q8 := row_q8 L1.row; have q9 := row_q9 L1.row
  go_upto_region 7 with fail
  clear q1 q2 q3 q4 q5 q6 q7 q8 q9
  have q1 := row_q1 L1.row; have q2 := row_q2 L1.row; have q3 := row_q3 L1.row; have q4 := row_q4 L1.row; have q5 := row_q5 L1.row; have q6 := row_q6 L1.row; have q7 := row_q7 L1.row; have q8 := row_q8 L1.row; have q9 := row_q9 L1.row
  go_wp2_with (at_builtin; go_must (refine wpList_append_own_none rfl (.tmp 25) (.tmp 27) 28 rfl (w.heap.size + 1) 9 i0 1 Tryz.underlying28 hi _ _ _ rfl L1.own rfl ?_))
  clear q1 q2 q3 q4 q5 q6 q7 q8 q9
  go_ret
  exact lineTo_mk (by rw [HL1.out, HL0.out]; try simp) L1
end Go.Proofs.YtahgfmobdfhaaaaGreatDoor
namespace Go.Proofs.YtahgfmobdfhaaaaGreatDoor
set_option maxRecDepth 100000
open Go.ChangeShapes Go.WideShapes Go.ChangeAt Go.RowKit
set_option maxHeartbeats 4000000 in
theorem lw_after (nm rf rt rb ra ri : Tx) (rn rm ln : Int) {A : Option Addr} {na ca : Nat} (w : World) (it : Tx) (hit : ∀ W, Below w.heap.size w W → Calls Tryz.prog 57 #[.int .i64 rn] W fun e w' => e = .returned (.string (bs it)) ∧ Below W.heap.size W w') :
    Calls Tryz.prog 24 #[.agg #[.int .i64 11, .string (bs nm), .slice A na ca, .int .i64 rn, .int .i64 rm, .string (bs rf), .string (bs rt), .string (bs rb), .string (bs ra), .string (bs ri), .int .i64 ln]] w (LineTo ([wordP kindT 11] ++ [it, [102, 114, 111, 109], rf, [116, 111], rt]) w) := by
  have RA : (w.alloc (.cells #[.int .i64 11, .string (bs nm), .slice A na ca, .int .i64 rn, .int .i64 rm, .string (bs rf), .string (bs rt), .string (bs rb), .string (bs ra), .string (bs ri), .int .i64 ln] 41)).drew.heap[w.heap.size]? = some (.cells #[.int .i64 11, .string (bs nm), .slice A na ca, .int .i64 rn, .int .i64 rm, .string (bs rf), .string (bs rt), .string (bs rb), .string (bs ra), .string (bs ri), .int .i64 ln] 41 (0, 0)) := (heap_alloc_new _ _ : (w.alloc (.cells #[.int .i64 11, .string (bs nm), .slice A na ca, .int .i64 rn, .int .i64 rm, .string (bs rf), .string (bs rt), .string (bs rb), .string (bs ra), .string (bs ri), .int .i64 ln] 41)).heap[w.heap.size]? = _)
  have HB : Below w.heap.size w (w.alloc (.cells #[.int .i64 11, .string (bs nm), .slice A na ca, .int .i64 rn, .int .i64 rm, .string (bs rf), .string (bs rt), .string (bs rb), .string (bs ra), .string (bs ri), .int .i64 ln] 41)).drew := ((Below.refl _ _).alloc (Nat.le_refl _) _).drew
  obtain ⟨i0, hi, hz0, hz1, hz2⟩ := info_parts Tryz.infoString
  go_enter Tryz.func24, Tryz.ntmps24
  go_upto_region 1 with fail
  go_region_held3 (fun w' => w'.cell? ⟨w.heap.size, 0, none⟩ = some (.int .i64 11)) (first | exact row_q0 RA | exact row_q0 (row_alloc RA _) | assumption)
    (first
      | (go_at_call 56; refine (kindWords_any _).mono ?_; rintro e w1 ⟨t, rfl, ht, hst, hb1⟩; have HT := Lib.hid ht; clear ht; have RA := row_below RA hb1; have HB := below_then HB hb1 HB.size)
      | (go_at_call 55; refine (wordAt_any t 12 12 kindT 11 _ hst rfl (by decide) (by decide)).mono ?_; rintro e w2 ⟨rfl, rfl⟩))
  have L0 : LS w (w1.alloc (.cells #[.string (bs (wordP kindT 11))] 9)) #[.int .i64 11, .string (bs nm), .slice A na ca, .int .i64 rn, .int .i64 rm, .string (bs rf), .string (bs rt), .string (bs rb), .string (bs ra), .string (bs ri), .int .i64 ln] (.slice (some ⟨w1.heap.size, 0, none⟩) 1 1) [wordP kindT 11] :=
    ⟨row_alloc RA _, own_new w1 _ [wordP kindT 11] (by have := (Array.getElem?_eq_some_iff.1 RA).1; omega) (by simp), HB.alloc HB.size _⟩
  generalize w1.alloc (.cells #[.string (bs (wordP kindT 11))] 9) = X0 at *
  generalize w1.heap.size = h1 at *
  clear HT hst hb1 RA HB
  obtain ⟨l0, hl0⟩ : ∃ q, q = [wordP kindT 11] := ⟨_, rfl⟩
  rw [← hl0] at L0
  have n0 : l0.length ≤ 1 := by rw [hl0]; simp
  have HL0 := Lib.hid hl0
  clear hl0
  have q0 := row_q0 L0.row
  go_upto_region 30 with fail
  have LI := L0.drew
  have tok1 : True := trivial
  go_region_held3 (fun w' => w'.cell? ⟨w.heap.size, 3, none⟩ = some (.int .i64 rn) ∧ w'.cell? ⟨w.heap.size, 5, none⟩ = some (.string (bs rf)) ∧ w'.cell? ⟨w.heap.size, 6, none⟩ = some (.string (bs rt))) (first | exact ⟨row_q3 LI.row, row_q5 LI.row, row_q6 LI.row⟩ | exact ⟨row_q3 (row_alloc LI.row _), row_q5 (row_alloc LI.row _), row_q6 (row_alloc LI.row _)⟩ | exact ⟨row_q3 L1.row, row_q5 L1.row, row_q6 L1.row⟩)
    (first
      | (go_at_call 57; refine (hit _ LI.low).mono ?_; rintro e XI ⟨rfl, hbI⟩; have LI := LI.below hbI)
      | (refine step_append_lies _ rfl (.tmp 121) (.tmp 129) 28 rfl (w.heap.size + 1) 9 i0 _ 1 16 Tryz.underlying28 hi hz0 hz1 hz2 rfl (by decide) (.slice (some ⟨h1, 0, none⟩) 1 1) l0.length (scells l0) (by simp [Act.eval]) (LI.own.alloc _) ⟨XI.heap.size, 0, none⟩ 5 5 (scells [it, [102, 114, 111, 109], rf, [116, 111], rt]) (by simp [Act.eval]) rfl (cells_new _ (scells [it, [102, 114, 111, 109], rf, [116, 111], rt]) _) (scells_one _) (by decide) (by unfold maxLen; omega) (by omega) (by have := LI.size; (try simp); omega) _ rfl ?_; intro g1 cp1 X1 hown1 hg1 hat1 hlt1; have L1 := LI.app (World.grownBy_alloc _ _ none) hg1 hown1))
  go_wp2
  go_ret
  exact lineTo_mk (by rw [HL0.out]; rfl) L1

set_option maxHeartbeats 4000000 in
theorem lw_lend (nm rf rt rb ra ri : Tx) (rn rm ln : Int) {A : Option Addr} {na ca : Nat} (w : World) (it it2 : Tx) (hit : ∀ W, Below w.heap.size w W → Calls Tryz.prog 57 #[.int .i64 rn] W fun e w' => e = .returned (.string (bs it)) ∧ Below W.heap.size W w') (hit2 : ∀ W, Below w.heap.size w W → Calls Tryz.prog 57 #[.int .i64 rm] W fun e w' => e = .returned (.string (bs it2)) ∧ Below W.heap.size W w') :
    Calls Tryz.prog 24 #[.agg #[.int .i64 7, .string (bs nm), .slice A na ca, .int .i64 rn, .int .i64 rm, .string (bs rf), .string (bs rt), .string (bs rb), .string (bs ra), .string (bs ri), .int .i64 ln]] w (LineTo ([wordP kindT 7] ++ [nm, it, it2]) w) := by
  have RA : (w.alloc (.cells #[.int .i64 7, .string (bs nm), .slice A na ca, .int .i64 rn, .int .i64 rm, .string (bs rf), .string (bs rt), .string (bs rb), .string (bs ra), .string (bs ri), .int .i64 ln] 41)).drew.heap[w.heap.size]? = some (.cells #[.int .i64 7, .string (bs nm), .slice A na ca, .int .i64 rn, .int .i64 rm, .string (bs rf), .string (bs rt), .string (bs rb), .string (bs ra), .string (bs ri), .int .i64 ln] 41 (0, 0)) := (heap_alloc_new _ _ : (w.alloc (.cells #[.int .i64 7, .string (bs nm), .slice A na ca, .int .i64 rn, .int .i64 rm, .string (bs rf), .string (bs rt), .string (bs rb), .string (bs ra), .string (bs ri), .int .i64 ln] 41)).heap[w.heap.size]? = _)
  have HB : Below w.heap.size w (w.alloc (.cells #[.int .i64 7, .string (bs nm), .slice A na ca, .int .i64 rn, .int .i64 rm, .string (bs rf), .string (bs rt), .string (bs rb), .string (bs ra), .string (bs ri), .int .i64 ln] 41)).drew := ((Below.refl _ _).alloc (Nat.le_refl _) _).drew
  obtain ⟨i0, hi, hz0, hz1, hz2⟩ := info_parts Tryz.infoString
  go_enter Tryz.func24, Tryz.ntmps24
  go_upto_region 1 with fail
  go_region_held3 (fun w' => w'.cell? ⟨w.heap.size, 0, none⟩ = some (.int .i64 7)) (first | exact row_q0 RA | exact row_q0 (row_alloc RA _) | assumption)
    (first
      | (go_at_call 56; refine (kindWords_any _).mono ?_; rintro e w1 ⟨t, rfl, ht, hst, hb1⟩; have HT := Lib.hid ht; clear ht; have RA := row_below RA hb1; have HB := below_then HB hb1 HB.size)
      | (go_at_call 55; refine (wordAt_any t 12 12 kindT 7 _ hst rfl (by decide) (by decide)).mono ?_; rintro e w2 ⟨rfl, rfl⟩))
  have L0 : LS w (w1.alloc (.cells #[.string (bs (wordP kindT 7))] 9)) #[.int .i64 7, .string (bs nm), .slice A na ca, .int .i64 rn, .int .i64 rm, .string (bs rf), .string (bs rt), .string (bs rb), .string (bs ra), .string (bs ri), .int .i64 ln] (.slice (some ⟨w1.heap.size, 0, none⟩) 1 1) [wordP kindT 7] :=
    ⟨row_alloc RA _, own_new w1 _ [wordP kindT 7] (by have := (Array.getElem?_eq_some_iff.1 RA).1; omega) (by simp), HB.alloc HB.size _⟩
  generalize w1.alloc (.cells #[.string (bs (wordP kindT 7))] 9) = X0 at *
  generalize w1.heap.size = h1 at *
  clear HT hst hb1 RA HB
  obtain ⟨l0, hl0⟩ : ∃ q, q = [wordP kindT 7] := ⟨_, rfl⟩
  rw [← hl0] at L0
  have n0 : l0.length ≤ 1 := by rw [hl0]; simp
  have HL0 := Lib.hid hl0
  clear hl0
  have q0 := row_q0 L0.row
  go_upto_region 19 with fail
  have LI := L0.drew
  have tok1 : True := trivial
  go_region_held3 (fun w' => w'.cell? ⟨w.heap.size, 1, none⟩ = some (.string (bs nm)) ∧ w'.cell? ⟨w.heap.size, 3, none⟩ = some (.int .i64 rn) ∧ w'.cell? ⟨w.heap.size, 4, none⟩ = some (.int .i64 rm)) (first | exact ⟨row_q1 LI.row, row_q3 LI.row, row_q4 LI.row⟩ | exact ⟨row_q1 (row_alloc LI.row _), row_q3 (row_alloc LI.row _), row_q4 (row_alloc LI.row _)⟩ | exact ⟨row_q1 L1.row, row_q3 L1.row, row_q4 L1.row⟩)
    (first
      | (have _t := tok1; go_at_call 57; refine (hit _ LI.low).mono ?_; rintro e XJ ⟨rfl, hbI⟩; have LI := LI.below hbI; clear tok1 _t)
      | (go_at_call 57; refine (hit2 _ LI.low).mono ?_; rintro e XI ⟨rfl, hbI⟩; have LI := LI.below hbI)
      | (refine step_append_lies _ rfl (.tmp 62) (.tmp 71) 28 rfl (w.heap.size + 1) 9 i0 _ 1 16 Tryz.underlying28 hi hz0 hz1 hz2 rfl (by decide) (.slice (some ⟨h1, 0, none⟩) 1 1) l0.length (scells l0) (by simp [Act.eval]) (LI.own.alloc _) ⟨XI.heap.size, 0, none⟩ 3 3 (scells [nm, it, it2]) (by simp [Act.eval]) rfl (cells_new _ (scells [nm, it, it2]) _) (scells_one _) (by decide) (by unfold maxLen; omega) (by omega) (by have := LI.size; (try simp); omega) _ rfl ?_; intro g1 cp1 X1 hown1 hg1 hat1 hlt1; have L1 := LI.app (World.grownBy_alloc _ _ none) hg1 hown1))
  go_wp2
  go_ret
  exact lineTo_mk (by rw [HL0.out]; rfl) L1

set_option maxHeartbeats 4000000 in
theorem lw_state0 (nm rf rt rb ra ri : Tx) (rn rm ln : Int) {A : Option Addr} {na ca : Nat} (w : World) (h_ri : Hid (ri = [])) :
    Calls Tryz.prog 24 #[.agg #[.int .i64 8, .string (bs nm), .slice A na ca, .int .i64 rn, .int .i64 rm, .string (bs rf), .string (bs rt), .string (bs rb), .string (bs ra), .string (bs ri), .int .i64 ln]] w (LineTo ([wordP kindT 8] ++ [nm, wordP stateT rn]) w) := by
  have RA : (w.alloc (.cells #[.int .i64 8, .string (bs nm), .slice A na ca, .int .i64 rn, .int .i64 rm, .string (bs rf), .string (bs rt), .string (bs rb), .string (bs ra), .string (bs ri), .int .i64 ln] 41)).drew.heap[w.heap.size]? = some (.cells #[.int .i64 8, .string (bs nm), .slice A na ca, .int .i64 rn, .int .i64 rm, .string (bs rf), .string (bs rt), .string (bs rb), .string (bs ra), .string (bs ri), .int .i64 ln] 41 (0, 0)) := (heap_alloc_new _ _ : (w.alloc (.cells #[.int .i64 8, .string (bs nm), .slice A na ca, .int .i64 rn, .int .i64 rm, .string (bs rf), .string (bs rt), .string (bs rb), .string (bs ra), .string (bs ri), .int .i64 ln] 41)).heap[w.heap.size]? = _)
  have HB : Below w.heap.size w (w.alloc (.cells #[.int .i64 8, .string (bs nm), .slice A na ca, .int .i64 rn, .int .i64 rm, .string (bs rf), .string (bs rt), .string (bs rb), .string (bs ra), .string (bs ri), .int .i64 ln] 41)).drew := ((Below.refl _ _).alloc (Nat.le_refl _) _).drew
  obtain ⟨i0, hi, hz0, hz1, hz2⟩ := info_parts Tryz.infoString
  go_enter Tryz.func24, Tryz.ntmps24
  go_upto_region 1 with fail
  go_region_held3 (fun w' => w'.cell? ⟨w.heap.size, 0, none⟩ = some (.int .i64 8)) (first | exact row_q0 RA | exact row_q0 (row_alloc RA _) | assumption)
    (first
      | (go_at_call 56; refine (kindWords_any _).mono ?_; rintro e w1 ⟨t, rfl, ht, hst, hb1⟩; have HT := Lib.hid ht; clear ht; have RA := row_below RA hb1; have HB := below_then HB hb1 HB.size)
      | (go_at_call 55; refine (wordAt_any t 12 12 kindT 8 _ hst rfl (by decide) (by decide)).mono ?_; rintro e w2 ⟨rfl, rfl⟩))
  have L0 : LS w (w1.alloc (.cells #[.string (bs (wordP kindT 8))] 9)) #[.int .i64 8, .string (bs nm), .slice A na ca, .int .i64 rn, .int .i64 rm, .string (bs rf), .string (bs rt), .string (bs rb), .string (bs ra), .string (bs ri), .int .i64 ln] (.slice (some ⟨w1.heap.size, 0, none⟩) 1 1) [wordP kindT 8] :=
    ⟨row_alloc RA _, own_new w1 _ [wordP kindT 8] (by have := (Array.getElem?_eq_some_iff.1 RA).1; omega) (by simp), HB.alloc HB.size _⟩
  generalize w1.alloc (.cells #[.string (bs (wordP kindT 8))] 9) = X0 at *
  generalize w1.heap.size = h1 at *
  clear HT hst hb1 RA HB
  obtain ⟨l0, hl0⟩ : ∃ q, q = [wordP kindT 8] := ⟨_, rfl⟩
  rw [← hl0] at L0
  have n0 : l0.length ≤ 1 := by rw [hl0]; simp
  have HL0 := Lib.hid hl0
  clear hl0
  have q0 := row_q0 L0.row
  go_upto_region 21 with fail
  have LI := L0.drew
  have tok1 : True := trivial
  go_region_held3 (fun w' => w'.cell? ⟨w.heap.size, 1, none⟩ = some (.string (bs nm)) ∧ w'.cell? ⟨w.heap.size, 3, none⟩ = some (.int .i64 rn)) (first | exact ⟨row_q1 LI.row, row_q3 LI.row⟩ | exact ⟨row_q1 (row_alloc LI.row _), row_q3 (row_alloc LI.row _)⟩ | exact ⟨row_q1 L1.row, row_q3 L1.row⟩)
    (first
      | (go_at_call 58; refine (stateWords_any _).mono ?_; rintro e XI ⟨t2, rfl, ht2, hst2, hbI⟩; have HT2 := Lib.hid ht2; clear ht2; have LI := LI.below hbI)
      | (go_at_call 55; refine (wordAt_any t2 5 5 stateT rn _ hst2 rfl (by decide) (by decide)).mono ?_; rintro e XK ⟨rfl, rfl⟩)
      | (refine step_append_lies _ rfl (.tmp 75) (.tmp 82) 28 rfl (w.heap.size + 1) 9 i0 _ 1 16 Tryz.underlying28 hi hz0 hz1 hz2 rfl (by decide) (.slice (some ⟨h1, 0, none⟩) 1 1) l0.length (scells l0) (by simp [Act.eval]) (LI.own.alloc _) ⟨XI.heap.size, 0, none⟩ 2 2 (scells [nm, wordP stateT rn]) (by simp [Act.eval]) rfl (cells_new _ (scells [nm, wordP stateT rn]) _) (scells_one _) (by decide) (by unfold maxLen; omega) (by omega) (by have := LI.size; (try simp); omega) _ rfl ?_; intro g1 cp1 X1 hown1 hg1 hat1 hlt1; have L1 := LI.app (World.grownBy_alloc _ _ none) hg1 hown1))
  obtain ⟨l1, hl1⟩ : ∃ q, q = l0 ++ [nm, wordP stateT rn] := ⟨_, rfl⟩
  rw [← hl1] at L1
  have n1 : l1.length ≤ 6 := by rw [hl1]; simp; omega
  have HL1 := Lib.hid hl1
  clear hl1 q0
  have q1 := row_q1 L1.row; have q2 := row_q2 L1.row; have q3 := row_q3 L1.row; have q4 := row_q4 L1.row; have q5 := row_q5 L1.row; have q6 := row_q6 L1.row; have q7 := row_q7 L1.row; have q8 := row_q8 L1.row; have q9 := row_q9 L1.row
  go_wp2_with (first | (go_at_call 59; refine (optionW_nil [105, 110] ri _ h_ri.out).mono ?_; rintro e wo ⟨rfl, rfl⟩) | (at_builtin; go_must (refine wpList_append_own_none rfl (.tmp 84) (.tmp 87) 28 rfl (w.heap.size + 1) 9 i0 1 Tryz.underlying28 hi _ _ _ rfl L1.own rfl ?_)))
  go_ret
  exact lineTo_mk (by rw [HL1.out, HL0.out]; rfl) L1

set_option maxHeartbeats 4000000 in
theorem lw_state1 (nm rf rt rb ra ri : Tx) (rn rm ln : Int) {A : Option Addr} {na ca : Nat} (w : World) (h_ri : Hid (ri ≠ [])) :
    Calls Tryz.prog 24 #[.agg #[.int .i64 8, .string (bs nm), .slice A na ca, .int .i64 rn, .int .i64 rm, .string (bs rf), .string (bs rt), .string (bs rb), .string (bs ra), .string (bs ri), .int .i64 ln]] w (LineTo ([wordP kindT 8] ++ [nm, wordP stateT rn] ++ [[105, 110], ri]) w) := by
  have RA : (w.alloc (.cells #[.int .i64 8, .string (bs nm), .slice A na ca, .int .i64 rn, .int .i64 rm, .string (bs rf), .string (bs rt), .string (bs rb), .string (bs ra), .string (bs ri), .int .i64 ln] 41)).drew.heap[w.heap.size]? = some (.cells #[.int .i64 8, .string (bs nm), .slice A na ca, .int .i64 rn, .int .i64 rm, .string (bs rf), .string (bs rt), .string (bs rb), .string (bs ra), .string (bs ri), .int .i64 ln] 41 (0, 0)) := (heap_alloc_new _ _ : (w.alloc (.cells #[.int .i64 8, .string (bs nm), .slice A na ca, .int .i64 rn, .int .i64 rm, .string (bs rf), .string (bs rt), .string (bs rb), .string (bs ra), .string (bs ri), .int .i64 ln] 41)).heap[w.heap.size]? = _)
  have HB : Below w.heap.size w (w.alloc (.cells #[.int .i64 8, .string (bs nm), .slice A na ca, .int .i64 rn, .int .i64 rm, .string (bs rf), .string (bs rt), .string (bs rb), .string (bs ra), .string (bs ri), .int .i64 ln] 41)).drew := ((Below.refl _ _).alloc (Nat.le_refl _) _).drew
  obtain ⟨i0, hi, hz0, hz1, hz2⟩ := info_parts Tryz.infoString
  go_enter Tryz.func24, Tryz.ntmps24
  go_upto_region 1 with fail
  go_region_held3 (fun w' => w'.cell? ⟨w.heap.size, 0, none⟩ = some (.int .i64 8)) (first | exact row_q0 RA | exact row_q0 (row_alloc RA _) | assumption)
    (first
      | (go_at_call 56; refine (kindWords_any _).mono ?_; rintro e w1 ⟨t, rfl, ht, hst, hb1⟩; have HT := Lib.hid ht; clear ht; have RA := row_below RA hb1; have HB := below_then HB hb1 HB.size)
      | (go_at_call 55; refine (wordAt_any t 12 12 kindT 8 _ hst rfl (by decide) (by decide)).mono ?_; rintro e w2 ⟨rfl, rfl⟩))
  have L0 : LS w (w1.alloc (.cells #[.string (bs (wordP kindT 8))] 9)) #[.int .i64 8, .string (bs nm), .slice A na ca, .int .i64 rn, .int .i64 rm, .string (bs rf), .string (bs rt), .string (bs rb), .string (bs ra), .string (bs ri), .int .i64 ln] (.slice (some ⟨w1.heap.size, 0, none⟩) 1 1) [wordP kindT 8] :=
    ⟨row_alloc RA _, own_new w1 _ [wordP kindT 8] (by have := (Array.getElem?_eq_some_iff.1 RA).1; omega) (by simp), HB.alloc HB.size _⟩
  generalize w1.alloc (.cells #[.string (bs (wordP kindT 8))] 9) = X0 at *
  generalize w1.heap.size = h1 at *
  clear HT hst hb1 RA HB
  obtain ⟨l0, hl0⟩ : ∃ q, q = [wordP kindT 8] := ⟨_, rfl⟩
  rw [← hl0] at L0
  have n0 : l0.length ≤ 1 := by rw [hl0]; simp
  have HL0 := Lib.hid hl0
  clear hl0
  have q0 := row_q0 L0.row
  go_upto_region 21 with fail
  have LI := L0.drew
  have tok1 : True := trivial
  go_region_held3 (fun w' => w'.cell? ⟨w.heap.size, 1, none⟩ = some (.string (bs nm)) ∧ w'.cell? ⟨w.heap.size, 3, none⟩ = some (.int .i64 rn)) (first | exact ⟨row_q1 LI.row, row_q3 LI.row⟩ | exact ⟨row_q1 (row_alloc LI.row _), row_q3 (row_alloc LI.row _)⟩ | exact ⟨row_q1 L1.row, row_q3 L1.row⟩)
    (first
      | (go_at_call 58; refine (stateWords_any _).mono ?_; rintro e XI ⟨t2, rfl, ht2, hst2, hbI⟩; have HT2 := Lib.hid ht2; clear ht2; have LI := LI.below hbI)
      | (go_at_call 55; refine (wordAt_any t2 5 5 stateT rn _ hst2 rfl (by decide) (by decide)).mono ?_; rintro e XK ⟨rfl, rfl⟩)
      | (refine step_append_lies _ rfl (.tmp 75) (.tmp 82) 28 rfl (w.heap.size + 1) 9 i0 _ 1 16 Tryz.underlying28 hi hz0 hz1 hz2 rfl (by decide) (.slice (some ⟨h1, 0, none⟩) 1 1) l0.length (scells l0) (by simp [Act.eval]) (LI.own.alloc _) ⟨XI.heap.size, 0, none⟩ 2 2 (scells [nm, wordP stateT rn]) (by simp [Act.eval]) rfl (cells_new _ (scells [nm, wordP stateT rn]) _) (scells_one _) (by decide) (by unfold maxLen; omega) (by omega) (by have := LI.size; (try simp); omega) _ rfl ?_; intro g1 cp1 X1 hown1 hg1 hat1 hlt1; have L1 := LI.app (World.grownBy_alloc _ _ none) hg1 hown1))
  obtain ⟨l1, hl1⟩ : ∃ q, q = l0 ++ [nm, wordP stateT rn] := ⟨_, rfl⟩
  rw [← hl1] at L1
  have n1 : l1.length ≤ 6 := by rw [hl1]; simp; omega
  have HL1 := Lib.hid hl1
  clear hl1 q0
  have q1 := row_q1 L1.row; have q2 := row_q2 L1.row; have q3 := row_q3 L1.row; have q4 := row_q4 L1.row; have q5 := row_q5 L1.row; have q6 := row_q6 L1.row; have q7 := row_q7 L1.row; have q8 := row_q8 L1.row; have q9 := row_q9 L1.row
  go_wp2_with (first | (go_at_call 59; refine (optionW_some [105, 110] ri _ h_ri.out).mono ?_; rintro e wo ⟨rfl, rfl⟩) | (at_builtin; go_must (refine wpList_append_own _ rfl (.tmp 84) (.tmp 87) 28 rfl (w.heap.size + 1) 9 i0 _ 1 16 Tryz.underlying28 hi hz0 hz1 hz2 rfl (by decide) _ _ _ rfl (L1.own.alloc _) ⟨X1.heap.size, 0, none⟩ 2 2 (scells [[105, 110], ri]) rfl rfl (cells_new _ (scells [[105, 110], ri]) _) (scells_one _) (by unfold maxLen; omega) (by omega) (by have := L1.size; (try simp); omega) ?_); intro v2 X2 hown2 hg2 _))
  have L2 := L1.app (World.grownBy_alloc _ _ none) hg2 hown2
  go_ret
  exact lineTo_mk (by rw [HL1.out, HL0.out]; rfl) L2
end Go.Proofs.YtahgfmobdfhaaaaGreatDoor
