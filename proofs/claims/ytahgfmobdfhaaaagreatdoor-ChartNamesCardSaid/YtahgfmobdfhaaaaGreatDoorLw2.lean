/-
  rule.lineWords: the walks, of a role; of what goes by itself.
-/
import Derived.Test.YtahgfmobdfhaaaaGreatDoorLw1
import Derived.Test.YtahgfmobdfhaaaaGreatDoorRd4
import Derived.Laws.AppendOwnNone
import Derived.Deep.AppendLies
namespace Go.Proofs.YtahgfmobdfhaaaaGreatDoor
set_option maxRecDepth 100000
open Go.ChangeShapes Go.WideShapes Go.ChangeAt Go.RowKit
set_option maxHeartbeats 4000000 in
theorem lw_roleS (nm rf rt rb ra ri : Tx) (rn rm ln : Int) (g off c : Nat) (l : List Tx) (w : World) (hgl : g < w.heap.size) (hls : ∀ j (hj : j < l.length), w.cell? ⟨g, off + j, none⟩ = some (.string (bs l[j]))) (hll : l.length ≤ 1048576) (hpos : 0 < l.length) :
    Calls Tryz.prog 24 #[.agg #[.int .i64 1, .string (bs nm), .slice (some ⟨g, off, none⟩) l.length c, .int .i64 rn, .int .i64 rm, .string (bs rf), .string (bs rt), .string (bs rb), .string (bs ra), .string (bs ri), .int .i64 ln]] w (LineTo ([wordP kindT 1] ++ [nm] ++ [[62]] ++ l) w) := by
  have RA : (w.alloc (.cells #[.int .i64 1, .string (bs nm), .slice (some ⟨g, off, none⟩) l.length c, .int .i64 rn, .int .i64 rm, .string (bs rf), .string (bs rt), .string (bs rb), .string (bs ra), .string (bs ri), .int .i64 ln] 41)).drew.heap[w.heap.size]? = some (.cells #[.int .i64 1, .string (bs nm), .slice (some ⟨g, off, none⟩) l.length c, .int .i64 rn, .int .i64 rm, .string (bs rf), .string (bs rt), .string (bs rb), .string (bs ra), .string (bs ri), .int .i64 ln] 41 (0, 0)) := (heap_alloc_new _ _ : (w.alloc (.cells #[.int .i64 1, .string (bs nm), .slice (some ⟨g, off, none⟩) l.length c, .int .i64 rn, .int .i64 rm, .string (bs rf), .string (bs rt), .string (bs rb), .string (bs ra), .string (bs ri), .int .i64 ln] 41)).heap[w.heap.size]? = _)
  have HB : Below w.heap.size w (w.alloc (.cells #[.int .i64 1, .string (bs nm), .slice (some ⟨g, off, none⟩) l.length c, .int .i64 rn, .int .i64 rm, .string (bs rf), .string (bs rt), .string (bs rb), .string (bs ra), .string (bs ri), .int .i64 ln] 41)).drew := ((Below.refl _ _).alloc (Nat.le_refl _) _).drew
  obtain ⟨i0, hi, hz0, hz1, hz2⟩ := info_parts Tryz.infoString
  go_enter Tryz.func24, Tryz.ntmps24
  go_upto_region 1 with fail
  go_region_held3 (fun w' => w'.cell? ⟨w.heap.size, 0, none⟩ = some (.int .i64 1)) (first | exact row_q0 RA | exact row_q0 (row_alloc RA _) | assumption)
    (first
      | (go_at_call 56; refine (kindWords_any _).mono ?_; rintro e w1 ⟨t, rfl, ht, hst, hb1⟩; have HT := Lib.hid ht; clear ht; have RA := row_below RA hb1; have HB := below_then HB hb1 HB.size)
      | (go_at_call 55; refine (wordAt_any t 12 12 kindT 1 _ hst rfl (by decide) (by decide)).mono ?_; rintro e w2 ⟨rfl, rfl⟩))
  have L0 : LS w (w1.alloc (.cells #[.string (bs (wordP kindT 1))] 9)) #[.int .i64 1, .string (bs nm), .slice (some ⟨g, off, none⟩) l.length c, .int .i64 rn, .int .i64 rm, .string (bs rf), .string (bs rt), .string (bs rb), .string (bs ra), .string (bs ri), .int .i64 ln] (.slice (some ⟨w1.heap.size, 0, none⟩) 1 1) [wordP kindT 1] :=
    ⟨row_alloc RA _, own_new w1 _ [wordP kindT 1] (by have := (Array.getElem?_eq_some_iff.1 RA).1; omega) (by simp), HB.alloc HB.size _⟩
  generalize w1.alloc (.cells #[.string (bs (wordP kindT 1))] 9) = X0 at *
  generalize w1.heap.size = h1 at *
  clear HT hst hb1 RA HB
  obtain ⟨l0, hl0⟩ : ∃ q, q = [wordP kindT 1] := ⟨_, rfl⟩
  rw [← hl0] at L0
  have n0 : l0.length ≤ 1 := by rw [hl0]; simp
  have HL0 := Lib.hid hl0
  clear hl0
  have q1 := row_q1 L0.row; have q2 := row_q2 L0.row; have q3 := row_q3 L0.row; have q4 := row_q4 L0.row; have q5 := row_q5 L0.row; have q6 := row_q6 L0.row; have q7 := row_q7 L0.row; have q8 := row_q8 L0.row; have q9 := row_q9 L0.row
  go_upto_region 5 with (at_builtin; go_must (refine wpList_append_own _ rfl (.tmp 13) (.tmp 16) 28 rfl (w.heap.size + 1) 9 i0 _ 1 16 Tryz.underlying28 hi hz0 hz1 hz2 rfl (by decide) _ _ _ rfl (L0.own.alloc _) ⟨X0.heap.size, 0, none⟩ 1 1 (scells [nm]) rfl rfl (cells_new _ (scells [nm]) _) (scells_one _) (by unfold maxLen; omega) (by omega) (by have := L0.size; (try simp); omega) ?_); intro v1 X1 hown1 hg1 _)
  have L1 := L0.app (World.grownBy_alloc _ _ none) hg1 hown1
  clear q1 q2 q3 q4 q5 q6 q7 q8 q9
  obtain ⟨l1, hl1⟩ : ∃ q, q = l0 ++ [nm] := ⟨_, rfl⟩
  rw [← hl1] at L1
  have n1 : l1.length ≤ 6 := by rw [hl1]; simp; omega
  have HL1 := Lib.hid hl1
  clear hl1
  obtain ⟨A1, c1, rfl⟩ := own_slice L1.own
  have q1 := row_q1 L1.row; have q2 := row_q2 L1.row; have q3 := row_q3 L1.row; have q4 := row_q4 L1.row; have q5 := row_q5 L1.row; have q6 := row_q6 L1.row; have q7 := row_q7 L1.row; have q8 := row_q8 L1.row; have q9 := row_q9 L1.row
  go_upto_region 6 with fail
  clear q1 q2 q3 q4 q5 q6 q7 q8 q9
  have q1 := row_q1 L1.row; have q2 := row_q2 L1.row; have q3 := row_q3 L1.row; have q4 := row_q4 L1.row; have q5 := row_q5 L1.row; have q6 := row_q6 L1.row; have q7 := row_q7 L1.row; have q8 := row_q8 L1.row; have q9 := row_q9 L1.row
  go_upto_region 7 with (at_builtin; go_must (refine wpList_append_own _ rfl (.tmp 22) (.tmp 23) 28 rfl (w.heap.size + 1) 9 i0 _ 1 16 Tryz.underlying28 hi hz0 hz1 hz2 rfl (by decide) _ _ _ rfl (L1.own.alloc _) ⟨X1.heap.size, 0, none⟩ 1 1 (scells [[62]]) rfl rfl (cells_new _ (scells [[62]]) _) (scells_one _) (by unfold maxLen; omega) (by omega) (by have := L1.size; (try simp); omega) ?_); intro v3 X3 hown3 hg3 _)
  have L3 := L1.app (World.grownBy_alloc _ _ none) hg3 hown3
  clear q1 q2 q3 q4 q5 q6 q7 q8 q9
  obtain ⟨l3, hl3⟩ : ∃ q, q = l1 ++ [[62]] := ⟨_, rfl⟩
  rw [← hl3] at L3
  have n3 : l3.length ≤ 11 := by rw [hl3]; simp; omega
  have HL3 := Lib.hid hl3
  clear hl3
  obtain ⟨A3, c3, rfl⟩ := own_slice L3.own
  have q1 := row_q1 L3.row; have q2 := row_q2 L3.row; have q3 := row_q3 L3.row; have q4 := row_q4 L3.row; have q5 := row_q5 L3.row; have q6 := row_q6 L3.row; have q7 := row_q7 L3.row; have q8 := row_q8 L3.row; have q9 := row_q9 L3.row
  have HSRC4 : ∀ j u, (scells l)[j]? = some u → X3.cell? ((⟨g, off, none⟩ : Addr).add j) = some u := src_cells hgl L3.low hls
  go_wp2_with (at_builtin; go_must (refine wpList_append_own _ rfl (.tmp 25) (.tmp 27) 28 rfl (w.heap.size + 1) 9 i0 _ 1 16 Tryz.underlying28 hi hz0 hz1 hz2 rfl (by decide) _ _ _ rfl L3.own ⟨g, off, none⟩ l.length c (scells l) rfl (by simp [scells]) HSRC4 (scells_one _) (by unfold maxLen; omega) (by omega) (by have := L3.size; (try simp); omega) ?_); intro v4 X4 hown4 hg4 _)
  have L4 := L3.app (World.grownBy.refl _ _) hg4 hown4
  clear q1 q2 q3 q4 q5 q6 q7 q8 q9
  go_ret
  exact lineTo_mk (by rw [HL3.out, HL1.out, HL0.out]; try simp) L4

set_option maxHeartbeats 4000000 in
theorem lw_on00 (nm rf rt rb ra ri : Tx) (rn rm ln : Int) {A : Option Addr} {na ca : Nat} (w : World) (h_rb : Hid (rb = [])) (h_ra : Hid (ra = [])) :
    Calls Tryz.prog 24 #[.agg #[.int .i64 9, .string (bs nm), .slice A na ca, .int .i64 rn, .int .i64 rm, .string (bs rf), .string (bs rt), .string (bs rb), .string (bs ra), .string (bs ri), .int .i64 ln]] w (LineTo ([wordP kindT 9] ++ [nm, [102, 114, 111, 109], rf, [116, 111], rt]) w) := by
  have RA : (w.alloc (.cells #[.int .i64 9, .string (bs nm), .slice A na ca, .int .i64 rn, .int .i64 rm, .string (bs rf), .string (bs rt), .string (bs rb), .string (bs ra), .string (bs ri), .int .i64 ln] 41)).drew.heap[w.heap.size]? = some (.cells #[.int .i64 9, .string (bs nm), .slice A na ca, .int .i64 rn, .int .i64 rm, .string (bs rf), .string (bs rt), .string (bs rb), .string (bs ra), .string (bs ri), .int .i64 ln] 41 (0, 0)) := (heap_alloc_new _ _ : (w.alloc (.cells #[.int .i64 9, .string (bs nm), .slice A na ca, .int .i64 rn, .int .i64 rm, .string (bs rf), .string (bs rt), .string (bs rb), .string (bs ra), .string (bs ri), .int .i64 ln] 41)).heap[w.heap.size]? = _)
  have HB : Below w.heap.size w (w.alloc (.cells #[.int .i64 9, .string (bs nm), .slice A na ca, .int .i64 rn, .int .i64 rm, .string (bs rf), .string (bs rt), .string (bs rb), .string (bs ra), .string (bs ri), .int .i64 ln] 41)).drew := ((Below.refl _ _).alloc (Nat.le_refl _) _).drew
  obtain ⟨i0, hi, hz0, hz1, hz2⟩ := info_parts Tryz.infoString
  go_enter Tryz.func24, Tryz.ntmps24
  go_upto_region 1 with fail
  go_region_held3 (fun w' => w'.cell? ⟨w.heap.size, 0, none⟩ = some (.int .i64 9)) (first | exact row_q0 RA | exact row_q0 (row_alloc RA _) | assumption)
    (first
      | (go_at_call 56; refine (kindWords_any _).mono ?_; rintro e w1 ⟨t, rfl, ht, hst, hb1⟩; have HT := Lib.hid ht; clear ht; have RA := row_below RA hb1; have HB := below_then HB hb1 HB.size)
      | (go_at_call 55; refine (wordAt_any t 12 12 kindT 9 _ hst rfl (by decide) (by decide)).mono ?_; rintro e w2 ⟨rfl, rfl⟩))
  have L0 : LS w (w1.alloc (.cells #[.string (bs (wordP kindT 9))] 9)) #[.int .i64 9, .string (bs nm), .slice A na ca, .int .i64 rn, .int .i64 rm, .string (bs rf), .string (bs rt), .string (bs rb), .string (bs ra), .string (bs ri), .int .i64 ln] (.slice (some ⟨w1.heap.size, 0, none⟩) 1 1) [wordP kindT 9] :=
    ⟨row_alloc RA _, own_new w1 _ [wordP kindT 9] (by have := (Array.getElem?_eq_some_iff.1 RA).1; omega) (by simp), HB.alloc HB.size _⟩
  generalize w1.alloc (.cells #[.string (bs (wordP kindT 9))] 9) = X0 at *
  generalize w1.heap.size = h1 at *
  clear HT hst hb1 RA HB
  obtain ⟨l0, hl0⟩ : ∃ q, q = [wordP kindT 9] := ⟨_, rfl⟩
  rw [← hl0] at L0
  have n0 : l0.length ≤ 1 := by rw [hl0]; simp
  have HL0 := Lib.hid hl0
  clear hl0
  have q1 := row_q1 L0.row; have q2 := row_q2 L0.row; have q3 := row_q3 L0.row; have q4 := row_q4 L0.row; have q5 := row_q5 L0.row; have q6 := row_q6 L0.row; have q7 := row_q7 L0.row; have q8 := row_q8 L0.row; have q9 := row_q9 L0.row
  go_upto_region 25 with (at_builtin; go_must (refine wpList_append_own _ rfl (.tmp 91) (.tmp 98) 28 rfl (w.heap.size + 1) 9 i0 _ 1 16 Tryz.underlying28 hi hz0 hz1 hz2 rfl (by decide) _ _ _ rfl (L0.own.alloc _) ⟨X0.heap.size, 0, none⟩ 5 5 (scells [nm, [102, 114, 111, 109], rf, [116, 111], rt]) rfl rfl (cells_new _ (scells [nm, [102, 114, 111, 109], rf, [116, 111], rt]) _) (scells_one _) (by unfold maxLen; omega) (by omega) (by have := L0.size; (try simp); omega) ?_); intro v1 X1 hown1 hg1 _)
  have L1 := L0.app (World.grownBy_alloc _ _ none) hg1 hown1
  clear q1 q2 q3 q4 q5 q6 q7 q8 q9
  obtain ⟨l1, hl1⟩ : ∃ q, q = l0 ++ [nm, [102, 114, 111, 109], rf, [116, 111], rt] := ⟨_, rfl⟩
  rw [← hl1] at L1
  have n1 : l1.length ≤ 6 := by rw [hl1]; simp; omega
  have HL1 := Lib.hid hl1
  clear hl1
  obtain ⟨A1, c1, rfl⟩ := own_slice L1.own
  have q1 := row_q1 L1.row; have q2 := row_q2 L1.row; have q3 := row_q3 L1.row; have q4 := row_q4 L1.row; have q5 := row_q5 L1.row; have q6 := row_q6 L1.row; have q7 := row_q7 L1.row; have q8 := row_q8 L1.row; have q9 := row_q9 L1.row
  go_upto_region 26 with (first | (go_at_call 59; refine (optionW_nil [98, 121] rb _ h_rb.out).mono ?_; rintro e wo ⟨rfl, rfl⟩) | (at_builtin; go_must (refine wpList_append_own_none rfl (.tmp 100) (.tmp 103) 28 rfl (w.heap.size + 1) 9 i0 1 Tryz.underlying28 hi _ _ _ rfl L1.own rfl ?_)))
  clear q1 q2 q3 q4 q5 q6 q7 q8 q9


  have q1 := row_q1 L1.row; have q2 := row_q2 L1.row; have q3 := row_q3 L1.row; have q4 := row_q4 L1.row; have q5 := row_q5 L1.row; have q6 := row_q6 L1.row; have q7 := row_q7 L1.row; have q8 := row_q8 L1.row; have q9 := row_q9 L1.row
  go_wp2_with (first | (go_at_call 59; refine (optionW_nil [116, 97, 115, 107] ra _ h_ra.out).mono ?_; rintro e wo ⟨rfl, rfl⟩) | (at_builtin; go_must (refine wpList_append_own_none rfl (.tmp 105) (.tmp 108) 28 rfl (w.heap.size + 1) 9 i0 1 Tryz.underlying28 hi _ _ _ rfl L1.own rfl ?_)))
  clear q1 q2 q3 q4 q5 q6 q7 q8 q9
  go_ret
  exact lineTo_mk (by rw [HL1.out, HL0.out]; try simp) L1

set_option maxHeartbeats 4000000 in
theorem lw_on01 (nm rf rt rb ra ri : Tx) (rn rm ln : Int) {A : Option Addr} {na ca : Nat} (w : World) (h_rb : Hid (rb = [])) (h_ra : Hid (ra ≠ [])) :
    Calls Tryz.prog 24 #[.agg #[.int .i64 9, .string (bs nm), .slice A na ca, .int .i64 rn, .int .i64 rm, .string (bs rf), .string (bs rt), .string (bs rb), .string (bs ra), .string (bs ri), .int .i64 ln]] w (LineTo ([wordP kindT 9] ++ [nm, [102, 114, 111, 109], rf, [116, 111], rt] ++ [[116, 97, 115, 107], ra]) w) := by
  have RA : (w.alloc (.cells #[.int .i64 9, .string (bs nm), .slice A na ca, .int .i64 rn, .int .i64 rm, .string (bs rf), .string (bs rt), .string (bs rb), .string (bs ra), .string (bs ri), .int .i64 ln] 41)).drew.heap[w.heap.size]? = some (.cells #[.int .i64 9, .string (bs nm), .slice A na ca, .int .i64 rn, .int .i64 rm, .string (bs rf), .string (bs rt), .string (bs rb), .string (bs ra), .string (bs ri), .int .i64 ln] 41 (0, 0)) := (heap_alloc_new _ _ : (w.alloc (.cells #[.int .i64 9, .string (bs nm), .slice A na ca, .int .i64 rn, .int .i64 rm, .string (bs rf), .string (bs rt), .string (bs rb), .string (bs ra), .string (bs ri), .int .i64 ln] 41)).heap[w.heap.size]? = _)
  have HB : Below w.heap.size w (w.alloc (.cells #[.int .i64 9, .string (bs nm), .slice A na ca, .int .i64 rn, .int .i64 rm, .string (bs rf), .string (bs rt), .string (bs rb), .string (bs ra), .string (bs ri), .int .i64 ln] 41)).drew := ((Below.refl _ _).alloc (Nat.le_refl _) _).drew
  obtain ⟨i0, hi, hz0, hz1, hz2⟩ := info_parts Tryz.infoString
  go_enter Tryz.func24, Tryz.ntmps24
  go_upto_region 1 with fail
  go_region_held3 (fun w' => w'.cell? ⟨w.heap.size, 0, none⟩ = some (.int .i64 9)) (first | exact row_q0 RA | exact row_q0 (row_alloc RA _) | assumption)
    (first
      | (go_at_call 56; refine (kindWords_any _).mono ?_; rintro e w1 ⟨t, rfl, ht, hst, hb1⟩; have HT := Lib.hid ht; clear ht; have RA := row_below RA hb1; have HB := below_then HB hb1 HB.size)
      | (go_at_call 55; refine (wordAt_any t 12 12 kindT 9 _ hst rfl (by decide) (by decide)).mono ?_; rintro e w2 ⟨rfl, rfl⟩))
  have L0 : LS w (w1.alloc (.cells #[.string (bs (wordP kindT 9))] 9)) #[.int .i64 9, .string (bs nm), .slice A na ca, .int .i64 rn, .int .i64 rm, .string (bs rf), .string (bs rt), .string (bs rb), .string (bs ra), .string (bs ri), .int .i64 ln] (.slice (some ⟨w1.heap.size, 0, none⟩) 1 1) [wordP kindT 9] :=
    ⟨row_alloc RA _, own_new w1 _ [wordP kindT 9] (by have := (Array.getElem?_eq_some_iff.1 RA).1; omega) (by simp), HB.alloc HB.size _⟩
  generalize w1.alloc (.cells #[.string (bs (wordP kindT 9))] 9) = X0 at *
  generalize w1.heap.size = h1 at *
  clear HT hst hb1 RA HB
  obtain ⟨l0, hl0⟩ : ∃ q, q = [wordP kindT 9] := ⟨_, rfl⟩
  rw [← hl0] at L0
  have n0 : l0.length ≤ 1 := by rw [hl0]; simp
  have HL0 := Lib.hid hl0
  clear hl0
  have q1 := row_q1 L0.row; have q2 := row_q2 L0.row; have q3 := row_q3 L0.row; have q4 := row_q4 L0.row; have q5 := row_q5 L0.row; have q6 := row_q6 L0.row; have q7 := row_q7 L0.row; have q8 := row_q8 L0.row; have q9 := row_q9 L0.row
  go_upto_region 25 with (at_builtin; go_must (refine wpList_append_own _ rfl (.tmp 91) (.tmp 98) 28 rfl (w.heap.size + 1) 9 i0 _ 1 16 Tryz.underlying28 hi hz0 hz1 hz2 rfl (by decide) _ _ _ rfl (L0.own.alloc _) ⟨X0.heap.size, 0, none⟩ 5 5 (scells [nm, [102, 114, 111, 109], rf, [116, 111], rt]) rfl rfl (cells_new _ (scells [nm, [102, 114, 111, 109], rf, [116, 111], rt]) _) (scells_one _) (by unfold maxLen; omega) (by omega) (by have := L0.size; (try simp); omega) ?_); intro v1 X1 hown1 hg1 _)
  have L1 := L0.app (World.grownBy_alloc _ _ none) hg1 hown1
  clear q1 q2 q3 q4 q5 q6 q7 q8 q9
  obtain ⟨l1, hl1⟩ : ∃ q, q = l0 ++ [nm, [102, 114, 111, 109], rf, [116, 111], rt] := ⟨_, rfl⟩
  rw [← hl1] at L1
  have n1 : l1.length ≤ 6 := by rw [hl1]; simp; omega
  have HL1 := Lib.hid hl1
  clear hl1
  obtain ⟨A1, c1, rfl⟩ := own_slice L1.own
  have q1 := row_q1 L1.row; have q2 := row_q2 L1.row; have q3 := row_q3 L1.row; have q4 := row_q4 L1.row; have q5 := row_q5 L1.row; have q6 := row_q6 L1.row; have q7 := row_q7 L1.row; have q8 := row_q8 L1.row; have q9 := row_q9 L1.row
  go_upto_region 26 with (first | (go_at_call 59; refine (optionW_nil [98, 121] rb _ h_rb.out).mono ?_; rintro e wo ⟨rfl, rfl⟩) | (at_builtin; go_must (refine wpList_append_own_none rfl (.tmp 100) (.tmp 103) 28 rfl (w.heap.size + 1) 9 i0 1 Tryz.underlying28 hi _ _ _ rfl L1.own rfl ?_)))
  clear q1 q2 q3 q4 q5 q6 q7 q8 q9


  have q1 := row_q1 L1.row; have q2 := row_q2 L1.row; have q3 := row_q3 L1.row; have q4 := row_q4 L1.row; have q5 := row_q5 L1.row; have q6 := row_q6 L1.row; have q7 := row_q7 L1.row; have q8 := row_q8 L1.row; have q9 := row_q9 L1.row
  go_wp2_with (first | (go_at_call 59; refine (optionW_some [116, 97, 115, 107] ra _ h_ra.out).mono ?_; rintro e wo ⟨rfl, rfl⟩) | (at_builtin; go_must (refine wpList_append_own _ rfl (.tmp 105) (.tmp 108) 28 rfl (w.heap.size + 1) 9 i0 _ 1 16 Tryz.underlying28 hi hz0 hz1 hz2 rfl (by decide) _ _ _ rfl (L1.own.alloc _) ⟨X1.heap.size, 0, none⟩ 2 2 (scells [[116, 97, 115, 107], ra]) rfl rfl (cells_new _ (scells [[116, 97, 115, 107], ra]) _) (scells_one _) (by unfold maxLen; omega) (by omega) (by have := L1.size; (try simp); omega) ?_); intro v3 X3 hown3 hg3 _))
  have L3 := L1.app (World.grownBy_alloc _ _ none) hg3 hown3
  clear q1 q2 q3 q4 q5 q6 q7 q8 q9
  go_ret
  exact lineTo_mk (by rw [HL1.out, HL0.out]; try simp) L3

set_option maxHeartbeats 4000000 in
theorem lw_on10 (nm rf rt rb ra ri : Tx) (rn rm ln : Int) {A : Option Addr} {na ca : Nat} (w : World) (h_rb : Hid (rb ≠ [])) (h_ra : Hid (ra = [])) :
    Calls Tryz.prog 24 #[.agg #[.int .i64 9, .string (bs nm), .slice A na ca, .int .i64 rn, .int .i64 rm, .string (bs rf), .string (bs rt), .string (bs rb), .string (bs ra), .string (bs ri), .int .i64 ln]] w (LineTo ([wordP kindT 9] ++ [nm, [102, 114, 111, 109], rf, [116, 111], rt] ++ [[98, 121], rb]) w) := by
  have RA : (w.alloc (.cells #[.int .i64 9, .string (bs nm), .slice A na ca, .int .i64 rn, .int .i64 rm, .string (bs rf), .string (bs rt), .string (bs rb), .string (bs ra), .string (bs ri), .int .i64 ln] 41)).drew.heap[w.heap.size]? = some (.cells #[.int .i64 9, .string (bs nm), .slice A na ca, .int .i64 rn, .int .i64 rm, .string (bs rf), .string (bs rt), .string (bs rb), .string (bs ra), .string (bs ri), .int .i64 ln] 41 (0, 0)) := (heap_alloc_new _ _ : (w.alloc (.cells #[.int .i64 9, .string (bs nm), .slice A na ca, .int .i64 rn, .int .i64 rm, .string (bs rf), .string (bs rt), .string (bs rb), .string (bs ra), .string (bs ri), .int .i64 ln] 41)).heap[w.heap.size]? = _)
  have HB : Below w.heap.size w (w.alloc (.cells #[.int .i64 9, .string (bs nm), .slice A na ca, .int .i64 rn, .int .i64 rm, .string (bs rf), .string (bs rt), .string (bs rb), .string (bs ra), .string (bs ri), .int .i64 ln] 41)).drew := ((Below.refl _ _).alloc (Nat.le_refl _) _).drew
  obtain ⟨i0, hi, hz0, hz1, hz2⟩ := info_parts Tryz.infoString
  go_enter Tryz.func24, Tryz.ntmps24
  go_upto_region 1 with fail
  go_region_held3 (fun w' => w'.cell? ⟨w.heap.size, 0, none⟩ = some (.int .i64 9)) (first | exact row_q0 RA | exact row_q0 (row_alloc RA _) | assumption)
    (first
      | (go_at_call 56; refine (kindWords_any _).mono ?_; rintro e w1 ⟨t, rfl, ht, hst, hb1⟩; have HT := Lib.hid ht; clear ht; have RA := row_below RA hb1; have HB := below_then HB hb1 HB.size)
      | (go_at_call 55; refine (wordAt_any t 12 12 kindT 9 _ hst rfl (by decide) (by decide)).mono ?_; rintro e w2 ⟨rfl, rfl⟩))
  have L0 : LS w (w1.alloc (.cells #[.string (bs (wordP kindT 9))] 9)) #[.int .i64 9, .string (bs nm), .slice A na ca, .int .i64 rn, .int .i64 rm, .string (bs rf), .string (bs rt), .string (bs rb), .string (bs ra), .string (bs ri), .int .i64 ln] (.slice (some ⟨w1.heap.size, 0, none⟩) 1 1) [wordP kindT 9] :=
    ⟨row_alloc RA _, own_new w1 _ [wordP kindT 9] (by have := (Array.getElem?_eq_some_iff.1 RA).1; omega) (by simp), HB.alloc HB.size _⟩
  generalize w1.alloc (.cells #[.string (bs (wordP kindT 9))] 9) = X0 at *
  generalize w1.heap.size = h1 at *
  clear HT hst hb1 RA HB
  obtain ⟨l0, hl0⟩ : ∃ q, q = [wordP kindT 9] := ⟨_, rfl⟩
  rw [← hl0] at L0
  have n0 : l0.length ≤ 1 := by rw [hl0]; simp
  have HL0 := Lib.hid hl0
  clear hl0
  have q1 := row_q1 L0.row; have q2 := row_q2 L0.row; have q3 := row_q3 L0.row; have q4 := row_q4 L0.row; have q5 := row_q5 L0.row; have q6 := row_q6 L0.row; have q7 := row_q7 L0.row; have q8 := row_q8 L0.row; have q9 := row_q9 L0.row
  go_upto_region 25 with (at_builtin; go_must (refine wpList_append_own _ rfl (.tmp 91) (.tmp 98) 28 rfl (w.heap.size + 1) 9 i0 _ 1 16 Tryz.underlying28 hi hz0 hz1 hz2 rfl (by decide) _ _ _ rfl (L0.own.alloc _) ⟨X0.heap.size, 0, none⟩ 5 5 (scells [nm, [102, 114, 111, 109], rf, [116, 111], rt]) rfl rfl (cells_new _ (scells [nm, [102, 114, 111, 109], rf, [116, 111], rt]) _) (scells_one _) (by unfold maxLen; omega) (by omega) (by have := L0.size; (try simp); omega) ?_); intro v1 X1 hown1 hg1 _)
  have L1 := L0.app (World.grownBy_alloc _ _ none) hg1 hown1
  clear q1 q2 q3 q4 q5 q6 q7 q8 q9
  obtain ⟨l1, hl1⟩ : ∃ q, q = l0 ++ [nm, [102, 114, 111, 109], rf, [116, 111], rt] := ⟨_, rfl⟩
  rw [← hl1] at L1
  have n1 : l1.length ≤ 6 := by rw [hl1]; simp; omega
  have HL1 := Lib.hid hl1
  clear hl1
  obtain ⟨A1, c1, rfl⟩ := own_slice L1.own
  have q1 := row_q1 L1.row; have q2 := row_q2 L1.row; have q3 := row_q3 L1.row; have q4 := row_q4 L1.row; have q5 := row_q5 L1.row; have q6 := row_q6 L1.row; have q7 := row_q7 L1.row; have q8 := row_q8 L1.row; have q9 := row_q9 L1.row
  go_upto_region 26 with (first | (go_at_call 59; refine (optionW_some [98, 121] rb _ h_rb.out).mono ?_; rintro e wo ⟨rfl, rfl⟩) | (at_builtin; go_must (refine wpList_append_own _ rfl (.tmp 100) (.tmp 103) 28 rfl (w.heap.size + 1) 9 i0 _ 1 16 Tryz.underlying28 hi hz0 hz1 hz2 rfl (by decide) _ _ _ rfl (L1.own.alloc _) ⟨X1.heap.size, 0, none⟩ 2 2 (scells [[98, 121], rb]) rfl rfl (cells_new _ (scells [[98, 121], rb]) _) (scells_one _) (by unfold maxLen; omega) (by omega) (by have := L1.size; (try simp); omega) ?_); intro v2 X2 hown2 hg2 _))
  have L2 := L1.app (World.grownBy_alloc _ _ none) hg2 hown2
  clear q1 q2 q3 q4 q5 q6 q7 q8 q9
  obtain ⟨l2, hl2⟩ : ∃ q, q = l1 ++ [[98, 121], rb] := ⟨_, rfl⟩
  rw [← hl2] at L2
  have n2 : l2.length ≤ 11 := by rw [hl2]; simp; omega
  have HL2 := Lib.hid hl2
  clear hl2
  obtain ⟨A2, c2, rfl⟩ := own_slice L2.own
  have q1 := row_q1 L2.row; have q2 := row_q2 L2.row; have q3 := row_q3 L2.row; have q4 := row_q4 L2.row; have q5 := row_q5 L2.row; have q6 := row_q6 L2.row; have q7 := row_q7 L2.row; have q8 := row_q8 L2.row; have q9 := row_q9 L2.row
  go_wp2_with (first | (go_at_call 59; refine (optionW_nil [116, 97, 115, 107] ra _ h_ra.out).mono ?_; rintro e wo ⟨rfl, rfl⟩) | (at_builtin; go_must (refine wpList_append_own_none rfl (.tmp 105) (.tmp 108) 28 rfl (w.heap.size + 1) 9 i0 1 Tryz.underlying28 hi _ _ _ rfl L2.own rfl ?_)))
  clear q1 q2 q3 q4 q5 q6 q7 q8 q9
  go_ret
  exact lineTo_mk (by rw [HL2.out, HL1.out, HL0.out]; try simp) L2

set_option maxHeartbeats 4000000 in
theorem lw_on11 (nm rf rt rb ra ri : Tx) (rn rm ln : Int) {A : Option Addr} {na ca : Nat} (w : World) (h_rb : Hid (rb ≠ [])) (h_ra : Hid (ra ≠ [])) :
    Calls Tryz.prog 24 #[.agg #[.int .i64 9, .string (bs nm), .slice A na ca, .int .i64 rn, .int .i64 rm, .string (bs rf), .string (bs rt), .string (bs rb), .string (bs ra), .string (bs ri), .int .i64 ln]] w (LineTo ([wordP kindT 9] ++ [nm, [102, 114, 111, 109], rf, [116, 111], rt] ++ [[98, 121], rb] ++ [[116, 97, 115, 107], ra]) w) := by
  have RA : (w.alloc (.cells #[.int .i64 9, .string (bs nm), .slice A na ca, .int .i64 rn, .int .i64 rm, .string (bs rf), .string (bs rt), .string (bs rb), .string (bs ra), .string (bs ri), .int .i64 ln] 41)).drew.heap[w.heap.size]? = some (.cells #[.int .i64 9, .string (bs nm), .slice A na ca, .int .i64 rn, .int .i64 rm, .string (bs rf), .string (bs rt), .string (bs rb), .string (bs ra), .string (bs ri), .int .i64 ln] 41 (0, 0)) := (heap_alloc_new _ _ : (w.alloc (.cells #[.int .i64 9, .string (bs nm), .slice A na ca, .int .i64 rn, .int .i64 rm, .string (bs rf), .string (bs rt), .string (bs rb), .string (bs ra), .string (bs ri), .int .i64 ln] 41)).heap[w.heap.size]? = _)
  have HB : Below w.heap.size w (w.alloc (.cells #[.int .i64 9, .string (bs nm), .slice A na ca, .int .i64 rn, .int .i64 rm, .string (bs rf), .string (bs rt), .string (bs rb), .string (bs ra), .string (bs ri), .int .i64 ln] 41)).drew := ((Below.refl _ _).alloc (Nat.le_refl _) _).drew
  obtain ⟨i0, hi, hz0, hz1, hz2⟩ := info_parts Tryz.infoString
  go_enter Tryz.func24, Tryz.ntmps24
  go_upto_region 1 with fail
  go_region_held3 (fun w' => w'.cell? ⟨w.heap.size, 0, none⟩ = some (.int .i64 9)) (first | exact row_q0 RA | exact row_q0 (row_alloc RA _) | assumption)
    (first
      | (go_at_call 56; refine (kindWords_any _).mono ?_; rintro e w1 ⟨t, rfl, ht, hst, hb1⟩; have HT := Lib.hid ht; clear ht; have RA := row_below RA hb1; have HB := below_then HB hb1 HB.size)
      | (go_at_call 55; refine (wordAt_any t 12 12 kindT 9 _ hst rfl (by decide) (by decide)).mono ?_; rintro e w2 ⟨rfl, rfl⟩))
  have L0 : LS w (w1.alloc (.cells #[.string (bs (wordP kindT 9))] 9)) #[.int .i64 9, .string (bs nm), .slice A na ca, .int .i64 rn, .int .i64 rm, .string (bs rf), .string (bs rt), .string (bs rb), .string (bs ra), .string (bs ri), .int .i64 ln] (.slice (some ⟨w1.heap.size, 0, none⟩) 1 1) [wordP kindT 9] :=
    ⟨row_alloc RA _, own_new w1 _ [wordP kindT 9] (by have := (Array.getElem?_eq_some_iff.1 RA).1; omega) (by simp), HB.alloc HB.size _⟩
  generalize w1.alloc (.cells #[.string (bs (wordP kindT 9))] 9) = X0 at *
  generalize w1.heap.size = h1 at *
  clear HT hst hb1 RA HB
  obtain ⟨l0, hl0⟩ : ∃ q, q = [wordP kindT 9] := ⟨_, rfl⟩
  rw [← hl0] at L0
  have n0 : l0.length ≤ 1 := by rw [hl0]; simp
  have HL0 := Lib.hid hl0
  clear hl0
  have q1 := row_q1 L0.row; have q2 := row_q2 L0.row; have q3 := row_q3 L0.row; have q4 := row_q4 L0.row; have q5 := row_q5 L0.row; have q6 := row_q6 L0.row; have q7 := row_q7 L0.row; have q8 := row_q8 L0.row; have q9 := row_q9 L0.row
  go_upto_region 25 with (at_builtin; go_must (refine wpList_append_own _ rfl (.tmp 91) (.tmp 98) 28 rfl (w.heap.size + 1) 9 i0 _ 1 16 Tryz.underlying28 hi hz0 hz1 hz2 rfl (by decide) _ _ _ rfl (L0.own.alloc _) ⟨X0.heap.size, 0, none⟩ 5 5 (scells [nm, [102, 114, 111, 109], rf, [116, 111], rt]) rfl rfl (cells_new _ (scells [nm, [102, 114, 111, 109], rf, [116, 111], rt]) _) (scells_one _) (by unfold maxLen; omega) (by omega) (by have := L0.size; (try simp); omega) ?_); intro v1 X1 hown1 hg1 _)
  have L1 := L0.app (World.grownBy_alloc _ _ none) hg1 hown1
  clear q1 q2 q3 q4 q5 q6 q7 q8 q9
  obtain ⟨l1, hl1⟩ : ∃ q, q = l0 ++ [nm, [102, 114, 111, 109], rf, [116, 111], rt] := ⟨_, rfl⟩
  rw [← hl1] at L1
  have n1 : l1.length ≤ 6 := by rw [hl1]; simp; omega
  have HL1 := Lib.hid hl1
  clear hl1
  obtain ⟨A1, c1, rfl⟩ := own_slice L1.own
  have q1 := row_q1 L1.row; have q2 := row_q2 L1.row; have q3 := row_q3 L1.row; have q4 := row_q4 L1.row; have q5 := row_q5 L1.row; have q6 := row_q6 L1.row; have q7 := row_q7 L1.row; have q8 := row_q8 L1.row; have q9 := row_q9 L1.row
  go_upto_region 26 with (first | (go_at_call 59; refine (optionW_some [98, 121] rb _ h_rb.out).mono ?_; rintro e wo ⟨rfl, rfl⟩) | (at_builtin; go_must (refine wpList_append_own _ rfl (.tmp 100) (.tmp 103) 28 rfl (w.heap.size + 1) 9 i0 _ 1 16 Tryz.underlying28 hi hz0 hz1 hz2 rfl (by decide) _ _ _ rfl (L1.own.alloc _) ⟨X1.heap.size, 0, none⟩ 2 2 (scells [[98, 121], rb]) rfl rfl (cells_new _ (scells [[98, 121], rb]) _) (scells_one _) (by unfold maxLen; omega) (by omega) (by have := L1.size; (try simp); omega) ?_); intro v2 X2 hown2 hg2 _))
  have L2 := L1.app (World.grownBy_alloc _ _ none) hg2 hown2
  clear q1 q2 q3 q4 q5 q6 q7 q8 q9
  obtain ⟨l2, hl2⟩ : ∃ q, q = l1 ++ [[98, 121], rb] := ⟨_, rfl⟩
  rw [← hl2] at L2
  have n2 : l2.length ≤ 11 := by rw [hl2]; simp; omega
  have HL2 := Lib.hid hl2
  clear hl2
  obtain ⟨A2, c2, rfl⟩ := own_slice L2.own
  have q1 := row_q1 L2.row; have q2 := row_q2 L2.row; have q3 := row_q3 L2.row; have q4 := row_q4 L2.row; have q5 := row_q5 L2.row; have q6 := row_q6 L2.row; have q7 := row_q7 L2.row; have q8 := row_q8 L2.row; have q9 := row_q9 L2.row
  go_wp2_with (first | (go_at_call 59; refine (optionW_some [116, 97, 115, 107] ra _ h_ra.out).mono ?_; rintro e wo ⟨rfl, rfl⟩) | (at_builtin; go_must (refine wpList_append_own _ rfl (.tmp 105) (.tmp 108) 28 rfl (w.heap.size + 1) 9 i0 _ 1 16 Tryz.underlying28 hi hz0 hz1 hz2 rfl (by decide) _ _ _ rfl (L2.own.alloc _) ⟨X2.heap.size, 0, none⟩ 2 2 (scells [[116, 97, 115, 107], ra]) rfl rfl (cells_new _ (scells [[116, 97, 115, 107], ra]) _) (scells_one _) (by unfold maxLen; omega) (by omega) (by have := L2.size; (try simp); omega) ?_); intro v3 X3 hown3 hg3 _))
  have L3 := L2.app (World.grownBy_alloc _ _ none) hg3 hown3
  clear q1 q2 q3 q4 q5 q6 q7 q8 q9
  go_ret
  exact lineTo_mk (by rw [HL2.out, HL1.out, HL0.out]; try simp) L3

set_option maxHeartbeats 4000000 in
theorem lw_auto (nm rf rt rb ra ri : Tx) (rn rm ln : Int) {A : Option Addr} {na ca : Nat} (w : World) :
    Calls Tryz.prog 24 #[.agg #[.int .i64 10, .string (bs nm), .slice A na ca, .int .i64 rn, .int .i64 rm, .string (bs rf), .string (bs rt), .string (bs rb), .string (bs ra), .string (bs ri), .int .i64 ln]] w (LineTo ([wordP kindT 10] ++ [[102, 114, 111, 109], rf, [116, 111], rt]) w) := by
  have RA : (w.alloc (.cells #[.int .i64 10, .string (bs nm), .slice A na ca, .int .i64 rn, .int .i64 rm, .string (bs rf), .string (bs rt), .string (bs rb), .string (bs ra), .string (bs ri), .int .i64 ln] 41)).drew.heap[w.heap.size]? = some (.cells #[.int .i64 10, .string (bs nm), .slice A na ca, .int .i64 rn, .int .i64 rm, .string (bs rf), .string (bs rt), .string (bs rb), .string (bs ra), .string (bs ri), .int .i64 ln] 41 (0, 0)) := (heap_alloc_new _ _ : (w.alloc (.cells #[.int .i64 10, .string (bs nm), .slice A na ca, .int .i64 rn, .int .i64 rm, .string (bs rf), .string (bs rt), .string (bs rb), .string (bs ra), .string (bs ri), .int .i64 ln] 41)).heap[w.heap.size]? = _)
  have HB : Below w.heap.size w (w.alloc (.cells #[.int .i64 10, .string (bs nm), .slice A na ca, .int .i64 rn, .int .i64 rm, .string (bs rf), .string (bs rt), .string (bs rb), .string (bs ra), .string (bs ri), .int .i64 ln] 41)).drew := ((Below.refl _ _).alloc (Nat.le_refl _) _).drew
  obtain ⟨i0, hi, hz0, hz1, hz2⟩ := info_parts Tryz.infoString
  go_enter Tryz.func24, Tryz.ntmps24
  go_upto_region 1 with fail
  go_region_held3 (fun w' => w'.cell? ⟨w.heap.size, 0, none⟩ = some (.int .i64 10)) (first | exact row_q0 RA | exact row_q0 (row_alloc RA _) | assumption)
    (first
      | (go_at_call 56; refine (kindWords_any _).mono ?_; rintro e w1 ⟨t, rfl, ht, hst, hb1⟩; have HT := Lib.hid ht; clear ht; have RA := row_below RA hb1; have HB := below_then HB hb1 HB.size)
      | (go_at_call 55; refine (wordAt_any t 12 12 kindT 10 _ hst rfl (by decide) (by decide)).mono ?_; rintro e w2 ⟨rfl, rfl⟩))
  have L0 : LS w (w1.alloc (.cells #[.string (bs (wordP kindT 10))] 9)) #[.int .i64 10, .string (bs nm), .slice A na ca, .int .i64 rn, .int .i64 rm, .string (bs rf), .string (bs rt), .string (bs rb), .string (bs ra), .string (bs ri), .int .i64 ln] (.slice (some ⟨w1.heap.size, 0, none⟩) 1 1) [wordP kindT 10] :=
    ⟨row_alloc RA _, own_new w1 _ [wordP kindT 10] (by have := (Array.getElem?_eq_some_iff.1 RA).1; omega) (by simp), HB.alloc HB.size _⟩
  generalize w1.alloc (.cells #[.string (bs (wordP kindT 10))] 9) = X0 at *
  generalize w1.heap.size = h1 at *
  clear HT hst hb1 RA HB
  obtain ⟨l0, hl0⟩ : ∃ q, q = [wordP kindT 10] := ⟨_, rfl⟩
  rw [← hl0] at L0
  have n0 : l0.length ≤ 1 := by rw [hl0]; simp
  have HL0 := Lib.hid hl0
  clear hl0
  have q1 := row_q1 L0.row; have q2 := row_q2 L0.row; have q3 := row_q3 L0.row; have q4 := row_q4 L0.row; have q5 := row_q5 L0.row; have q6 := row_q6 L0.row; have q7 := row_q7 L0.row; have q8 := row_q8 L0.row; have q9 := row_q9 L0.row
  go_wp2_with (at_builtin; go_must (refine wpList_append_own _ rfl (.tmp 112) (.tmp 117) 28 rfl (w.heap.size + 1) 9 i0 _ 1 16 Tryz.underlying28 hi hz0 hz1 hz2 rfl (by decide) _ _ _ rfl (L0.own.alloc _) ⟨X0.heap.size, 0, none⟩ 4 4 (scells [[102, 114, 111, 109], rf, [116, 111], rt]) rfl rfl (cells_new _ (scells [[102, 114, 111, 109], rf, [116, 111], rt]) _) (scells_one _) (by unfold maxLen; omega) (by omega) (by have := L0.size; (try simp); omega) ?_); intro v1 X1 hown1 hg1 _)
  have L1 := L0.app (World.grownBy_alloc _ _ none) hg1 hown1
  clear q1 q2 q3 q4 q5 q6 q7 q8 q9
  go_ret
  exact lineTo_mk (by rw [HL0.out]; try simp) L1
end Go.Proofs.YtahgfmobdfhaaaaGreatDoor
