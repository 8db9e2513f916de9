import Derived.Test.YtkalfhhdljndfaaGreatDoorLw1
import Derived.Test.YtkalfhhdljndfaaGreatDoorAgain
import Derived.Laws.AppendOwnNone
import Derived.Deep.AppendLies
import Derived.Test.YtkalfhhdljndfaaGreatDoorLw2
import Derived.Test.YtkalfhhdljndfaaGreatDoorLw5
import Derived.Test.YtkalfhhdljndfaaGreatDoorPol6
import Derived.Test.YtkalfhhdljndfaaGreatDoorShelf
import Derived.Lib.AppendIntMem
namespace Go.Proofs.YtkalfhhdljndfaaGreatDoor
set_option maxRecDepth 100000
open Go.ChangeShapes Go.WideShapes Go.ChangeAt Go.RowKit
set_option maxHeartbeats 4000000 in
theorem lw_none (nm rf rt rb ra ri : Tx) (kd rn rm ln : Int) {A : Option Addr} {na ca : Nat} (w : World) (k1 : (kd == 1) = false) (k2 : (kd == 2) = false) (k3 : (kd == 3) = false) (k4 : (kd == 4) = false) (k5 : (kd == 5) = false) (k6 : (kd == 6) = false) (k7 : (kd == 7) = false) (k8 : (kd == 8) = false) (k9 : (kd == 9) = false) (k10 : (kd == 10) = false) (k11 : (kd == 11) = false) :
  Calls Tryz.prog 106 #[.agg #[.int .i64 kd, .string (bs nm), .slice A na ca, .int .i64 rn, .int .i64 rm, .string (bs rf), .string (bs rt), .string (bs rb), .string (bs ra), .string (bs ri), .int .i64 ln]] w (LineTo ([wordP kindT kd]) w) := by
 have RA : (w.alloc (.cells #[.int .i64 kd, .string (bs nm), .slice A na ca, .int .i64 rn, .int .i64 rm, .string (bs rf), .string (bs rt), .string (bs rb), .string (bs ra), .string (bs ri), .int .i64 ln] 39)).drew.heap[w.heap.size]? = some (.cells #[.int .i64 kd, .string (bs nm), .slice A na ca, .int .i64 rn, .int .i64 rm, .string (bs rf), .string (bs rt), .string (bs rb), .string (bs ra), .string (bs ri), .int .i64 ln] 39 (0, 0)) := (heap_alloc_new _ _ : (w.alloc (.cells #[.int .i64 kd, .string (bs nm), .slice A na ca, .int .i64 rn, .int .i64 rm, .string (bs rf), .string (bs rt), .string (bs rb), .string (bs ra), .string (bs ri), .int .i64 ln] 39)).heap[w.heap.size]? = _)
 have HB : Below w.heap.size w (w.alloc (.cells #[.int .i64 kd, .string (bs nm), .slice A na ca, .int .i64 rn, .int .i64 rm, .string (bs rf), .string (bs rt), .string (bs rb), .string (bs ra), .string (bs ri), .int .i64 ln] 39)).drew := ((Below.refl _ _).alloc (Nat.le_refl _) _).drew
 obtain ⟨i0, hi, hz0, hz1, hz2⟩ := info_parts Tryz.infoString
 go_enter Tryz.func106, Tryz.ntmps106
 go_upto_region 1 with fail
 go_region_held3 (fun w' => w'.cell? ⟨w.heap.size, 0, none⟩ = some (.int .i64 kd)) (first | exact row_q0 RA | exact row_q0 (row_alloc RA _) | assumption)
  (first
   | (go_at_call 153; refine (kindWords_any _).mono ?_; rintro e w1 ⟨t, rfl, ht, hst, hb1⟩; have HT := Lib.hid ht; clear ht; have RA := row_below RA hb1; have HB := below_then HB hb1 HB.size)
   | (go_at_call 152; refine (wordAt_any t 12 12 kindT kd _ hst rfl (by decide) (by decide)).mono ?_; rintro e w2 ⟨rfl, rfl⟩))
 have L0 : LS w (w1.alloc (.cells #[.string (bs (wordP kindT kd))] 9)) #[.int .i64 kd, .string (bs nm), .slice A na ca, .int .i64 rn, .int .i64 rm, .string (bs rf), .string (bs rt), .string (bs rb), .string (bs ra), .string (bs ri), .int .i64 ln] (.slice (some ⟨w1.heap.size, 0, none⟩) 1 1) [wordP kindT kd] :=
  ⟨row_alloc RA _, own_new w1 _ [wordP kindT kd] (by have := (Array.getElem?_eq_some_iff.1 RA).1; omega) (by simp), HB.alloc HB.size _⟩
 generalize w1.alloc (.cells #[.string (bs (wordP kindT kd))] 9) = X0 at *
 generalize w1.heap.size = h1 at *
 have q0 := row_q0 L0.row
 clear HT hst hb1 RA HB
 obtain ⟨l0, hl0⟩ : ∃ q, q = [wordP kindT kd] := ⟨_, rfl⟩
 rw [← hl0] at L0
 have n0 : l0.length ≤ 1 := by rw [hl0]; simp
 have HL0 := Lib.hid hl0
 clear hl0
 go_wp2
 go_ret
 exact lineTo_mk HL0.out L0
set_option maxHeartbeats 4000000 in
theorem lw_roleE (nm rf rt rb ra ri : Tx) (rn rm ln : Int) (a : Addr) (c : Nat) (w : World) :
  Calls Tryz.prog 106 #[.agg #[.int .i64 1, .string (bs nm), .slice (some a) 0 c, .int .i64 rn, .int .i64 rm, .string (bs rf), .string (bs rt), .string (bs rb), .string (bs ra), .string (bs ri), .int .i64 ln]] w (LineTo ([wordP kindT 1] ++ [nm]) w) := by
 have RA : (w.alloc (.cells #[.int .i64 1, .string (bs nm), .slice (some a) 0 c, .int .i64 rn, .int .i64 rm, .string (bs rf), .string (bs rt), .string (bs rb), .string (bs ra), .string (bs ri), .int .i64 ln] 39)).drew.heap[w.heap.size]? = some (.cells #[.int .i64 1, .string (bs nm), .slice (some a) 0 c, .int .i64 rn, .int .i64 rm, .string (bs rf), .string (bs rt), .string (bs rb), .string (bs ra), .string (bs ri), .int .i64 ln] 39 (0, 0)) := (heap_alloc_new _ _ : (w.alloc (.cells #[.int .i64 1, .string (bs nm), .slice (some a) 0 c, .int .i64 rn, .int .i64 rm, .string (bs rf), .string (bs rt), .string (bs rb), .string (bs ra), .string (bs ri), .int .i64 ln] 39)).heap[w.heap.size]? = _)
 have HB : Below w.heap.size w (w.alloc (.cells #[.int .i64 1, .string (bs nm), .slice (some a) 0 c, .int .i64 rn, .int .i64 rm, .string (bs rf), .string (bs rt), .string (bs rb), .string (bs ra), .string (bs ri), .int .i64 ln] 39)).drew := ((Below.refl _ _).alloc (Nat.le_refl _) _).drew
 obtain ⟨i0, hi, hz0, hz1, hz2⟩ := info_parts Tryz.infoString
 go_enter Tryz.func106, Tryz.ntmps106
 go_upto_region 1 with fail
 go_region_held3 (fun w' => w'.cell? ⟨w.heap.size, 0, none⟩ = some (.int .i64 1)) (first | exact row_q0 RA | exact row_q0 (row_alloc RA _) | assumption)
  (first
   | (go_at_call 153; refine (kindWords_any _).mono ?_; rintro e w1 ⟨t, rfl, ht, hst, hb1⟩; have HT := Lib.hid ht; clear ht; have RA := row_below RA hb1; have HB := below_then HB hb1 HB.size)
   | (go_at_call 152; refine (wordAt_any t 12 12 kindT 1 _ hst rfl (by decide) (by decide)).mono ?_; rintro e w2 ⟨rfl, rfl⟩))
 have L0 : LS w (w1.alloc (.cells #[.string (bs (wordP kindT 1))] 9)) #[.int .i64 1, .string (bs nm), .slice (some a) 0 c, .int .i64 rn, .int .i64 rm, .string (bs rf), .string (bs rt), .string (bs rb), .string (bs ra), .string (bs ri), .int .i64 ln] (.slice (some ⟨w1.heap.size, 0, none⟩) 1 1) [wordP kindT 1] :=
  ⟨row_alloc RA _, own_new w1 _ [wordP kindT 1] (by have := (Array.getElem?_eq_some_iff.1 RA).1; omega) (by simp), HB.alloc HB.size _⟩
 generalize w1.alloc (.cells #[.string (bs (wordP kindT 1))] 9) = X0 at *
 generalize w1.heap.size = h1 at *
 clear HT hst hb1 RA HB
 obtain ⟨l0, hl0⟩ : ∃ q, q = [wordP kindT 1] := ⟨_, rfl⟩
 rw [← hl0] at L0
 have n0 : l0.length ≤ 1 := by rw [hl0]; simp
 have HL0 := Lib.hid hl0
 clear hl0
 have q1 := row_q1 L0.row; have q2 := row_q2 L0.row; have q3 := row_q3 L0.row; have q4 := row_q4 L0.row; have q5 := row_q5 L0.row; have q6 := row_q6 L0.row; have q7 := row_q7 L0.row; have q8 := row_q8 L0.row; have q9 := row_q9 L0.row
 go_upto_region 5 with (at_builtin; go_must (refine wpList_append_own _ rfl (.tmp 13) (.tmp 16) 36 rfl (w.heap.size + 1) 9 i0 _ 1 16 Tryz.underlying36 hi hz0 hz1 hz2 rfl (by decide) _ _ _ rfl (L0.own.alloc _) ⟨X0.heap.size, 0, none⟩ 1 1 (scells [nm]) rfl rfl (cells_new _ (scells [nm]) _) (scells_one _) (by unfold maxLen; omega) (by omega) (by have := L0.size; (try simp); omega) ?_); intro v1 X1 hown1 hg1 _)
 have L1 := L0.app (World.grownBy_alloc _ _ none) hg1 hown1
 clear q1 q2 q3 q4 q5 q6 q7 q8 q9
 obtain ⟨l1, hl1⟩ : ∃ q, q = l0 ++ [nm] := ⟨_, rfl⟩
 rw [← hl1] at L1
 have n1 : l1.length ≤ 6 := by rw [hl1]; simp; omega
 have HL1 := Lib.hid hl1
 clear hl1
 obtain ⟨A1, c1, rfl⟩ := own_slice L1.own
 have q1 := row_q1 L1.row; have q2 := row_q2 L1.row; have q3 := row_q3 L1.row; have q4 := row_q4 L1.row; have q5 := row_q5 L1.row; have q6 := row_q6 L1.row; have q7 := row_q7 L1.row; have q8 := row_q8 L1.row; have q9 := row_q9 L1.row
 go_upto_region 7 with fail
 clear q1 q2 q3 q4 q5 q6 q7 q8 q9
 have q1 := row_q1 L1.row; have q2 := row_q2 L1.row; have q3 := row_q3 L1.row; have q4 := row_q4 L1.row; have q5 := row_q5 L1.row; have q6 := row_q6 L1.row; have q7 := row_q7 L1.row; have q8 := row_q8 L1.row; have q9 := row_q9 L1.row
 have HSRC3 : ∀ j u, (scells [])[j]? = some u → X1.cell? (a.add j) = some u := (by intro j u hu; simp [scells] at hu)
 go_wp2_with (at_builtin; go_must (refine wpList_append_own _ rfl (.tmp 25) (.tmp 27) 36 rfl (w.heap.size + 1) 9 i0 _ 1 16 Tryz.underlying36 hi hz0 hz1 hz2 rfl (by decide) _ _ _ rfl L1.own a 0 c (scells []) rfl (by simp [scells]) HSRC3 (scells_one _) (by unfold maxLen; omega) (by omega) (by have := L1.size; (try simp); omega) ?_); intro v3 X3 hown3 hg3 _)
 have L3 := L1.app (World.grownBy.refl _ _) hg3 hown3
 clear q1 q2 q3 q4 q5 q6 q7 q8 q9
 go_ret
 exact lineTo_mk (by rw [HL1.out, HL0.out]; try simp) L3
set_option maxHeartbeats 4000000 in
theorem lw_exclE (nm rf rt rb ra ri : Tx) (rn rm ln : Int) (a : Addr) (c : Nat) (w : World) :
  Calls Tryz.prog 106 #[.agg #[.int .i64 6, .string (bs nm), .slice (some a) 0 c, .int .i64 rn, .int .i64 rm, .string (bs rf), .string (bs rt), .string (bs rb), .string (bs ra), .string (bs ri), .int .i64 ln]] w (LineTo ([wordP kindT 6]) w) := by
 have RA : (w.alloc (.cells #[.int .i64 6, .string (bs nm), .slice (some a) 0 c, .int .i64 rn, .int .i64 rm, .string (bs rf), .string (bs rt), .string (bs rb), .string (bs ra), .string (bs ri), .int .i64 ln] 39)).drew.heap[w.heap.size]? = some (.cells #[.int .i64 6, .string (bs nm), .slice (some a) 0 c, .int .i64 rn, .int .i64 rm, .string (bs rf), .string (bs rt), .string (bs rb), .string (bs ra), .string (bs ri), .int .i64 ln] 39 (0, 0)) := (heap_alloc_new _ _ : (w.alloc (.cells #[.int .i64 6, .string (bs nm), .slice (some a) 0 c, .int .i64 rn, .int .i64 rm, .string (bs rf), .string (bs rt), .string (bs rb), .string (bs ra), .string (bs ri), .int .i64 ln] 39)).heap[w.heap.size]? = _)
 have HB : Below w.heap.size w (w.alloc (.cells #[.int .i64 6, .string (bs nm), .slice (some a) 0 c, .int .i64 rn, .int .i64 rm, .string (bs rf), .string (bs rt), .string (bs rb), .string (bs ra), .string (bs ri), .int .i64 ln] 39)).drew := ((Below.refl _ _).alloc (Nat.le_refl _) _).drew
 obtain ⟨i0, hi, hz0, hz1, hz2⟩ := info_parts Tryz.infoString
 go_enter Tryz.func106, Tryz.ntmps106
 go_upto_region 1 with fail
 go_region_held3 (fun w' => w'.cell? ⟨w.heap.size, 0, none⟩ = some (.int .i64 6)) (first | exact row_q0 RA | exact row_q0 (row_alloc RA _) | assumption)
  (first
   | (go_at_call 153; refine (kindWords_any _).mono ?_; rintro e w1 ⟨t, rfl, ht, hst, hb1⟩; have HT := Lib.hid ht; clear ht; have RA := row_below RA hb1; have HB := below_then HB hb1 HB.size)
   | (go_at_call 152; refine (wordAt_any t 12 12 kindT 6 _ hst rfl (by decide) (by decide)).mono ?_; rintro e w2 ⟨rfl, rfl⟩))
 have L0 : LS w (w1.alloc (.cells #[.string (bs (wordP kindT 6))] 9)) #[.int .i64 6, .string (bs nm), .slice (some a) 0 c, .int .i64 rn, .int .i64 rm, .string (bs rf), .string (bs rt), .string (bs rb), .string (bs ra), .string (bs ri), .int .i64 ln] (.slice (some ⟨w1.heap.size, 0, none⟩) 1 1) [wordP kindT 6] :=
  ⟨row_alloc RA _, own_new w1 _ [wordP kindT 6] (by have := (Array.getElem?_eq_some_iff.1 RA).1; omega) (by simp), HB.alloc HB.size _⟩
 generalize w1.alloc (.cells #[.string (bs (wordP kindT 6))] 9) = X0 at *
 generalize w1.heap.size = h1 at *
 clear HT hst hb1 RA HB
 obtain ⟨l0, hl0⟩ : ∃ q, q = [wordP kindT 6] := ⟨_, rfl⟩
 rw [← hl0] at L0
 have n0 : l0.length ≤ 1 := by rw [hl0]; simp
 have HL0 := Lib.hid hl0
 clear hl0
 have q1 := row_q1 L0.row; have q2 := row_q2 L0.row; have q3 := row_q3 L0.row; have q4 := row_q4 L0.row; have q5 := row_q5 L0.row; have q6 := row_q6 L0.row; have q7 := row_q7 L0.row; have q8 := row_q8 L0.row; have q9 := row_q9 L0.row
 have HSRC1 : ∀ j u, (scells [])[j]? = some u → X0.cell? (a.add j) = some u := (by intro j u hu; simp [scells] at hu)
 go_wp2_with (at_builtin; go_must (refine wpList_append_own _ rfl (.tmp 56) (.tmp 58) 36 rfl (w.heap.size + 1) 9 i0 _ 1 16 Tryz.underlying36 hi hz0 hz1 hz2 rfl (by decide) _ _ _ rfl L0.own a 0 c (scells []) rfl (by simp [scells]) HSRC1 (scells_one _) (by unfold maxLen; omega) (by omega) (by have := L0.size; (try simp); omega) ?_); intro v1 X1 hown1 hg1 _)
 have L1 := L0.app (World.grownBy.refl _ _) hg1 hown1
 clear q1 q2 q3 q4 q5 q6 q7 q8 q9
 go_ret
 exact lineTo_mk (by rw [HL0.out]; try simp) L1
set_option maxHeartbeats 4000000 in
theorem lw_user2E (nm rf rt rb ra ri : Tx) (rn rm ln : Int) (a : Addr) (c : Nat) (w : World) :
  Calls Tryz.prog 106 #[.agg #[.int .i64 2, .string (bs nm), .slice (some a) 0 c, .int .i64 rn, .int .i64 rm, .string (bs rf), .string (bs rt), .string (bs rb), .string (bs ra), .string (bs ri), .int .i64 ln]] w (LineTo ([wordP kindT 2] ++ [nm]) w) := by
 have RA : (w.alloc (.cells #[.int .i64 2, .string (bs nm), .slice (some a) 0 c, .int .i64 rn, .int .i64 rm, .string (bs rf), .string (bs rt), .string (bs rb), .string (bs ra), .string (bs ri), .int .i64 ln] 39)).drew.heap[w.heap.size]? = some (.cells #[.int .i64 2, .string (bs nm), .slice (some a) 0 c, .int .i64 rn, .int .i64 rm, .string (bs rf), .string (bs rt), .string (bs rb), .string (bs ra), .string (bs ri), .int .i64 ln] 39 (0, 0)) := (heap_alloc_new _ _ : (w.alloc (.cells #[.int .i64 2, .string (bs nm), .slice (some a) 0 c, .int .i64 rn, .int .i64 rm, .string (bs rf), .string (bs rt), .string (bs rb), .string (bs ra), .string (bs ri), .int .i64 ln] 39)).heap[w.heap.size]? = _)
 have HB : Below w.heap.size w (w.alloc (.cells #[.int .i64 2, .string (bs nm), .slice (some a) 0 c, .int .i64 rn, .int .i64 rm, .string (bs rf), .string (bs rt), .string (bs rb), .string (bs ra), .string (bs ri), .int .i64 ln] 39)).drew := ((Below.refl _ _).alloc (Nat.le_refl _) _).drew
 obtain ⟨i0, hi, hz0, hz1, hz2⟩ := info_parts Tryz.infoString
 go_enter Tryz.func106, Tryz.ntmps106
 go_upto_region 1 with fail
 go_region_held3 (fun w' => w'.cell? ⟨w.heap.size, 0, none⟩ = some (.int .i64 2)) (first | exact row_q0 RA | exact row_q0 (row_alloc RA _) | assumption)
  (first
   | (go_at_call 153; refine (kindWords_any _).mono ?_; rintro e w1 ⟨t, rfl, ht, hst, hb1⟩; have HT := Lib.hid ht; clear ht; have RA := row_below RA hb1; have HB := below_then HB hb1 HB.size)
   | (go_at_call 152; refine (wordAt_any t 12 12 kindT 2 _ hst rfl (by decide) (by decide)).mono ?_; rintro e w2 ⟨rfl, rfl⟩))
 have L0 : LS w (w1.alloc (.cells #[.string (bs (wordP kindT 2))] 9)) #[.int .i64 2, .string (bs nm), .slice (some a) 0 c, .int .i64 rn, .int .i64 rm, .string (bs rf), .string (bs rt), .string (bs rb), .string (bs ra), .string (bs ri), .int .i64 ln] (.slice (some ⟨w1.heap.size, 0, none⟩) 1 1) [wordP kindT 2] :=
  ⟨row_alloc RA _, own_new w1 _ [wordP kindT 2] (by have := (Array.getElem?_eq_some_iff.1 RA).1; omega) (by simp), HB.alloc HB.size _⟩
 generalize w1.alloc (.cells #[.string (bs (wordP kindT 2))] 9) = X0 at *
 generalize w1.heap.size = h1 at *
 clear HT hst hb1 RA HB
 obtain ⟨l0, hl0⟩ : ∃ q, q = [wordP kindT 2] := ⟨_, rfl⟩
 rw [← hl0] at L0
 have n0 : l0.length ≤ 1 := by rw [hl0]; simp
 have HL0 := Lib.hid hl0
 clear hl0
 have q1 := row_q1 L0.row; have q2 := row_q2 L0.row; have q3 := row_q3 L0.row; have q4 := row_q4 L0.row; have q5 := row_q5 L0.row; have q6 := row_q6 L0.row; have q7 := row_q7 L0.row; have q8 := row_q8 L0.row; have q9 := row_q9 L0.row
 go_upto_region 11 with (at_builtin; go_must (refine wpList_append_own _ rfl (.tmp 32) (.tmp 35) 36 rfl (w.heap.size + 1) 9 i0 _ 1 16 Tryz.underlying36 hi hz0 hz1 hz2 rfl (by decide) _ _ _ rfl (L0.own.alloc _) ⟨X0.heap.size, 0, none⟩ 1 1 (scells [nm]) rfl rfl (cells_new _ (scells [nm]) _) (scells_one _) (by unfold maxLen; omega) (by omega) (by have := L0.size; (try simp); omega) ?_); intro v1 X1 hown1 hg1 _)
 have L1 := L0.app (World.grownBy_alloc _ _ none) hg1 hown1
 clear q1 q2 q3 q4 q5 q6 q7 q8 q9
 obtain ⟨l1, hl1⟩ : ∃ q, q = l0 ++ [nm] := ⟨_, rfl⟩
 rw [← hl1] at L1
 have n1 : l1.length ≤ 6 := by rw [hl1]; simp; omega
 have HL1 := Lib.hid hl1
 clear hl1
 obtain ⟨A1, c1, rfl⟩ := own_slice L1.own
 have q1 := row_q1 L1.row; have q2 := row_q2 L1.row; have q3 := row_q3 L1.row; have q4 := row_q4 L1.row; have q5 := row_q5 L1.row; have q6 := row_q6 L1.row; have q7 := row_q7 L1.row; have q8 := row_q8 L1.row; have q9 := row_q9 L1.row
 have HSRC2 : ∀ j u, (scells [])[j]? = some u → X1.cell? (a.add j) = some u := (by intro j u hu; simp [scells] at hu)
 go_wp2_with (at_builtin; go_must (refine wpList_append_own _ rfl (.tmp 37) (.tmp 39) 36 rfl (w.heap.size + 1) 9 i0 _ 1 16 Tryz.underlying36 hi hz0 hz1 hz2 rfl (by decide) _ _ _ rfl L1.own a 0 c (scells []) rfl (by simp [scells]) HSRC2 (scells_one _) (by unfold maxLen; omega) (by omega) (by have := L1.size; (try simp); omega) ?_); intro v2 X2 hown2 hg2 _)
 have L2 := L1.app (World.grownBy.refl _ _) hg2 hown2
 clear q1 q2 q3 q4 q5 q6 q7 q8 q9
 go_ret
 exact lineTo_mk (by rw [HL1.out, HL0.out]; try simp) L2
set_option maxHeartbeats 4000000 in
theorem lw_user3E (nm rf rt rb ra ri : Tx) (rn rm ln : Int) (a : Addr) (c : Nat) (w : World) :
  Calls Tryz.prog 106 #[.agg #[.int .i64 3, .string (bs nm), .slice (some a) 0 c, .int .i64 rn, .int .i64 rm, .string (bs rf), .string (bs rt), .string (bs rb), .string (bs ra), .string (bs ri), .int .i64 ln]] w (LineTo ([wordP kindT 3] ++ [nm]) w) := by
 have RA : (w.alloc (.cells #[.int .i64 3, .string (bs nm), .slice (some a) 0 c, .int .i64 rn, .int .i64 rm, .string (bs rf), .string (bs rt), .string (bs rb), .string (bs ra), .string (bs ri), .int .i64 ln] 39)).drew.heap[w.heap.size]? = some (.cells #[.int .i64 3, .string (bs nm), .slice (some a) 0 c, .int .i64 rn, .int .i64 rm, .string (bs rf), .string (bs rt), .string (bs rb), .string (bs ra), .string (bs ri), .int .i64 ln] 39 (0, 0)) := (heap_alloc_new _ _ : (w.alloc (.cells #[.int .i64 3, .string (bs nm), .slice (some a) 0 c, .int .i64 rn, .int .i64 rm, .string (bs rf), .string (bs rt), .string (bs rb), .string (bs ra), .string (bs ri), .int .i64 ln] 39)).heap[w.heap.size]? = _)
 have HB : Below w.heap.size w (w.alloc (.cells #[.int .i64 3, .string (bs nm), .slice (some a) 0 c, .int .i64 rn, .int .i64 rm, .string (bs rf), .string (bs rt), .string (bs rb), .string (bs ra), .string (bs ri), .int .i64 ln] 39)).drew := ((Below.refl _ _).alloc (Nat.le_refl _) _).drew
 obtain ⟨i0, hi, hz0, hz1, hz2⟩ := info_parts Tryz.infoString
 go_enter Tryz.func106, Tryz.ntmps106
 go_upto_region 1 with fail
 go_region_held3 (fun w' => w'.cell? ⟨w.heap.size, 0, none⟩ = some (.int .i64 3)) (first | exact row_q0 RA | exact row_q0 (row_alloc RA _) | assumption)
  (first
   | (go_at_call 153; refine (kindWords_any _).mono ?_; rintro e w1 ⟨t, rfl, ht, hst, hb1⟩; have HT := Lib.hid ht; clear ht; have RA := row_below RA hb1; have HB := below_then HB hb1 HB.size)
   | (go_at_call 152; refine (wordAt_any t 12 12 kindT 3 _ hst rfl (by decide) (by decide)).mono ?_; rintro e w2 ⟨rfl, rfl⟩))
 have L0 : LS w (w1.alloc (.cells #[.string (bs (wordP kindT 3))] 9)) #[.int .i64 3, .string (bs nm), .slice (some a) 0 c, .int .i64 rn, .int .i64 rm, .string (bs rf), .string (bs rt), .string (bs rb), .string (bs ra), .string (bs ri), .int .i64 ln] (.slice (some ⟨w1.heap.size, 0, none⟩) 1 1) [wordP kindT 3] :=
  ⟨row_alloc RA _, own_new w1 _ [wordP kindT 3] (by have := (Array.getElem?_eq_some_iff.1 RA).1; omega) (by simp), HB.alloc HB.size _⟩
 generalize w1.alloc (.cells #[.string (bs (wordP kindT 3))] 9) = X0 at *
 generalize w1.heap.size = h1 at *
 clear HT hst hb1 RA HB
 obtain ⟨l0, hl0⟩ : ∃ q, q = [wordP kindT 3] := ⟨_, rfl⟩
 rw [← hl0] at L0
 have n0 : l0.length ≤ 1 := by rw [hl0]; simp
 have HL0 := Lib.hid hl0
 clear hl0
 have q1 := row_q1 L0.row; have q2 := row_q2 L0.row; have q3 := row_q3 L0.row; have q4 := row_q4 L0.row; have q5 := row_q5 L0.row; have q6 := row_q6 L0.row; have q7 := row_q7 L0.row; have q8 := row_q8 L0.row; have q9 := row_q9 L0.row
 go_upto_region 11 with (at_builtin; go_must (refine wpList_append_own _ rfl (.tmp 32) (.tmp 35) 36 rfl (w.heap.size + 1) 9 i0 _ 1 16 Tryz.underlying36 hi hz0 hz1 hz2 rfl (by decide) _ _ _ rfl (L0.own.alloc _) ⟨X0.heap.size, 0, none⟩ 1 1 (scells [nm]) rfl rfl (cells_new _ (scells [nm]) _) (scells_one _) (by unfold maxLen; omega) (by omega) (by have := L0.size; (try simp); omega) ?_); intro v1 X1 hown1 hg1 _)
 have L1 := L0.app (World.grownBy_alloc _ _ none) hg1 hown1
 clear q1 q2 q3 q4 q5 q6 q7 q8 q9
 obtain ⟨l1, hl1⟩ : ∃ q, q = l0 ++ [nm] := ⟨_, rfl⟩
 rw [← hl1] at L1
 have n1 : l1.length ≤ 6 := by rw [hl1]; simp; omega
 have HL1 := Lib.hid hl1
 clear hl1
 obtain ⟨A1, c1, rfl⟩ := own_slice L1.own
 have q1 := row_q1 L1.row; have q2 := row_q2 L1.row; have q3 := row_q3 L1.row; have q4 := row_q4 L1.row; have q5 := row_q5 L1.row; have q6 := row_q6 L1.row; have q7 := row_q7 L1.row; have q8 := row_q8 L1.row; have q9 := row_q9 L1.row
 have HSRC2 : ∀ j u, (scells [])[j]? = some u → X1.cell? (a.add j) = some u := (by intro j u hu; simp [scells] at hu)
 go_wp2_with (at_builtin; go_must (refine wpList_append_own _ rfl (.tmp 37) (.tmp 39) 36 rfl (w.heap.size + 1) 9 i0 _ 1 16 Tryz.underlying36 hi hz0 hz1 hz2 rfl (by decide) _ _ _ rfl L1.own a 0 c (scells []) rfl (by simp [scells]) HSRC2 (scells_one _) (by unfold maxLen; omega) (by omega) (by have := L1.size; (try simp); omega) ?_); intro v2 X2 hown2 hg2 _)
 have L2 := L1.app (World.grownBy.refl _ _) hg2 hown2
 clear q1 q2 q3 q4 q5 q6 q7 q8 q9
 go_ret
 exact lineTo_mk (by rw [HL1.out, HL0.out]; try simp) L2
set_option maxHeartbeats 4000000 in
theorem lw_ssd4E (nm rf rt rb ra ri : Tx) (rn rm ln : Int) (a : Addr) (c : Nat) (w : World) (it : Tx) (hit : ∀ W, Below w.heap.size w W → Calls Tryz.prog 154 #[.int .i64 rn] W fun e w' => e = .returned (.string (bs it)) ∧ Below W.heap.size W w') :
  Calls Tryz.prog 106 #[.agg #[.int .i64 4, .string (bs nm), .slice (some a) 0 c, .int .i64 rn, .int .i64 rm, .string (bs rf), .string (bs rt), .string (bs rb), .string (bs ra), .string (bs ri), .int .i64 ln]] w (LineTo ([wordP kindT 4] ++ [it]) w) := by
 have RA : (w.alloc (.cells #[.int .i64 4, .string (bs nm), .slice (some a) 0 c, .int .i64 rn, .int .i64 rm, .string (bs rf), .string (bs rt), .string (bs rb), .string (bs ra), .string (bs ri), .int .i64 ln] 39)).drew.heap[w.heap.size]? = some (.cells #[.int .i64 4, .string (bs nm), .slice (some a) 0 c, .int .i64 rn, .int .i64 rm, .string (bs rf), .string (bs rt), .string (bs rb), .string (bs ra), .string (bs ri), .int .i64 ln] 39 (0, 0)) := (heap_alloc_new _ _ : (w.alloc (.cells #[.int .i64 4, .string (bs nm), .slice (some a) 0 c, .int .i64 rn, .int .i64 rm, .string (bs rf), .string (bs rt), .string (bs rb), .string (bs ra), .string (bs ri), .int .i64 ln] 39)).heap[w.heap.size]? = _)
 have HB : Below w.heap.size w (w.alloc (.cells #[.int .i64 4, .string (bs nm), .slice (some a) 0 c, .int .i64 rn, .int .i64 rm, .string (bs rf), .string (bs rt), .string (bs rb), .string (bs ra), .string (bs ri), .int .i64 ln] 39)).drew := ((Below.refl _ _).alloc (Nat.le_refl _) _).drew
 obtain ⟨i0, hi, hz0, hz1, hz2⟩ := info_parts Tryz.infoString
 go_enter Tryz.func106, Tryz.ntmps106
 go_upto_region 1 with fail
 go_region_held3 (fun w' => w'.cell? ⟨w.heap.size, 0, none⟩ = some (.int .i64 4)) (first | exact row_q0 RA | exact row_q0 (row_alloc RA _) | assumption)
  (first
   | (go_at_call 153; refine (kindWords_any _).mono ?_; rintro e w1 ⟨t, rfl, ht, hst, hb1⟩; have HT := Lib.hid ht; clear ht; have RA := row_below RA hb1; have HB := below_then HB hb1 HB.size)
   | (go_at_call 152; refine (wordAt_any t 12 12 kindT 4 _ hst rfl (by decide) (by decide)).mono ?_; rintro e w2 ⟨rfl, rfl⟩))
 have L0 : LS w (w1.alloc (.cells #[.string (bs (wordP kindT 4))] 9)) #[.int .i64 4, .string (bs nm), .slice (some a) 0 c, .int .i64 rn, .int .i64 rm, .string (bs rf), .string (bs rt), .string (bs rb), .string (bs ra), .string (bs ri), .int .i64 ln] (.slice (some ⟨w1.heap.size, 0, none⟩) 1 1) [wordP kindT 4] :=
  ⟨row_alloc RA _, own_new w1 _ [wordP kindT 4] (by have := (Array.getElem?_eq_some_iff.1 RA).1; omega) (by simp), HB.alloc HB.size _⟩
 generalize w1.alloc (.cells #[.string (bs (wordP kindT 4))] 9) = X0 at *
 generalize w1.heap.size = h1 at *
 clear HT hst hb1 RA HB
 obtain ⟨l0, hl0⟩ : ∃ q, q = [wordP kindT 4] := ⟨_, rfl⟩
 rw [← hl0] at L0
 have n0 : l0.length ≤ 1 := by rw [hl0]; simp
 have HL0 := Lib.hid hl0
 clear hl0
 have q1 := row_q1 L0.row; have q2 := row_q2 L0.row; have q3 := row_q3 L0.row; have q4 := row_q4 L0.row; have q5 := row_q5 L0.row; have q6 := row_q6 L0.row; have q7 := row_q7 L0.row; have q8 := row_q8 L0.row; have q9 := row_q9 L0.row
 go_upto_region 15 with (first | (go_at_call 154; refine (hit _ L0.low).mono ?_; rintro e XI ⟨rfl, hbI⟩; have LI := L0.below hbI) | (at_builtin; go_must (refine wpList_append_own _ rfl (.tmp 44) (.tmp 48) 36 rfl (w.heap.size + 1) 9 i0 _ 1 16 Tryz.underlying36 hi hz0 hz1 hz2 rfl (by decide) _ _ _ rfl (LI.own.alloc _) ⟨XI.heap.size, 0, none⟩ 1 1 (scells [it]) rfl rfl (cells_new _ (scells [it]) _) (scells_one _) (by unfold maxLen; omega) (by omega) (by have := LI.size; (try simp); omega) ?_); intro v1 X1 hown1 hg1 _))
 have L1 := LI.app (World.grownBy_alloc _ _ none) hg1 hown1
 clear q1 q2 q3 q4 q5 q6 q7 q8 q9
 obtain ⟨l1, hl1⟩ : ∃ q, q = l0 ++ [it] := ⟨_, rfl⟩
 rw [← hl1] at L1
 have n1 : l1.length ≤ 6 := by rw [hl1]; simp; omega
 have HL1 := Lib.hid hl1
 clear hl1
 obtain ⟨A1, c1, rfl⟩ := own_slice L1.own
 have q1 := row_q1 L1.row; have q2 := row_q2 L1.row; have q3 := row_q3 L1.row; have q4 := row_q4 L1.row; have q5 := row_q5 L1.row; have q6 := row_q6 L1.row; have q7 := row_q7 L1.row; have q8 := row_q8 L1.row; have q9 := row_q9 L1.row
 have HSRC2 : ∀ j u, (scells [])[j]? = some u → X1.cell? (a.add j) = some u := (by intro j u hu; simp [scells] at hu)
 go_wp2_with (at_builtin; go_must (refine wpList_append_own _ rfl (.tmp 50) (.tmp 52) 36 rfl (w.heap.size + 1) 9 i0 _ 1 16 Tryz.underlying36 hi hz0 hz1 hz2 rfl (by decide) _ _ _ rfl L1.own a 0 c (scells []) rfl (by simp [scells]) HSRC2 (scells_one _) (by unfold maxLen; omega) (by omega) (by have := L1.size; (try simp); omega) ?_); intro v2 X2 hown2 hg2 _)
 have L2 := L1.app (World.grownBy.refl _ _) hg2 hown2
 clear q1 q2 q3 q4 q5 q6 q7 q8 q9
 go_ret
 exact lineTo_mk (by rw [HL1.out, HL0.out]; try simp) L2
set_option maxHeartbeats 4000000 in
theorem lw_ssd5E (nm rf rt rb ra ri : Tx) (rn rm ln : Int) (a : Addr) (c : Nat) (w : World) (it : Tx) (hit : ∀ W, Below w.heap.size w W → Calls Tryz.prog 154 #[.int .i64 rn] W fun e w' => e = .returned (.string (bs it)) ∧ Below W.heap.size W w') :
  Calls Tryz.prog 106 #[.agg #[.int .i64 5, .string (bs nm), .slice (some a) 0 c, .int .i64 rn, .int .i64 rm, .string (bs rf), .string (bs rt), .string (bs rb), .string (bs ra), .string (bs ri), .int .i64 ln]] w (LineTo ([wordP kindT 5] ++ [it]) w) := by
 have RA : (w.alloc (.cells #[.int .i64 5, .string (bs nm), .slice (some a) 0 c, .int .i64 rn, .int .i64 rm, .string (bs rf), .string (bs rt), .string (bs rb), .string (bs ra), .string (bs ri), .int .i64 ln] 39)).drew.heap[w.heap.size]? = some (.cells #[.int .i64 5, .string (bs nm), .slice (some a) 0 c, .int .i64 rn, .int .i64 rm, .string (bs rf), .string (bs rt), .string (bs rb), .string (bs ra), .string (bs ri), .int .i64 ln] 39 (0, 0)) := (heap_alloc_new _ _ : (w.alloc (.cells #[.int .i64 5, .string (bs nm), .slice (some a) 0 c, .int .i64 rn, .int .i64 rm, .string (bs rf), .string (bs rt), .string (bs rb), .string (bs ra), .string (bs ri), .int .i64 ln] 39)).heap[w.heap.size]? = _)
 have HB : Below w.heap.size w (w.alloc (.cells #[.int .i64 5, .string (bs nm), .slice (some a) 0 c, .int .i64 rn, .int .i64 rm, .string (bs rf), .string (bs rt), .string (bs rb), .string (bs ra), .string (bs ri), .int .i64 ln] 39)).drew := ((Below.refl _ _).alloc (Nat.le_refl _) _).drew
 obtain ⟨i0, hi, hz0, hz1, hz2⟩ := info_parts Tryz.infoString
 go_enter Tryz.func106, Tryz.ntmps106
 go_upto_region 1 with fail
 go_region_held3 (fun w' => w'.cell? ⟨w.heap.size, 0, none⟩ = some (.int .i64 5)) (first | exact row_q0 RA | exact row_q0 (row_alloc RA _) | assumption)
  (first
   | (go_at_call 153; refine (kindWords_any _).mono ?_; rintro e w1 ⟨t, rfl, ht, hst, hb1⟩; have HT := Lib.hid ht; clear ht; have RA := row_below RA hb1; have HB := below_then HB hb1 HB.size)
   | (go_at_call 152; refine (wordAt_any t 12 12 kindT 5 _ hst rfl (by decide) (by decide)).mono ?_; rintro e w2 ⟨rfl, rfl⟩))
 have L0 : LS w (w1.alloc (.cells #[.string (bs (wordP kindT 5))] 9)) #[.int .i64 5, .string (bs nm), .slice (some a) 0 c, .int .i64 rn, .int .i64 rm, .string (bs rf), .string (bs rt), .string (bs rb), .string (bs ra), .string (bs ri), .int .i64 ln] (.slice (some ⟨w1.heap.size, 0, none⟩) 1 1) [wordP kindT 5] :=
  ⟨row_alloc RA _, own_new w1 _ [wordP kindT 5] (by have := (Array.getElem?_eq_some_iff.1 RA).1; omega) (by simp), HB.alloc HB.size _⟩
 generalize w1.alloc (.cells #[.string (bs (wordP kindT 5))] 9) = X0 at *
 generalize w1.heap.size = h1 at *
 clear HT hst hb1 RA HB
 obtain ⟨l0, hl0⟩ : ∃ q, q = [wordP kindT 5] := ⟨_, rfl⟩
 rw [← hl0] at L0
 have n0 : l0.length ≤ 1 := by rw [hl0]; simp
 have HL0 := Lib.hid hl0
 clear hl0
 have q1 := row_q1 L0.row; have q2 := row_q2 L0.row; have q3 := row_q3 L0.row; have q4 := row_q4 L0.row; have q5 := row_q5 L0.row; have q6 := row_q6 L0.row; have q7 := row_q7 L0.row; have q8 := row_q8 L0.row; have q9 := row_q9 L0.row
 go_upto_region 15 with (first | (go_at_call 154; refine (hit _ L0.low).mono ?_; rintro e XI ⟨rfl, hbI⟩; have LI := L0.below hbI) | (at_builtin; go_must (refine wpList_append_own _ rfl (.tmp 44) (.tmp 48) 36 rfl (w.heap.size + 1) 9 i0 _ 1 16 Tryz.underlying36 hi hz0 hz1 hz2 rfl (by decide) _ _ _ rfl (LI.own.alloc _) ⟨XI.heap.size, 0, none⟩ 1 1 (scells [it]) rfl rfl (cells_new _ (scells [it]) _) (scells_one _) (by unfold maxLen; omega) (by omega) (by have := LI.size; (try simp); omega) ?_); intro v1 X1 hown1 hg1 _))
 have L1 := LI.app (World.grownBy_alloc _ _ none) hg1 hown1
 clear q1 q2 q3 q4 q5 q6 q7 q8 q9
 obtain ⟨l1, hl1⟩ : ∃ q, q = l0 ++ [it] := ⟨_, rfl⟩
 rw [← hl1] at L1
 have n1 : l1.length ≤ 6 := by rw [hl1]; simp; omega
 have HL1 := Lib.hid hl1
 clear hl1
 obtain ⟨A1, c1, rfl⟩ := own_slice L1.own
 have q1 := row_q1 L1.row; have q2 := row_q2 L1.row; have q3 := row_q3 L1.row; have q4 := row_q4 L1.row; have q5 := row_q5 L1.row; have q6 := row_q6 L1.row; have q7 := row_q7 L1.row; have q8 := row_q8 L1.row; have q9 := row_q9 L1.row
 have HSRC2 : ∀ j u, (scells [])[j]? = some u → X1.cell? (a.add j) = some u := (by intro j u hu; simp [scells] at hu)
 go_wp2_with (at_builtin; go_must (refine wpList_append_own _ rfl (.tmp 50) (.tmp 52) 36 rfl (w.heap.size + 1) 9 i0 _ 1 16 Tryz.underlying36 hi hz0 hz1 hz2 rfl (by decide) _ _ _ rfl L1.own a 0 c (scells []) rfl (by simp [scells]) HSRC2 (scells_one _) (by unfold maxLen; omega) (by omega) (by have := L1.size; (try simp); omega) ?_); intro v2 X2 hown2 hg2 _)
 have L2 := L1.app (World.grownBy.refl _ _) hg2 hown2
 clear q1 q2 q3 q4 q5 q6 q7 q8 q9
 go_ret
 exact lineTo_mk (by rw [HL1.out, HL0.out]; try simp) L2
def LIn (w : World) (A : Option Addr) (c : Nat) (l : List Tx) : Prop := (l = [] ∧ (A = none → c = 0)) ∨ ∃ g off, A = some ⟨g, off, none⟩ ∧ g < w.heap.size ∧ l.length ≤ c ∧ ∀ j (hj : j < l.length), w.cell? ⟨g, off + j, none⟩ = some (.string (bs l[j]))
theorem LIn.below {w w' : World} {A : Option Addr} {c : Nat} {l : List Tx} (h : LIn w A c l) (hb : Below w.heap.size w w') : LIn w' A c l := by
 rcases h with h | ⟨g, off, e, hg, hl, hc⟩
 ·exact .inl h
 ·exact .inr ⟨g, off, e, Nat.lt_of_lt_of_le hg hb.size, hl, fun j hj => (hb.cell hg).trans (hc j hj)⟩
theorem LIn.at {w : World} {A : Option Addr} {c : Nat} {l : List Tx} (h : LIn w A c l) (hm : l.length ≤ 9223372036854775807) : LAt w A c l := by
 rcases h with ⟨rfl, h0⟩ | ⟨g, off, e, hg, hl, hc⟩
 ·exact ⟨Nat.zero_le _, hm, fun j hj => by simp at hj⟩
 ·exact ⟨hl, hm, fun j hj => ⟨g, off, e, hg, hc j hj⟩⟩
def TabAt (w : World) : Prop := Lib.TabIs Tryz.prog w "internal/strconv.uint64pow10" .u64 Lib.pow10Tab
theorem TabAt.below {w w' : World} (h : TabAt w) (hb : Below w.heap.size w w') : TabAt w' := by
 have hgn : Tryz.prog.globalNamed "internal/strconv.uint64pow10" = some 2 := by kernel_rfl
 unfold TabAt Lib.TabIs World.var? at h ⊢
 rw [hgn] at h ⊢
 simp only [Option.bind_some] at h ⊢
 have hlt : 2 < w.heap.size := by
  rcases Nat.lt_or_ge 2 w.heap.size with h' | h'
  ·exact h'
  ·rw [Array.getElem?_eq_none h'] at h; cases h
 rw [hb.block _ hlt]
 exact h
theorem Itoa_any (n : Int) (h0 : -9223372036854775808 ≤ n) (h1 : n ≤ 9223372036854775807) (w : World) (ht : TabAt w) : ∀ W, Below w.heap.size w W → Calls Tryz.prog 154 #[.int .i64 n] W fun e w' => e = .returned (.string (bs (Lib.itoa n))) ∧ Below W.heap.size W w' := fun W hW =>
 (Tryz.strconv_Itoa n h0 h1 W (ht.below hW)).mono fun e w' h => ⟨h.1, by obtain ⟨k, os, e⟩ := h.2; rw [e]; exact Lib.below_grow _ _ (Nat.le_refl _) _ _⟩
theorem lineWords_any (r : Ru) (A : Option Addr) (ca : Nat) (ln : Int) (w : World) (hL : LIn w A ca r.list) (hl : r.list.length ≤ 1048576) (hn0 : -9223372036854775808 ≤ r.n) (hn1 : r.n ≤ 9223372036854775807) (hm0 : -9223372036854775808 ≤ r.m) (hm1 : r.m ≤ 9223372036854775807) (ht : TabAt w) :
  Calls Tryz.prog 106 #[ruV r (.slice A r.list.length ca) ln] w (LineTo (lineP r) w) := by
 obtain ⟨kd, nm, l, rn, rm, rf, rt, rb, ra, ri⟩ := r
 simp only at hL hl hn0 hn1 hm0 hm1
 have hi := Itoa_any rn hn0 hn1 w ht
 have hi2 := Itoa_any rm hm0 hm1 w ht
 unfold lineP ruV
 simp only
 by_cases k1 : kd = 1
 ·subst k1
  simp only [if_true]
  rcases hL with ⟨rfl, h0⟩ | ⟨g, off, rfl, hg, hc, hcells⟩
  ·cases A with
   | none => obtain rfl := h0 rfl; exact lw_roleN nm rf rt rb ra ri rn rm ln w
   | some a => exact lw_roleE nm rf rt rb ra ri rn rm ln a ca w
  ·by_cases hp : l = []
   ·subst hp
    exact lw_roleE nm rf rt rb ra ri rn rm ln _ ca w
   ·rw [if_neg hp]
    have := lw_roleS nm rf rt rb ra ri rn rm ln g off ca l w hg hcells hl (List.length_pos_iff.2 hp)
    simpa using this
 rw [if_neg k1]
 by_cases k23 : kd = 2 ∨ kd = 3
 ·rw [if_pos k23]
  rcases hL with ⟨rfl, h0⟩ | ⟨g, off, rfl, hg, hc, hcells⟩
  ·cases A with
   | none =>
    obtain rfl := h0 rfl
    rcases k23 with rfl | rfl
    ·exact lw_user2N nm rf rt rb ra ri rn rm ln w
    ·exact lw_user3N nm rf rt rb ra ri rn rm ln w
   | some a =>
    rcases k23 with rfl | rfl
    ·exact lw_user2E nm rf rt rb ra ri rn rm ln a ca w
    ·exact lw_user3E nm rf rt rb ra ri rn rm ln a ca w
  ·rcases k23 with rfl | rfl
   ·have := lw_user2S nm rf rt rb ra ri rn rm ln g off ca l w hg hcells hl
    simpa using this
   ·have := lw_user3S nm rf rt rb ra ri rn rm ln g off ca l w hg hcells hl
    simpa using this
 rw [if_neg k23]
 by_cases k45 : kd = 4 ∨ kd = 5
 ·rw [if_pos k45]
  rcases hL with ⟨rfl, h0⟩ | ⟨g, off, rfl, hg, hc, hcells⟩
  ·cases A with
   | none =>
    obtain rfl := h0 rfl
    rcases k45 with rfl | rfl
    ·exact lw_ssd4N nm rf rt rb ra ri rn rm ln w (Lib.itoa rn) hi
    ·exact lw_ssd5N nm rf rt rb ra ri rn rm ln w (Lib.itoa rn) hi
   | some a =>
    rcases k45 with rfl | rfl
    ·exact lw_ssd4E nm rf rt rb ra ri rn rm ln a ca w (Lib.itoa rn) hi
    ·exact lw_ssd5E nm rf rt rb ra ri rn rm ln a ca w (Lib.itoa rn) hi
  ·rcases k45 with rfl | rfl
   ·have := lw_ssd4S nm rf rt rb ra ri rn rm ln g off ca l w hg hcells hl (Lib.itoa rn) hi
    simpa using this
   ·have := lw_ssd5S nm rf rt rb ra ri rn rm ln g off ca l w hg hcells hl (Lib.itoa rn) hi
    simpa using this
 rw [if_neg k45]
 by_cases k6 : kd = 6
 ·subst k6
  simp only [if_true]
  rcases hL with ⟨rfl, h0⟩ | ⟨g, off, rfl, hg, hc, hcells⟩
  ·cases A with
   | none => obtain rfl := h0 rfl; exact lw_exclN nm rf rt rb ra ri rn rm ln w
   | some a => exact lw_exclE nm rf rt rb ra ri rn rm ln a ca w
  ·exact lw_excl nm rf rt rb ra ri rn rm ln g off ca l w hg hcells hl
 rw [if_neg k6]
 by_cases k7 : kd = 7
 ·subst k7
  simp only [if_true]
  exact lw_lend nm rf rt rb ra ri rn rm ln w (Lib.itoa rn) (Lib.itoa rm) hi hi2
 rw [if_neg k7]
 by_cases k8 : kd = 8
 ·subst k8
  simp only [if_true]
  by_cases h : ri = []
  ·have := lw_state0 (A := A) (na := l.length) (ca := ca) nm rf rt rb ra ri rn rm ln w h
   rw [show optP [105, 110] ri = [] by simp [optP, h]]
   simpa using this
  ·have := lw_state1 (A := A) (na := l.length) (ca := ca) nm rf rt rb ra ri rn rm ln w h
   rw [show optP [105, 110] ri = [[105, 110], ri] by simp [optP, h]]
   simpa using this
 rw [if_neg k8]
 by_cases k9 : kd = 9
 ·subst k9
  simp only [if_true]
  by_cases h : rb = []
  ·rw [show optP [98, 121] rb = [] by simp [optP, h]]
   by_cases h2 : ra = []
   ·rw [show optP [116, 97, 115, 107] ra = [] by simp [optP, h2]]
    have := lw_on00 (A := A) (na := l.length) (ca := ca) nm rf rt rb ra ri rn rm ln w h h2
    simpa using this
   ·rw [show optP [116, 97, 115, 107] ra = [[116, 97, 115, 107], ra] by simp [optP, h2]]
    have := lw_on01 (A := A) (na := l.length) (ca := ca) nm rf rt rb ra ri rn rm ln w h h2
    simpa using this
  ·rw [show optP [98, 121] rb = [[98, 121], rb] by simp [optP, h]]
   by_cases h2 : ra = []
   ·rw [show optP [116, 97, 115, 107] ra = [] by simp [optP, h2]]
    have := lw_on10 (A := A) (na := l.length) (ca := ca) nm rf rt rb ra ri rn rm ln w h h2
    simpa using this
   ·rw [show optP [116, 97, 115, 107] ra = [[116, 97, 115, 107], ra] by simp [optP, h2]]
    have := lw_on11 (A := A) (na := l.length) (ca := ca) nm rf rt rb ra ri rn rm ln w h h2
    simpa using this
 rw [if_neg k9]
 by_cases k10 : kd = 10
 ·subst k10
  simp only [if_true]
  have := lw_auto (A := A) (na := l.length) (ca := ca) nm rf rt rb ra ri rn rm ln w
  simpa using this
 rw [if_neg k10]
 by_cases k11 : kd = 11
 ·subst k11
  simp only [if_true]
  have := lw_after (A := A) (na := l.length) (ca := ca) nm rf rt rb ra ri rn rm ln w (Lib.itoa rn) hi
  simpa using this
 rw [if_neg k11]
 have n2 : kd ≠ 2 := fun e => k23 (.inl e)
 have n3 : kd ≠ 3 := fun e => k23 (.inr e)
 have n4 : kd ≠ 4 := fun e => k45 (.inl e)
 have n5 : kd ≠ 5 := fun e => k45 (.inr e)
 exact lw_none (A := A) (na := l.length) (ca := ca) nm rf rt rb ra ri kd rn rm ln w (by simpa using k1) (by simpa using n2) (by simpa using n3) (by simpa using n4) (by simpa using n5) (by simpa using k6) (by simpa using k7) (by simpa using k8) (by simpa using k9) (by simpa using k10) (by simpa using k11)
end Go.Proofs.YtkalfhhdljndfaaGreatDoor
