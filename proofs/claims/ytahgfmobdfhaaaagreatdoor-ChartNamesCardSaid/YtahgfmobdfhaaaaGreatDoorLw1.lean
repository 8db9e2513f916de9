/-
  A line that wrong tells, its start.
-/
import Derived.Test.YtahgfmobdfhaaaaGreatDoorPrint2
import Derived.Deep.RegionHeld3
import Derived.Deep.DeepCutAuto
import Derived.Deep.Onto
import Derived.Laws.OwnMore
import Derived.Test.YtahgfmobdfhaaaaGreatDoorRd4
import Derived.Laws.AppendOwnNone
import Derived.Deep.AppendLies
namespace Go.Proofs.YtahgfmobdfhaaaaGreatDoor
set_option maxRecDepth 100000
open Go.ChangeShapes Go.WideShapes Go.ChangeAt Go.RowKit

/-- W0 at the beginning, W now; the rule's cells in the block W0.heap.size; the list l, its own, in v -/
structure LS (W0 W : World) (cs : Array Value) (v : Value) (l : List Tx) : Prop where
  row : W.heap[W0.heap.size]? = some (.cells cs 41 (0, 0))
  own : OwnL W (W0.heap.size + 1) v l
  low : Below W0.heap.size W0 W
theorem LS.size {W0 W : World} {cs : Array Value} {v : Value} {l : List Tx} (h : LS W0 W cs v l) : W0.heap.size < W.heap.size := (Array.getElem?_eq_some_iff.1 h.row).1
theorem LS.grown {W0 W W' : World} {cs : Array Value} {v v' : Value} {l l' : List Tx} {row : Option Nat} (h : LS W0 W cs v l) (hg : W.grownBy W' row) (hr : ∀ j, row = some j → W0.heap.size < j) (ho : OwnL W' (W0.heap.size + 1) v' l') : LS W0 W' cs v' l' :=
  ⟨(hg.block _ h.size (fun e => by have := hr _ e.symm; omega)).trans h.row, ho, h.low.grown hg h.low.size (fun j e => by have := hr _ e; omega)⟩
theorem LS.below {W0 W W' : World} {cs : Array Value} {v : Value} {l : List Tx} (h : LS W0 W cs v l) (hb : Below W.heap.size W W') : LS W0 W' cs v l :=
  ⟨(hb.block _ h.size).trans h.row, own_below h.own hb (by have := h.size; omega), h.low.trans (hb.mono h.low.size)⟩
/-- a list of one, of two .. in a new block -/
theorem own_new (w : World) (base : Nat) (l : List Tx) (hb : base ≤ w.heap.size) (hl : l.length ≤ 1000) : OwnL (w.alloc (.cells (scells l).toArray 9)) base (.slice (some ⟨w.heap.size, 0, none⟩) l.length l.length) l := by
  refine ⟨by simp [scells], .inr ⟨w.heap.size, l.length, (scells l).toArray, rfl, hb, heap_alloc_new _ _, Nat.le_refl _, by unfold maxLen; omega, by simp [scells], ?_⟩⟩
  rw [Nat.mul_one]
  exact List.take_of_length_le (by simp [scells])
theorem scells_one (l : List Tx) : ∀ u ∈ scells l, u.oneCell' = true := by
  intro u hu
  simp only [scells, List.mem_map] at hu
  obtain ⟨t, _, rfl⟩ := hu
  rfl
theorem LS.app {W0 W W1 W2 : World} {cs : Array Value} {v v' : Value} {l ts : List Tx} (h : LS W0 W cs v l) (hg0 : W.grownBy W1 none) (hg : W1.grownBy W2 v.ownBlock) (ho : W2.ownsRow (W0.heap.size + 1) 9 1 v' (l.length + ts.length) (scells l ++ scells ts)) : LS W0 W2 cs v' (l ++ ts) := by
  have hr : ∀ j, v.ownBlock = some j → W0.heap.size < j := fun j e => by have := (h.own.lt j e).1; omega
  refine ⟨?_, ?_, ?_⟩
  · rw [hg.block _ (Nat.lt_of_lt_of_le h.size hg0.size) (fun e => by have := hr _ e.symm; omega), hg0.block _ h.size (by simp)]; exact h.row
  rotate_left
  · exact (h.low.grown hg0 h.low.size (fun j e => by cases e)).grown hg (Nat.le_trans h.low.size hg0.size) (fun j e => by have := hr _ e; omega)
  unfold OwnL scells
  rw [List.length_append, List.map_append]
  exact ho
/-- what lineWords answers: a list of its own -/
def LineTo (l : List Tx) (w : World) (e : Ending) (w' : World) : Prop := ∃ v, e = .returned v ∧ OwnL w' w.heap.size v l ∧ Below w.heap.size w w'
theorem LS.drew {W0 W : World} {cs : Array Value} {v : Value} {l : List Tx} (h : LS W0 W cs v l) : LS W0 W.drew cs v l := ⟨h.row, h.own, h.low.drew⟩
theorem optionW_nil (x y : Tx) (w : World) (h : y = []) : Calls Tryz.prog 59 #[.string (bs x), .string (bs y)] w fun e w' => e = .returned (.slice none 0 0) ∧ w = w' := by
  subst h
  have hb2 : (bs []).toList.isEmpty = true := by rw [Lib.toList_data, list_bs]; rfl
  go_enter Tryz.func59, Tryz.ntmps59
  go_wp2
  go_ret
  exact ⟨rfl, rfl⟩
theorem optionW_some (x y : Tx) (w : World) (h : y ≠ []) : Calls Tryz.prog 59 #[.string (bs x), .string (bs y)] w fun e w' => e = .returned (.slice (some ⟨w.heap.size, 0, none⟩) 2 2) ∧ w.alloc (.cells #[.string (bs x), .string (bs y)] 9) = w' := by
  have hb : ((bs y).toList == ([] : List UInt8)) = false := by rw [Lib.toList_data, list_bs]; simpa using h
  have hb2 : (bs y).toList.isEmpty = false := by rw [Lib.toList_data, list_bs]; simpa using h
  go_enter Tryz.func59, Tryz.ntmps59
  go_wp2
  go_ret
  exact ⟨rfl, rfl⟩
theorem lineTo_mk {W0 W : World} {cs : Array Value} {v : Value} {l l' : List Tx} (he : l = l') (h : LS W0 W cs v l) : LineTo l' W0 (.returned v) W := by
  subst he; exact ⟨v, rfl, World.ownsRow.mono h.own (Nat.le_succ _), h.low⟩
theorem src_cells {w W : World} {g off : Nat} {l : List Tx} (hg : g < w.heap.size) (hb : Below w.heap.size w W) (h : ∀ j (hj : j < l.length), w.cell? ⟨g, off + j, none⟩ = some (.string (bs l[j]))) : ∀ j u, (scells l)[j]? = some u → W.cell? ((⟨g, off, none⟩ : Addr).add j) = some u := by
  intro j u hu
  have hadd : (⟨g, off, none⟩ : Addr).add j = ⟨g, off + j, none⟩ := by unfold Addr.add; split <;> simp_all
  rw [hadd, hb.cell hg]
  obtain ⟨hj, e⟩ := List.getElem?_eq_some_iff.1 hu
  have hj' : j < l.length := by simpa [scells] using hj
  rw [h j hj', ← e]
  simp [scells]
end Go.Proofs.YtahgfmobdfhaaaaGreatDoor
namespace Go.Proofs.YtahgfmobdfhaaaaGreatDoor
set_option maxRecDepth 100000
open Go.ChangeShapes Go.WideShapes Go.ChangeAt Go.RowKit
set_option maxHeartbeats 4000000 in
theorem lw_excl (nm rf rt rb ra ri : Tx) (rn rm ln : Int) (g off c : Nat) (l : List Tx) (w : World) (hgl : g < w.heap.size) (hls : ∀ j (hj : j < l.length), w.cell? ⟨g, off + j, none⟩ = some (.string (bs l[j]))) (hll : l.length ≤ 1048576) :
    Calls Tryz.prog 24 #[.agg #[.int .i64 6, .string (bs nm), .slice (some ⟨g, off, none⟩) l.length c, .int .i64 rn, .int .i64 rm, .string (bs rf), .string (bs rt), .string (bs rb), .string (bs ra), .string (bs ri), .int .i64 ln]] w (LineTo ([wordP kindT 6] ++ l) w) := by
  have RA : (w.alloc (.cells #[.int .i64 6, .string (bs nm), .slice (some ⟨g, off, none⟩) l.length c, .int .i64 rn, .int .i64 rm, .string (bs rf), .string (bs rt), .string (bs rb), .string (bs ra), .string (bs ri), .int .i64 ln] 41)).drew.heap[w.heap.size]? = some (.cells #[.int .i64 6, .string (bs nm), .slice (some ⟨g, off, none⟩) l.length c, .int .i64 rn, .int .i64 rm, .string (bs rf), .string (bs rt), .string (bs rb), .string (bs ra), .string (bs ri), .int .i64 ln] 41 (0, 0)) := (heap_alloc_new _ _ : (w.alloc (.cells #[.int .i64 6, .string (bs nm), .slice (some ⟨g, off, none⟩) l.length c, .int .i64 rn, .int .i64 rm, .string (bs rf), .string (bs rt), .string (bs rb), .string (bs ra), .string (bs ri), .int .i64 ln] 41)).heap[w.heap.size]? = _)
  have HB : Below w.heap.size w (w.alloc (.cells #[.int .i64 6, .string (bs nm), .slice (some ⟨g, off, none⟩) l.length c, .int .i64 rn, .int .i64 rm, .string (bs rf), .string (bs rt), .string (bs rb), .string (bs ra), .string (bs ri), .int .i64 ln] 41)).drew := ((Below.refl _ _).alloc (Nat.le_refl _) _).drew
  obtain ⟨i0, hi, hz0, hz1, hz2⟩ := info_parts Tryz.infoString
  go_enter Tryz.func24, Tryz.ntmps24
  go_upto_region 1 with fail
  go_region_held3 (fun w' => w'.cell? ⟨w.heap.size, 0, none⟩ = some (.int .i64 6)) (first | exact row_q0 RA | exact row_q0 (row_alloc RA _) | assumption)
    (first
      | (go_at_call 56; refine (kindWords_any _).mono ?_; rintro e w1 ⟨t, rfl, ht, hst, hb1⟩; have HT := Lib.hid ht; clear ht; have RA := row_below RA hb1; have HB := below_then HB hb1 HB.size)
      | (go_at_call 55; refine (wordAt_any t 12 12 kindT 6 _ hst rfl (by decide) (by decide)).mono ?_; rintro e w2 ⟨rfl, rfl⟩))
  have L0 : LS w (w1.alloc (.cells #[.string (bs (wordP kindT 6))] 9)) #[.int .i64 6, .string (bs nm), .slice (some ⟨g, off, none⟩) l.length c, .int .i64 rn, .int .i64 rm, .string (bs rf), .string (bs rt), .string (bs rb), .string (bs ra), .string (bs ri), .int .i64 ln] (.slice (some ⟨w1.heap.size, 0, none⟩) 1 1) [wordP kindT 6] :=
    ⟨row_alloc RA _, own_new w1 _ [wordP kindT 6] (by have := (Array.getElem?_eq_some_iff.1 RA).1; omega) (by simp), HB.alloc HB.size _⟩
  generalize w1.alloc (.cells #[.string (bs (wordP kindT 6))] 9) = X0 at *
  generalize w1.heap.size = h1 at *
  clear HT hst hb1 RA HB
  obtain ⟨l0, hl0⟩ : ∃ q, q = [wordP kindT 6] := ⟨_, rfl⟩
  rw [← hl0] at L0
  have n0 : l0.length ≤ 1 := by rw [hl0]; simp
  have HL0 := Lib.hid hl0
  clear hl0
  have q1 := row_q1 L0.row; have q2 := row_q2 L0.row; have q3 := row_q3 L0.row; have q4 := row_q4 L0.row; have q5 := row_q5 L0.row; have q6 := row_q6 L0.row; have q7 := row_q7 L0.row; have q8 := row_q8 L0.row; have q9 := row_q9 L0.row
  have HSRC1 : ∀ j u, (scells l)[j]? = some u → X0.cell? ((⟨g, off, none⟩ : Addr).add j) = some u := src_cells hgl L0.low hls
  go_wp2_with (at_builtin; go_must (refine wpList_append_own _ rfl (.tmp 56) (.tmp 58) 28 rfl (w.heap.size + 1) 9 i0 _ 1 16 Tryz.underlying28 hi hz0 hz1 hz2 rfl (by decide) _ _ _ rfl L0.own ⟨g, off, none⟩ l.length c (scells l) rfl (by simp [scells]) HSRC1 (scells_one _) (by unfold maxLen; omega) (by omega) (by have := L0.size; (try simp); omega) ?_); intro v1 X1 hown1 hg1 _)
  have L1 := L0.app (World.grownBy.refl _ _) hg1 hown1
  clear q1 q2 q3 q4 q5 q6 q7 q8 q9
  go_ret
  exact lineTo_mk (by rw [HL0.out]; try simp) L1

set_option maxHeartbeats 4000000 in
theorem lw_exclN (nm rf rt rb ra ri : Tx) (rn rm ln : Int) (w : World) :
    Calls Tryz.prog 24 #[.agg #[.int .i64 6, .string (bs nm), .slice none 0 0, .int .i64 rn, .int .i64 rm, .string (bs rf), .string (bs rt), .string (bs rb), .string (bs ra), .string (bs ri), .int .i64 ln]] w (LineTo ([wordP kindT 6]) w) := by
  have RA : (w.alloc (.cells #[.int .i64 6, .string (bs nm), .slice none 0 0, .int .i64 rn, .int .i64 rm, .string (bs rf), .string (bs rt), .string (bs rb), .string (bs ra), .string (bs ri), .int .i64 ln] 41)).drew.heap[w.heap.size]? = some (.cells #[.int .i64 6, .string (bs nm), .slice none 0 0, .int .i64 rn, .int .i64 rm, .string (bs rf), .string (bs rt), .string (bs rb), .string (bs ra), .string (bs ri), .int .i64 ln] 41 (0, 0)) := (heap_alloc_new _ _ : (w.alloc (.cells #[.int .i64 6, .string (bs nm), .slice none 0 0, .int .i64 rn, .int .i64 rm, .string (bs rf), .string (bs rt), .string (bs rb), .string (bs ra), .string (bs ri), .int .i64 ln] 41)).heap[w.heap.size]? = _)
  have HB : Below w.heap.size w (w.alloc (.cells #[.int .i64 6, .string (bs nm), .slice none 0 0, .int .i64 rn, .int .i64 rm, .string (bs rf), .string (bs rt), .string (bs rb), .string (bs ra), .string (bs ri), .int .i64 ln] 41)).drew := ((Below.refl _ _).alloc (Nat.le_refl _) _).drew
  obtain ⟨i0, hi, hz0, hz1, hz2⟩ := info_parts Tryz.infoString
  go_enter Tryz.func24, Tryz.ntmps24
  go_upto_region 1 with fail
  go_region_held3 (fun w' => w'.cell? ⟨w.heap.size, 0, none⟩ = some (.int .i64 6)) (first | exact row_q0 RA | exact row_q0 (row_alloc RA _) | assumption)
    (first
      | (go_at_call 56; refine (kindWords_any _).mono ?_; rintro e w1 ⟨t, rfl, ht, hst, hb1⟩; have HT := Lib.hid ht; clear ht; have RA := row_below RA hb1; have HB := below_then HB hb1 HB.size)
      | (go_at_call 55; refine (wordAt_any t 12 12 kindT 6 _ hst rfl (by decide) (by decide)).mono ?_; rintro e w2 ⟨rfl, rfl⟩))
  have L0 : LS w (w1.alloc (.cells #[.string (bs (wordP kindT 6))] 9)) #[.int .i64 6, .string (bs nm), .slice none 0 0, .int .i64 rn, .int .i64 rm, .string (bs rf), .string (bs rt), .string (bs rb), .string (bs ra), .string (bs ri), .int .i64 ln] (.slice (some ⟨w1.heap.size, 0, none⟩) 1 1) [wordP kindT 6] :=
    ⟨row_alloc RA _, own_new w1 _ [wordP kindT 6] (by have := (Array.getElem?_eq_some_iff.1 RA).1; omega) (by simp), HB.alloc HB.size _⟩
  generalize w1.alloc (.cells #[.string (bs (wordP kindT 6))] 9) = X0 at *
  generalize w1.heap.size = h1 at *
  clear HT hst hb1 RA HB
  obtain ⟨l0, hl0⟩ : ∃ q, q = [wordP kindT 6] := ⟨_, rfl⟩
  rw [← hl0] at L0
  have n0 : l0.length ≤ 1 := by rw [hl0]; simp
  have HL0 := Lib.hid hl0
  clear hl0
  have q1 := row_q1 L0.row; have q2 := row_q2 L0.row; have q3 := row_q3 L0.row; have q4 := row_q4 L0.row; have q5 := row_q5 L0.row; have q6 := row_q6 L0.row; have q7 := row_q7 L0.row; have q8 := row_q8 L0.row; have q9 := row_q9 L0.row
  go_wp2_with (at_builtin; go_must (refine wpList_append_own_none rfl (.tmp 56) (.tmp 58) 28 rfl (w.heap.size + 1) 9 i0 1 Tryz.underlying28 hi _ _ _ rfl L0.own rfl ?_))
  clear q1 q2 q3 q4 q5 q6 q7 q8 q9
  go_ret
  exact lineTo_mk (by rw [HL0.out]; try simp) L0

set_option maxHeartbeats 4000000 in
theorem lw_user2N (nm rf rt rb ra ri : Tx) (rn rm ln : Int) (w : World) :
    Calls Tryz.prog 24 #[.agg #[.int .i64 2, .string (bs nm), .slice none 0 0, .int .i64 rn, .int .i64 rm, .string (bs rf), .string (bs rt), .string (bs rb), .string (bs ra), .string (bs ri), .int .i64 ln]] w (LineTo ([wordP kindT 2] ++ [nm]) w) := by
  have RA : (w.alloc (.cells #[.int .i64 2, .string (bs nm), .slice none 0 0, .int .i64 rn, .int .i64 rm, .string (bs rf), .string (bs rt), .string (bs rb), .string (bs ra), .string (bs ri), .int .i64 ln] 41)).drew.heap[w.heap.size]? = some (.cells #[.int .i64 2, .string (bs nm), .slice none 0 0, .int .i64 rn, .int .i64 rm, .string (bs rf), .string (bs rt), .string (bs rb), .string (bs ra), .string (bs ri), .int .i64 ln] 41 (0, 0)) := (heap_alloc_new _ _ : (w.alloc (.cells #[.int .i64 2, .string (bs nm), .slice none 0 0, .int .i64 rn, .int .i64 rm, .string (bs rf), .string (bs rt), .string (bs rb), .string (bs ra), .string (bs ri), .int .i64 ln] 41)).heap[w.heap.size]? = _)
  have HB : Below w.heap.size w (w.alloc (.cells #[.int .i64 2, .string (bs nm), .slice none 0 0, .int .i64 rn, .int .i64 rm, .string (bs rf), .string (bs rt), .string (bs rb), .string (bs ra), .string (bs ri), .int .i64 ln] 41)).drew := ((Below.refl _ _).alloc (Nat.le_refl _) _).drew
  obtain ⟨i0, hi, hz0, hz1, hz2⟩ := info_parts Tryz.infoString
  go_enter Tryz.func24, Tryz.ntmps24
  go_upto_region 1 with fail
  go_region_held3 (fun w' => w'.cell? ⟨w.heap.size, 0, none⟩ = some (.int .i64 2)) (first | exact row_q0 RA | exact row_q0 (row_alloc RA _) | assumption)
    (first
      | (go_at_call 56; refine (kindWords_any _).mono ?_; rintro e w1 ⟨t, rfl, ht, hst, hb1⟩; have HT := Lib.hid ht; clear ht; have RA := row_below RA hb1; have HB := below_then HB hb1 HB.size)
      | (go_at_call 55; refine (wordAt_any t 12 12 kindT 2 _ hst rfl (by decide) (by decide)).mono ?_; rintro e w2 ⟨rfl, rfl⟩))
  have L0 : LS w (w1.alloc (.cells #[.string (bs (wordP kindT 2))] 9)) #[.int .i64 2, .string (bs nm), .slice none 0 0, .int .i64 rn, .int .i64 rm, .string (bs rf), .string (bs rt), .string (bs rb), .string (bs ra), .string (bs ri), .int .i64 ln] (.slice (some ⟨w1.heap.size, 0, none⟩) 1 1) [wordP kindT 2] :=
    ⟨row_alloc RA _, own_new w1 _ [wordP kindT 2] (by have := (Array.getElem?_eq_some_iff.1 RA).1; omega) (by simp), HB.alloc HB.size _⟩
  generalize w1.alloc (.cells #[.string (bs (wordP kindT 2))] 9) = X0 at *
  generalize w1.heap.size = h1 at *
  clear HT hst hb1 RA HB
  obtain ⟨l0, hl0⟩ : ∃ q, q = [wordP kindT 2] := ⟨_, rfl⟩
  rw [← hl0] at L0
  have n0 : l0.length ≤ 1 := by rw [hl0]; simp
  have HL0 := Lib.hid hl0
  clear hl0
  have q1 := row_q1 L0.row; have q2 := row_q2 L0.row; have q3 := row_q3 L0.row; have q4 := row_q4 L0.row; have q5 := row_q5 L0.row; have q6 := row_q6 L0.row; have q7 := row_q7 L0.row; have q8 := row_q8 L0.row; have q9 := row_q9 L0.row
  go_upto_region 11 with (at_builtin; go_must (refine wpList_append_own _ rfl (.tmp 32) (.tmp 35) 28 rfl (w.heap.size + 1) 9 i0 _ 1 16 Tryz.underlying28 hi hz0 hz1 hz2 rfl (by decide) _ _ _ rfl (L0.own.alloc _) ⟨X0.heap.size, 0, none⟩ 1 1 (scells [nm]) rfl rfl (cells_new _ (scells [nm]) _) (scells_one _) (by unfold maxLen; omega) (by omega) (by have := L0.size; (try simp); omega) ?_); intro v1 X1 hown1 hg1 _)
  have L1 := L0.app (World.grownBy_alloc _ _ none) hg1 hown1
  clear q1 q2 q3 q4 q5 q6 q7 q8 q9
  obtain ⟨l1, hl1⟩ : ∃ q, q = l0 ++ [nm] := ⟨_, rfl⟩
  rw [← hl1] at L1
  have n1 : l1.length ≤ 6 := by rw [hl1]; simp; omega
  have HL1 := Lib.hid hl1
  clear hl1
  obtain ⟨A1, c1, rfl⟩ := own_slice L1.own
  have q1 := row_q1 L1.row; have q2 := row_q2 L1.row; have q3 := row_q3 L1.row; have q4 := row_q4 L1.row; have q5 := row_q5 L1.row; have q6 := row_q6 L1.row; have q7 := row_q7 L1.row; have q8 := row_q8 L1.row; have q9 := row_q9 L1.row
  go_wp2_with (at_builtin; go_must (refine wpList_append_own_none rfl (.tmp 37) (.tmp 39) 28 rfl (w.heap.size + 1) 9 i0 1 Tryz.underlying28 hi _ _ _ rfl L1.own rfl ?_))
  clear q1 q2 q3 q4 q5 q6 q7 q8 q9
  go_ret
  exact lineTo_mk (by rw [HL1.out, HL0.out]; try simp) L1

set_option maxHeartbeats 4000000 in
theorem lw_user2S (nm rf rt rb ra ri : Tx) (rn rm ln : Int) (g off c : Nat) (l : List Tx) (w : World) (hgl : g < w.heap.size) (hls : ∀ j (hj : j < l.length), w.cell? ⟨g, off + j, none⟩ = some (.string (bs l[j]))) (hll : l.length ≤ 1048576) :
    Calls Tryz.prog 24 #[.agg #[.int .i64 2, .string (bs nm), .slice (some ⟨g, off, none⟩) l.length c, .int .i64 rn, .int .i64 rm, .string (bs rf), .string (bs rt), .string (bs rb), .string (bs ra), .string (bs ri), .int .i64 ln]] w (LineTo ([wordP kindT 2] ++ [nm] ++ l) w) := by
  have RA : (w.alloc (.cells #[.int .i64 2, .string (bs nm), .slice (some ⟨g, off, none⟩) l.length c, .int .i64 rn, .int .i64 rm, .string (bs rf), .string (bs rt), .string (bs rb), .string (bs ra), .string (bs ri), .int .i64 ln] 41)).drew.heap[w.heap.size]? = some (.cells #[.int .i64 2, .string (bs nm), .slice (some ⟨g, off, none⟩) l.length c, .int .i64 rn, .int .i64 rm, .string (bs rf), .string (bs rt), .string (bs rb), .string (bs ra), .string (bs ri), .int .i64 ln] 41 (0, 0)) := (heap_alloc_new _ _ : (w.alloc (.cells #[.int .i64 2, .string (bs nm), .slice (some ⟨g, off, none⟩) l.length c, .int .i64 rn, .int .i64 rm, .string (bs rf), .string (bs rt), .string (bs rb), .string (bs ra), .string (bs ri), .int .i64 ln] 41)).heap[w.heap.size]? = _)
  have HB : Below w.heap.size w (w.alloc (.cells #[.int .i64 2, .string (bs nm), .slice (some ⟨g, off, none⟩) l.length c, .int .i64 rn, .int .i64 rm, .string (bs rf), .string (bs rt), .string (bs rb), .string (bs ra), .string (bs ri), .int .i64 ln] 41)).drew := ((Below.refl _ _).alloc (Nat.le_refl _) _).drew
  obtain ⟨i0, hi, hz0, hz1, hz2⟩ := info_parts Tryz.infoString
  go_enter Tryz.func24, Tryz.ntmps24
  go_upto_region 1 with fail
  go_region_held3 (fun w' => w'.cell? ⟨w.heap.size, 0, none⟩ = some (.int .i64 2)) (first | exact row_q0 RA | exact row_q0 (row_alloc RA _) | assumption)
    (first
      | (go_at_call 56; refine (kindWords_any _).mono ?_; rintro e w1 ⟨t, rfl, ht, hst, hb1⟩; have HT := Lib.hid ht; clear ht; have RA := row_below RA hb1; have HB := below_then HB hb1 HB.size)
      | (go_at_call 55; refine (wordAt_any t 12 12 kindT 2 _ hst rfl (by decide) (by decide)).mono ?_; rintro e w2 ⟨rfl, rfl⟩))
  have L0 : LS w (w1.alloc (.cells #[.string (bs (wordP kindT 2))] 9)) #[.int .i64 2, .string (bs nm), .slice (some ⟨g, off, none⟩) l.length c, .int .i64 rn, .int .i64 rm, .string (bs rf), .string (bs rt), .string (bs rb), .string (bs ra), .string (bs ri), .int .i64 ln] (.slice (some ⟨w1.heap.size, 0, none⟩) 1 1) [wordP kindT 2] :=
    ⟨row_alloc RA _, own_new w1 _ [wordP kindT 2] (by have := (Array.getElem?_eq_some_iff.1 RA).1; omega) (by simp), HB.alloc HB.size _⟩
  generalize w1.alloc (.cells #[.string (bs (wordP kindT 2))] 9) = X0 at *
  generalize w1.heap.size = h1 at *
  clear HT hst hb1 RA HB
  obtain ⟨l0, hl0⟩ : ∃ q, q = [wordP kindT 2] := ⟨_, rfl⟩
  rw [← hl0] at L0
  have n0 : l0.length ≤ 1 := by rw [hl0]; simp
  have HL0 := Lib.hid hl0
  clear hl0
  have q1 := row_q1 L0.row; have q2 := row_q2 L0.row; have q3 := row_q3 L0.row; have q4 := row_q4 L0.row; have q5 := row_q5 L0.row; have q6 := row_q6 L0.row; have q7 := row_q7 L0.row; have q8 := row_q8 L0.row; have q9 := row_q9 L0.row
  go_upto_region 11 with (at_builtin; go_must (refine wpList_append_own _ rfl (.tmp 32) (.tmp 35) 28 rfl (w.heap.size + 1) 9 i0 _ 1 16 Tryz.underlying28 hi hz0 hz1 hz2 rfl (by decide) _ _ _ rfl (L0.own.alloc _) ⟨X0.heap.size, 0, none⟩ 1 1 (scells [nm]) rfl rfl (cells_new _ (scells [nm]) _) (scells_one _) (by unfold maxLen; omega) (by omega) (by have := L0.size; (try simp); omega) ?_); intro v1 X1 hown1 hg1 _)
  have L1 := L0.app (World.grownBy_alloc _ _ none) hg1 hown1
  clear q1 q2 q3 q4 q5 q6 q7 q8 q9
  obtain ⟨l1, hl1⟩ : ∃ q, q = l0 ++ [nm] := ⟨_, rfl⟩
  rw [← hl1] at L1
  have n1 : l1.length ≤ 6 := by rw [hl1]; simp; omega
  have HL1 := Lib.hid hl1
  clear hl1
  obtain ⟨A1, c1, rfl⟩ := own_slice L1.own
  have q1 := row_q1 L1.row; have q2 := row_q2 L1.row; have q3 := row_q3 L1.row; have q4 := row_q4 L1.row; have q5 := row_q5 L1.row; have q6 := row_q6 L1.row; have q7 := row_q7 L1.row; have q8 := row_q8 L1.row; have q9 := row_q9 L1.row
  have HSRC2 : ∀ j u, (scells l)[j]? = some u → X1.cell? ((⟨g, off, none⟩ : Addr).add j) = some u := src_cells hgl L1.low hls
  go_wp2_with (at_builtin; go_must (refine wpList_append_own _ rfl (.tmp 37) (.tmp 39) 28 rfl (w.heap.size + 1) 9 i0 _ 1 16 Tryz.underlying28 hi hz0 hz1 hz2 rfl (by decide) _ _ _ rfl L1.own ⟨g, off, none⟩ l.length c (scells l) rfl (by simp [scells]) HSRC2 (scells_one _) (by unfold maxLen; omega) (by omega) (by have := L1.size; (try simp); omega) ?_); intro v2 X2 hown2 hg2 _)
  have L2 := L1.app (World.grownBy.refl _ _) hg2 hown2
  clear q1 q2 q3 q4 q5 q6 q7 q8 q9
  go_ret
  exact lineTo_mk (by rw [HL1.out, HL0.out]; try simp) L2

set_option maxHeartbeats 4000000 in
theorem lw_user3N (nm rf rt rb ra ri : Tx) (rn rm ln : Int) (w : World) :
    Calls Tryz.prog 24 #[.agg #[.int .i64 3, .string (bs nm), .slice none 0 0, .int .i64 rn, .int .i64 rm, .string (bs rf), .string (bs rt), .string (bs rb), .string (bs ra), .string (bs ri), .int .i64 ln]] w (LineTo ([wordP kindT 3] ++ [nm]) w) := by
  have RA : (w.alloc (.cells #[.int .i64 3, .string (bs nm), .slice none 0 0, .int .i64 rn, .int .i64 rm, .string (bs rf), .string (bs rt), .string (bs rb), .string (bs ra), .string (bs ri), .int .i64 ln] 41)).drew.heap[w.heap.size]? = some (.cells #[.int .i64 3, .string (bs nm), .slice none 0 0, .int .i64 rn, .int .i64 rm, .string (bs rf), .string (bs rt), .string (bs rb), .string (bs ra), .string (bs ri), .int .i64 ln] 41 (0, 0)) := (heap_alloc_new _ _ : (w.alloc (.cells #[.int .i64 3, .string (bs nm), .slice none 0 0, .int .i64 rn, .int .i64 rm, .string (bs rf), .string (bs rt), .string (bs rb), .string (bs ra), .string (bs ri), .int .i64 ln] 41)).heap[w.heap.size]? = _)
  have HB : Below w.heap.size w (w.alloc (.cells #[.int .i64 3, .string (bs nm), .slice none 0 0, .int .i64 rn, .int .i64 rm, .string (bs rf), .string (bs rt), .string (bs rb), .string (bs ra), .string (bs ri), .int .i64 ln] 41)).drew := ((Below.refl _ _).alloc (Nat.le_refl _) _).drew
  obtain ⟨i0, hi, hz0, hz1, hz2⟩ := info_parts Tryz.infoString
  go_enter Tryz.func24, Tryz.ntmps24
  go_upto_region 1 with fail
  go_region_held3 (fun w' => w'.cell? ⟨w.heap.size, 0, none⟩ = some (.int .i64 3)) (first | exact row_q0 RA | exact row_q0 (row_alloc RA _) | assumption)
    (first
      | (go_at_call 56; refine (kindWords_any _).mono ?_; rintro e w1 ⟨t, rfl, ht, hst, hb1⟩; have HT := Lib.hid ht; clear ht; have RA := row_below RA hb1; have HB := below_then HB hb1 HB.size)
      | (go_at_call 55; refine (wordAt_any t 12 12 kindT 3 _ hst rfl (by decide) (by decide)).mono ?_; rintro e w2 ⟨rfl, rfl⟩))
  have L0 : LS w (w1.alloc (.cells #[.string (bs (wordP kindT 3))] 9)) #[.int .i64 3, .string (bs nm), .slice none 0 0, .int .i64 rn, .int .i64 rm, .string (bs rf), .string (bs rt), .string (bs rb), .string (bs ra), .string (bs ri), .int .i64 ln] (.slice (some ⟨w1.heap.size, 0, none⟩) 1 1) [wordP kindT 3] :=
    ⟨row_alloc RA _, own_new w1 _ [wordP kindT 3] (by have := (Array.getElem?_eq_some_iff.1 RA).1; omega) (by simp), HB.alloc HB.size _⟩
  generalize w1.alloc (.cells #[.string (bs (wordP kindT 3))] 9) = X0 at *
  generalize w1.heap.size = h1 at *
  clear HT hst hb1 RA HB
  obtain ⟨l0, hl0⟩ : ∃ q, q = [wordP kindT 3] := ⟨_, rfl⟩
  rw [← hl0] at L0
  have n0 : l0.length ≤ 1 := by rw [hl0]; simp
  have HL0 := Lib.hid hl0
  clear hl0
  have q1 := row_q1 L0.row; have q2 := row_q2 L0.row; have q3 := row_q3 L0.row; have q4 := row_q4 L0.row; have q5 := row_q5 L0.row; have q6 := row_q6 L0.row; have q7 := row_q7 L0.row; have q8 := row_q8 L0.row; have q9 := row_q9 L0.row
  go_upto_region 11 with (at_builtin; go_must (refine wpList_append_own _ rfl (.tmp 32) (.tmp 35) 28 rfl (w.heap.size + 1) 9 i0 _ 1 16 Tryz.underlying28 hi hz0 hz1 hz2 rfl (by decide) _ _ _ rfl (L0.own.alloc _) ⟨X0.heap.size, 0, none⟩ 1 1 (scells [nm]) rfl rfl (cells_new _ (scells [nm]) _) (scells_one _) (by unfold maxLen; omega) (by omega) (by have := L0.size; (try simp); omega) ?_); intro v1 X1 hown1 hg1 _)
  have L1 := L0.app (World.grownBy_alloc _ _ none) hg1 hown1
  clear q1 q2 q3 q4 q5 q6 q7 q8 q9
  obtain ⟨l1, hl1⟩ : ∃ q, q = l0 ++ [nm] := ⟨_, rfl⟩
  rw [← hl1] at L1
  have n1 : l1.length ≤ 6 := by rw [hl1]; simp; omega
  have HL1 := Lib.hid hl1
  clear hl1
  obtain ⟨A1, c1, rfl⟩ := own_slice L1.own
  have q1 := row_q1 L1.row; have q2 := row_q2 L1.row; have q3 := row_q3 L1.row; have q4 := row_q4 L1.row; have q5 := row_q5 L1.row; have q6 := row_q6 L1.row; have q7 := row_q7 L1.row; have q8 := row_q8 L1.row; have q9 := row_q9 L1.row
  go_wp2_with (at_builtin; go_must (refine wpList_append_own_none rfl (.tmp 37) (.tmp 39) 28 rfl (w.heap.size + 1) 9 i0 1 Tryz.underlying28 hi _ _ _ rfl L1.own rfl ?_))
  clear q1 q2 q3 q4 q5 q6 q7 q8 q9
  go_ret
  exact lineTo_mk (by rw [HL1.out, HL0.out]; try simp) L1

set_option maxHeartbeats 4000000 in
theorem lw_user3S (nm rf rt rb ra ri : Tx) (rn rm ln : Int) (g off c : Nat) (l : List Tx) (w : World) (hgl : g < w.heap.size) (hls : ∀ j (hj : j < l.length), w.cell? ⟨g, off + j, none⟩ = some (.string (bs l[j]))) (hll : l.length ≤ 1048576) :
    Calls Tryz.prog 24 #[.agg #[.int .i64 3, .string (bs nm), .slice (some ⟨g, off, none⟩) l.length c, .int .i64 rn, .int .i64 rm, .string (bs rf), .string (bs rt), .string (bs rb), .string (bs ra), .string (bs ri), .int .i64 ln]] w (LineTo ([wordP kindT 3] ++ [nm] ++ l) w) := by
  have RA : (w.alloc (.cells #[.int .i64 3, .string (bs nm), .slice (some ⟨g, off, none⟩) l.length c, .int .i64 rn, .int .i64 rm, .string (bs rf), .string (bs rt), .string (bs rb), .string (bs ra), .string (bs ri), .int .i64 ln] 41)).drew.heap[w.heap.size]? = some (.cells #[.int .i64 3, .string (bs nm), .slice (some ⟨g, off, none⟩) l.length c, .int .i64 rn, .int .i64 rm, .string (bs rf), .string (bs rt), .string (bs rb), .string (bs ra), .string (bs ri), .int .i64 ln] 41 (0, 0)) := (heap_alloc_new _ _ : (w.alloc (.cells #[.int .i64 3, .string (bs nm), .slice (some ⟨g, off, none⟩) l.length c, .int .i64 rn, .int .i64 rm, .string (bs rf), .string (bs rt), .string (bs rb), .string (bs ra), .string (bs ri), .int .i64 ln] 41)).heap[w.heap.size]? = _)
  have HB : Below w.heap.size w (w.alloc (.cells #[.int .i64 3, .string (bs nm), .slice (some ⟨g, off, none⟩) l.length c, .int .i64 rn, .int .i64 rm, .string (bs rf), .string (bs rt), .string (bs rb), .string (bs ra), .string (bs ri), .int .i64 ln] 41)).drew := ((Below.refl _ _).alloc (Nat.le_refl _) _).drew
  obtain ⟨i0, hi, hz0, hz1, hz2⟩ := info_parts Tryz.infoString
  go_enter Tryz.func24, Tryz.ntmps24
  go_upto_region 1 with fail
  go_region_held3 (fun w' => w'.cell? ⟨w.heap.size, 0, none⟩ = some (.int .i64 3)) (first | exact row_q0 RA | exact row_q0 (row_alloc RA _) | assumption)
    (first
      | (go_at_call 56; refine (kindWords_any _).mono ?_; rintro e w1 ⟨t, rfl, ht, hst, hb1⟩; have HT := Lib.hid ht; clear ht; have RA := row_below RA hb1; have HB := below_then HB hb1 HB.size)
      | (go_at_call 55; refine (wordAt_any t 12 12 kindT 3 _ hst rfl (by decide) (by decide)).mono ?_; rintro e w2 ⟨rfl, rfl⟩))
  have L0 : LS w (w1.alloc (.cells #[.string (bs (wordP kindT 3))] 9)) #[.int .i64 3, .string (bs nm), .slice (some ⟨g, off, none⟩) l.length c, .int .i64 rn, .int .i64 rm, .string (bs rf), .string (bs rt), .string (bs rb), .string (bs ra), .string (bs ri), .int .i64 ln] (.slice (some ⟨w1.heap.size, 0, none⟩) 1 1) [wordP kindT 3] :=
    ⟨row_alloc RA _, own_new w1 _ [wordP kindT 3] (by have := (Array.getElem?_eq_some_iff.1 RA).1; omega) (by simp), HB.alloc HB.size _⟩
  generalize w1.alloc (.cells #[.string (bs (wordP kindT 3))] 9) = X0 at *
  generalize w1.heap.size = h1 at *
  clear HT hst hb1 RA HB
  obtain ⟨l0, hl0⟩ : ∃ q, q = [wordP kindT 3] := ⟨_, rfl⟩
  rw [← hl0] at L0
  have n0 : l0.length ≤ 1 := by rw [hl0]; simp
  have HL0 := Lib.hid hl0
  clear hl0
  have q1 := row_q1 L0.row; have q2 := row_q2 L0.row; have q3 := row_q3 L0.row; have q4 := row_q4 L0.row; have q5 := row_q5 L0.row; have q6 := row_q6 L0.row; have q7 := row_q7 L0.row; have q8 := row_q8 L0.row; have q9 := row_q9 L0.row
  go_upto_region 11 with (at_builtin; go_must (refine wpList_append_own _ rfl (.tmp 32) (.tmp 35) 28 rfl (w.heap.size + 1) 9 i0 _ 1 16 Tryz.underlying28 hi hz0 hz1 hz2 rfl (by decide) _ _ _ rfl (L0.own.alloc _) ⟨X0.heap.size, 0, none⟩ 1 1 (scells [nm]) rfl rfl (cells_new _ (scells [nm]) _) (scells_one _) (by unfold maxLen; omega) (by omega) (by have := L0.size; (try simp); omega) ?_); intro v1 X1 hown1 hg1 _)
  have L1 := L0.app (World.grownBy_alloc _ _ none) hg1 hown1
  clear q1 q2 q3 q4 q5 q6 q7 q8 q9
  obtain ⟨l1, hl1⟩ : ∃ q, q = l0 ++ [nm] := ⟨_, rfl⟩
  rw [← hl1] at L1
  have n1 : l1.length ≤ 6 := by rw [hl1]; simp; omega
  have HL1 := Lib.hid hl1
  clear hl1
  obtain ⟨A1, c1, rfl⟩ := own_slice L1.own
  have q1 := row_q1 L1.row; have q2 := row_q2 L1.row; have q3 := row_q3 L1.row; have q4 := row_q4 L1.row; have q5 := row_q5 L1.row; have q6 := row_q6 L1.row; have q7 := row_q7 L1.row; have q8 := row_q8 L1.row; have q9 := row_q9 L1.row
  have HSRC2 : ∀ j u, (scells l)[j]? = some u → X1.cell? ((⟨g, off, none⟩ : Addr).add j) = some u := src_cells hgl L1.low hls
  go_wp2_with (at_builtin; go_must (refine wpList_append_own _ rfl (.tmp 37) (.tmp 39) 28 rfl (w.heap.size + 1) 9 i0 _ 1 16 Tryz.underlying28 hi hz0 hz1 hz2 rfl (by decide) _ _ _ rfl L1.own ⟨g, off, none⟩ l.length c (scells l) rfl (by simp [scells]) HSRC2 (scells_one _) (by unfold maxLen; omega) (by omega) (by have := L1.size; (try simp); omega) ?_); intro v2 X2 hown2 hg2 _)
  have L2 := L1.app (World.grownBy.refl _ _) hg2 hown2
  clear q1 q2 q3 q4 q5 q6 q7 q8 q9
  go_ret
  exact lineTo_mk (by rw [HL1.out, HL0.out]; try simp) L2
end Go.Proofs.YtahgfmobdfhaaaaGreatDoor
