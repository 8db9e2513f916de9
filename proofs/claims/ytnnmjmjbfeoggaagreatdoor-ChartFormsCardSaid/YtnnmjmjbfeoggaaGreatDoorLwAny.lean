/-
  Words of a line: plain, and the walks.
-/
import Derived.Test.YtnnmjmjbfeoggaaGreatDoorPrint2
import Derived.Deep.RegionHeld3
import Derived.Deep.DeepCutAuto
import Derived.Deep.Onto
import Derived.Laws.OwnMore
import Derived.Test.YtnnmjmjbfeoggaaGreatDoorRd4
import Derived.Laws.AppendOwnNone
import Derived.Deep.AppendLies
import Derived.Test.YtnnmjmjbfeoggaaGreatDoorPlain06
import Derived.Test.YtnnmjmjbfeoggaaGreatDoorShelf
import Derived.Lib.AppendIntMem
namespace Go.Proofs.YtnnmjmjbfeoggaaGreatDoor
set_option maxRecDepth 100000
open Go.ChangeShapes Go.WideShapes Go.ChangeAt Go.RowKit

/-- W0 at the beginning, W now; the rule's cells in the block W0.heap.size; the list l, its own, in v -/
structure LS (W0 W : World) (cs : Array Value) (v : Value) (l : List Tx) : Prop where
  row : W.heap[W0.heap.size]? = some (.cells cs 28 (0, 0))
  own : OwnL W (W0.heap.size + 1) v l
  low : Below W0.heap.size W0 W
theorem LS.size {W0 W : World} {cs : Array Value} {v : Value} {l : List Tx} (h : LS W0 W cs v l) : W0.heap.size < W.heap.size := (Array.getElem?_eq_some_iff.1 h.row).1
theorem LS.grown {W0 W W' : World} {cs : Array Value} {v v' : Value} {l l' : List Tx} {row : Option Nat} (h : LS W0 W cs v l) (hg : W.grownBy W' row) (hr : ∀ j, row = some j → W0.heap.size < j) (ho : OwnL W' (W0.heap.size + 1) v' l') : LS W0 W' cs v' l' :=
  ⟨(hg.block _ h.size (fun e => by have := hr _ e.symm; omega)).trans h.row, ho, h.low.grown hg h.low.size (fun j e => by have := hr _ e; omega)⟩
theorem LS.below {W0 W W' : World} {cs : Array Value} {v : Value} {l : List Tx} (h : LS W0 W cs v l) (hb : Below W.heap.size W W') : LS W0 W' cs v l :=
  ⟨(hb.block _ h.size).trans h.row, own_below h.own hb (by have := h.size; omega), h.low.trans (hb.mono h.low.size)⟩
/-- a list of one, of two .. in a new block -/
theorem own_new (w : World) (base : Nat) (l : List Tx) (hb : base ≤ w.heap.size) (hl : l.length ≤ 1000) : OwnL (w.alloc (.cells (scells l).toArray 9)) base (.slice (some ⟨w.heap.size, 0, none⟩) l.length l.length) l := by
  refine ⟨by simp [scells], .inr ⟨w.heap.size, l.length, (scells l).toArray, rfl, hb, heap_alloc_new _ _, Nat.le_refl _, by unfold maxLen; omega, by simp [scells], ?_⟩⟩
  rw [Nat.mul_one]
  exact List.take_of_length_le (by simp [scells])
theorem scells_one (l : List Tx) : ∀ u ∈ scells l, u.oneCell' = true := by
  intro u hu
  simp only [scells, List.mem_map] at hu
  obtain ⟨t, _, rfl⟩ := hu
  rfl
theorem LS.app {W0 W W1 W2 : World} {cs : Array Value} {v v' : Value} {l ts : List Tx} (h : LS W0 W cs v l) (hg0 : W.grownBy W1 none) (hg : W1.grownBy W2 v.ownBlock) (ho : W2.ownsRow (W0.heap.size + 1) 9 1 v' (l.length + ts.length) (scells l ++ scells ts)) : LS W0 W2 cs v' (l ++ ts) := by
  have hr : ∀ j, v.ownBlock = some j → W0.heap.size < j := fun j e => by have := (h.own.lt j e).1; omega
  refine ⟨?_, ?_, ?_⟩
  · rw [hg.block _ (Nat.lt_of_lt_of_le h.size hg0.size) (fun e => by have := hr _ e.symm; omega), hg0.block _ h.size (by simp)]; exact h.row
  rotate_left
  · exact (h.low.grown hg0 h.low.size (fun j e => by cases e)).grown hg (Nat.le_trans h.low.size hg0.size) (fun j e => by have := hr _ e; omega)
  unfold OwnL scells
  rw [List.length_append, List.map_append]
  exact ho
/-- what lineWords answers: a list of its own -/
def LineTo (l : List Tx) (w : World) (e : Ending) (w' : World) : Prop := ∃ v, e = .returned v ∧ OwnL w' w.heap.size v l ∧ Below w.heap.size w w'
theorem LS.drew {W0 W : World} {cs : Array Value} {v : Value} {l : List Tx} (h : LS W0 W cs v l) : LS W0 W.drew cs v l := ⟨h.row, h.own, h.low.drew⟩
theorem optionW_nil (x y : Tx) (w : World) (h : y = []) : Calls Tryz.prog 140 #[.string (bs x), .string (bs y)] w fun e w' => e = .returned (.slice none 0 0) ∧ w = w' := by
  subst h
  have hb2 : (bs []).toList.isEmpty = true := by rw [Lib.toList_data, list_bs]; rfl
  go_enter Tryz.func140, Tryz.ntmps140
  go_wp2
  go_ret
  exact ⟨rfl, rfl⟩
theorem optionW_some (x y : Tx) (w : World) (h : y ≠ []) : Calls Tryz.prog 140 #[.string (bs x), .string (bs y)] w fun e w' => e = .returned (.slice (some ⟨w.heap.size, 0, none⟩) 2 2) ∧ w.alloc (.cells #[.string (bs x), .string (bs y)] 9) = w' := by
  have hb : ((bs y).toList == ([] : List UInt8)) = false := by rw [Lib.toList_data, list_bs]; simpa using h
  have hb2 : (bs y).toList.isEmpty = false := by rw [Lib.toList_data, list_bs]; simpa using h
  go_enter Tryz.func140, Tryz.ntmps140
  go_wp2
  go_ret
  exact ⟨rfl, rfl⟩
theorem lineTo_mk {W0 W : World} {cs : Array Value} {v : Value} {l l' : List Tx} (he : l = l') (h : LS W0 W cs v l) : LineTo l' W0 (.returned v) W := by
  subst he; exact ⟨v, rfl, World.ownsRow.mono h.own (Nat.le_succ _), h.low⟩
theorem src_cells {w W : World} {g off : Nat} {l : List Tx} (hg : g < w.heap.size) (hb : Below w.heap.size w W) (h : ∀ j (hj : j < l.length), w.cell? ⟨g, off + j, none⟩ = some (.string (bs l[j]))) : ∀ j u, (scells l)[j]? = some u → W.cell? ((⟨g, off, none⟩ : Addr).add j) = some u := by
  intro j u hu
  have hadd : (⟨g, off, none⟩ : Addr).add j = ⟨g, off + j, none⟩ := by unfold Addr.add; split <;> simp_all
  rw [hadd, hb.cell hg]
  obtain ⟨hj, e⟩ := List.getElem?_eq_some_iff.1 hu
  have hj' : j < l.length := by simpa [scells] using hj
  rw [h j hj', ← e]
  simp [scells]
end Go.Proofs.YtnnmjmjbfeoggaaGreatDoor
namespace Go.Proofs.YtnnmjmjbfeoggaaGreatDoor
set_option maxRecDepth 100000
open Go.ChangeShapes Go.WideShapes Go.ChangeAt Go.RowKit
set_option maxHeartbeats 4000000 in
theorem lw_excl (nm rf rt rb ra ri : Tx) (rn rm ln : Int) (g off c : Nat) (l : List Tx) (w : World) (hgl : g < w.heap.size) (hls : ∀ j (hj : j < l.length), w.cell? ⟨g, off + j, none⟩ = some (.string (bs l[j]))) (hll : l.length ≤ 1048576) :
    Calls Tryz.prog 91 #[.agg #[.int .i64 6, .string (bs nm), .slice (some ⟨g, off, none⟩) l.length c, .int .i64 rn, .int .i64 rm, .string (bs rf), .string (bs rt), .string (bs rb), .string (bs ra), .string (bs ri), .int .i64 ln]] w (LineTo ([wordP kindT 6] ++ l) w) := by
  have RA : (w.alloc (.cells #[.int .i64 6, .string (bs nm), .slice (some ⟨g, off, none⟩) l.length c, .int .i64 rn, .int .i64 rm, .string (bs rf), .string (bs rt), .string (bs rb), .string (bs ra), .string (bs ri), .int .i64 ln] 28)).drew.heap[w.heap.size]? = some (.cells #[.int .i64 6, .string (bs nm), .slice (some ⟨g, off, none⟩) l.length c, .int .i64 rn, .int .i64 rm, .string (bs rf), .string (bs rt), .string (bs rb), .string (bs ra), .string (bs ri), .int .i64 ln] 28 (0, 0)) := (heap_alloc_new _ _ : (w.alloc (.cells #[.int .i64 6, .string (bs nm), .slice (some ⟨g, off, none⟩) l.length c, .int .i64 rn, .int .i64 rm, .string (bs rf), .string (bs rt), .string (bs rb), .string (bs ra), .string (bs ri), .int .i64 ln] 28)).heap[w.heap.size]? = _)
  have HB : Below w.heap.size w (w.alloc (.cells #[.int .i64 6, .string (bs nm), .slice (some ⟨g, off, none⟩) l.length c, .int .i64 rn, .int .i64 rm, .string (bs rf), .string (bs rt), .string (bs rb), .string (bs ra), .string (bs ri), .int .i64 ln] 28)).drew := ((Below.refl _ _).alloc (Nat.le_refl _) _).drew
  obtain ⟨i0, hi, hz0, hz1, hz2⟩ := info_parts Tryz.infoString
  go_enter Tryz.func91, Tryz.ntmps91
  go_upto_region 1 with fail
  go_region_held3 (fun w' => w'.cell? ⟨w.heap.size, 0, none⟩ = some (.int .i64 6)) (first | exact row_q0 RA | exact row_q0 (row_alloc RA _) | assumption)
    (first
      | (go_at_call 137; refine (kindWords_any _).mono ?_; rintro e w1 ⟨t, rfl, ht, hst, hb1⟩; have HT := Lib.hid ht; clear ht; have RA := row_below RA hb1; have HB := below_then HB hb1 HB.size)
      | (go_at_call 136; refine (wordAt_any t 12 12 kindT 6 _ hst rfl (by decide) (by decide)).mono ?_; rintro e w2 ⟨rfl, rfl⟩))
  have L0 : LS w (w1.alloc (.cells #[.string (bs (wordP kindT 6))] 9)) #[.int .i64 6, .string (bs nm), .slice (some ⟨g, off, none⟩) l.length c, .int .i64 rn, .int .i64 rm, .string (bs rf), .string (bs rt), .string (bs rb), .string (bs ra), .string (bs ri), .int .i64 ln] (.slice (some ⟨w1.heap.size, 0, none⟩) 1 1) [wordP kindT 6] :=
    ⟨row_alloc RA _, own_new w1 _ [wordP kindT 6] (by have := (Array.getElem?_eq_some_iff.1 RA).1; omega) (by simp), HB.alloc HB.size _⟩
  generalize w1.alloc (.cells #[.string (bs (wordP kindT 6))] 9) = X0 at *
  generalize w1.heap.size = h1 at *
  clear HT hst hb1 RA HB
  obtain ⟨l0, hl0⟩ : ∃ q, q = [wordP kindT 6] := ⟨_, rfl⟩
  rw [← hl0] at L0
  have n0 : l0.length ≤ 1 := by rw [hl0]; simp
  have HL0 := Lib.hid hl0
  clear hl0
  have q1 := row_q1 L0.row; have q2 := row_q2 L0.row; have q3 := row_q3 L0.row; have q4 := row_q4 L0.row; have q5 := row_q5 L0.row; have q6 := row_q6 L0.row; have q7 := row_q7 L0.row; have q8 := row_q8 L0.row; have q9 := row_q9 L0.row
  have HSRC1 : ∀ j u, (scells l)[j]? = some u → X0.cell? ((⟨g, off, none⟩ : Addr).add j) = some u := src_cells hgl L0.low hls
  go_wp2_with (at_builtin; go_must (refine wpList_append_own _ rfl (.tmp 56) (.tmp 58) 26 rfl (w.heap.size + 1) 9 i0 _ 1 16 Tryz.underlying26 hi hz0 hz1 hz2 rfl (by decide) _ _ _ rfl L0.own ⟨g, off, none⟩ l.length c (scells l) rfl (by simp [scells]) HSRC1 (scells_one _) (by unfold maxLen; omega) (by omega) (by have := L0.size; (try simp); omega) ?_); intro v1 X1 hown1 hg1 _)
  have L1 := L0.app (World.grownBy.refl _ _) hg1 hown1
  clear q1 q2 q3 q4 q5 q6 q7 q8 q9
  go_ret
  exact lineTo_mk (by rw [HL0.out]; try simp) L1

set_option maxHeartbeats 4000000 in
theorem lw_exclN (nm rf rt rb ra ri : Tx) (rn rm ln : Int) (w : World) :
    Calls Tryz.prog 91 #[.agg #[.int .i64 6, .string (bs nm), .slice none 0 0, .int .i64 rn, .int .i64 rm, .string (bs rf), .string (bs rt), .string (bs rb), .string (bs ra), .string (bs ri), .int .i64 ln]] w (LineTo ([wordP kindT 6]) w) := by
  have RA : (w.alloc (.cells #[.int .i64 6, .string (bs nm), .slice none 0 0, .int .i64 rn, .int .i64 rm, .string (bs rf), .string (bs rt), .string (bs rb), .string (bs ra), .string (bs ri), .int .i64 ln] 28)).drew.heap[w.heap.size]? = some (.cells #[.int .i64 6, .string (bs nm), .slice none 0 0, .int .i64 rn, .int .i64 rm, .string (bs rf), .string (bs rt), .string (bs rb), .string (bs ra), .string (bs ri), .int .i64 ln] 28 (0, 0)) := (heap_alloc_new _ _ : (w.alloc (.cells #[.int .i64 6, .string (bs nm), .slice none 0 0, .int .i64 rn, .int .i64 rm, .string (bs rf), .string (bs rt), .string (bs rb), .string (bs ra), .string (bs ri), .int .i64 ln] 28)).heap[w.heap.size]? = _)
  have HB : Below w.heap.size w (w.alloc (.cells #[.int .i64 6, .string (bs nm), .slice none 0 0, .int .i64 rn, .int .i64 rm, .string (bs rf), .string (bs rt), .string (bs rb), .string (bs ra), .string (bs ri), .int .i64 ln] 28)).drew := ((Below.refl _ _).alloc (Nat.le_refl _) _).drew
  obtain ⟨i0, hi, hz0, hz1, hz2⟩ := info_parts Tryz.infoString
  go_enter Tryz.func91, Tryz.ntmps91
  go_upto_region 1 with fail
  go_region_held3 (fun w' => w'.cell? ⟨w.heap.size, 0, none⟩ = some (.int .i64 6)) (first | exact row_q0 RA | exact row_q0 (row_alloc RA _) | assumption)
    (first
      | (go_at_call 137; refine (kindWords_any _).mono ?_; rintro e w1 ⟨t, rfl, ht, hst, hb1⟩; have HT := Lib.hid ht; clear ht; have RA := row_below RA hb1; have HB := below_then HB hb1 HB.size)
      | (go_at_call 136; refine (wordAt_any t 12 12 kindT 6 _ hst rfl (by decide) (by decide)).mono ?_; rintro e w2 ⟨rfl, rfl⟩))
  have L0 : LS w (w1.alloc (.cells #[.string (bs (wordP kindT 6))] 9)) #[.int .i64 6, .string (bs nm), .slice none 0 0, .int .i64 rn, .int .i64 rm, .string (bs rf), .string (bs rt), .string (bs rb), .string (bs ra), .string (bs ri), .int .i64 ln] (.slice (some ⟨w1.heap.size, 0, none⟩) 1 1) [wordP kindT 6] :=
    ⟨row_alloc RA _, own_new w1 _ [wordP kindT 6] (by have := (Array.getElem?_eq_some_iff.1 RA).1; omega) (by simp), HB.alloc HB.size _⟩
  generalize w1.alloc (.cells #[.string (bs (wordP kindT 6))] 9) = X0 at *
  generalize w1.heap.size = h1 at *
  clear HT hst hb1 RA HB
  obtain ⟨l0, hl0⟩ : ∃ q, q = [wordP kindT 6] := ⟨_, rfl⟩
  rw [← hl0] at L0
  have n0 : l0.length ≤ 1 := by rw [hl0]; simp
  have HL0 := Lib.hid hl0
  clear hl0
  have q1 := row_q1 L0.row; have q2 := row_q2 L0.row; have q3 := row_q3 L0.row; have q4 := row_q4 L0.row; have q5 := row_q5 L0.row; have q6 := row_q6 L0.row; have q7 := row_q7 L0.row; have q8 := row_q8 L0.row; have q9 := row_q9 L0.row
  go_wp2_with (at_builtin; go_must (refine wpList_append_own_none rfl (.tmp 56) (.tmp 58) 26 rfl (w.heap.size + 1) 9 i0 1 Tryz.underlying26 hi _ _ _ rfl L0.own rfl ?_))
  clear q1 q2 q3 q4 q5 q6 q7 q8 q9
  go_ret
  exact lineTo_mk (by rw [HL0.out]; try simp) L0

set_option maxHeartbeats 4000000 in
theorem lw_user2N (nm rf rt rb ra ri : Tx) (rn rm ln : Int) (w : World) :
    Calls Tryz.prog 91 #[.agg #[.int .i64 2, .string (bs nm), .slice none 0 0, .int .i64 rn, .int .i64 rm, .string (bs rf), .string (bs rt), .string (bs rb), .string (bs ra), .string (bs ri), .int .i64 ln]] w (LineTo ([wordP kindT 2] ++ [nm]) w) := by
  have RA : (w.alloc (.cells #[.int .i64 2, .string (bs nm), .slice none 0 0, .int .i64 rn, .int .i64 rm, .string (bs rf), .string (bs rt), .string (bs rb), .string (bs ra), .string (bs ri), .int .i64 ln] 28)).drew.heap[w.heap.size]? = some (.cells #[.int .i64 2, .string (bs nm), .slice none 0 0, .int .i64 rn, .int .i64 rm, .string (bs rf), .string (bs rt), .string (bs rb), .string (bs ra), .string (bs ri), .int .i64 ln] 28 (0, 0)) := (heap_alloc_new _ _ : (w.alloc (.cells #[.int .i64 2, .string (bs nm), .slice none 0 0, .int .i64 rn, .int .i64 rm, .string (bs rf), .string (bs rt), .string (bs rb), .string (bs ra), .string (bs ri), .int .i64 ln] 28)).heap[w.heap.size]? = _)
  have HB : Below w.heap.size w (w.alloc (.cells #[.int .i64 2, .string (bs nm), .slice none 0 0, .int .i64 rn, .int .i64 rm, .string (bs rf), .string (bs rt), .string (bs rb), .string (bs ra), .string (bs ri), .int .i64 ln] 28)).drew := ((Below.refl _ _).alloc (Nat.le_refl _) _).drew
  obtain ⟨i0, hi, hz0, hz1, hz2⟩ := info_parts Tryz.infoString
  go_enter Tryz.func91, Tryz.ntmps91
  go_upto_region 1 with fail
  go_region_held3 (fun w' => w'.cell? ⟨w.heap.size, 0, none⟩ = some (.int .i64 2)) (first | exact row_q0 RA | exact row_q0 (row_alloc RA _) | assumption)
    (first
      | (go_at_call 137; refine (kindWords_any _).mono ?_; rintro e w1 ⟨t, rfl, ht, hst, hb1⟩; have HT := Lib.hid ht; clear ht; have RA := row_below RA hb1; have HB := below_then HB hb1 HB.size)
      | (go_at_call 136; refine (wordAt_any t 12 12 kindT 2 _ hst rfl (by decide) (by decide)).mono ?_; rintro e w2 ⟨rfl, rfl⟩))
  have L0 : LS w (w1.alloc (.cells #[.string (bs (wordP kindT 2))] 9)) #[.int .i64 2, .string (bs nm), .slice none 0 0, .int .i64 rn, .int .i64 rm, .string (bs rf), .string (bs rt), .string (bs rb), .string (bs ra), .string (bs ri), .int .i64 ln] (.slice (some ⟨w1.heap.size, 0, none⟩) 1 1) [wordP kindT 2] :=
    ⟨row_alloc RA _, own_new w1 _ [wordP kindT 2] (by have := (Array.getElem?_eq_some_iff.1 RA).1; omega) (by simp), HB.alloc HB.size _⟩
  generalize w1.alloc (.cells #[.string (bs (wordP kindT 2))] 9) = X0 at *
  generalize w1.heap.size = h1 at *
  clear HT hst hb1 RA HB
  obtain ⟨l0, hl0⟩ : ∃ q, q = [wordP kindT 2] := ⟨_, rfl⟩
  rw [← hl0] at L0
  have n0 : l0.length ≤ 1 := by rw [hl0]; simp
  have HL0 := Lib.hid hl0
  clear hl0
  have q1 := row_q1 L0.row; have q2 := row_q2 L0.row; have q3 := row_q3 L0.row; have q4 := row_q4 L0.row; have q5 := row_q5 L0.row; have q6 := row_q6 L0.row; have q7 := row_q7 L0.row; have q8 := row_q8 L0.row; have q9 := row_q9 L0.row
  go_upto_region 11 with (at_builtin; go_must (refine wpList_append_own _ rfl (.tmp 32) (.tmp 35) 26 rfl (w.heap.size + 1) 9 i0 _ 1 16 Tryz.underlying26 hi hz0 hz1 hz2 rfl (by decide) _ _ _ rfl (L0.own.alloc _) ⟨X0.heap.size, 0, none⟩ 1 1 (scells [nm]) rfl rfl (cells_new _ (scells [nm]) _) (scells_one _) (by unfold maxLen; omega) (by omega) (by have := L0.size; (try simp); omega) ?_); intro v1 X1 hown1 hg1 _)
  have L1 := L0.app (World.grownBy_alloc _ _ none) hg1 hown1
  clear q1 q2 q3 q4 q5 q6 q7 q8 q9
  obtain ⟨l1, hl1⟩ : ∃ q, q = l0 ++ [nm] := ⟨_, rfl⟩
  rw [← hl1] at L1
  have n1 : l1.length ≤ 6 := by rw [hl1]; simp; omega
  have HL1 := Lib.hid hl1
  clear hl1
  obtain ⟨A1, c1, rfl⟩ := own_slice L1.own
  have q1 := row_q1 L1.row; have q2 := row_q2 L1.row; have q3 := row_q3 L1.row; have q4 := row_q4 L1.row; have q5 := row_q5 L1.row; have q6 := row_q6 L1.row; have q7 := row_q7 L1.row; have q8 := row_q8 L1.row; have q9 := row_q9 L1.row
  go_wp2_with (at_builtin; go_must (refine wpList_append_own_none rfl (.tmp 37) (.tmp 39) 26 rfl (w.heap.size + 1) 9 i0 1 Tryz.underlying26 hi _ _ _ rfl L1.own rfl ?_))
  clear q1 q2 q3 q4 q5 q6 q7 q8 q9
  go_ret
  exact lineTo_mk (by rw [HL1.out, HL0.out]; try simp) L1

set_option maxHeartbeats 4000000 in
theorem lw_user2S (nm rf rt rb ra ri : Tx) (rn rm ln : Int) (g off c : Nat) (l : List Tx) (w : World) (hgl : g < w.heap.size) (hls : ∀ j (hj : j < l.length), w.cell? ⟨g, off + j, none⟩ = some (.string (bs l[j]))) (hll : l.length ≤ 1048576) :
    Calls Tryz.prog 91 #[.agg #[.int .i64 2, .string (bs nm), .slice (some ⟨g, off, none⟩) l.length c, .int .i64 rn, .int .i64 rm, .string (bs rf), .string (bs rt), .string (bs rb), .string (bs ra), .string (bs ri), .int .i64 ln]] w (LineTo ([wordP kindT 2] ++ [nm] ++ l) w) := by
  have RA : (w.alloc (.cells #[.int .i64 2, .string (bs nm), .slice (some ⟨g, off, none⟩) l.length c, .int .i64 rn, .int .i64 rm, .string (bs rf), .string (bs rt), .string (bs rb), .string (bs ra), .string (bs ri), .int .i64 ln] 28)).drew.heap[w.heap.size]? = some (.cells #[.int .i64 2, .string (bs nm), .slice (some ⟨g, off, none⟩) l.length c, .int .i64 rn, .int .i64 rm, .string (bs rf), .string (bs rt), .string (bs rb), .string (bs ra), .string (bs ri), .int .i64 ln] 28 (0, 0)) := (heap_alloc_new _ _ : (w.alloc (.cells #[.int .i64 2, .string (bs nm), .slice (some ⟨g, off, none⟩) l.length c, .int .i64 rn, .int .i64 rm, .string (bs rf), .string (bs rt), .string (bs rb), .string (bs ra), .string (bs ri), .int .i64 ln] 28)).heap[w.heap.size]? = _)
  have HB : Below w.heap.size w (w.alloc (.cells #[.int .i64 2, .string (bs nm), .slice (some ⟨g, off, none⟩) l.length c, .int .i64 rn, .int .i64 rm, .string (bs rf), .string (bs rt), .string (bs rb), .string (bs ra), .string (bs ri), .int .i64 ln] 28)).drew := ((Below.refl _ _).alloc (Nat.le_refl _) _).drew
  obtain ⟨i0, hi, hz0, hz1, hz2⟩ := info_parts Tryz.infoString
  go_enter Tryz.func91, Tryz.ntmps91
  go_upto_region 1 with fail
  go_region_held3 (fun w' => w'.cell? ⟨w.heap.size, 0, none⟩ = some (.int .i64 2)) (first | exact row_q0 RA | exact row_q0 (row_alloc RA _) | assumption)
    (first
      | (go_at_call 137; refine (kindWords_any _).mono ?_; rintro e w1 ⟨t, rfl, ht, hst, hb1⟩; have HT := Lib.hid ht; clear ht; have RA := row_below RA hb1; have HB := below_then HB hb1 HB.size)
      | (go_at_call 136; refine (wordAt_any t 12 12 kindT 2 _ hst rfl (by decide) (by decide)).mono ?_; rintro e w2 ⟨rfl, rfl⟩))
  have L0 : LS w (w1.alloc (.cells #[.string (bs (wordP kindT 2))] 9)) #[.int .i64 2, .string (bs nm), .slice (some ⟨g, off, none⟩) l.length c, .int .i64 rn, .int .i64 rm, .string (bs rf), .string (bs rt), .string (bs rb), .string (bs ra), .string (bs ri), .int .i64 ln] (.slice (some ⟨w1.heap.size, 0, none⟩) 1 1) [wordP kindT 2] :=
    ⟨row_alloc RA _, own_new w1 _ [wordP kindT 2] (by have := (Array.getElem?_eq_some_iff.1 RA).1; omega) (by simp), HB.alloc HB.size _⟩
  generalize w1.alloc (.cells #[.string (bs (wordP kindT 2))] 9) = X0 at *
  generalize w1.heap.size = h1 at *
  clear HT hst hb1 RA HB
  obtain ⟨l0, hl0⟩ : ∃ q, q = [wordP kindT 2] := ⟨_, rfl⟩
  rw [← hl0] at L0
  have n0 : l0.length ≤ 1 := by rw [hl0]; simp
  have HL0 := Lib.hid hl0
  clear hl0
  have q1 := row_q1 L0.row; have q2 := row_q2 L0.row; have q3 := row_q3 L0.row; have q4 := row_q4 L0.row; have q5 := row_q5 L0.row; have q6 := row_q6 L0.row; have q7 := row_q7 L0.row; have q8 := row_q8 L0.row; have q9 := row_q9 L0.row
  go_upto_region 11 with (at_builtin; go_must (refine wpList_append_own _ rfl (.tmp 32) (.tmp 35) 26 rfl (w.heap.size + 1) 9 i0 _ 1 16 Tryz.underlying26 hi hz0 hz1 hz2 rfl (by decide) _ _ _ rfl (L0.own.alloc _) ⟨X0.heap.size, 0, none⟩ 1 1 (scells [nm]) rfl rfl (cells_new _ (scells [nm]) _) (scells_one _) (by unfold maxLen; omega) (by omega) (by have := L0.size; (try simp); omega) ?_); intro v1 X1 hown1 hg1 _)
  have L1 := L0.app (World.grownBy_alloc _ _ none) hg1 hown1
  clear q1 q2 q3 q4 q5 q6 q7 q8 q9
  obtain ⟨l1, hl1⟩ : ∃ q, q = l0 ++ [nm] := ⟨_, rfl⟩
  rw [← hl1] at L1
  have n1 : l1.length ≤ 6 := by rw [hl1]; simp; omega
  have HL1 := Lib.hid hl1
  clear hl1
  obtain ⟨A1, c1, rfl⟩ := own_slice L1.own
  have q1 := row_q1 L1.row; have q2 := row_q2 L1.row; have q3 := row_q3 L1.row; have q4 := row_q4 L1.row; have q5 := row_q5 L1.row; have q6 := row_q6 L1.row; have q7 := row_q7 L1.row; have q8 := row_q8 L1.row; have q9 := row_q9 L1.row
  have HSRC2 : ∀ j u, (scells l)[j]? = some u → X1.cell? ((⟨g, off, none⟩ : Addr).add j) = some u := src_cells hgl L1.low hls
  go_wp2_with (at_builtin; go_must (refine wpList_append_own _ rfl (.tmp 37) (.tmp 39) 26 rfl (w.heap.size + 1) 9 i0 _ 1 16 Tryz.underlying26 hi hz0 hz1 hz2 rfl (by decide) _ _ _ rfl L1.own ⟨g, off, none⟩ l.length c (scells l) rfl (by simp [scells]) HSRC2 (scells_one _) (by unfold maxLen; omega) (by omega) (by have := L1.size; (try simp); omega) ?_); intro v2 X2 hown2 hg2 _)
  have L2 := L1.app (World.grownBy.refl _ _) hg2 hown2
  clear q1 q2 q3 q4 q5 q6 q7 q8 q9
  go_ret
  exact lineTo_mk (by rw [HL1.out, HL0.out]; try simp) L2

set_option maxHeartbeats 4000000 in
theorem lw_user3N (nm rf rt rb ra ri : Tx) (rn rm ln : Int) (w : World) :
    Calls Tryz.prog 91 #[.agg #[.int .i64 3, .string (bs nm), .slice none 0 0, .int .i64 rn, .int .i64 rm, .string (bs rf), .string (bs rt), .string (bs rb), .string (bs ra), .string (bs ri), .int .i64 ln]] w (LineTo ([wordP kindT 3] ++ [nm]) w) := by
  have RA : (w.alloc (.cells #[.int .i64 3, .string (bs nm), .slice none 0 0, .int .i64 rn, .int .i64 rm, .string (bs rf), .string (bs rt), .string (bs rb), .string (bs ra), .string (bs ri), .int .i64 ln] 28)).drew.heap[w.heap.size]? = some (.cells #[.int .i64 3, .string (bs nm), .slice none 0 0, .int .i64 rn, .int .i64 rm, .string (bs rf), .string (bs rt), .string (bs rb), .string (bs ra), .string (bs ri), .int .i64 ln] 28 (0, 0)) := (heap_alloc_new _ _ : (w.alloc (.cells #[.int .i64 3, .string (bs nm), .slice none 0 0, .int .i64 rn, .int .i64 rm, .string (bs rf), .string (bs rt), .string (bs rb), .string (bs ra), .string (bs ri), .int .i64 ln] 28)).heap[w.heap.size]? = _)
  have HB : Below w.heap.size w (w.alloc (.cells #[.int .i64 3, .string (bs nm), .slice none 0 0, .int .i64 rn, .int .i64 rm, .string (bs rf), .string (bs rt), .string (bs rb), .string (bs ra), .string (bs ri), .int .i64 ln] 28)).drew := ((Below.refl _ _).alloc (Nat.le_refl _) _).drew
  obtain ⟨i0, hi, hz0, hz1, hz2⟩ := info_parts Tryz.infoString
  go_enter Tryz.func91, Tryz.ntmps91
  go_upto_region 1 with fail
  go_region_held3 (fun w' => w'.cell? ⟨w.heap.size, 0, none⟩ = some (.int .i64 3)) (first | exact row_q0 RA | exact row_q0 (row_alloc RA _) | assumption)
    (first
      | (go_at_call 137; refine (kindWords_any _).mono ?_; rintro e w1 ⟨t, rfl, ht, hst, hb1⟩; have HT := Lib.hid ht; clear ht; have RA := row_below RA hb1; have HB := below_then HB hb1 HB.size)
      | (go_at_call 136; refine (wordAt_any t 12 12 kindT 3 _ hst rfl (by decide) (by decide)).mono ?_; rintro e w2 ⟨rfl, rfl⟩))
  have L0 : LS w (w1.alloc (.cells #[.string (bs (wordP kindT 3))] 9)) #[.int .i64 3, .string (bs nm), .slice none 0 0, .int .i64 rn, .int .i64 rm, .string (bs rf), .string (bs rt), .string (bs rb), .string (bs ra), .string (bs ri), .int .i64 ln] (.slice (some ⟨w1.heap.size, 0, none⟩) 1 1) [wordP kindT 3] :=
    ⟨row_alloc RA _, own_new w1 _ [wordP kindT 3] (by have := (Array.getElem?_eq_some_iff.1 RA).1; omega) (by simp), HB.alloc HB.size _⟩
  generalize w1.alloc (.cells #[.string (bs (wordP kindT 3))] 9) = X0 at *
  generalize w1.heap.size = h1 at *
  clear HT hst hb1 RA HB
  obtain ⟨l0, hl0⟩ : ∃ q, q = [wordP kindT 3] := ⟨_, rfl⟩
  rw [← hl0] at L0
  have n0 : l0.length ≤ 1 := by rw [hl0]; simp
  have HL0 := Lib.hid hl0
  clear hl0
  have q1 := row_q1 L0.row; have q2 := row_q2 L0.row; have q3 := row_q3 L0.row; have q4 := row_q4 L0.row; have q5 := row_q5 L0.row; have q6 := row_q6 L0.row; have q7 := row_q7 L0.row; have q8 := row_q8 L0.row; have q9 := row_q9 L0.row
  go_upto_region 11 with (at_builtin; go_must (refine wpList_append_own _ rfl (.tmp 32) (.tmp 35) 26 rfl (w.heap.size + 1) 9 i0 _ 1 16 Tryz.underlying26 hi hz0 hz1 hz2 rfl (by decide) _ _ _ rfl (L0.own.alloc _) ⟨X0.heap.size, 0, none⟩ 1 1 (scells [nm]) rfl rfl (cells_new _ (scells [nm]) _) (scells_one _) (by unfold maxLen; omega) (by omega) (by have := L0.size; (try simp); omega) ?_); intro v1 X1 hown1 hg1 _)
  have L1 := L0.app (World.grownBy_alloc _ _ none) hg1 hown1
  clear q1 q2 q3 q4 q5 q6 q7 q8 q9
  obtain ⟨l1, hl1⟩ : ∃ q, q = l0 ++ [nm] := ⟨_, rfl⟩
  rw [← hl1] at L1
  have n1 : l1.length ≤ 6 := by rw [hl1]; simp; omega
  have HL1 := Lib.hid hl1
  clear hl1
  obtain ⟨A1, c1, rfl⟩ := own_slice L1.own
  have q1 := row_q1 L1.row; have q2 := row_q2 L1.row; have q3 := row_q3 L1.row; have q4 := row_q4 L1.row; have q5 := row_q5 L1.row; have q6 := row_q6 L1.row; have q7 := row_q7 L1.row; have q8 := row_q8 L1.row; have q9 := row_q9 L1.row
  go_wp2_with (at_builtin; go_must (refine wpList_append_own_none rfl (.tmp 37) (.tmp 39) 26 rfl (w.heap.size + 1) 9 i0 1 Tryz.underlying26 hi _ _ _ rfl L1.own rfl ?_))
  clear q1 q2 q3 q4 q5 q6 q7 q8 q9
  go_ret
  exact lineTo_mk (by rw [HL1.out, HL0.out]; try simp) L1

set_option maxHeartbeats 4000000 in
theorem lw_user3S (nm rf rt rb ra ri : Tx) (rn rm ln : Int) (g off c : Nat) (l : List Tx) (w : World) (hgl : g < w.heap.size) (hls : ∀ j (hj : j < l.length), w.cell? ⟨g, off + j, none⟩ = some (.string (bs l[j]))) (hll : l.length ≤ 1048576) :
    Calls Tryz.prog 91 #[.agg #[.int .i64 3, .string (bs nm), .slice (some ⟨g, off, none⟩) l.length c, .int .i64 rn, .int .i64 rm, .string (bs rf), .string (bs rt), .string (bs rb), .string (bs ra), .string (bs ri), .int .i64 ln]] w (LineTo ([wordP kindT 3] ++ [nm] ++ l) w) := by
  have RA : (w.alloc (.cells #[.int .i64 3, .string (bs nm), .slice (some ⟨g, off, none⟩) l.length c, .int .i64 rn, .int .i64 rm, .string (bs rf), .string (bs rt), .string (bs rb), .string (bs ra), .string (bs ri), .int .i64 ln] 28)).drew.heap[w.heap.size]? = some (.cells #[.int .i64 3, .string (bs nm), .slice (some ⟨g, off, none⟩) l.length c, .int .i64 rn, .int .i64 rm, .string (bs rf), .string (bs rt), .string (bs rb), .string (bs ra), .string (bs ri), .int .i64 ln] 28 (0, 0)) := (heap_alloc_new _ _ : (w.alloc (.cells #[.int .i64 3, .string (bs nm), .slice (some ⟨g, off, none⟩) l.length c, .int .i64 rn, .int .i64 rm, .string (bs rf), .string (bs rt), .string (bs rb), .string (bs ra), .string (bs ri), .int .i64 ln] 28)).heap[w.heap.size]? = _)
  have HB : Below w.heap.size w (w.alloc (.cells #[.int .i64 3, .string (bs nm), .slice (some ⟨g, off, none⟩) l.length c, .int .i64 rn, .int .i64 rm, .string (bs rf), .string (bs rt), .string (bs rb), .string (bs ra), .string (bs ri), .int .i64 ln] 28)).drew := ((Below.refl _ _).alloc (Nat.le_refl _) _).drew
  obtain ⟨i0, hi, hz0, hz1, hz2⟩ := info_parts Tryz.infoString
  go_enter Tryz.func91, Tryz.ntmps91
  go_upto_region 1 with fail
  go_region_held3 (fun w' => w'.cell? ⟨w.heap.size, 0, none⟩ = some (.int .i64 3)) (first | exact row_q0 RA | exact row_q0 (row_alloc RA _) | assumption)
    (first
      | (go_at_call 137; refine (kindWords_any _).mono ?_; rintro e w1 ⟨t, rfl, ht, hst, hb1⟩; have HT := Lib.hid ht; clear ht; have RA := row_below RA hb1; have HB := below_then HB hb1 HB.size)
      | (go_at_call 136; refine (wordAt_any t 12 12 kindT 3 _ hst rfl (by decide) (by decide)).mono ?_; rintro e w2 ⟨rfl, rfl⟩))
  have L0 : LS w (w1.alloc (.cells #[.string (bs (wordP kindT 3))] 9)) #[.int .i64 3, .string (bs nm), .slice (some ⟨g, off, none⟩) l.length c, .int .i64 rn, .int .i64 rm, .string (bs rf), .string (bs rt), .string (bs rb), .string (bs ra), .string (bs ri), .int .i64 ln] (.slice (some ⟨w1.heap.size, 0, none⟩) 1 1) [wordP kindT 3] :=
    ⟨row_alloc RA _, own_new w1 _ [wordP kindT 3] (by have := (Array.getElem?_eq_some_iff.1 RA).1; omega) (by simp), HB.alloc HB.size _⟩
  generalize w1.alloc (.cells #[.string (bs (wordP kindT 3))] 9) = X0 at *
  generalize w1.heap.size = h1 at *
  clear HT hst hb1 RA HB
  obtain ⟨l0, hl0⟩ : ∃ q, q = [wordP kindT 3] := ⟨_, rfl⟩
  rw [← hl0] at L0
  have n0 : l0.length ≤ 1 := by rw [hl0]; simp
  have HL0 := Lib.hid hl0
  clear hl0
  have q1 := row_q1 L0.row; have q2 := row_q2 L0.row; have q3 := row_q3 L0.row; have q4 := row_q4 L0.row; have q5 := row_q5 L0.row; have q6 := row_q6 L0.row; have q7 := row_q7 L0.row; have q8 := row_q8 L0.row; have q9 := row_q9 L0.row
  go_upto_region 11 with (at_builtin; go_must (refine wpList_append_own _ rfl (.tmp 32) (.tmp 35) 26 rfl (w.heap.size + 1) 9 i0 _ 1 16 Tryz.underlying26 hi hz0 hz1 hz2 rfl (by decide) _ _ _ rfl (L0.own.alloc _) ⟨X0.heap.size, 0, none⟩ 1 1 (scells [nm]) rfl rfl (cells_new _ (scells [nm]) _) (scells_one _) (by unfold maxLen; omega) (by omega) (by have := L0.size; (try simp); omega) ?_); intro v1 X1 hown1 hg1 _)
  have L1 := L0.app (World.grownBy_alloc _ _ none) hg1 hown1
  clear q1 q2 q3 q4 q5 q6 q7 q8 q9
  obtain ⟨l1, hl1⟩ : ∃ q, q = l0 ++ [nm] := ⟨_, rfl⟩
  rw [← hl1] at L1
  have n1 : l1.length ≤ 6 := by rw [hl1]; simp; omega
  have HL1 := Lib.hid hl1
  clear hl1
  obtain ⟨A1, c1, rfl⟩ := own_slice L1.own
  have q1 := row_q1 L1.row; have q2 := row_q2 L1.row; have q3 := row_q3 L1.row; have q4 := row_q4 L1.row; have q5 := row_q5 L1.row; have q6 := row_q6 L1.row; have q7 := row_q7 L1.row; have q8 := row_q8 L1.row; have q9 := row_q9 L1.row
  have HSRC2 : ∀ j u, (scells l)[j]? = some u → X1.cell? ((⟨g, off, none⟩ : Addr).add j) = some u := src_cells hgl L1.low hls
  go_wp2_with (at_builtin; go_must (refine wpList_append_own _ rfl (.tmp 37) (.tmp 39) 26 rfl (w.heap.size + 1) 9 i0 _ 1 16 Tryz.underlying26 hi hz0 hz1 hz2 rfl (by decide) _ _ _ rfl L1.own ⟨g, off, none⟩ l.length c (scells l) rfl (by simp [scells]) HSRC2 (scells_one _) (by unfold maxLen; omega) (by omega) (by have := L1.size; (try simp); omega) ?_); intro v2 X2 hown2 hg2 _)
  have L2 := L1.app (World.grownBy.refl _ _) hg2 hown2
  clear q1 q2 q3 q4 q5 q6 q7 q8 q9
  go_ret
  exact lineTo_mk (by rw [HL1.out, HL0.out]; try simp) L2
end Go.Proofs.YtnnmjmjbfeoggaaGreatDoor
namespace Go.Proofs.YtnnmjmjbfeoggaaGreatDoor
set_option maxRecDepth 100000
open Go.ChangeShapes Go.WideShapes Go.ChangeAt Go.RowKit
set_option maxHeartbeats 4000000 in
theorem lw_roleS (nm rf rt rb ra ri : Tx) (rn rm ln : Int) (g off c : Nat) (l : List Tx) (w : World) (hgl : g < w.heap.size) (hls : ∀ j (hj : j < l.length), w.cell? ⟨g, off + j, none⟩ = some (.string (bs l[j]))) (hll : l.length ≤ 1048576) (hpos : 0 < l.length) :
    Calls Tryz.prog 91 #[.agg #[.int .i64 1, .string (bs nm), .slice (some ⟨g, off, none⟩) l.length c, .int .i64 rn, .int .i64 rm, .string (bs rf), .string (bs rt), .string (bs rb), .string (bs ra), .string (bs ri), .int .i64 ln]] w (LineTo ([wordP kindT 1] ++ [nm] ++ [[62]] ++ l) w) := by
  have RA : (w.alloc (.cells #[.int .i64 1, .string (bs nm), .slice (some ⟨g, off, none⟩) l.length c, .int .i64 rn, .int .i64 rm, .string (bs rf), .string (bs rt), .string (bs rb), .string (bs ra), .string (bs ri), .int .i64 ln] 28)).drew.heap[w.heap.size]? = some (.cells #[.int .i64 1, .string (bs nm), .slice (some ⟨g, off, none⟩) l.length c, .int .i64 rn, .int .i64 rm, .string (bs rf), .string (bs rt), .string (bs rb), .string (bs ra), .string (bs ri), .int .i64 ln] 28 (0, 0)) := (heap_alloc_new _ _ : (w.alloc (.cells #[.int .i64 1, .string (bs nm), .slice (some ⟨g, off, none⟩) l.length c, .int .i64 rn, .int .i64 rm, .string (bs rf), .string (bs rt), .string (bs rb), .string (bs ra), .string (bs ri), .int .i64 ln] 28)).heap[w.heap.size]? = _)
  have HB : Below w.heap.size w (w.alloc (.cells #[.int .i64 1, .string (bs nm), .slice (some ⟨g, off, none⟩) l.length c, .int .i64 rn, .int .i64 rm, .string (bs rf), .string (bs rt), .string (bs rb), .string (bs ra), .string (bs ri), .int .i64 ln] 28)).drew := ((Below.refl _ _).alloc (Nat.le_refl _) _).drew
  obtain ⟨i0, hi, hz0, hz1, hz2⟩ := info_parts Tryz.infoString
  go_enter Tryz.func91, Tryz.ntmps91
  go_upto_region 1 with fail
  go_region_held3 (fun w' => w'.cell? ⟨w.heap.size, 0, none⟩ = some (.int .i64 1)) (first | exact row_q0 RA | exact row_q0 (row_alloc RA _) | assumption)
    (first
      | (go_at_call 137; refine (kindWords_any _).mono ?_; rintro e w1 ⟨t, rfl, ht, hst, hb1⟩; have HT := Lib.hid ht; clear ht; have RA := row_below RA hb1; have HB := below_then HB hb1 HB.size)
      | (go_at_call 136; refine (wordAt_any t 12 12 kindT 1 _ hst rfl (by decide) (by decide)).mono ?_; rintro e w2 ⟨rfl, rfl⟩))
  have L0 : LS w (w1.alloc (.cells #[.string (bs (wordP kindT 1))] 9)) #[.int .i64 1, .string (bs nm), .slice (some ⟨g, off, none⟩) l.length c, .int .i64 rn, .int .i64 rm, .string (bs rf), .string (bs rt), .string (bs rb), .string (bs ra), .string (bs ri), .int .i64 ln] (.slice (some ⟨w1.heap.size, 0, none⟩) 1 1) [wordP kindT 1] :=
    ⟨row_alloc RA _, own_new w1 _ [wordP kindT 1] (by have := (Array.getElem?_eq_some_iff.1 RA).1; omega) (by simp), HB.alloc HB.size _⟩
  generalize w1.alloc (.cells #[.string (bs (wordP kindT 1))] 9) = X0 at *
  generalize w1.heap.size = h1 at *
  clear HT hst hb1 RA HB
  obtain ⟨l0, hl0⟩ : ∃ q, q = [wordP kindT 1] := ⟨_, rfl⟩
  rw [← hl0] at L0
  have n0 : l0.length ≤ 1 := by rw [hl0]; simp
  have HL0 := Lib.hid hl0
  clear hl0
  have q1 := row_q1 L0.row; have q2 := row_q2 L0.row; have q3 := row_q3 L0.row; have q4 := row_q4 L0.row; have q5 := row_q5 L0.row; have q6 := row_q6 L0.row; have q7 := row_q7 L0.row; have q8 := row_q8 L0.row; have q9 := row_q9 L0.row
  go_upto_region 5 with (at_builtin; go_must (refine wpList_append_own _ rfl (.tmp 13) (.tmp 16) 26 rfl (w.heap.size + 1) 9 i0 _ 1 16 Tryz.underlying26 hi hz0 hz1 hz2 rfl (by decide) _ _ _ rfl (L0.own.alloc _) ⟨X0.heap.size, 0, none⟩ 1 1 (scells [nm]) rfl rfl (cells_new _ (scells [nm]) _) (scells_one _) (by unfold maxLen; omega) (by omega) (by have := L0.size; (try simp); omega) ?_); intro v1 X1 hown1 hg1 _)
  have L1 := L0.app (World.grownBy_alloc _ _ none) hg1 hown1
  clear q1 q2 q3 q4 q5 q6 q7 q8 q9
  obtain ⟨l1, hl1⟩ : ∃ q, q = l0 ++ [nm] := ⟨_, rfl⟩
  rw [← hl1] at L1
  have n1 : l1.length ≤ 6 := by rw [hl1]; simp; omega
  have HL1 := Lib.hid hl1
  clear hl1
  obtain ⟨A1, c1, rfl⟩ := own_slice L1.own
  have q1 := row_q1 L1.row; have q2 := row_q2 L1.row; have q3 := row_q3 L1.row; have q4 := row_q4 L1.row; have q5 := row_q5 L1.row; have q6 := row_q6 L1.row; have q7 := row_q7 L1.row; have q8 := row_q8 L1.row; have q9 := row_q9 L1.row
  go_upto_region 6 with fail
  clear q1 q2 q3 q4 q5 q6 q7 q8 q9
  have q1 := row_q1 L1.row; have q2 := row_q2 L1.row; have q3 := row_q3 L1.row; have q4 := row_q4 L1.row; have q5 := row_q5 L1.row; have q6 := row_q6 L1.row; have q7 := row_q7 L1.row; have q8 := row_q8 L1.row; have q9 := row_q9 L1.row
  go_upto_region 7 with (at_builtin; go_must (refine wpList_append_own _ rfl (.tmp 22) (.tmp 23) 26 rfl (w.heap.size + 1) 9 i0 _ 1 16 Tryz.underlying26 hi hz0 hz1 hz2 rfl (by decide) _ _ _ rfl (L1.own.alloc _) ⟨X1.heap.size, 0, none⟩ 1 1 (scells [[62]]) rfl rfl (cells_new _ (scells [[62]]) _) (scells_one _) (by unfold maxLen; omega) (by omega) (by have := L1.size; (try simp); omega) ?_); intro v3 X3 hown3 hg3 _)
  have L3 := L1.app (World.grownBy_alloc _ _ none) hg3 hown3
  clear q1 q2 q3 q4 q5 q6 q7 q8 q9
  obtain ⟨l3, hl3⟩ : ∃ q, q = l1 ++ [[62]] := ⟨_, rfl⟩
  rw [← hl3] at L3
  have n3 : l3.length ≤ 11 := by rw [hl3]; simp; omega
  have HL3 := Lib.hid hl3
  clear hl3
  obtain ⟨A3, c3, rfl⟩ := own_slice L3.own
  have q1 := row_q1 L3.row; have q2 := row_q2 L3.row; have q3 := row_q3 L3.row; have q4 := row_q4 L3.row; have q5 := row_q5 L3.row; have q6 := row_q6 L3.row; have q7 := row_q7 L3.row; have q8 := row_q8 L3.row; have q9 := row_q9 L3.row
  have HSRC4 : ∀ j u, (scells l)[j]? = some u → X3.cell? ((⟨g, off, none⟩ : Addr).add j) = some u := src_cells hgl L3.low hls
  go_wp2_with (at_builtin; go_must (refine wpList_append_own _ rfl (.tmp 25) (.tmp 27) 26 rfl (w.heap.size + 1) 9 i0 _ 1 16 Tryz.underlying26 hi hz0 hz1 hz2 rfl (by decide) _ _ _ rfl L3.own ⟨g, off, none⟩ l.length c (scells l) rfl (by simp [scells]) HSRC4 (scells_one _) (by unfold maxLen; omega) (by omega) (by have := L3.size; (try simp); omega) ?_); intro v4 X4 hown4 hg4 _)
  have L4 := L3.app (World.grownBy.refl _ _) hg4 hown4
  clear q1 q2 q3 q4 q5 q6 q7 q8 q9
  go_ret
  exact lineTo_mk (by rw [HL3.out, HL1.out, HL0.out]; try simp) L4

set_option maxHeartbeats 4000000 in
theorem lw_on00 (nm rf rt rb ra ri : Tx) (rn rm ln : Int) {A : Option Addr} {na ca : Nat} (w : World) (h_rb : Hid (rb = [])) (h_ra : Hid (ra = [])) :
    Calls Tryz.prog 91 #[.agg #[.int .i64 9, .string (bs nm), .slice A na ca, .int .i64 rn, .int .i64 rm, .string (bs rf), .string (bs rt), .string (bs rb), .string (bs ra), .string (bs ri), .int .i64 ln]] w (LineTo ([wordP kindT 9] ++ [nm, [102, 114, 111, 109], rf, [116, 111], rt]) w) := by
  have RA : (w.alloc (.cells #[.int .i64 9, .string (bs nm), .slice A na ca, .int .i64 rn, .int .i64 rm, .string (bs rf), .string (bs rt), .string (bs rb), .string (bs ra), .string (bs ri), .int .i64 ln] 28)).drew.heap[w.heap.size]? = some (.cells #[.int .i64 9, .string (bs nm), .slice A na ca, .int .i64 rn, .int .i64 rm, .string (bs rf), .string (bs rt), .string (bs rb), .string (bs ra), .string (bs ri), .int .i64 ln] 28 (0, 0)) := (heap_alloc_new _ _ : (w.alloc (.cells #[.int .i64 9, .string (bs nm), .slice A na ca, .int .i64 rn, .int .i64 rm, .string (bs rf), .string (bs rt), .string (bs rb), .string (bs ra), .string (bs ri), .int .i64 ln] 28)).heap[w.heap.size]? = _)
  have HB : Below w.heap.size w (w.alloc (.cells #[.int .i64 9, .string (bs nm), .slice A na ca, .int .i64 rn, .int .i64 rm, .string (bs rf), .string (bs rt), .string (bs rb), .string (bs ra), .string (bs ri), .int .i64 ln] 28)).drew := ((Below.refl _ _).alloc (Nat.le_refl _) _).drew
  obtain ⟨i0, hi, hz0, hz1, hz2⟩ := info_parts Tryz.infoString
  go_enter Tryz.func91, Tryz.ntmps91
  go_upto_region 1 with fail
  go_region_held3 (fun w' => w'.cell? ⟨w.heap.size, 0, none⟩ = some (.int .i64 9)) (first | exact row_q0 RA | exact row_q0 (row_alloc RA _) | assumption)
    (first
      | (go_at_call 137; refine (kindWords_any _).mono ?_; rintro e w1 ⟨t, rfl, ht, hst, hb1⟩; have HT := Lib.hid ht; clear ht; have RA := row_below RA hb1; have HB := below_then HB hb1 HB.size)
      | (go_at_call 136; refine (wordAt_any t 12 12 kindT 9 _ hst rfl (by decide) (by decide)).mono ?_; rintro e w2 ⟨rfl, rfl⟩))
  have L0 : LS w (w1.alloc (.cells #[.string (bs (wordP kindT 9))] 9)) #[.int .i64 9, .string (bs nm), .slice A na ca, .int .i64 rn, .int .i64 rm, .string (bs rf), .string (bs rt), .string (bs rb), .string (bs ra), .string (bs ri), .int .i64 ln] (.slice (some ⟨w1.heap.size, 0, none⟩) 1 1) [wordP kindT 9] :=
    ⟨row_alloc RA _, own_new w1 _ [wordP kindT 9] (by have := (Array.getElem?_eq_some_iff.1 RA).1; omega) (by simp), HB.alloc HB.size _⟩
  generalize w1.alloc (.cells #[.string (bs (wordP kindT 9))] 9) = X0 at *
  generalize w1.heap.size = h1 at *
  clear HT hst hb1 RA HB
  obtain ⟨l0, hl0⟩ : ∃ q, q = [wordP kindT 9] := ⟨_, rfl⟩
  rw [← hl0] at L0
  have n0 : l0.length ≤ 1 := by rw [hl0]; simp
  have HL0 := Lib.hid hl0
  clear hl0
  have q1 := row_q1 L0.row; have q2 := row_q2 L0.row; have q3 := row_q3 L0.row; have q4 := row_q4 L0.row; have q5 := row_q5 L0.row; have q6 := row_q6 L0.row; have q7 := row_q7 L0.row; have q8 := row_q8 L0.row; have q9 := row_q9 L0.row
  go_upto_region 25 with (at_builtin; go_must (refine wpList_append_own _ rfl (.tmp 91) (.tmp 98) 26 rfl (w.heap.size + 1) 9 i0 _ 1 16 Tryz.underlying26 hi hz0 hz1 hz2 rfl (by decide) _ _ _ rfl (L0.own.alloc _) ⟨X0.heap.size, 0, none⟩ 5 5 (scells [nm, [102, 114, 111, 109], rf, [116, 111], rt]) rfl rfl (cells_new _ (scells [nm, [102, 114, 111, 109], rf, [116, 111], rt]) _) (scells_one _) (by unfold maxLen; omega) (by omega) (by have := L0.size; (try simp); omega) ?_); intro v1 X1 hown1 hg1 _)
  have L1 := L0.app (World.grownBy_alloc _ _ none) hg1 hown1
  clear q1 q2 q3 q4 q5 q6 q7 q8 q9
  obtain ⟨l1, hl1⟩ : ∃ q, q = l0 ++ [nm, [102, 114, 111, 109], rf, [116, 111], rt] := ⟨_, rfl⟩
  rw [← hl1] at L1
  have n1 : l1.length ≤ 6 := by rw [hl1]; simp; omega
  have HL1 := Lib.hid hl1
  clear hl1
  obtain ⟨A1, c1, rfl⟩ := own_slice L1.own
  have q1 := row_q1 L1.row; have q2 := row_q2 L1.row; have q3 := row_q3 L1.row; have q4 := row_q4 L1.row; have q5 := row_q5 L1.row; have q6 := row_q6 L1.row; have q7 := row_q7 L1.row; have q8 := row_q8 L1.row; have q9 := row_q9 L1.row
  go_upto_region 26 with (first | (go_at_call 140; refine (optionW_nil [98, 121] rb _ h_rb.out).mono ?_; rintro e wo ⟨rfl, rfl⟩) | (at_builtin; go_must (refine wpList_append_own_none rfl (.tmp 100) (.tmp 103) 26 rfl (w.heap.size + 1) 9 i0 1 Tryz.underlying26 hi _ _ _ rfl L1.own rfl ?_)))
  clear q1 q2 q3 q4 q5 q6 q7 q8 q9


  have q1 := row_q1 L1.row; have q2 := row_q2 L1.row; have q3 := row_q3 L1.row; have q4 := row_q4 L1.row; have q5 := row_q5 L1.row; have q6 := row_q6 L1.row; have q7 := row_q7 L1.row; have q8 := row_q8 L1.row; have q9 := row_q9 L1.row
  go_wp2_with (first | (go_at_call 140; refine (optionW_nil [116, 97, 115, 107] ra _ h_ra.out).mono ?_; rintro e wo ⟨rfl, rfl⟩) | (at_builtin; go_must (refine wpList_append_own_none rfl (.tmp 105) (.tmp 108) 26 rfl (w.heap.size + 1) 9 i0 1 Tryz.underlying26 hi _ _ _ rfl L1.own rfl ?_)))
  clear q1 q2 q3 q4 q5 q6 q7 q8 q9
  go_ret
  exact lineTo_mk (by rw [HL1.out, HL0.out]; try simp) L1

set_option maxHeartbeats 4000000 in
theorem lw_on01 (nm rf rt rb ra ri : Tx) (rn rm ln : Int) {A : Option Addr} {na ca : Nat} (w : World) (h_rb : Hid (rb = [])) (h_ra : Hid (ra ≠ [])) :
    Calls Tryz.prog 91 #[.agg #[.int .i64 9, .string (bs nm), .slice A na ca, .int .i64 rn, .int .i64 rm, .string (bs rf), .string (bs rt), .string (bs rb), .string (bs ra), .string (bs ri), .int .i64 ln]] w (LineTo ([wordP kindT 9] ++ [nm, [102, 114, 111, 109], rf, [116, 111], rt] ++ [[116, 97, 115, 107], ra]) w) := by
  have RA : (w.alloc (.cells #[.int .i64 9, .string (bs nm), .slice A na ca, .int .i64 rn, .int .i64 rm, .string (bs rf), .string (bs rt), .string (bs rb), .string (bs ra), .string (bs ri), .int .i64 ln] 28)).drew.heap[w.heap.size]? = some (.cells #[.int .i64 9, .string (bs nm), .slice A na ca, .int .i64 rn, .int .i64 rm, .string (bs rf), .string (bs rt), .string (bs rb), .string (bs ra), .string (bs ri), .int .i64 ln] 28 (0, 0)) := (heap_alloc_new _ _ : (w.alloc (.cells #[.int .i64 9, .string (bs nm), .slice A na ca, .int .i64 rn, .int .i64 rm, .string (bs rf), .string (bs rt), .string (bs rb), .string (bs ra), .string (bs ri), .int .i64 ln] 28)).heap[w.heap.size]? = _)
  have HB : Below w.heap.size w (w.alloc (.cells #[.int .i64 9, .string (bs nm), .slice A na ca, .int .i64 rn, .int .i64 rm, .string (bs rf), .string (bs rt), .string (bs rb), .string (bs ra), .string (bs ri), .int .i64 ln] 28)).drew := ((Below.refl _ _).alloc (Nat.le_refl _) _).drew
  obtain ⟨i0, hi, hz0, hz1, hz2⟩ := info_parts Tryz.infoString
  go_enter Tryz.func91, Tryz.ntmps91
  go_upto_region 1 with fail
  go_region_held3 (fun w' => w'.cell? ⟨w.heap.size, 0, none⟩ = some (.int .i64 9)) (first | exact row_q0 RA | exact row_q0 (row_alloc RA _) | assumption)
    (first
      | (go_at_call 137; refine (kindWords_any _).mono ?_; rintro e w1 ⟨t, rfl, ht, hst, hb1⟩; have HT := Lib.hid ht; clear ht; have RA := row_below RA hb1; have HB := below_then HB hb1 HB.size)
      | (go_at_call 136; refine (wordAt_any t 12 12 kindT 9 _ hst rfl (by decide) (by decide)).mono ?_; rintro e w2 ⟨rfl, rfl⟩))
  have L0 : LS w (w1.alloc (.cells #[.string (bs (wordP kindT 9))] 9)) #[.int .i64 9, .string (bs nm), .slice A na ca, .int .i64 rn, .int .i64 rm, .string (bs rf), .string (bs rt), .string (bs rb), .string (bs ra), .string (bs ri), .int .i64 ln] (.slice (some ⟨w1.heap.size, 0, none⟩) 1 1) [wordP kindT 9] :=
    ⟨row_alloc RA _, own_new w1 _ [wordP kindT 9] (by have := (Array.getElem?_eq_some_iff.1 RA).1; omega) (by simp), HB.alloc HB.size _⟩
  generalize w1.alloc (.cells #[.string (bs (wordP kindT 9))] 9) = X0 at *
  generalize w1.heap.size = h1 at *
  clear HT hst hb1 RA HB
  obtain ⟨l0, hl0⟩ : ∃ q, q = [wordP kindT 9] := ⟨_, rfl⟩
  rw [← hl0] at L0
  have n0 : l0.length ≤ 1 := by rw [hl0]; simp
  have HL0 := Lib.hid hl0
  clear hl0
  have q1 := row_q1 L0.row; have q2 := row_q2 L0.row; have q3 := row_q3 L0.row; have q4 := row_q4 L0.row; have q5 := row_q5 L0.row; have q6 := row_q6 L0.row; have q7 := row_q7 L0.row; have q8 := row_q8 L0.row; have q9 := row_q9 L0.row
  go_upto_region 25 with (at_builtin; go_must (refine wpList_append_own _ rfl (.tmp 91) (.tmp 98) 26 rfl (w.heap.size + 1) 9 i0 _ 1 16 Tryz.underlying26 hi hz0 hz1 hz2 rfl (by decide) _ _ _ rfl (L0.own.alloc _) ⟨X0.heap.size, 0, none⟩ 5 5 (scells [nm, [102, 114, 111, 109], rf, [116, 111], rt]) rfl rfl (cells_new _ (scells [nm, [102, 114, 111, 109], rf, [116, 111], rt]) _) (scells_one _) (by unfold maxLen; omega) (by omega) (by have := L0.size; (try simp); omega) ?_); intro v1 X1 hown1 hg1 _)
  have L1 := L0.app (World.grownBy_alloc _ _ none) hg1 hown1
  clear q1 q2 q3 q4 q5 q6 q7 q8 q9
  obtain ⟨l1, hl1⟩ : ∃ q, q = l0 ++ [nm, [102, 114, 111, 109], rf, [116, 111], rt] := ⟨_, rfl⟩
  rw [← hl1] at L1
  have n1 : l1.length ≤ 6 := by rw [hl1]; simp; omega
  have HL1 := Lib.hid hl1
  clear hl1
  obtain ⟨A1, c1, rfl⟩ := own_slice L1.own
  have q1 := row_q1 L1.row; have q2 := row_q2 L1.row; have q3 := row_q3 L1.row; have q4 := row_q4 L1.row; have q5 := row_q5 L1.row; have q6 := row_q6 L1.row; have q7 := row_q7 L1.row; have q8 := row_q8 L1.row; have q9 := row_q9 L1.row
  go_upto_region 26 with (first | (go_at_call 140; refine (optionW_nil [98, 121] rb _ h_rb.out).mono ?_; rintro e wo ⟨rfl, rfl⟩) | (at_builtin; go_must (refine wpList_append_own_none rfl (.tmp 100) (.tmp 103) 26 rfl (w.heap.size + 1) 9 i0 1 Tryz.underlying26 hi _ _ _ rfl L1.own rfl ?_)))
  clear q1 q2 q3 q4 q5 q6 q7 q8 q9


  have q1 := row_q1 L1.row; have q2 := row_q2 L1.row; have q3 := row_q3 L1.row; have q4 := row_q4 L1.row; have q5 := row_q5 L1.row; have q6 := row_q6 L1.row; have q7 := row_q7 L1.row; have q8 := row_q8 L1.row; have q9 := row_q9 L1.row
  go_wp2_with (first | (go_at_call 140; refine (optionW_some [116, 97, 115, 107] ra _ h_ra.out).mono ?_; rintro e wo ⟨rfl, rfl⟩) | (at_builtin; go_must (refine wpList_append_own _ rfl (.tmp 105) (.tmp 108) 26 rfl (w.heap.size + 1) 9 i0 _ 1 16 Tryz.underlying26 hi hz0 hz1 hz2 rfl (by decide) _ _ _ rfl (L1.own.alloc _) ⟨X1.heap.size, 0, none⟩ 2 2 (scells [[116, 97, 115, 107], ra]) rfl rfl (cells_new _ (scells [[116, 97, 115, 107], ra]) _) (scells_one _) (by unfold maxLen; omega) (by omega) (by have := L1.size; (try simp); omega) ?_); intro v3 X3 hown3 hg3 _))
  have L3 := L1.app (World.grownBy_alloc _ _ none) hg3 hown3
  clear q1 q2 q3 q4 q5 q6 q7 q8 q9
  go_ret
  exact lineTo_mk (by rw [HL1.out, HL0.out]; try simp) L3

set_option maxHeartbeats 4000000 in
theorem lw_on10 (nm rf rt rb ra ri : Tx) (rn rm ln : Int) {A : Option Addr} {na ca : Nat} (w : World) (h_rb : Hid (rb ≠ [])) (h_ra : Hid (ra = [])) :
    Calls Tryz.prog 91 #[.agg #[.int .i64 9, .string (bs nm), .slice A na ca, .int .i64 rn, .int .i64 rm, .string (bs rf), .string (bs rt), .string (bs rb), .string (bs ra), .string (bs ri), .int .i64 ln]] w (LineTo ([wordP kindT 9] ++ [nm, [102, 114, 111, 109], rf, [116, 111], rt] ++ [[98, 121], rb]) w) := by
  have RA : (w.alloc (.cells #[.int .i64 9, .string (bs nm), .slice A na ca, .int .i64 rn, .int .i64 rm, .string (bs rf), .string (bs rt), .string (bs rb), .string (bs ra), .string (bs ri), .int .i64 ln] 28)).drew.heap[w.heap.size]? = some (.cells #[.int .i64 9, .string (bs nm), .slice A na ca, .int .i64 rn, .int .i64 rm, .string (bs rf), .string (bs rt), .string (bs rb), .string (bs ra), .string (bs ri), .int .i64 ln] 28 (0, 0)) := (heap_alloc_new _ _ : (w.alloc (.cells #[.int .i64 9, .string (bs nm), .slice A na ca, .int .i64 rn, .int .i64 rm, .string (bs rf), .string (bs rt), .string (bs rb), .string (bs ra), .string (bs ri), .int .i64 ln] 28)).heap[w.heap.size]? = _)
  have HB : Below w.heap.size w (w.alloc (.cells #[.int .i64 9, .string (bs nm), .slice A na ca, .int .i64 rn, .int .i64 rm, .string (bs rf), .string (bs rt), .string (bs rb), .string (bs ra), .string (bs ri), .int .i64 ln] 28)).drew := ((Below.refl _ _).alloc (Nat.le_refl _) _).drew
  obtain ⟨i0, hi, hz0, hz1, hz2⟩ := info_parts Tryz.infoString
  go_enter Tryz.func91, Tryz.ntmps91
  go_upto_region 1 with fail
  go_region_held3 (fun w' => w'.cell? ⟨w.heap.size, 0, none⟩ = some (.int .i64 9)) (first | exact row_q0 RA | exact row_q0 (row_alloc RA _) | assumption)
    (first
      | (go_at_call 137; refine (kindWords_any _).mono ?_; rintro e w1 ⟨t, rfl, ht, hst, hb1⟩; have HT := Lib.hid ht; clear ht; have RA := row_below RA hb1; have HB := below_then HB hb1 HB.size)
      | (go_at_call 136; refine (wordAt_any t 12 12 kindT 9 _ hst rfl (by decide) (by decide)).mono ?_; rintro e w2 ⟨rfl, rfl⟩))
  have L0 : LS w (w1.alloc (.cells #[.string (bs (wordP kindT 9))] 9)) #[.int .i64 9, .string (bs nm), .slice A na ca, .int .i64 rn, .int .i64 rm, .string (bs rf), .string (bs rt), .string (bs rb), .string (bs ra), .string (bs ri), .int .i64 ln] (.slice (some ⟨w1.heap.size, 0, none⟩) 1 1) [wordP kindT 9] :=
    ⟨row_alloc RA _, own_new w1 _ [wordP kindT 9] (by have := (Array.getElem?_eq_some_iff.1 RA).1; omega) (by simp), HB.alloc HB.size _⟩
  generalize w1.alloc (.cells #[.string (bs (wordP kindT 9))] 9) = X0 at *
  generalize w1.heap.size = h1 at *
  clear HT hst hb1 RA HB
  obtain ⟨l0, hl0⟩ : ∃ q, q = [wordP kindT 9] := ⟨_, rfl⟩
  rw [← hl0] at L0
  have n0 : l0.length ≤ 1 := by rw [hl0]; simp
  have HL0 := Lib.hid hl0
  clear hl0
  have q1 := row_q1 L0.row; have q2 := row_q2 L0.row; have q3 := row_q3 L0.row; have q4 := row_q4 L0.row; have q5 := row_q5 L0.row; have q6 := row_q6 L0.row; have q7 := row_q7 L0.row; have q8 := row_q8 L0.row; have q9 := row_q9 L0.row
  go_upto_region 25 with (at_builtin; go_must (refine wpList_append_own _ rfl (.tmp 91) (.tmp 98) 26 rfl (w.heap.size + 1) 9 i0 _ 1 16 Tryz.underlying26 hi hz0 hz1 hz2 rfl (by decide) _ _ _ rfl (L0.own.alloc _) ⟨X0.heap.size, 0, none⟩ 5 5 (scells [nm, [102, 114, 111, 109], rf, [116, 111], rt]) rfl rfl (cells_new _ (scells [nm, [102, 114, 111, 109], rf, [116, 111], rt]) _) (scells_one _) (by unfold maxLen; omega) (by omega) (by have := L0.size; (try simp); omega) ?_); intro v1 X1 hown1 hg1 _)
  have L1 := L0.app (World.grownBy_alloc _ _ none) hg1 hown1
  clear q1 q2 q3 q4 q5 q6 q7 q8 q9
  obtain ⟨l1, hl1⟩ : ∃ q, q = l0 ++ [nm, [102, 114, 111, 109], rf, [116, 111], rt] := ⟨_, rfl⟩
  rw [← hl1] at L1
  have n1 : l1.length ≤ 6 := by rw [hl1]; simp; omega
  have HL1 := Lib.hid hl1
  clear hl1
  obtain ⟨A1, c1, rfl⟩ := own_slice L1.own
  have q1 := row_q1 L1.row; have q2 := row_q2 L1.row; have q3 := row_q3 L1.row; have q4 := row_q4 L1.row; have q5 := row_q5 L1.row; have q6 := row_q6 L1.row; have q7 := row_q7 L1.row; have q8 := row_q8 L1.row; have q9 := row_q9 L1.row
  go_upto_region 26 with (first | (go_at_call 140; refine (optionW_some [98, 121] rb _ h_rb.out).mono ?_; rintro e wo ⟨rfl, rfl⟩) | (at_builtin; go_must (refine wpList_append_own _ rfl (.tmp 100) (.tmp 103) 26 rfl (w.heap.size + 1) 9 i0 _ 1 16 Tryz.underlying26 hi hz0 hz1 hz2 rfl (by decide) _ _ _ rfl (L1.own.alloc _) ⟨X1.heap.size, 0, none⟩ 2 2 (scells [[98, 121], rb]) rfl rfl (cells_new _ (scells [[98, 121], rb]) _) (scells_one _) (by unfold maxLen; omega) (by omega) (by have := L1.size; (try simp); omega) ?_); intro v2 X2 hown2 hg2 _))
  have L2 := L1.app (World.grownBy_alloc _ _ none) hg2 hown2
  clear q1 q2 q3 q4 q5 q6 q7 q8 q9
  obtain ⟨l2, hl2⟩ : ∃ q, q = l1 ++ [[98, 121], rb] := ⟨_, rfl⟩
  rw [← hl2] at L2
  have n2 : l2.length ≤ 11 := by rw [hl2]; simp; omega
  have HL2 := Lib.hid hl2
  clear hl2
  obtain ⟨A2, c2, rfl⟩ := own_slice L2.own
  have q1 := row_q1 L2.row; have q2 := row_q2 L2.row; have q3 := row_q3 L2.row; have q4 := row_q4 L2.row; have q5 := row_q5 L2.row; have q6 := row_q6 L2.row; have q7 := row_q7 L2.row; have q8 := row_q8 L2.row; have q9 := row_q9 L2.row
  go_wp2_with (first | (go_at_call 140; refine (optionW_nil [116, 97, 115, 107] ra _ h_ra.out).mono ?_; rintro e wo ⟨rfl, rfl⟩) | (at_builtin; go_must (refine wpList_append_own_none rfl (.tmp 105) (.tmp 108) 26 rfl (w.heap.size + 1) 9 i0 1 Tryz.underlying26 hi _ _ _ rfl L2.own rfl ?_)))
  clear q1 q2 q3 q4 q5 q6 q7 q8 q9
  go_ret
  exact lineTo_mk (by rw [HL2.out, HL1.out, HL0.out]; try simp) L2

set_option maxHeartbeats 4000000 in
theorem lw_on11 (nm rf rt rb ra ri : Tx) (rn rm ln : Int) {A : Option Addr} {na ca : Nat} (w : World) (h_rb : Hid (rb ≠ [])) (h_ra : Hid (ra ≠ [])) :
    Calls Tryz.prog 91 #[.agg #[.int .i64 9, .string (bs nm), .slice A na ca, .int .i64 rn, .int .i64 rm, .string (bs rf), .string (bs rt), .string (bs rb), .string (bs ra), .string (bs ri), .int .i64 ln]] w (LineTo ([wordP kindT 9] ++ [nm, [102, 114, 111, 109], rf, [116, 111], rt] ++ [[98, 121], rb] ++ [[116, 97, 115, 107], ra]) w) := by
  have RA : (w.alloc (.cells #[.int .i64 9, .string (bs nm), .slice A na ca, .int .i64 rn, .int .i64 rm, .string (bs rf), .string (bs rt), .string (bs rb), .string (bs ra), .string (bs ri), .int .i64 ln] 28)).drew.heap[w.heap.size]? = some (.cells #[.int .i64 9, .string (bs nm), .slice A na ca, .int .i64 rn, .int .i64 rm, .string (bs rf), .string (bs rt), .string (bs rb), .string (bs ra), .string (bs ri), .int .i64 ln] 28 (0, 0)) := (heap_alloc_new _ _ : (w.alloc (.cells #[.int .i64 9, .string (bs nm), .slice A na ca, .int .i64 rn, .int .i64 rm, .string (bs rf), .string (bs rt), .string (bs rb), .string (bs ra), .string (bs ri), .int .i64 ln] 28)).heap[w.heap.size]? = _)
  have HB : Below w.heap.size w (w.alloc (.cells #[.int .i64 9, .string (bs nm), .slice A na ca, .int .i64 rn, .int .i64 rm, .string (bs rf), .string (bs rt), .string (bs rb), .string (bs ra), .string (bs ri), .int .i64 ln] 28)).drew := ((Below.refl _ _).alloc (Nat.le_refl _) _).drew
  obtain ⟨i0, hi, hz0, hz1, hz2⟩ := info_parts Tryz.infoString
  go_enter Tryz.func91, Tryz.ntmps91
  go_upto_region 1 with fail
  go_region_held3 (fun w' => w'.cell? ⟨w.heap.size, 0, none⟩ = some (.int .i64 9)) (first | exact row_q0 RA | exact row_q0 (row_alloc RA _) | assumption)
    (first
      | (go_at_call 137; refine (kindWords_any _).mono ?_; rintro e w1 ⟨t, rfl, ht, hst, hb1⟩; have HT := Lib.hid ht; clear ht; have RA := row_below RA hb1; have HB := below_then HB hb1 HB.size)
      | (go_at_call 136; refine (wordAt_any t 12 12 kindT 9 _ hst rfl (by decide) (by decide)).mono ?_; rintro e w2 ⟨rfl, rfl⟩))
  have L0 : LS w (w1.alloc (.cells #[.string (bs (wordP kindT 9))] 9)) #[.int .i64 9, .string (bs nm), .slice A na ca, .int .i64 rn, .int .i64 rm, .string (bs rf), .string (bs rt), .string (bs rb), .string (bs ra), .string (bs ri), .int .i64 ln] (.slice (some ⟨w1.heap.size, 0, none⟩) 1 1) [wordP kindT 9] :=
    ⟨row_alloc RA _, own_new w1 _ [wordP kindT 9] (by have := (Array.getElem?_eq_some_iff.1 RA).1; omega) (by simp), HB.alloc HB.size _⟩
  generalize w1.alloc (.cells #[.string (bs (wordP kindT 9))] 9) = X0 at *
  generalize w1.heap.size = h1 at *
  clear HT hst hb1 RA HB
  obtain ⟨l0, hl0⟩ : ∃ q, q = [wordP kindT 9] := ⟨_, rfl⟩
  rw [← hl0] at L0
  have n0 : l0.length ≤ 1 := by rw [hl0]; simp
  have HL0 := Lib.hid hl0
  clear hl0
  have q1 := row_q1 L0.row; have q2 := row_q2 L0.row; have q3 := row_q3 L0.row; have q4 := row_q4 L0.row; have q5 := row_q5 L0.row; have q6 := row_q6 L0.row; have q7 := row_q7 L0.row; have q8 := row_q8 L0.row; have q9 := row_q9 L0.row
  go_upto_region 25 with (at_builtin; go_must (refine wpList_append_own _ rfl (.tmp 91) (.tmp 98) 26 rfl (w.heap.size + 1) 9 i0 _ 1 16 Tryz.underlying26 hi hz0 hz1 hz2 rfl (by decide) _ _ _ rfl (L0.own.alloc _) ⟨X0.heap.size, 0, none⟩ 5 5 (scells [nm, [102, 114, 111, 109], rf, [116, 111], rt]) rfl rfl (cells_new _ (scells [nm, [102, 114, 111, 109], rf, [116, 111], rt]) _) (scells_one _) (by unfold maxLen; omega) (by omega) (by have := L0.size; (try simp); omega) ?_); intro v1 X1 hown1 hg1 _)
  have L1 := L0.app (World.grownBy_alloc _ _ none) hg1 hown1
  clear q1 q2 q3 q4 q5 q6 q7 q8 q9
  obtain ⟨l1, hl1⟩ : ∃ q, q = l0 ++ [nm, [102, 114, 111, 109], rf, [116, 111], rt] := ⟨_, rfl⟩
  rw [← hl1] at L1
  have n1 : l1.length ≤ 6 := by rw [hl1]; simp; omega
  have HL1 := Lib.hid hl1
  clear hl1
  obtain ⟨A1, c1, rfl⟩ := own_slice L1.own
  have q1 := row_q1 L1.row; have q2 := row_q2 L1.row; have q3 := row_q3 L1.row; have q4 := row_q4 L1.row; have q5 := row_q5 L1.row; have q6 := row_q6 L1.row; have q7 := row_q7 L1.row; have q8 := row_q8 L1.row; have q9 := row_q9 L1.row
  go_upto_region 26 with (first | (go_at_call 140; refine (optionW_some [98, 121] rb _ h_rb.out).mono ?_; rintro e wo ⟨rfl, rfl⟩) | (at_builtin; go_must (refine wpList_append_own _ rfl (.tmp 100) (.tmp 103) 26 rfl (w.heap.size + 1) 9 i0 _ 1 16 Tryz.underlying26 hi hz0 hz1 hz2 rfl (by decide) _ _ _ rfl (L1.own.alloc _) ⟨X1.heap.size, 0, none⟩ 2 2 (scells [[98, 121], rb]) rfl rfl (cells_new _ (scells [[98, 121], rb]) _) (scells_one _) (by unfold maxLen; omega) (by omega) (by have := L1.size; (try simp); omega) ?_); intro v2 X2 hown2 hg2 _))
  have L2 := L1.app (World.grownBy_alloc _ _ none) hg2 hown2
  clear q1 q2 q3 q4 q5 q6 q7 q8 q9
  obtain ⟨l2, hl2⟩ : ∃ q, q = l1 ++ [[98, 121], rb] := ⟨_, rfl⟩
  rw [← hl2] at L2
  have n2 : l2.length ≤ 11 := by rw [hl2]; simp; omega
  have HL2 := Lib.hid hl2
  clear hl2
  obtain ⟨A2, c2, rfl⟩ := own_slice L2.own
  have q1 := row_q1 L2.row; have q2 := row_q2 L2.row; have q3 := row_q3 L2.row; have q4 := row_q4 L2.row; have q5 := row_q5 L2.row; have q6 := row_q6 L2.row; have q7 := row_q7 L2.row; have q8 := row_q8 L2.row; have q9 := row_q9 L2.row
  go_wp2_with (first | (go_at_call 140; refine (optionW_some [116, 97, 115, 107] ra _ h_ra.out).mono ?_; rintro e wo ⟨rfl, rfl⟩) | (at_builtin; go_must (refine wpList_append_own _ rfl (.tmp 105) (.tmp 108) 26 rfl (w.heap.size + 1) 9 i0 _ 1 16 Tryz.underlying26 hi hz0 hz1 hz2 rfl (by decide) _ _ _ rfl (L2.own.alloc _) ⟨X2.heap.size, 0, none⟩ 2 2 (scells [[116, 97, 115, 107], ra]) rfl rfl (cells_new _ (scells [[116, 97, 115, 107], ra]) _) (scells_one _) (by unfold maxLen; omega) (by omega) (by have := L2.size; (try simp); omega) ?_); intro v3 X3 hown3 hg3 _))
  have L3 := L2.app (World.grownBy_alloc _ _ none) hg3 hown3
  clear q1 q2 q3 q4 q5 q6 q7 q8 q9
  go_ret
  exact lineTo_mk (by rw [HL2.out, HL1.out, HL0.out]; try simp) L3

set_option maxHeartbeats 4000000 in
theorem lw_auto (nm rf rt rb ra ri : Tx) (rn rm ln : Int) {A : Option Addr} {na ca : Nat} (w : World) :
    Calls Tryz.prog 91 #[.agg #[.int .i64 10, .string (bs nm), .slice A na ca, .int .i64 rn, .int .i64 rm, .string (bs rf), .string (bs rt), .string (bs rb), .string (bs ra), .string (bs ri), .int .i64 ln]] w (LineTo ([wordP kindT 10] ++ [[102, 114, 111, 109], rf, [116, 111], rt]) w) := by
  have RA : (w.alloc (.cells #[.int .i64 10, .string (bs nm), .slice A na ca, .int .i64 rn, .int .i64 rm, .string (bs rf), .string (bs rt), .string (bs rb), .string (bs ra), .string (bs ri), .int .i64 ln] 28)).drew.heap[w.heap.size]? = some (.cells #[.int .i64 10, .string (bs nm), .slice A na ca, .int .i64 rn, .int .i64 rm, .string (bs rf), .string (bs rt), .string (bs rb), .string (bs ra), .string (bs ri), .int .i64 ln] 28 (0, 0)) := (heap_alloc_new _ _ : (w.alloc (.cells #[.int .i64 10, .string (bs nm), .slice A na ca, .int .i64 rn, .int .i64 rm, .string (bs rf), .string (bs rt), .string (bs rb), .string (bs ra), .string (bs ri), .int .i64 ln] 28)).heap[w.heap.size]? = _)
  have HB : Below w.heap.size w (w.alloc (.cells #[.int .i64 10, .string (bs nm), .slice A na ca, .int .i64 rn, .int .i64 rm, .string (bs rf), .string (bs rt), .string (bs rb), .string (bs ra), .string (bs ri), .int .i64 ln] 28)).drew := ((Below.refl _ _).alloc (Nat.le_refl _) _).drew
  obtain ⟨i0, hi, hz0, hz1, hz2⟩ := info_parts Tryz.infoString
  go_enter Tryz.func91, Tryz.ntmps91
  go_upto_region 1 with fail
  go_region_held3 (fun w' => w'.cell? ⟨w.heap.size, 0, none⟩ = some (.int .i64 10)) (first | exact row_q0 RA | exact row_q0 (row_alloc RA _) | assumption)
    (first
      | (go_at_call 137; refine (kindWords_any _).mono ?_; rintro e w1 ⟨t, rfl, ht, hst, hb1⟩; have HT := Lib.hid ht; clear ht; have RA := row_below RA hb1; have HB := below_then HB hb1 HB.size)
      | (go_at_call 136; refine (wordAt_any t 12 12 kindT 10 _ hst rfl (by decide) (by decide)).mono ?_; rintro e w2 ⟨rfl, rfl⟩))
  have L0 : LS w (w1.alloc (.cells #[.string (bs (wordP kindT 10))] 9)) #[.int .i64 10, .string (bs nm), .slice A na ca, .int .i64 rn, .int .i64 rm, .string (bs rf), .string (bs rt), .string (bs rb), .string (bs ra), .string (bs ri), .int .i64 ln] (.slice (some ⟨w1.heap.size, 0, none⟩) 1 1) [wordP kindT 10] :=
    ⟨row_alloc RA _, own_new w1 _ [wordP kindT 10] (by have := (Array.getElem?_eq_some_iff.1 RA).1; omega) (by simp), HB.alloc HB.size _⟩
  generalize w1.alloc (.cells #[.string (bs (wordP kindT 10))] 9) = X0 at *
  generalize w1.heap.size = h1 at *
  clear HT hst hb1 RA HB
  obtain ⟨l0, hl0⟩ : ∃ q, q = [wordP kindT 10] := ⟨_, rfl⟩
  rw [← hl0] at L0
  have n0 : l0.length ≤ 1 := by rw [hl0]; simp
  have HL0 := Lib.hid hl0
  clear hl0
  have q1 := row_q1 L0.row; have q2 := row_q2 L0.row; have q3 := row_q3 L0.row; have q4 := row_q4 L0.row; have q5 := row_q5 L0.row; have q6 := row_q6 L0.row; have q7 := row_q7 L0.row; have q8 := row_q8 L0.row; have q9 := row_q9 L0.row
  go_wp2_with (at_builtin; go_must (refine wpList_append_own _ rfl (.tmp 112) (.tmp 117) 26 rfl (w.heap.size + 1) 9 i0 _ 1 16 Tryz.underlying26 hi hz0 hz1 hz2 rfl (by decide) _ _ _ rfl (L0.own.alloc _) ⟨X0.heap.size, 0, none⟩ 4 4 (scells [[102, 114, 111, 109], rf, [116, 111], rt]) rfl rfl (cells_new _ (scells [[102, 114, 111, 109], rf, [116, 111], rt]) _) (scells_one _) (by unfold maxLen; omega) (by omega) (by have := L0.size; (try simp); omega) ?_); intro v1 X1 hown1 hg1 _)
  have L1 := L0.app (World.grownBy_alloc _ _ none) hg1 hown1
  clear q1 q2 q3 q4 q5 q6 q7 q8 q9
  go_ret
  exact lineTo_mk (by rw [HL0.out]; try simp) L1
end Go.Proofs.YtnnmjmjbfeoggaaGreatDoor
namespace Go.Proofs.YtnnmjmjbfeoggaaGreatDoor
set_option maxRecDepth 100000
open Go.ChangeShapes Go.WideShapes Go.ChangeAt Go.RowKit
set_option maxHeartbeats 4000000 in
theorem lw_ssd4N (nm rf rt rb ra ri : Tx) (rn rm ln : Int) (w : World) (it : Tx) (hit : ∀ W, Below w.heap.size w W → Calls Tryz.prog 138 #[.int .i64 rn] W fun e w' => e = .returned (.string (bs it)) ∧ Below W.heap.size W w') :
    Calls Tryz.prog 91 #[.agg #[.int .i64 4, .string (bs nm), .slice none 0 0, .int .i64 rn, .int .i64 rm, .string (bs rf), .string (bs rt), .string (bs rb), .string (bs ra), .string (bs ri), .int .i64 ln]] w (LineTo ([wordP kindT 4] ++ [it]) w) := by
  have RA : (w.alloc (.cells #[.int .i64 4, .string (bs nm), .slice none 0 0, .int .i64 rn, .int .i64 rm, .string (bs rf), .string (bs rt), .string (bs rb), .string (bs ra), .string (bs ri), .int .i64 ln] 28)).drew.heap[w.heap.size]? = some (.cells #[.int .i64 4, .string (bs nm), .slice none 0 0, .int .i64 rn, .int .i64 rm, .string (bs rf), .string (bs rt), .string (bs rb), .string (bs ra), .string (bs ri), .int .i64 ln] 28 (0, 0)) := (heap_alloc_new _ _ : (w.alloc (.cells #[.int .i64 4, .string (bs nm), .slice none 0 0, .int .i64 rn, .int .i64 rm, .string (bs rf), .string (bs rt), .string (bs rb), .string (bs ra), .string (bs ri), .int .i64 ln] 28)).heap[w.heap.size]? = _)
  have HB : Below w.heap.size w (w.alloc (.cells #[.int .i64 4, .string (bs nm), .slice none 0 0, .int .i64 rn, .int .i64 rm, .string (bs rf), .string (bs rt), .string (bs rb), .string (bs ra), .string (bs ri), .int .i64 ln] 28)).drew := ((Below.refl _ _).alloc (Nat.le_refl _) _).drew
  obtain ⟨i0, hi, hz0, hz1, hz2⟩ := info_parts Tryz.infoString
  go_enter Tryz.func91, Tryz.ntmps91
  go_upto_region 1 with fail
  go_region_held3 (fun w' => w'.cell? ⟨w.heap.size, 0, none⟩ = some (.int .i64 4)) (first | exact row_q0 RA | exact row_q0 (row_alloc RA _) | assumption)
    (first
      | (go_at_call 137; refine (kindWords_any _).mono ?_; rintro e w1 ⟨t, rfl, ht, hst, hb1⟩; have HT := Lib.hid ht; clear ht; have RA := row_below RA hb1; have HB := below_then HB hb1 HB.size)
      | (go_at_call 136; refine (wordAt_any t 12 12 kindT 4 _ hst rfl (by decide) (by decide)).mono ?_; rintro e w2 ⟨rfl, rfl⟩))
  have L0 : LS w (w1.alloc (.cells #[.string (bs (wordP kindT 4))] 9)) #[.int .i64 4, .string (bs nm), .slice none 0 0, .int .i64 rn, .int .i64 rm, .string (bs rf), .string (bs rt), .string (bs rb), .string (bs ra), .string (bs ri), .int .i64 ln] (.slice (some ⟨w1.heap.size, 0, none⟩) 1 1) [wordP kindT 4] :=
    ⟨row_alloc RA _, own_new w1 _ [wordP kindT 4] (by have := (Array.getElem?_eq_some_iff.1 RA).1; omega) (by simp), HB.alloc HB.size _⟩
  generalize w1.alloc (.cells #[.string (bs (wordP kindT 4))] 9) = X0 at *
  generalize w1.heap.size = h1 at *
  clear HT hst hb1 RA HB
  obtain ⟨l0, hl0⟩ : ∃ q, q = [wordP kindT 4] := ⟨_, rfl⟩
  rw [← hl0] at L0
  have n0 : l0.length ≤ 1 := by rw [hl0]; simp
  have HL0 := Lib.hid hl0
  clear hl0
  have q1 := row_q1 L0.row; have q2 := row_q2 L0.row; have q3 := row_q3 L0.row; have q4 := row_q4 L0.row; have q5 := row_q5 L0.row; have q6 := row_q6 L0.row; have q7 := row_q7 L0.row; have q8 := row_q8 L0.row; have q9 := row_q9 L0.row
  go_upto_region 15 with (first | (go_at_call 138; refine (hit _ L0.low).mono ?_; rintro e XI ⟨rfl, hbI⟩; have LI := L0.below hbI) | (at_builtin; go_must (refine wpList_append_own _ rfl (.tmp 44) (.tmp 48) 26 rfl (w.heap.size + 1) 9 i0 _ 1 16 Tryz.underlying26 hi hz0 hz1 hz2 rfl (by decide) _ _ _ rfl (LI.own.alloc _) ⟨XI.heap.size, 0, none⟩ 1 1 (scells [it]) rfl rfl (cells_new _ (scells [it]) _) (scells_one _) (by unfold maxLen; omega) (by omega) (by have := LI.size; (try simp); omega) ?_); intro v1 X1 hown1 hg1 _))
  have L1 := LI.app (World.grownBy_alloc _ _ none) hg1 hown1
  clear q1 q2 q3 q4 q5 q6 q7 q8 q9
  obtain ⟨l1, hl1⟩ : ∃ q, q = l0 ++ [it] := ⟨_, rfl⟩
  rw [← hl1] at L1
  have n1 : l1.length ≤ 6 := by rw [hl1]; simp; omega
  have HL1 := Lib.hid hl1
  clear hl1
  obtain ⟨A1, c1, rfl⟩ := own_slice L1.own
  have q1 := row_q1 L1.row; have q2 := row_q2 L1.row; have q3 := row_q3 L1.row; have q4 := row_q4 L1.row; have q5 := row_q5 L1.row; have q6 := row_q6 L1.row; have q7 := row_q7 L1.row; have q8 := row_q8 L1.row; have q9 := row_q9 L1.row
  go_wp2_with (at_builtin; go_must (refine wpList_append_own_none rfl (.tmp 50) (.tmp 52) 26 rfl (w.heap.size + 1) 9 i0 1 Tryz.underlying26 hi _ _ _ rfl L1.own rfl ?_))
  clear q1 q2 q3 q4 q5 q6 q7 q8 q9
  go_ret
  exact lineTo_mk (by rw [HL1.out, HL0.out]; try simp) L1

set_option maxHeartbeats 4000000 in
theorem lw_ssd4S (nm rf rt rb ra ri : Tx) (rn rm ln : Int) (g off c : Nat) (l : List Tx) (w : World) (hgl : g < w.heap.size) (hls : ∀ j (hj : j < l.length), w.cell? ⟨g, off + j, none⟩ = some (.string (bs l[j]))) (hll : l.length ≤ 1048576) (it : Tx) (hit : ∀ W, Below w.heap.size w W → Calls Tryz.prog 138 #[.int .i64 rn] W fun e w' => e = .returned (.string (bs it)) ∧ Below W.heap.size W w') :
    Calls Tryz.prog 91 #[.agg #[.int .i64 4, .string (bs nm), .slice (some ⟨g, off, none⟩) l.length c, .int .i64 rn, .int .i64 rm, .string (bs rf), .string (bs rt), .string (bs rb), .string (bs ra), .string (bs ri), .int .i64 ln]] w (LineTo ([wordP kindT 4] ++ [it] ++ l) w) := by
  have RA : (w.alloc (.cells #[.int .i64 4, .string (bs nm), .slice (some ⟨g, off, none⟩) l.length c, .int .i64 rn, .int .i64 rm, .string (bs rf), .string (bs rt), .string (bs rb), .string (bs ra), .string (bs ri), .int .i64 ln] 28)).drew.heap[w.heap.size]? = some (.cells #[.int .i64 4, .string (bs nm), .slice (some ⟨g, off, none⟩) l.length c, .int .i64 rn, .int .i64 rm, .string (bs rf), .string (bs rt), .string (bs rb), .string (bs ra), .string (bs ri), .int .i64 ln] 28 (0, 0)) := (heap_alloc_new _ _ : (w.alloc (.cells #[.int .i64 4, .string (bs nm), .slice (some ⟨g, off, none⟩) l.length c, .int .i64 rn, .int .i64 rm, .string (bs rf), .string (bs rt), .string (bs rb), .string (bs ra), .string (bs ri), .int .i64 ln] 28)).heap[w.heap.size]? = _)
  have HB : Below w.heap.size w (w.alloc (.cells #[.int .i64 4, .string (bs nm), .slice (some ⟨g, off, none⟩) l.length c, .int .i64 rn, .int .i64 rm, .string (bs rf), .string (bs rt), .string (bs rb), .string (bs ra), .string (bs ri), .int .i64 ln] 28)).drew := ((Below.refl _ _).alloc (Nat.le_refl _) _).drew
  obtain ⟨i0, hi, hz0, hz1, hz2⟩ := info_parts Tryz.infoString
  go_enter Tryz.func91, Tryz.ntmps91
  go_upto_region 1 with fail
  go_region_held3 (fun w' => w'.cell? ⟨w.heap.size, 0, none⟩ = some (.int .i64 4)) (first | exact row_q0 RA | exact row_q0 (row_alloc RA _) | assumption)
    (first
      | (go_at_call 137; refine (kindWords_any _).mono ?_; rintro e w1 ⟨t, rfl, ht, hst, hb1⟩; have HT := Lib.hid ht; clear ht; have RA := row_below RA hb1; have HB := below_then HB hb1 HB.size)
      | (go_at_call 136; refine (wordAt_any t 12 12 kindT 4 _ hst rfl (by decide) (by decide)).mono ?_; rintro e w2 ⟨rfl, rfl⟩))
  have L0 : LS w (w1.alloc (.cells #[.string (bs (wordP kindT 4))] 9)) #[.int .i64 4, .string (bs nm), .slice (some ⟨g, off, none⟩) l.length c, .int .i64 rn, .int .i64 rm, .string (bs rf), .string (bs rt), .string (bs rb), .string (bs ra), .string (bs ri), .int .i64 ln] (.slice (some ⟨w1.heap.size, 0, none⟩) 1 1) [wordP kindT 4] :=
    ⟨row_alloc RA _, own_new w1 _ [wordP kindT 4] (by have := (Array.getElem?_eq_some_iff.1 RA).1; omega) (by simp), HB.alloc HB.size _⟩
  generalize w1.alloc (.cells #[.string (bs (wordP kindT 4))] 9) = X0 at *
  generalize w1.heap.size = h1 at *
  clear HT hst hb1 RA HB
  obtain ⟨l0, hl0⟩ : ∃ q, q = [wordP kindT 4] := ⟨_, rfl⟩
  rw [← hl0] at L0
  have n0 : l0.length ≤ 1 := by rw [hl0]; simp
  have HL0 := Lib.hid hl0
  clear hl0
  have q1 := row_q1 L0.row; have q2 := row_q2 L0.row; have q3 := row_q3 L0.row; have q4 := row_q4 L0.row; have q5 := row_q5 L0.row; have q6 := row_q6 L0.row; have q7 := row_q7 L0.row; have q8 := row_q8 L0.row; have q9 := row_q9 L0.row
  go_upto_region 15 with (first | (go_at_call 138; refine (hit _ L0.low).mono ?_; rintro e XI ⟨rfl, hbI⟩; have LI := L0.below hbI) | (at_builtin; go_must (refine wpList_append_own _ rfl (.tmp 44) (.tmp 48) 26 rfl (w.heap.size + 1) 9 i0 _ 1 16 Tryz.underlying26 hi hz0 hz1 hz2 rfl (by decide) _ _ _ rfl (LI.own.alloc _) ⟨XI.heap.size, 0, none⟩ 1 1 (scells [it]) rfl rfl (cells_new _ (scells [it]) _) (scells_one _) (by unfold maxLen; omega) (by omega) (by have := LI.size; (try simp); omega) ?_); intro v1 X1 hown1 hg1 _))
  have L1 := LI.app (World.grownBy_alloc _ _ none) hg1 hown1
  clear q1 q2 q3 q4 q5 q6 q7 q8 q9
  obtain ⟨l1, hl1⟩ : ∃ q, q = l0 ++ [it] := ⟨_, rfl⟩
  rw [← hl1] at L1
  have n1 : l1.length ≤ 6 := by rw [hl1]; simp; omega
  have HL1 := Lib.hid hl1
  clear hl1
  obtain ⟨A1, c1, rfl⟩ := own_slice L1.own
  have q1 := row_q1 L1.row; have q2 := row_q2 L1.row; have q3 := row_q3 L1.row; have q4 := row_q4 L1.row; have q5 := row_q5 L1.row; have q6 := row_q6 L1.row; have q7 := row_q7 L1.row; have q8 := row_q8 L1.row; have q9 := row_q9 L1.row
  have HSRC2 : ∀ j u, (scells l)[j]? = some u → X1.cell? ((⟨g, off, none⟩ : Addr).add j) = some u := src_cells hgl L1.low hls
  go_wp2_with (at_builtin; go_must (refine wpList_append_own _ rfl (.tmp 50) (.tmp 52) 26 rfl (w.heap.size + 1) 9 i0 _ 1 16 Tryz.underlying26 hi hz0 hz1 hz2 rfl (by decide) _ _ _ rfl L1.own ⟨g, off, none⟩ l.length c (scells l) rfl (by simp [scells]) HSRC2 (scells_one _) (by unfold maxLen; omega) (by omega) (by have := L1.size; (try simp); omega) ?_); intro v2 X2 hown2 hg2 _)
  have L2 := L1.app (World.grownBy.refl _ _) hg2 hown2
  clear q1 q2 q3 q4 q5 q6 q7 q8 q9
  go_ret
  exact lineTo_mk (by rw [HL1.out, HL0.out]; try simp) L2

set_option maxHeartbeats 4000000 in
theorem lw_ssd5N (nm rf rt rb ra ri : Tx) (rn rm ln : Int) (w : World) (it : Tx) (hit : ∀ W, Below w.heap.size w W → Calls Tryz.prog 138 #[.int .i64 rn] W fun e w' => e = .returned (.string (bs it)) ∧ Below W.heap.size W w') :
    Calls Tryz.prog 91 #[.agg #[.int .i64 5, .string (bs nm), .slice none 0 0, .int .i64 rn, .int .i64 rm, .string (bs rf), .string (bs rt), .string (bs rb), .string (bs ra), .string (bs ri), .int .i64 ln]] w (LineTo ([wordP kindT 5] ++ [it]) w) := by
  have RA : (w.alloc (.cells #[.int .i64 5, .string (bs nm), .slice none 0 0, .int .i64 rn, .int .i64 rm, .string (bs rf), .string (bs rt), .string (bs rb), .string (bs ra), .string (bs ri), .int .i64 ln] 28)).drew.heap[w.heap.size]? = some (.cells #[.int .i64 5, .string (bs nm), .slice none 0 0, .int .i64 rn, .int .i64 rm, .string (bs rf), .string (bs rt), .string (bs rb), .string (bs ra), .string (bs ri), .int .i64 ln] 28 (0, 0)) := (heap_alloc_new _ _ : (w.alloc (.cells #[.int .i64 5, .string (bs nm), .slice none 0 0, .int .i64 rn, .int .i64 rm, .string (bs rf), .string (bs rt), .string (bs rb), .string (bs ra), .string (bs ri), .int .i64 ln] 28)).heap[w.heap.size]? = _)
  have HB : Below w.heap.size w (w.alloc (.cells #[.int .i64 5, .string (bs nm), .slice none 0 0, .int .i64 rn, .int .i64 rm, .string (bs rf), .string (bs rt), .string (bs rb), .string (bs ra), .string (bs ri), .int .i64 ln] 28)).drew := ((Below.refl _ _).alloc (Nat.le_refl _) _).drew
  obtain ⟨i0, hi, hz0, hz1, hz2⟩ := info_parts Tryz.infoString
  go_enter Tryz.func91, Tryz.ntmps91
  go_upto_region 1 with fail
  go_region_held3 (fun w' => w'.cell? ⟨w.heap.size, 0, none⟩ = some (.int .i64 5)) (first | exact row_q0 RA | exact row_q0 (row_alloc RA _) | assumption)
    (first
      | (go_at_call 137; refine (kindWords_any _).mono ?_; rintro e w1 ⟨t, rfl, ht, hst, hb1⟩; have HT := Lib.hid ht; clear ht; have RA := row_below RA hb1; have HB := below_then HB hb1 HB.size)
      | (go_at_call 136; refine (wordAt_any t 12 12 kindT 5 _ hst rfl (by decide) (by decide)).mono ?_; rintro e w2 ⟨rfl, rfl⟩))
  have L0 : LS w (w1.alloc (.cells #[.string (bs (wordP kindT 5))] 9)) #[.int .i64 5, .string (bs nm), .slice none 0 0, .int .i64 rn, .int .i64 rm, .string (bs rf), .string (bs rt), .string (bs rb), .string (bs ra), .string (bs ri), .int .i64 ln] (.slice (some ⟨w1.heap.size, 0, none⟩) 1 1) [wordP kindT 5] :=
    ⟨row_alloc RA _, own_new w1 _ [wordP kindT 5] (by have := (Array.getElem?_eq_some_iff.1 RA).1; omega) (by simp), HB.alloc HB.size _⟩
  generalize w1.alloc (.cells #[.string (bs (wordP kindT 5))] 9) = X0 at *
  generalize w1.heap.size = h1 at *
  clear HT hst hb1 RA HB
  obtain ⟨l0, hl0⟩ : ∃ q, q = [wordP kindT 5] := ⟨_, rfl⟩
  rw [← hl0] at L0
  have n0 : l0.length ≤ 1 := by rw [hl0]; simp
  have HL0 := Lib.hid hl0
  clear hl0
  have q1 := row_q1 L0.row; have q2 := row_q2 L0.row; have q3 := row_q3 L0.row; have q4 := row_q4 L0.row; have q5 := row_q5 L0.row; have q6 := row_q6 L0.row; have q7 := row_q7 L0.row; have q8 := row_q8 L0.row; have q9 := row_q9 L0.row
  go_upto_region 15 with (first | (go_at_call 138; refine (hit _ L0.low).mono ?_; rintro e XI ⟨rfl, hbI⟩; have LI := L0.below hbI) | (at_builtin; go_must (refine wpList_append_own _ rfl (.tmp 44) (.tmp 48) 26 rfl (w.heap.size + 1) 9 i0 _ 1 16 Tryz.underlying26 hi hz0 hz1 hz2 rfl (by decide) _ _ _ rfl (LI.own.alloc _) ⟨XI.heap.size, 0, none⟩ 1 1 (scells [it]) rfl rfl (cells_new _ (scells [it]) _) (scells_one _) (by unfold maxLen; omega) (by omega) (by have := LI.size; (try simp); omega) ?_); intro v1 X1 hown1 hg1 _))
  have L1 := LI.app (World.grownBy_alloc _ _ none) hg1 hown1
  clear q1 q2 q3 q4 q5 q6 q7 q8 q9
  obtain ⟨l1, hl1⟩ : ∃ q, q = l0 ++ [it] := ⟨_, rfl⟩
  rw [← hl1] at L1
  have n1 : l1.length ≤ 6 := by rw [hl1]; simp; omega
  have HL1 := Lib.hid hl1
  clear hl1
  obtain ⟨A1, c1, rfl⟩ := own_slice L1.own
  have q1 := row_q1 L1.row; have q2 := row_q2 L1.row; have q3 := row_q3 L1.row; have q4 := row_q4 L1.row; have q5 := row_q5 L1.row; have q6 := row_q6 L1.row; have q7 := row_q7 L1.row; have q8 := row_q8 L1.row; have q9 := row_q9 L1.row
  go_wp2_with (at_builtin; go_must (refine wpList_append_own_none rfl (.tmp 50) (.tmp 52) 26 rfl (w.heap.size + 1) 9 i0 1 Tryz.underlying26 hi _ _ _ rfl L1.own rfl ?_))
  clear q1 q2 q3 q4 q5 q6 q7 q8 q9
  go_ret
  exact lineTo_mk (by rw [HL1.out, HL0.out]; try simp) L1

set_option maxHeartbeats 4000000 in
theorem lw_ssd5S (nm rf rt rb ra ri : Tx) (rn rm ln : Int) (g off c : Nat) (l : List Tx) (w : World) (hgl : g < w.heap.size) (hls : ∀ j (hj : j < l.length), w.cell? ⟨g, off + j, none⟩ = some (.string (bs l[j]))) (hll : l.length ≤ 1048576) (it : Tx) (hit : ∀ W, Below w.heap.size w W → Calls Tryz.prog 138 #[.int .i64 rn] W fun e w' => e = .returned (.string (bs it)) ∧ Below W.heap.size W w') :
    Calls Tryz.prog 91 #[.agg #[.int .i64 5, .string (bs nm), .slice (some ⟨g, off, none⟩) l.length c, .int .i64 rn, .int .i64 rm, .string (bs rf), .string (bs rt), .string (bs rb), .string (bs ra), .string (bs ri), .int .i64 ln]] w (LineTo ([wordP kindT 5] ++ [it] ++ l) w) := by
  have RA : (w.alloc (.cells #[.int .i64 5, .string (bs nm), .slice (some ⟨g, off, none⟩) l.length c, .int .i64 rn, .int .i64 rm, .string (bs rf), .string (bs rt), .string (bs rb), .string (bs ra), .string (bs ri), .int .i64 ln] 28)).drew.heap[w.heap.size]? = some (.cells #[.int .i64 5, .string (bs nm), .slice (some ⟨g, off, none⟩) l.length c, .int .i64 rn, .int .i64 rm, .string (bs rf), .string (bs rt), .string (bs rb), .string (bs ra), .string (bs ri), .int .i64 ln] 28 (0, 0)) := (heap_alloc_new _ _ : (w.alloc (.cells #[.int .i64 5, .string (bs nm), .slice (some ⟨g, off, none⟩) l.length c, .int .i64 rn, .int .i64 rm, .string (bs rf), .string (bs rt), .string (bs rb), .string (bs ra), .string (bs ri), .int .i64 ln] 28)).heap[w.heap.size]? = _)
  have HB : Below w.heap.size w (w.alloc (.cells #[.int .i64 5, .string (bs nm), .slice (some ⟨g, off, none⟩) l.length c, .int .i64 rn, .int .i64 rm, .string (bs rf), .string (bs rt), .string (bs rb), .string (bs ra), .string (bs ri), .int .i64 ln] 28)).drew := ((Below.refl _ _).alloc (Nat.le_refl _) _).drew
  obtain ⟨i0, hi, hz0, hz1, hz2⟩ := info_parts Tryz.infoString
  go_enter Tryz.func91, Tryz.ntmps91
  go_upto_region 1 with fail
  go_region_held3 (fun w' => w'.cell? ⟨w.heap.size, 0, none⟩ = some (.int .i64 5)) (first | exact row_q0 RA | exact row_q0 (row_alloc RA _) | assumption)
    (first
      | (go_at_call 137; refine (kindWords_any _).mono ?_; rintro e w1 ⟨t, rfl, ht, hst, hb1⟩; have HT := Lib.hid ht; clear ht; have RA := row_below RA hb1; have HB := below_then HB hb1 HB.size)
      | (go_at_call 136; refine (wordAt_any t 12 12 kindT 5 _ hst rfl (by decide) (by decide)).mono ?_; rintro e w2 ⟨rfl, rfl⟩))
  have L0 : LS w (w1.alloc (.cells #[.string (bs (wordP kindT 5))] 9)) #[.int .i64 5, .string (bs nm), .slice (some ⟨g, off, none⟩) l.length c, .int .i64 rn, .int .i64 rm, .string (bs rf), .string (bs rt), .string (bs rb), .string (bs ra), .string (bs ri), .int .i64 ln] (.slice (some ⟨w1.heap.size, 0, none⟩) 1 1) [wordP kindT 5] :=
    ⟨row_alloc RA _, own_new w1 _ [wordP kindT 5] (by have := (Array.getElem?_eq_some_iff.1 RA).1; omega) (by simp), HB.alloc HB.size _⟩
  generalize w1.alloc (.cells #[.string (bs (wordP kindT 5))] 9) = X0 at *
  generalize w1.heap.size = h1 at *
  clear HT hst hb1 RA HB
  obtain ⟨l0, hl0⟩ : ∃ q, q = [wordP kindT 5] := ⟨_, rfl⟩
  rw [← hl0] at L0
  have n0 : l0.length ≤ 1 := by rw [hl0]; simp
  have HL0 := Lib.hid hl0
  clear hl0
  have q1 := row_q1 L0.row; have q2 := row_q2 L0.row; have q3 := row_q3 L0.row; have q4 := row_q4 L0.row; have q5 := row_q5 L0.row; have q6 := row_q6 L0.row; have q7 := row_q7 L0.row; have q8 := row_q8 L0.row; have q9 := row_q9 L0.row
  go_upto_region 15 with (first | (go_at_call 138; refine (hit _ L0.low).mono ?_; rintro e XI ⟨rfl, hbI⟩; have LI := L0.below hbI) | (at_builtin; go_must (refine wpList_append_own _ rfl (.tmp 44) (.tmp 48) 26 rfl (w.heap.size + 1) 9 i0 _ 1 16 Tryz.underlying26 hi hz0 hz1 hz2 rfl (by decide) _ _ _ rfl (LI.own.alloc _) ⟨XI.heap.size, 0, none⟩ 1 1 (scells [it]) rfl rfl (cells_new _ (scells [it]) _) (scells_one _) (by unfold maxLen; omega) (by omega) (by have := LI.size; (try simp); omega) ?_); intro v1 X1 hown1 hg1 _))
  have L1 := LI.app (World.grownBy_alloc _ _ none) hg1 hown1
  clear q1 q2 q3 q4 q5 q6 q7 q8 q9
  obtain ⟨l1, hl1⟩ : ∃ q, q = l0 ++ [it] := ⟨_, rfl⟩
  rw [← hl1] at L1
  have n1 : l1.length ≤ 6 := by rw [hl1]; simp; omega
  have HL1 := Lib.hid hl1
  clear hl1
  obtain ⟨A1, c1, rfl⟩ := own_slice L1.own
  have q1 := row_q1 L1.row; have q2 := row_q2 L1.row; have q3 := row_q3 L1.row; have q4 := row_q4 L1.row; have q5 := row_q5 L1.row; have q6 := row_q6 L1.row; have q7 := row_q7 L1.row; have q8 := row_q8 L1.row; have q9 := row_q9 L1.row
  have HSRC2 : ∀ j u, (scells l)[j]? = some u → X1.cell? ((⟨g, off, none⟩ : Addr).add j) = some u := src_cells hgl L1.low hls
  go_wp2_with (at_builtin; go_must (refine wpList_append_own _ rfl (.tmp 50) (.tmp 52) 26 rfl (w.heap.size + 1) 9 i0 _ 1 16 Tryz.underlying26 hi hz0 hz1 hz2 rfl (by decide) _ _ _ rfl L1.own ⟨g, off, none⟩ l.length c (scells l) rfl (by simp [scells]) HSRC2 (scells_one _) (by unfold maxLen; omega) (by omega) (by have := L1.size; (try simp); omega) ?_); intro v2 X2 hown2 hg2 _)
  have L2 := L1.app (World.grownBy.refl _ _) hg2 hown2
  clear q1 q2 q3 q4 q5 q6 q7 q8 q9
  go_ret
  exact lineTo_mk (by rw [HL1.out, HL0.out]; try simp) L2

set_option maxHeartbeats 4000000 in
theorem lw_roleN (nm rf rt rb ra ri : Tx) (rn rm ln : Int) (w : World) :
    Calls Tryz.prog 91 #[.agg #[.int .i64 1, .string (bs nm), .slice none 0 0, .int .i64 rn, .int .i64 rm, .string (bs rf), .string (bs rt), .string (bs rb), .string (bs ra), .string (bs ri), .int .i64 ln]] w (LineTo ([wordP kindT 1] ++ [nm]) w) := by
  have RA : (w.alloc (.cells #[.int .i64 1, .string (bs nm), .slice none 0 0, .int .i64 rn, .int .i64 rm, .string (bs rf), .string (bs rt), .string (bs rb), .string (bs ra), .string (bs ri), .int .i64 ln] 28)).drew.heap[w.heap.size]? = some (.cells #[.int .i64 1, .string (bs nm), .slice none 0 0, .int .i64 rn, .int .i64 rm, .string (bs rf), .string (bs rt), .string (bs rb), .string (bs ra), .string (bs ri), .int .i64 ln] 28 (0, 0)) := (heap_alloc_new _ _ : (w.alloc (.cells #[.int .i64 1, .string (bs nm), .slice none 0 0, .int .i64 rn, .int .i64 rm, .string (bs rf), .string (bs rt), .string (bs rb), .string (bs ra), .string (bs ri), .int .i64 ln] 28)).heap[w.heap.size]? = _)
  have HB : Below w.heap.size w (w.alloc (.cells #[.int .i64 1, .string (bs nm), .slice none 0 0, .int .i64 rn, .int .i64 rm, .string (bs rf), .string (bs rt), .string (bs rb), .string (bs ra), .string (bs ri), .int .i64 ln] 28)).drew := ((Below.refl _ _).alloc (Nat.le_refl _) _).drew
  obtain ⟨i0, hi, hz0, hz1, hz2⟩ := info_parts Tryz.infoString
  go_enter Tryz.func91, Tryz.ntmps91
  go_upto_region 1 with fail
  go_region_held3 (fun w' => w'.cell? ⟨w.heap.size, 0, none⟩ = some (.int .i64 1)) (first | exact row_q0 RA | exact row_q0 (row_alloc RA _) | assumption)
    (first
      | (go_at_call 137; refine (kindWords_any _).mono ?_; rintro e w1 ⟨t, rfl, ht, hst, hb1⟩; have HT := Lib.hid ht; clear ht; have RA := row_below RA hb1; have HB := below_then HB hb1 HB.size)
      | (go_at_call 136; refine (wordAt_any t 12 12 kindT 1 _ hst rfl (by decide) (by decide)).mono ?_; rintro e w2 ⟨rfl, rfl⟩))
  have L0 : LS w (w1.alloc (.cells #[.string (bs (wordP kindT 1))] 9)) #[.int .i64 1, .string (bs nm), .slice none 0 0, .int .i64 rn, .int .i64 rm, .string (bs rf), .string (bs rt), .string (bs rb), .string (bs ra), .string (bs ri), .int .i64 ln] (.slice (some ⟨w1.heap.size, 0, none⟩) 1 1) [wordP kindT 1] :=
    ⟨row_alloc RA _, own_new w1 _ [wordP kindT 1] (by have := (Array.getElem?_eq_some_iff.1 RA).1; omega) (by simp), HB.alloc HB.size _⟩
  generalize w1.alloc (.cells #[.string (bs (wordP kindT 1))] 9) = X0 at *
  generalize w1.heap.size = h1 at *
  clear HT hst hb1 RA HB
  obtain ⟨l0, hl0⟩ : ∃ q, q = [wordP kindT 1] := ⟨_, rfl⟩
  rw [← hl0] at L0
  have n0 : l0.length ≤ 1 := by rw [hl0]; simp
  have HL0 := Lib.hid hl0
  clear hl0
  have q1 := row_q1 L0.row; have q2 := row_q2 L0.row; have q3 := row_q3 L0.row; have q4 := row_q4 L0.row; have q5 := row_q5 L0.row; have q6 := row_q6 L0.row; have q7 := row_q7 L0.row; have q8 := row_q8 L0.row; have q9 := row_q9 L0.row
  go_upto_region 5 with (at_builtin; go_must (refine wpList_append_own _ rfl (.tmp 13) (.tmp 16) 26 rfl (w.heap.size + 1) 9 i0 _ 1 16 Tryz.underlying26 hi hz0 hz1 hz2 rfl (by decide) _ _ _ rfl (L0.own.alloc _) ⟨X0.heap.size, 0, none⟩ 1 1 (scells [nm]) rfl rfl (cells_new _ (scells [nm]) _) (scells_one _) (by unfold maxLen; omega) (by omega) (by have := L0.size; (try simp); omega) ?_); intro v1 X1 hown1 hg1 _)
  have L1 := L0.app (World.grownBy_alloc _ _ none) hg1 hown1
  clear q1 q2 q3 q4 q5 q6 q7 q8 q9
  obtain ⟨l1, hl1⟩ : ∃ q, q = l0 ++ [nm] := ⟨_, rfl⟩
  rw [← hl1] at L1
  have n1 : l1.length ≤ 6 := by rw [hl1]; simp; omega
  have HL1 := Lib.hid hl1
  clear hl1
  obtain ⟨A1, c1, rfl⟩ := own_slice L1.own
  have q1 := row_q1 L1.row; have q2 := row_q2 L1.row; have q3 := row_q3 L1.row; have q4 := row_q4 L1.row; have q5 := row_q5 L1.row; have q6 := row_q6 L1.row; have q7 := row_q7 L1.row; have q8 := row_q8 L1.row; have q9 := row_q9 L1.row
  go_upto_region 7 with fail
  clear q1 q2 q3 q4 q5 q6 q7 q8 q9
  have q1 := row_q1 L1.row; have q2 := row_q2 L1.row; have q3 := row_q3 L1.row; have q4 := row_q4 L1.row; have q5 := row_q5 L1.row; have q6 := row_q6 L1.row; have q7 := row_q7 L1.row; have q8 := row_q8 L1.row; have q9 := row_q9 L1.row
  go_wp2_with (at_builtin; go_must (refine wpList_append_own_none rfl (.tmp 25) (.tmp 27) 26 rfl (w.heap.size + 1) 9 i0 1 Tryz.underlying26 hi _ _ _ rfl L1.own rfl ?_))
  clear q1 q2 q3 q4 q5 q6 q7 q8 q9
  go_ret
  exact lineTo_mk (by rw [HL1.out, HL0.out]; try simp) L1
end Go.Proofs.YtnnmjmjbfeoggaaGreatDoor
namespace Go.Proofs.YtnnmjmjbfeoggaaGreatDoor
set_option maxRecDepth 100000
open Go.ChangeShapes Go.WideShapes Go.ChangeAt Go.RowKit
set_option maxHeartbeats 4000000 in
theorem lw_after (nm rf rt rb ra ri : Tx) (rn rm ln : Int) {A : Option Addr} {na ca : Nat} (w : World) (it : Tx) (hit : ∀ W, Below w.heap.size w W → Calls Tryz.prog 138 #[.int .i64 rn] W fun e w' => e = .returned (.string (bs it)) ∧ Below W.heap.size W w') :
    Calls Tryz.prog 91 #[.agg #[.int .i64 11, .string (bs nm), .slice A na ca, .int .i64 rn, .int .i64 rm, .string (bs rf), .string (bs rt), .string (bs rb), .string (bs ra), .string (bs ri), .int .i64 ln]] w (LineTo ([wordP kindT 11] ++ [it, [102, 114, 111, 109], rf, [116, 111], rt]) w) := by
  have RA : (w.alloc (.cells #[.int .i64 11, .string (bs nm), .slice A na ca, .int .i64 rn, .int .i64 rm, .string (bs rf), .string (bs rt), .string (bs rb), .string (bs ra), .string (bs ri), .int .i64 ln] 28)).drew.heap[w.heap.size]? = some (.cells #[.int .i64 11, .string (bs nm), .slice A na ca, .int .i64 rn, .int .i64 rm, .string (bs rf), .string (bs rt), .string (bs rb), .string (bs ra), .string (bs ri), .int .i64 ln] 28 (0, 0)) := (heap_alloc_new _ _ : (w.alloc (.cells #[.int .i64 11, .string (bs nm), .slice A na ca, .int .i64 rn, .int .i64 rm, .string (bs rf), .string (bs rt), .string (bs rb), .string (bs ra), .string (bs ri), .int .i64 ln] 28)).heap[w.heap.size]? = _)
  have HB : Below w.heap.size w (w.alloc (.cells #[.int .i64 11, .string (bs nm), .slice A na ca, .int .i64 rn, .int .i64 rm, .string (bs rf), .string (bs rt), .string (bs rb), .string (bs ra), .string (bs ri), .int .i64 ln] 28)).drew := ((Below.refl _ _).alloc (Nat.le_refl _) _).drew
  obtain ⟨i0, hi, hz0, hz1, hz2⟩ := info_parts Tryz.infoString
  go_enter Tryz.func91, Tryz.ntmps91
  go_upto_region 1 with fail
  go_region_held3 (fun w' => w'.cell? ⟨w.heap.size, 0, none⟩ = some (.int .i64 11)) (first | exact row_q0 RA | exact row_q0 (row_alloc RA _) | assumption)
    (first
      | (go_at_call 137; refine (kindWords_any _).mono ?_; rintro e w1 ⟨t, rfl, ht, hst, hb1⟩; have HT := Lib.hid ht; clear ht; have RA := row_below RA hb1; have HB := below_then HB hb1 HB.size)
      | (go_at_call 136; refine (wordAt_any t 12 12 kindT 11 _ hst rfl (by decide) (by decide)).mono ?_; rintro e w2 ⟨rfl, rfl⟩))
  have L0 : LS w (w1.alloc (.cells #[.string (bs (wordP kindT 11))] 9)) #[.int .i64 11, .string (bs nm), .slice A na ca, .int .i64 rn, .int .i64 rm, .string (bs rf), .string (bs rt), .string (bs rb), .string (bs ra), .string (bs ri), .int .i64 ln] (.slice (some ⟨w1.heap.size, 0, none⟩) 1 1) [wordP kindT 11] :=
    ⟨row_alloc RA _, own_new w1 _ [wordP kindT 11] (by have := (Array.getElem?_eq_some_iff.1 RA).1; omega) (by simp), HB.alloc HB.size _⟩
  generalize w1.alloc (.cells #[.string (bs (wordP kindT 11))] 9) = X0 at *
  generalize w1.heap.size = h1 at *
  clear HT hst hb1 RA HB
  obtain ⟨l0, hl0⟩ : ∃ q, q = [wordP kindT 11] := ⟨_, rfl⟩
  rw [← hl0] at L0
  have n0 : l0.length ≤ 1 := by rw [hl0]; simp
  have HL0 := Lib.hid hl0
  clear hl0
  have q0 := row_q0 L0.row
  go_upto_region 30 with fail
  have LI := L0.drew
  have tok1 : True := trivial
  go_region_held3 (fun w' => w'.cell? ⟨w.heap.size, 3, none⟩ = some (.int .i64 rn) ∧ w'.cell? ⟨w.heap.size, 5, none⟩ = some (.string (bs rf)) ∧ w'.cell? ⟨w.heap.size, 6, none⟩ = some (.string (bs rt))) (first | exact ⟨row_q3 LI.row, row_q5 LI.row, row_q6 LI.row⟩ | exact ⟨row_q3 (row_alloc LI.row _), row_q5 (row_alloc LI.row _), row_q6 (row_alloc LI.row _)⟩ | exact ⟨row_q3 L1.row, row_q5 L1.row, row_q6 L1.row⟩)
    (first
      | (go_at_call 138; refine (hit _ LI.low).mono ?_; rintro e XI ⟨rfl, hbI⟩; have LI := LI.below hbI)
      | (refine step_append_lies _ rfl (.tmp 121) (.tmp 129) 26 rfl (w.heap.size + 1) 9 i0 _ 1 16 Tryz.underlying26 hi hz0 hz1 hz2 rfl (by decide) (.slice (some ⟨h1, 0, none⟩) 1 1) l0.length (scells l0) (by simp [Act.eval]) (LI.own.alloc _) ⟨XI.heap.size, 0, none⟩ 5 5 (scells [it, [102, 114, 111, 109], rf, [116, 111], rt]) (by simp [Act.eval]) rfl (cells_new _ (scells [it, [102, 114, 111, 109], rf, [116, 111], rt]) _) (scells_one _) (by decide) (by unfold maxLen; omega) (by omega) (by have := LI.size; (try simp); omega) _ rfl ?_; intro g1 cp1 X1 hown1 hg1 hat1 hlt1; have L1 := LI.app (World.grownBy_alloc _ _ none) hg1 hown1))
  go_wp2
  go_ret
  exact lineTo_mk (by rw [HL0.out]; rfl) L1

set_option maxHeartbeats 4000000 in
theorem lw_lend (nm rf rt rb ra ri : Tx) (rn rm ln : Int) {A : Option Addr} {na ca : Nat} (w : World) (it it2 : Tx) (hit : ∀ W, Below w.heap.size w W → Calls Tryz.prog 138 #[.int .i64 rn] W fun e w' => e = .returned (.string (bs it)) ∧ Below W.heap.size W w') (hit2 : ∀ W, Below w.heap.size w W → Calls Tryz.prog 138 #[.int .i64 rm] W fun e w' => e = .returned (.string (bs it2)) ∧ Below W.heap.size W w') :
    Calls Tryz.prog 91 #[.agg #[.int .i64 7, .string (bs nm), .slice A na ca, .int .i64 rn, .int .i64 rm, .string (bs rf), .string (bs rt), .string (bs rb), .string (bs ra), .string (bs ri), .int .i64 ln]] w (LineTo ([wordP kindT 7] ++ [nm, it, it2]) w) := by
  have RA : (w.alloc (.cells #[.int .i64 7, .string (bs nm), .slice A na ca, .int .i64 rn, .int .i64 rm, .string (bs rf), .string (bs rt), .string (bs rb), .string (bs ra), .string (bs ri), .int .i64 ln] 28)).drew.heap[w.heap.size]? = some (.cells #[.int .i64 7, .string (bs nm), .slice A na ca, .int .i64 rn, .int .i64 rm, .string (bs rf), .string (bs rt), .string (bs rb), .string (bs ra), .string (bs ri), .int .i64 ln] 28 (0, 0)) := (heap_alloc_new _ _ : (w.alloc (.cells #[.int .i64 7, .string (bs nm), .slice A na ca, .int .i64 rn, .int .i64 rm, .string (bs rf), .string (bs rt), .string (bs rb), .string (bs ra), .string (bs ri), .int .i64 ln] 28)).heap[w.heap.size]? = _)
  have HB : Below w.heap.size w (w.alloc (.cells #[.int .i64 7, .string (bs nm), .slice A na ca, .int .i64 rn, .int .i64 rm, .string (bs rf), .string (bs rt), .string (bs rb), .string (bs ra), .string (bs ri), .int .i64 ln] 28)).drew := ((Below.refl _ _).alloc (Nat.le_refl _) _).drew
  obtain ⟨i0, hi, hz0, hz1, hz2⟩ := info_parts Tryz.infoString
  go_enter Tryz.func91, Tryz.ntmps91
  go_upto_region 1 with fail
  go_region_held3 (fun w' => w'.cell? ⟨w.heap.size, 0, none⟩ = some (.int .i64 7)) (first | exact row_q0 RA | exact row_q0 (row_alloc RA _) | assumption)
    (first
      | (go_at_call 137; refine (kindWords_any _).mono ?_; rintro e w1 ⟨t, rfl, ht, hst, hb1⟩; have HT := Lib.hid ht; clear ht; have RA := row_below RA hb1; have HB := below_then HB hb1 HB.size)
      | (go_at_call 136; refine (wordAt_any t 12 12 kindT 7 _ hst rfl (by decide) (by decide)).mono ?_; rintro e w2 ⟨rfl, rfl⟩))
  have L0 : LS w (w1.alloc (.cells #[.string (bs (wordP kindT 7))] 9)) #[.int .i64 7, .string (bs nm), .slice A na ca, .int .i64 rn, .int .i64 rm, .string (bs rf), .string (bs rt), .string (bs rb), .string (bs ra), .string (bs ri), .int .i64 ln] (.slice (some ⟨w1.heap.size, 0, none⟩) 1 1) [wordP kindT 7] :=
    ⟨row_alloc RA _, own_new w1 _ [wordP kindT 7] (by have := (Array.getElem?_eq_some_iff.1 RA).1; omega) (by simp), HB.alloc HB.size _⟩
  generalize w1.alloc (.cells #[.string (bs (wordP kindT 7))] 9) = X0 at *
  generalize w1.heap.size = h1 at *
  clear HT hst hb1 RA HB
  obtain ⟨l0, hl0⟩ : ∃ q, q = [wordP kindT 7] := ⟨_, rfl⟩
  rw [← hl0] at L0
  have n0 : l0.length ≤ 1 := by rw [hl0]; simp
  have HL0 := Lib.hid hl0
  clear hl0
  have q0 := row_q0 L0.row
  go_upto_region 19 with fail
  have LI := L0.drew
  have tok1 : True := trivial
  go_region_held3 (fun w' => w'.cell? ⟨w.heap.size, 1, none⟩ = some (.string (bs nm)) ∧ w'.cell? ⟨w.heap.size, 3, none⟩ = some (.int .i64 rn) ∧ w'.cell? ⟨w.heap.size, 4, none⟩ = some (.int .i64 rm)) (first | exact ⟨row_q1 LI.row, row_q3 LI.row, row_q4 LI.row⟩ | exact ⟨row_q1 (row_alloc LI.row _), row_q3 (row_alloc LI.row _), row_q4 (row_alloc LI.row _)⟩ | exact ⟨row_q1 L1.row, row_q3 L1.row, row_q4 L1.row⟩)
    (first
      | (have _t := tok1; go_at_call 138; refine (hit _ LI.low).mono ?_; rintro e XJ ⟨rfl, hbI⟩; have LI := LI.below hbI; clear tok1 _t)
      | (go_at_call 138; refine (hit2 _ LI.low).mono ?_; rintro e XI ⟨rfl, hbI⟩; have LI := LI.below hbI)
      | (refine step_append_lies _ rfl (.tmp 62) (.tmp 71) 26 rfl (w.heap.size + 1) 9 i0 _ 1 16 Tryz.underlying26 hi hz0 hz1 hz2 rfl (by decide) (.slice (some ⟨h1, 0, none⟩) 1 1) l0.length (scells l0) (by simp [Act.eval]) (LI.own.alloc _) ⟨XI.heap.size, 0, none⟩ 3 3 (scells [nm, it, it2]) (by simp [Act.eval]) rfl (cells_new _ (scells [nm, it, it2]) _) (scells_one _) (by decide) (by unfold maxLen; omega) (by omega) (by have := LI.size; (try simp); omega) _ rfl ?_; intro g1 cp1 X1 hown1 hg1 hat1 hlt1; have L1 := LI.app (World.grownBy_alloc _ _ none) hg1 hown1))
  go_wp2
  go_ret
  exact lineTo_mk (by rw [HL0.out]; rfl) L1

set_option maxHeartbeats 4000000 in
theorem lw_state0 (nm rf rt rb ra ri : Tx) (rn rm ln : Int) {A : Option Addr} {na ca : Nat} (w : World) (h_ri : Hid (ri = [])) :
    Calls Tryz.prog 91 #[.agg #[.int .i64 8, .string (bs nm), .slice A na ca, .int .i64 rn, .int .i64 rm, .string (bs rf), .string (bs rt), .string (bs rb), .string (bs ra), .string (bs ri), .int .i64 ln]] w (LineTo ([wordP kindT 8] ++ [nm, wordP stateT rn]) w) := by
  have RA : (w.alloc (.cells #[.int .i64 8, .string (bs nm), .slice A na ca, .int .i64 rn, .int .i64 rm, .string (bs rf), .string (bs rt), .string (bs rb), .string (bs ra), .string (bs ri), .int .i64 ln] 28)).drew.heap[w.heap.size]? = some (.cells #[.int .i64 8, .string (bs nm), .slice A na ca, .int .i64 rn, .int .i64 rm, .string (bs rf), .string (bs rt), .string (bs rb), .string (bs ra), .string (bs ri), .int .i64 ln] 28 (0, 0)) := (heap_alloc_new _ _ : (w.alloc (.cells #[.int .i64 8, .string (bs nm), .slice A na ca, .int .i64 rn, .int .i64 rm, .string (bs rf), .string (bs rt), .string (bs rb), .string (bs ra), .string (bs ri), .int .i64 ln] 28)).heap[w.heap.size]? = _)
  have HB : Below w.heap.size w (w.alloc (.cells #[.int .i64 8, .string (bs nm), .slice A na ca, .int .i64 rn, .int .i64 rm, .string (bs rf), .string (bs rt), .string (bs rb), .string (bs ra), .string (bs ri), .int .i64 ln] 28)).drew := ((Below.refl _ _).alloc (Nat.le_refl _) _).drew
  obtain ⟨i0, hi, hz0, hz1, hz2⟩ := info_parts Tryz.infoString
  go_enter Tryz.func91, Tryz.ntmps91
  go_upto_region 1 with fail
  go_region_held3 (fun w' => w'.cell? ⟨w.heap.size, 0, none⟩ = some (.int .i64 8)) (first | exact row_q0 RA | exact row_q0 (row_alloc RA _) | assumption)
    (first
      | (go_at_call 137; refine (kindWords_any _).mono ?_; rintro e w1 ⟨t, rfl, ht, hst, hb1⟩; have HT := Lib.hid ht; clear ht; have RA := row_below RA hb1; have HB := below_then HB hb1 HB.size)
      | (go_at_call 136; refine (wordAt_any t 12 12 kindT 8 _ hst rfl (by decide) (by decide)).mono ?_; rintro e w2 ⟨rfl, rfl⟩))
  have L0 : LS w (w1.alloc (.cells #[.string (bs (wordP kindT 8))] 9)) #[.int .i64 8, .string (bs nm), .slice A na ca, .int .i64 rn, .int .i64 rm, .string (bs rf), .string (bs rt), .string (bs rb), .string (bs ra), .string (bs ri), .int .i64 ln] (.slice (some ⟨w1.heap.size, 0, none⟩) 1 1) [wordP kindT 8] :=
    ⟨row_alloc RA _, own_new w1 _ [wordP kindT 8] (by have := (Array.getElem?_eq_some_iff.1 RA).1; omega) (by simp), HB.alloc HB.size _⟩
  generalize w1.alloc (.cells #[.string (bs (wordP kindT 8))] 9) = X0 at *
  generalize w1.heap.size = h1 at *
  clear HT hst hb1 RA HB
  obtain ⟨l0, hl0⟩ : ∃ q, q = [wordP kindT 8] := ⟨_, rfl⟩
  rw [← hl0] at L0
  have n0 : l0.length ≤ 1 := by rw [hl0]; simp
  have HL0 := Lib.hid hl0
  clear hl0
  have q0 := row_q0 L0.row
  go_upto_region 21 with fail
  have LI := L0.drew
  have tok1 : True := trivial
  go_region_held3 (fun w' => w'.cell? ⟨w.heap.size, 1, none⟩ = some (.string (bs nm)) ∧ w'.cell? ⟨w.heap.size, 3, none⟩ = some (.int .i64 rn)) (first | exact ⟨row_q1 LI.row, row_q3 LI.row⟩ | exact ⟨row_q1 (row_alloc LI.row _), row_q3 (row_alloc LI.row _)⟩ | exact ⟨row_q1 L1.row, row_q3 L1.row⟩)
    (first
      | (go_at_call 139; refine (stateWords_any _).mono ?_; rintro e XI ⟨t2, rfl, ht2, hst2, hbI⟩; have HT2 := Lib.hid ht2; clear ht2; have LI := LI.below hbI)
      | (go_at_call 136; refine (wordAt_any t2 5 5 stateT rn _ hst2 rfl (by decide) (by decide)).mono ?_; rintro e XK ⟨rfl, rfl⟩)
      | (refine step_append_lies _ rfl (.tmp 75) (.tmp 82) 26 rfl (w.heap.size + 1) 9 i0 _ 1 16 Tryz.underlying26 hi hz0 hz1 hz2 rfl (by decide) (.slice (some ⟨h1, 0, none⟩) 1 1) l0.length (scells l0) (by simp [Act.eval]) (LI.own.alloc _) ⟨XI.heap.size, 0, none⟩ 2 2 (scells [nm, wordP stateT rn]) (by simp [Act.eval]) rfl (cells_new _ (scells [nm, wordP stateT rn]) _) (scells_one _) (by decide) (by unfold maxLen; omega) (by omega) (by have := LI.size; (try simp); omega) _ rfl ?_; intro g1 cp1 X1 hown1 hg1 hat1 hlt1; have L1 := LI.app (World.grownBy_alloc _ _ none) hg1 hown1))
  obtain ⟨l1, hl1⟩ : ∃ q, q = l0 ++ [nm, wordP stateT rn] := ⟨_, rfl⟩
  rw [← hl1] at L1
  have n1 : l1.length ≤ 6 := by rw [hl1]; simp; omega
  have HL1 := Lib.hid hl1
  clear hl1 q0
  have q1 := row_q1 L1.row; have q2 := row_q2 L1.row; have q3 := row_q3 L1.row; have q4 := row_q4 L1.row; have q5 := row_q5 L1.row; have q6 := row_q6 L1.row; have q7 := row_q7 L1.row; have q8 := row_q8 L1.row; have q9 := row_q9 L1.row
  go_wp2_with (first | (go_at_call 140; refine (optionW_nil [105, 110] ri _ h_ri.out).mono ?_; rintro e wo ⟨rfl, rfl⟩) | (at_builtin; go_must (refine wpList_append_own_none rfl (.tmp 84) (.tmp 87) 26 rfl (w.heap.size + 1) 9 i0 1 Tryz.underlying26 hi _ _ _ rfl L1.own rfl ?_)))
  go_ret
  exact lineTo_mk (by rw [HL1.out, HL0.out]; rfl) L1

set_option maxHeartbeats 4000000 in
theorem lw_state1 (nm rf rt rb ra ri : Tx) (rn rm ln : Int) {A : Option Addr} {na ca : Nat} (w : World) (h_ri : Hid (ri ≠ [])) :
    Calls Tryz.prog 91 #[.agg #[.int .i64 8, .string (bs nm), .slice A na ca, .int .i64 rn, .int .i64 rm, .string (bs rf), .string (bs rt), .string (bs rb), .string (bs ra), .string (bs ri), .int .i64 ln]] w (LineTo ([wordP kindT 8] ++ [nm, wordP stateT rn] ++ [[105, 110], ri]) w) := by
  have RA : (w.alloc (.cells #[.int .i64 8, .string (bs nm), .slice A na ca, .int .i64 rn, .int .i64 rm, .string (bs rf), .string (bs rt), .string (bs rb), .string (bs ra), .string (bs ri), .int .i64 ln] 28)).drew.heap[w.heap.size]? = some (.cells #[.int .i64 8, .string (bs nm), .slice A na ca, .int .i64 rn, .int .i64 rm, .string (bs rf), .string (bs rt), .string (bs rb), .string (bs ra), .string (bs ri), .int .i64 ln] 28 (0, 0)) := (heap_alloc_new _ _ : (w.alloc (.cells #[.int .i64 8, .string (bs nm), .slice A na ca, .int .i64 rn, .int .i64 rm, .string (bs rf), .string (bs rt), .string (bs rb), .string (bs ra), .string (bs ri), .int .i64 ln] 28)).heap[w.heap.size]? = _)
  have HB : Below w.heap.size w (w.alloc (.cells #[.int .i64 8, .string (bs nm), .slice A na ca, .int .i64 rn, .int .i64 rm, .string (bs rf), .string (bs rt), .string (bs rb), .string (bs ra), .string (bs ri), .int .i64 ln] 28)).drew := ((Below.refl _ _).alloc (Nat.le_refl _) _).drew
  obtain ⟨i0, hi, hz0, hz1, hz2⟩ := info_parts Tryz.infoString
  go_enter Tryz.func91, Tryz.ntmps91
  go_upto_region 1 with fail
  go_region_held3 (fun w' => w'.cell? ⟨w.heap.size, 0, none⟩ = some (.int .i64 8)) (first | exact row_q0 RA | exact row_q0 (row_alloc RA _) | assumption)
    (first
      | (go_at_call 137; refine (kindWords_any _).mono ?_; rintro e w1 ⟨t, rfl, ht, hst, hb1⟩; have HT := Lib.hid ht; clear ht; have RA := row_below RA hb1; have HB := below_then HB hb1 HB.size)
      | (go_at_call 136; refine (wordAt_any t 12 12 kindT 8 _ hst rfl (by decide) (by decide)).mono ?_; rintro e w2 ⟨rfl, rfl⟩))
  have L0 : LS w (w1.alloc (.cells #[.string (bs (wordP kindT 8))] 9)) #[.int .i64 8, .string (bs nm), .slice A na ca, .int .i64 rn, .int .i64 rm, .string (bs rf), .string (bs rt), .string (bs rb), .string (bs ra), .string (bs ri), .int .i64 ln] (.slice (some ⟨w1.heap.size, 0, none⟩) 1 1) [wordP kindT 8] :=
    ⟨row_alloc RA _, own_new w1 _ [wordP kindT 8] (by have := (Array.getElem?_eq_some_iff.1 RA).1; omega) (by simp), HB.alloc HB.size _⟩
  generalize w1.alloc (.cells #[.string (bs (wordP kindT 8))] 9) = X0 at *
  generalize w1.heap.size = h1 at *
  clear HT hst hb1 RA HB
  obtain ⟨l0, hl0⟩ : ∃ q, q = [wordP kindT 8] := ⟨_, rfl⟩
  rw [← hl0] at L0
  have n0 : l0.length ≤ 1 := by rw [hl0]; simp
  have HL0 := Lib.hid hl0
  clear hl0
  have q0 := row_q0 L0.row
  go_upto_region 21 with fail
  have LI := L0.drew
  have tok1 : True := trivial
  go_region_held3 (fun w' => w'.cell? ⟨w.heap.size, 1, none⟩ = some (.string (bs nm)) ∧ w'.cell? ⟨w.heap.size, 3, none⟩ = some (.int .i64 rn)) (first | exact ⟨row_q1 LI.row, row_q3 LI.row⟩ | exact ⟨row_q1 (row_alloc LI.row _), row_q3 (row_alloc LI.row _)⟩ | exact ⟨row_q1 L1.row, row_q3 L1.row⟩)
    (first
      | (go_at_call 139; refine (stateWords_any _).mono ?_; rintro e XI ⟨t2, rfl, ht2, hst2, hbI⟩; have HT2 := Lib.hid ht2; clear ht2; have LI := LI.below hbI)
      | (go_at_call 136; refine (wordAt_any t2 5 5 stateT rn _ hst2 rfl (by decide) (by decide)).mono ?_; rintro e XK ⟨rfl, rfl⟩)
      | (refine step_append_lies _ rfl (.tmp 75) (.tmp 82) 26 rfl (w.heap.size + 1) 9 i0 _ 1 16 Tryz.underlying26 hi hz0 hz1 hz2 rfl (by decide) (.slice (some ⟨h1, 0, none⟩) 1 1) l0.length (scells l0) (by simp [Act.eval]) (LI.own.alloc _) ⟨XI.heap.size, 0, none⟩ 2 2 (scells [nm, wordP stateT rn]) (by simp [Act.eval]) rfl (cells_new _ (scells [nm, wordP stateT rn]) _) (scells_one _) (by decide) (by unfold maxLen; omega) (by omega) (by have := LI.size; (try simp); omega) _ rfl ?_; intro g1 cp1 X1 hown1 hg1 hat1 hlt1; have L1 := LI.app (World.grownBy_alloc _ _ none) hg1 hown1))
  obtain ⟨l1, hl1⟩ : ∃ q, q = l0 ++ [nm, wordP stateT rn] := ⟨_, rfl⟩
  rw [← hl1] at L1
  have n1 : l1.length ≤ 6 := by rw [hl1]; simp; omega
  have HL1 := Lib.hid hl1
  clear hl1 q0
  have q1 := row_q1 L1.row; have q2 := row_q2 L1.row; have q3 := row_q3 L1.row; have q4 := row_q4 L1.row; have q5 := row_q5 L1.row; have q6 := row_q6 L1.row; have q7 := row_q7 L1.row; have q8 := row_q8 L1.row; have q9 := row_q9 L1.row
  go_wp2_with (first | (go_at_call 140; refine (optionW_some [105, 110] ri _ h_ri.out).mono ?_; rintro e wo ⟨rfl, rfl⟩) | (at_builtin; go_must (refine wpList_append_own _ rfl (.tmp 84) (.tmp 87) 26 rfl (w.heap.size + 1) 9 i0 _ 1 16 Tryz.underlying26 hi hz0 hz1 hz2 rfl (by decide) _ _ _ rfl (L1.own.alloc _) ⟨X1.heap.size, 0, none⟩ 2 2 (scells [[105, 110], ri]) rfl rfl (cells_new _ (scells [[105, 110], ri]) _) (scells_one _) (by unfold maxLen; omega) (by omega) (by have := L1.size; (try simp); omega) ?_); intro v2 X2 hown2 hg2 _))
  have L2 := L1.app (World.grownBy_alloc _ _ none) hg2 hown2
  go_ret
  exact lineTo_mk (by rw [HL1.out, HL0.out]; rfl) L2
end Go.Proofs.YtnnmjmjbfeoggaaGreatDoor
namespace Go.Proofs.YtnnmjmjbfeoggaaGreatDoor
set_option maxRecDepth 100000
open Go.ChangeShapes Go.WideShapes Go.ChangeAt Go.RowKit
set_option maxHeartbeats 4000000 in
theorem lw_none (nm rf rt rb ra ri : Tx) (kd rn rm ln : Int) {A : Option Addr} {na ca : Nat} (w : World) (k1 : (kd == 1) = false) (k2 : (kd == 2) = false) (k3 : (kd == 3) = false) (k4 : (kd == 4) = false) (k5 : (kd == 5) = false) (k6 : (kd == 6) = false) (k7 : (kd == 7) = false) (k8 : (kd == 8) = false) (k9 : (kd == 9) = false) (k10 : (kd == 10) = false) (k11 : (kd == 11) = false) :
    Calls Tryz.prog 91 #[.agg #[.int .i64 kd, .string (bs nm), .slice A na ca, .int .i64 rn, .int .i64 rm, .string (bs rf), .string (bs rt), .string (bs rb), .string (bs ra), .string (bs ri), .int .i64 ln]] w (LineTo ([wordP kindT kd]) w) := by
  have RA : (w.alloc (.cells #[.int .i64 kd, .string (bs nm), .slice A na ca, .int .i64 rn, .int .i64 rm, .string (bs rf), .string (bs rt), .string (bs rb), .string (bs ra), .string (bs ri), .int .i64 ln] 28)).drew.heap[w.heap.size]? = some (.cells #[.int .i64 kd, .string (bs nm), .slice A na ca, .int .i64 rn, .int .i64 rm, .string (bs rf), .string (bs rt), .string (bs rb), .string (bs ra), .string (bs ri), .int .i64 ln] 28 (0, 0)) := (heap_alloc_new _ _ : (w.alloc (.cells #[.int .i64 kd, .string (bs nm), .slice A na ca, .int .i64 rn, .int .i64 rm, .string (bs rf), .string (bs rt), .string (bs rb), .string (bs ra), .string (bs ri), .int .i64 ln] 28)).heap[w.heap.size]? = _)
  have HB : Below w.heap.size w (w.alloc (.cells #[.int .i64 kd, .string (bs nm), .slice A na ca, .int .i64 rn, .int .i64 rm, .string (bs rf), .string (bs rt), .string (bs rb), .string (bs ra), .string (bs ri), .int .i64 ln] 28)).drew := ((Below.refl _ _).alloc (Nat.le_refl _) _).drew
  obtain ⟨i0, hi, hz0, hz1, hz2⟩ := info_parts Tryz.infoString
  go_enter Tryz.func91, Tryz.ntmps91
  go_upto_region 1 with fail
  go_region_held3 (fun w' => w'.cell? ⟨w.heap.size, 0, none⟩ = some (.int .i64 kd)) (first | exact row_q0 RA | exact row_q0 (row_alloc RA _) | assumption)
    (first
      | (go_at_call 137; refine (kindWords_any _).mono ?_; rintro e w1 ⟨t, rfl, ht, hst, hb1⟩; have HT := Lib.hid ht; clear ht; have RA := row_below RA hb1; have HB := below_then HB hb1 HB.size)
      | (go_at_call 136; refine (wordAt_any t 12 12 kindT kd _ hst rfl (by decide) (by decide)).mono ?_; rintro e w2 ⟨rfl, rfl⟩))
  have L0 : LS w (w1.alloc (.cells #[.string (bs (wordP kindT kd))] 9)) #[.int .i64 kd, .string (bs nm), .slice A na ca, .int .i64 rn, .int .i64 rm, .string (bs rf), .string (bs rt), .string (bs rb), .string (bs ra), .string (bs ri), .int .i64 ln] (.slice (some ⟨w1.heap.size, 0, none⟩) 1 1) [wordP kindT kd] :=
    ⟨row_alloc RA _, own_new w1 _ [wordP kindT kd] (by have := (Array.getElem?_eq_some_iff.1 RA).1; omega) (by simp), HB.alloc HB.size _⟩
  generalize w1.alloc (.cells #[.string (bs (wordP kindT kd))] 9) = X0 at *
  generalize w1.heap.size = h1 at *
  have q0 := row_q0 L0.row
  clear HT hst hb1 RA HB
  obtain ⟨l0, hl0⟩ : ∃ q, q = [wordP kindT kd] := ⟨_, rfl⟩
  rw [← hl0] at L0
  have n0 : l0.length ≤ 1 := by rw [hl0]; simp
  have HL0 := Lib.hid hl0
  clear hl0
  go_wp2
  go_ret
  exact lineTo_mk HL0.out L0
end Go.Proofs.YtnnmjmjbfeoggaaGreatDoor
namespace Go.Proofs.YtnnmjmjbfeoggaaGreatDoor
set_option maxRecDepth 100000
open Go.ChangeShapes Go.WideShapes Go.ChangeAt Go.RowKit
set_option maxHeartbeats 4000000 in
theorem lw_roleE (nm rf rt rb ra ri : Tx) (rn rm ln : Int) (a : Addr) (c : Nat) (w : World) :
    Calls Tryz.prog 91 #[.agg #[.int .i64 1, .string (bs nm), .slice (some a) 0 c, .int .i64 rn, .int .i64 rm, .string (bs rf), .string (bs rt), .string (bs rb), .string (bs ra), .string (bs ri), .int .i64 ln]] w (LineTo ([wordP kindT 1] ++ [nm]) w) := by
  have RA : (w.alloc (.cells #[.int .i64 1, .string (bs nm), .slice (some a) 0 c, .int .i64 rn, .int .i64 rm, .string (bs rf), .string (bs rt), .string (bs rb), .string (bs ra), .string (bs ri), .int .i64 ln] 28)).drew.heap[w.heap.size]? = some (.cells #[.int .i64 1, .string (bs nm), .slice (some a) 0 c, .int .i64 rn, .int .i64 rm, .string (bs rf), .string (bs rt), .string (bs rb), .string (bs ra), .string (bs ri), .int .i64 ln] 28 (0, 0)) := (heap_alloc_new _ _ : (w.alloc (.cells #[.int .i64 1, .string (bs nm), .slice (some a) 0 c, .int .i64 rn, .int .i64 rm, .string (bs rf), .string (bs rt), .string (bs rb), .string (bs ra), .string (bs ri), .int .i64 ln] 28)).heap[w.heap.size]? = _)
  have HB : Below w.heap.size w (w.alloc (.cells #[.int .i64 1, .string (bs nm), .slice (some a) 0 c, .int .i64 rn, .int .i64 rm, .string (bs rf), .string (bs rt), .string (bs rb), .string (bs ra), .string (bs ri), .int .i64 ln] 28)).drew := ((Below.refl _ _).alloc (Nat.le_refl _) _).drew
  obtain ⟨i0, hi, hz0, hz1, hz2⟩ := info_parts Tryz.infoString
  go_enter Tryz.func91, Tryz.ntmps91
  go_upto_region 1 with fail
  go_region_held3 (fun w' => w'.cell? ⟨w.heap.size, 0, none⟩ = some (.int .i64 1)) (first | exact row_q0 RA | exact row_q0 (row_alloc RA _) | assumption)
    (first
      | (go_at_call 137; refine (kindWords_any _).mono ?_; rintro e w1 ⟨t, rfl, ht, hst, hb1⟩; have HT := Lib.hid ht; clear ht; have RA := row_below RA hb1; have HB := below_then HB hb1 HB.size)
      | (go_at_call 136; refine (wordAt_any t 12 12 kindT 1 _ hst rfl (by decide) (by decide)).mono ?_; rintro e w2 ⟨rfl, rfl⟩))
  have L0 : LS w (w1.alloc (.cells #[.string (bs (wordP kindT 1))] 9)) #[.int .i64 1, .string (bs nm), .slice (some a) 0 c, .int .i64 rn, .int .i64 rm, .string (bs rf), .string (bs rt), .string (bs rb), .string (bs ra), .string (bs ri), .int .i64 ln] (.slice (some ⟨w1.heap.size, 0, none⟩) 1 1) [wordP kindT 1] :=
    ⟨row_alloc RA _, own_new w1 _ [wordP kindT 1] (by have := (Array.getElem?_eq_some_iff.1 RA).1; omega) (by simp), HB.alloc HB.size _⟩
  generalize w1.alloc (.cells #[.string (bs (wordP kindT 1))] 9) = X0 at *
  generalize w1.heap.size = h1 at *
  clear HT hst hb1 RA HB
  obtain ⟨l0, hl0⟩ : ∃ q, q = [wordP kindT 1] := ⟨_, rfl⟩
  rw [← hl0] at L0
  have n0 : l0.length ≤ 1 := by rw [hl0]; simp
  have HL0 := Lib.hid hl0
  clear hl0
  have q1 := row_q1 L0.row; have q2 := row_q2 L0.row; have q3 := row_q3 L0.row; have q4 := row_q4 L0.row; have q5 := row_q5 L0.row; have q6 := row_q6 L0.row; have q7 := row_q7 L0.row; have q8 := row_q8 L0.row; have q9 := row_q9 L0.row
  go_upto_region 5 with (at_builtin; go_must (refine wpList_append_own _ rfl (.tmp 13) (.tmp 16) 26 rfl (w.heap.size + 1) 9 i0 _ 1 16 Tryz.underlying26 hi hz0 hz1 hz2 rfl (by decide) _ _ _ rfl (L0.own.alloc _) ⟨X0.heap.size, 0, none⟩ 1 1 (scells [nm]) rfl rfl (cells_new _ (scells [nm]) _) (scells_one _) (by unfold maxLen; omega) (by omega) (by have := L0.size; (try simp); omega) ?_); intro v1 X1 hown1 hg1 _)
  have L1 := L0.app (World.grownBy_alloc _ _ none) hg1 hown1
  clear q1 q2 q3 q4 q5 q6 q7 q8 q9
  obtain ⟨l1, hl1⟩ : ∃ q, q = l0 ++ [nm] := ⟨_, rfl⟩
  rw [← hl1] at L1
  have n1 : l1.length ≤ 6 := by rw [hl1]; simp; omega
  have HL1 := Lib.hid hl1
  clear hl1
  obtain ⟨A1, c1, rfl⟩ := own_slice L1.own
  have q1 := row_q1 L1.row; have q2 := row_q2 L1.row; have q3 := row_q3 L1.row; have q4 := row_q4 L1.row; have q5 := row_q5 L1.row; have q6 := row_q6 L1.row; have q7 := row_q7 L1.row; have q8 := row_q8 L1.row; have q9 := row_q9 L1.row
  go_upto_region 7 with fail
  clear q1 q2 q3 q4 q5 q6 q7 q8 q9
  have q1 := row_q1 L1.row; have q2 := row_q2 L1.row; have q3 := row_q3 L1.row; have q4 := row_q4 L1.row; have q5 := row_q5 L1.row; have q6 := row_q6 L1.row; have q7 := row_q7 L1.row; have q8 := row_q8 L1.row; have q9 := row_q9 L1.row
  have HSRC3 : ∀ j u, (scells [])[j]? = some u → X1.cell? (a.add j) = some u := (by intro j u hu; simp [scells] at hu)
  go_wp2_with (at_builtin; go_must (refine wpList_append_own _ rfl (.tmp 25) (.tmp 27) 26 rfl (w.heap.size + 1) 9 i0 _ 1 16 Tryz.underlying26 hi hz0 hz1 hz2 rfl (by decide) _ _ _ rfl L1.own a 0 c (scells []) rfl (by simp [scells]) HSRC3 (scells_one _) (by unfold maxLen; omega) (by omega) (by have := L1.size; (try simp); omega) ?_); intro v3 X3 hown3 hg3 _)
  have L3 := L1.app (World.grownBy.refl _ _) hg3 hown3
  clear q1 q2 q3 q4 q5 q6 q7 q8 q9
  go_ret
  exact lineTo_mk (by rw [HL1.out, HL0.out]; try simp) L3

set_option maxHeartbeats 4000000 in
theorem lw_exclE (nm rf rt rb ra ri : Tx) (rn rm ln : Int) (a : Addr) (c : Nat) (w : World) :
    Calls Tryz.prog 91 #[.agg #[.int .i64 6, .string (bs nm), .slice (some a) 0 c, .int .i64 rn, .int .i64 rm, .string (bs rf), .string (bs rt), .string (bs rb), .string (bs ra), .string (bs ri), .int .i64 ln]] w (LineTo ([wordP kindT 6]) w) := by
  have RA : (w.alloc (.cells #[.int .i64 6, .string (bs nm), .slice (some a) 0 c, .int .i64 rn, .int .i64 rm, .string (bs rf), .string (bs rt), .string (bs rb), .string (bs ra), .string (bs ri), .int .i64 ln] 28)).drew.heap[w.heap.size]? = some (.cells #[.int .i64 6, .string (bs nm), .slice (some a) 0 c, .int .i64 rn, .int .i64 rm, .string (bs rf), .string (bs rt), .string (bs rb), .string (bs ra), .string (bs ri), .int .i64 ln] 28 (0, 0)) := (heap_alloc_new _ _ : (w.alloc (.cells #[.int .i64 6, .string (bs nm), .slice (some a) 0 c, .int .i64 rn, .int .i64 rm, .string (bs rf), .string (bs rt), .string (bs rb), .string (bs ra), .string (bs ri), .int .i64 ln] 28)).heap[w.heap.size]? = _)
  have HB : Below w.heap.size w (w.alloc (.cells #[.int .i64 6, .string (bs nm), .slice (some a) 0 c, .int .i64 rn, .int .i64 rm, .string (bs rf), .string (bs rt), .string (bs rb), .string (bs ra), .string (bs ri), .int .i64 ln] 28)).drew := ((Below.refl _ _).alloc (Nat.le_refl _) _).drew
  obtain ⟨i0, hi, hz0, hz1, hz2⟩ := info_parts Tryz.infoString
  go_enter Tryz.func91, Tryz.ntmps91
  go_upto_region 1 with fail
  go_region_held3 (fun w' => w'.cell? ⟨w.heap.size, 0, none⟩ = some (.int .i64 6)) (first | exact row_q0 RA | exact row_q0 (row_alloc RA _) | assumption)
    (first
      | (go_at_call 137; refine (kindWords_any _).mono ?_; rintro e w1 ⟨t, rfl, ht, hst, hb1⟩; have HT := Lib.hid ht; clear ht; have RA := row_below RA hb1; have HB := below_then HB hb1 HB.size)
      | (go_at_call 136; refine (wordAt_any t 12 12 kindT 6 _ hst rfl (by decide) (by decide)).mono ?_; rintro e w2 ⟨rfl, rfl⟩))
  have L0 : LS w (w1.alloc (.cells #[.string (bs (wordP kindT 6))] 9)) #[.int .i64 6, .string (bs nm), .slice (some a) 0 c, .int .i64 rn, .int .i64 rm, .string (bs rf), .string (bs rt), .string (bs rb), .string (bs ra), .string (bs ri), .int .i64 ln] (.slice (some ⟨w1.heap.size, 0, none⟩) 1 1) [wordP kindT 6] :=
    ⟨row_alloc RA _, own_new w1 _ [wordP kindT 6] (by have := (Array.getElem?_eq_some_iff.1 RA).1; omega) (by simp), HB.alloc HB.size _⟩
  generalize w1.alloc (.cells #[.string (bs (wordP kindT 6))] 9) = X0 at *
  generalize w1.heap.size = h1 at *
  clear HT hst hb1 RA HB
  obtain ⟨l0, hl0⟩ : ∃ q, q = [wordP kindT 6] := ⟨_, rfl⟩
  rw [← hl0] at L0
  have n0 : l0.length ≤ 1 := by rw [hl0]; simp
  have HL0 := Lib.hid hl0
  clear hl0
  have q1 := row_q1 L0.row; have q2 := row_q2 L0.row; have q3 := row_q3 L0.row; have q4 := row_q4 L0.row; have q5 := row_q5 L0.row; have q6 := row_q6 L0.row; have q7 := row_q7 L0.row; have q8 := row_q8 L0.row; have q9 := row_q9 L0.row
  have HSRC1 : ∀ j u, (scells [])[j]? = some u → X0.cell? (a.add j) = some u := (by intro j u hu; simp [scells] at hu)
  go_wp2_with (at_builtin; go_must (refine wpList_append_own _ rfl (.tmp 56) (.tmp 58) 26 rfl (w.heap.size + 1) 9 i0 _ 1 16 Tryz.underlying26 hi hz0 hz1 hz2 rfl (by decide) _ _ _ rfl L0.own a 0 c (scells []) rfl (by simp [scells]) HSRC1 (scells_one _) (by unfold maxLen; omega) (by omega) (by have := L0.size; (try simp); omega) ?_); intro v1 X1 hown1 hg1 _)
  have L1 := L0.app (World.grownBy.refl _ _) hg1 hown1
  clear q1 q2 q3 q4 q5 q6 q7 q8 q9
  go_ret
  exact lineTo_mk (by rw [HL0.out]; try simp) L1

set_option maxHeartbeats 4000000 in
theorem lw_user2E (nm rf rt rb ra ri : Tx) (rn rm ln : Int) (a : Addr) (c : Nat) (w : World) :
    Calls Tryz.prog 91 #[.agg #[.int .i64 2, .string (bs nm), .slice (some a) 0 c, .int .i64 rn, .int .i64 rm, .string (bs rf), .string (bs rt), .string (bs rb), .string (bs ra), .string (bs ri), .int .i64 ln]] w (LineTo ([wordP kindT 2] ++ [nm]) w) := by
  have RA : (w.alloc (.cells #[.int .i64 2, .string (bs nm), .slice (some a) 0 c, .int .i64 rn, .int .i64 rm, .string (bs rf), .string (bs rt), .string (bs rb), .string (bs ra), .string (bs ri), .int .i64 ln] 28)).drew.heap[w.heap.size]? = some (.cells #[.int .i64 2, .string (bs nm), .slice (some a) 0 c, .int .i64 rn, .int .i64 rm, .string (bs rf), .string (bs rt), .string (bs rb), .string (bs ra), .string (bs ri), .int .i64 ln] 28 (0, 0)) := (heap_alloc_new _ _ : (w.alloc (.cells #[.int .i64 2, .string (bs nm), .slice (some a) 0 c, .int .i64 rn, .int .i64 rm, .string (bs rf), .string (bs rt), .string (bs rb), .string (bs ra), .string (bs ri), .int .i64 ln] 28)).heap[w.heap.size]? = _)
  have HB : Below w.heap.size w (w.alloc (.cells #[.int .i64 2, .string (bs nm), .slice (some a) 0 c, .int .i64 rn, .int .i64 rm, .string (bs rf), .string (bs rt), .string (bs rb), .string (bs ra), .string (bs ri), .int .i64 ln] 28)).drew := ((Below.refl _ _).alloc (Nat.le_refl _) _).drew
  obtain ⟨i0, hi, hz0, hz1, hz2⟩ := info_parts Tryz.infoString
  go_enter Tryz.func91, Tryz.ntmps91
  go_upto_region 1 with fail
  go_region_held3 (fun w' => w'.cell? ⟨w.heap.size, 0, none⟩ = some (.int .i64 2)) (first | exact row_q0 RA | exact row_q0 (row_alloc RA _) | assumption)
    (first
      | (go_at_call 137; refine (kindWords_any _).mono ?_; rintro e w1 ⟨t, rfl, ht, hst, hb1⟩; have HT := Lib.hid ht; clear ht; have RA := row_below RA hb1; have HB := below_then HB hb1 HB.size)
      | (go_at_call 136; refine (wordAt_any t 12 12 kindT 2 _ hst rfl (by decide) (by decide)).mono ?_; rintro e w2 ⟨rfl, rfl⟩))
  have L0 : LS w (w1.alloc (.cells #[.string (bs (wordP kindT 2))] 9)) #[.int .i64 2, .string (bs nm), .slice (some a) 0 c, .int .i64 rn, .int .i64 rm, .string (bs rf), .string (bs rt), .string (bs rb), .string (bs ra), .string (bs ri), .int .i64 ln] (.slice (some ⟨w1.heap.size, 0, none⟩) 1 1) [wordP kindT 2] :=
    ⟨row_alloc RA _, own_new w1 _ [wordP kindT 2] (by have := (Array.getElem?_eq_some_iff.1 RA).1; omega) (by simp), HB.alloc HB.size _⟩
  generalize w1.alloc (.cells #[.string (bs (wordP kindT 2))] 9) = X0 at *
  generalize w1.heap.size = h1 at *
  clear HT hst hb1 RA HB
  obtain ⟨l0, hl0⟩ : ∃ q, q = [wordP kindT 2] := ⟨_, rfl⟩
  rw [← hl0] at L0
  have n0 : l0.length ≤ 1 := by rw [hl0]; simp
  have HL0 := Lib.hid hl0
  clear hl0
  have q1 := row_q1 L0.row; have q2 := row_q2 L0.row; have q3 := row_q3 L0.row; have q4 := row_q4 L0.row; have q5 := row_q5 L0.row; have q6 := row_q6 L0.row; have q7 := row_q7 L0.row; have q8 := row_q8 L0.row; have q9 := row_q9 L0.row
  go_upto_region 11 with (at_builtin; go_must (refine wpList_append_own _ rfl (.tmp 32) (.tmp 35) 26 rfl (w.heap.size + 1) 9 i0 _ 1 16 Tryz.underlying26 hi hz0 hz1 hz2 rfl (by decide) _ _ _ rfl (L0.own.alloc _) ⟨X0.heap.size, 0, none⟩ 1 1 (scells [nm]) rfl rfl (cells_new _ (scells [nm]) _) (scells_one _) (by unfold maxLen; omega) (by omega) (by have := L0.size; (try simp); omega) ?_); intro v1 X1 hown1 hg1 _)
  have L1 := L0.app (World.grownBy_alloc _ _ none) hg1 hown1
  clear q1 q2 q3 q4 q5 q6 q7 q8 q9
  obtain ⟨l1, hl1⟩ : ∃ q, q = l0 ++ [nm] := ⟨_, rfl⟩
  rw [← hl1] at L1
  have n1 : l1.length ≤ 6 := by rw [hl1]; simp; omega
  have HL1 := Lib.hid hl1
  clear hl1
  obtain ⟨A1, c1, rfl⟩ := own_slice L1.own
  have q1 := row_q1 L1.row; have q2 := row_q2 L1.row; have q3 := row_q3 L1.row; have q4 := row_q4 L1.row; have q5 := row_q5 L1.row; have q6 := row_q6 L1.row; have q7 := row_q7 L1.row; have q8 := row_q8 L1.row; have q9 := row_q9 L1.row
  have HSRC2 : ∀ j u, (scells [])[j]? = some u → X1.cell? (a.add j) = some u := (by intro j u hu; simp [scells] at hu)
  go_wp2_with (at_builtin; go_must (refine wpList_append_own _ rfl (.tmp 37) (.tmp 39) 26 rfl (w.heap.size + 1) 9 i0 _ 1 16 Tryz.underlying26 hi hz0 hz1 hz2 rfl (by decide) _ _ _ rfl L1.own a 0 c (scells []) rfl (by simp [scells]) HSRC2 (scells_one _) (by unfold maxLen; omega) (by omega) (by have := L1.size; (try simp); omega) ?_); intro v2 X2 hown2 hg2 _)
  have L2 := L1.app (World.grownBy.refl _ _) hg2 hown2
  clear q1 q2 q3 q4 q5 q6 q7 q8 q9
  go_ret
  exact lineTo_mk (by rw [HL1.out, HL0.out]; try simp) L2

set_option maxHeartbeats 4000000 in
theorem lw_user3E (nm rf rt rb ra ri : Tx) (rn rm ln : Int) (a : Addr) (c : Nat) (w : World) :
    Calls Tryz.prog 91 #[.agg #[.int .i64 3, .string (bs nm), .slice (some a) 0 c, .int .i64 rn, .int .i64 rm, .string (bs rf), .string (bs rt), .string (bs rb), .string (bs ra), .string (bs ri), .int .i64 ln]] w (LineTo ([wordP kindT 3] ++ [nm]) w) := by
  have RA : (w.alloc (.cells #[.int .i64 3, .string (bs nm), .slice (some a) 0 c, .int .i64 rn, .int .i64 rm, .string (bs rf), .string (bs rt), .string (bs rb), .string (bs ra), .string (bs ri), .int .i64 ln] 28)).drew.heap[w.heap.size]? = some (.cells #[.int .i64 3, .string (bs nm), .slice (some a) 0 c, .int .i64 rn, .int .i64 rm, .string (bs rf), .string (bs rt), .string (bs rb), .string (bs ra), .string (bs ri), .int .i64 ln] 28 (0, 0)) := (heap_alloc_new _ _ : (w.alloc (.cells #[.int .i64 3, .string (bs nm), .slice (some a) 0 c, .int .i64 rn, .int .i64 rm, .string (bs rf), .string (bs rt), .string (bs rb), .string (bs ra), .string (bs ri), .int .i64 ln] 28)).heap[w.heap.size]? = _)
  have HB : Below w.heap.size w (w.alloc (.cells #[.int .i64 3, .string (bs nm), .slice (some a) 0 c, .int .i64 rn, .int .i64 rm, .string (bs rf), .string (bs rt), .string (bs rb), .string (bs ra), .string (bs ri), .int .i64 ln] 28)).drew := ((Below.refl _ _).alloc (Nat.le_refl _) _).drew
  obtain ⟨i0, hi, hz0, hz1, hz2⟩ := info_parts Tryz.infoString
  go_enter Tryz.func91, Tryz.ntmps91
  go_upto_region 1 with fail
  go_region_held3 (fun w' => w'.cell? ⟨w.heap.size, 0, none⟩ = some (.int .i64 3)) (first | exact row_q0 RA | exact row_q0 (row_alloc RA _) | assumption)
    (first
      | (go_at_call 137; refine (kindWords_any _).mono ?_; rintro e w1 ⟨t, rfl, ht, hst, hb1⟩; have HT := Lib.hid ht; clear ht; have RA := row_below RA hb1; have HB := below_then HB hb1 HB.size)
      | (go_at_call 136; refine (wordAt_any t 12 12 kindT 3 _ hst rfl (by decide) (by decide)).mono ?_; rintro e w2 ⟨rfl, rfl⟩))
  have L0 : LS w (w1.alloc (.cells #[.string (bs (wordP kindT 3))] 9)) #[.int .i64 3, .string (bs nm), .slice (some a) 0 c, .int .i64 rn, .int .i64 rm, .string (bs rf), .string (bs rt), .string (bs rb), .string (bs ra), .string (bs ri), .int .i64 ln] (.slice (some ⟨w1.heap.size, 0, none⟩) 1 1) [wordP kindT 3] :=
    ⟨row_alloc RA _, own_new w1 _ [wordP kindT 3] (by have := (Array.getElem?_eq_some_iff.1 RA).1; omega) (by simp), HB.alloc HB.size _⟩
  generalize w1.alloc (.cells #[.string (bs (wordP kindT 3))] 9) = X0 at *
  generalize w1.heap.size = h1 at *
  clear HT hst hb1 RA HB
  obtain ⟨l0, hl0⟩ : ∃ q, q = [wordP kindT 3] := ⟨_, rfl⟩
  rw [← hl0] at L0
  have n0 : l0.length ≤ 1 := by rw [hl0]; simp
  have HL0 := Lib.hid hl0
  clear hl0
  have q1 := row_q1 L0.row; have q2 := row_q2 L0.row; have q3 := row_q3 L0.row; have q4 := row_q4 L0.row; have q5 := row_q5 L0.row; have q6 := row_q6 L0.row; have q7 := row_q7 L0.row; have q8 := row_q8 L0.row; have q9 := row_q9 L0.row
  go_upto_region 11 with (at_builtin; go_must (refine wpList_append_own _ rfl (.tmp 32) (.tmp 35) 26 rfl (w.heap.size + 1) 9 i0 _ 1 16 Tryz.underlying26 hi hz0 hz1 hz2 rfl (by decide) _ _ _ rfl (L0.own.alloc _) ⟨X0.heap.size, 0, none⟩ 1 1 (scells [nm]) rfl rfl (cells_new _ (scells [nm]) _) (scells_one _) (by unfold maxLen; omega) (by omega) (by have := L0.size; (try simp); omega) ?_); intro v1 X1 hown1 hg1 _)
  have L1 := L0.app (World.grownBy_alloc _ _ none) hg1 hown1
  clear q1 q2 q3 q4 q5 q6 q7 q8 q9
  obtain ⟨l1, hl1⟩ : ∃ q, q = l0 ++ [nm] := ⟨_, rfl⟩
  rw [← hl1] at L1
  have n1 : l1.length ≤ 6 := by rw [hl1]; simp; omega
  have HL1 := Lib.hid hl1
  clear hl1
  obtain ⟨A1, c1, rfl⟩ := own_slice L1.own
  have q1 := row_q1 L1.row; have q2 := row_q2 L1.row; have q3 := row_q3 L1.row; have q4 := row_q4 L1.row; have q5 := row_q5 L1.row; have q6 := row_q6 L1.row; have q7 := row_q7 L1.row; have q8 := row_q8 L1.row; have q9 := row_q9 L1.row
  have HSRC2 : ∀ j u, (scells [])[j]? = some u → X1.cell? (a.add j) = some u := (by intro j u hu; simp [scells] at hu)
  go_wp2_with (at_builtin; go_must (refine wpList_append_own _ rfl (.tmp 37) (.tmp 39) 26 rfl (w.heap.size + 1) 9 i0 _ 1 16 Tryz.underlying26 hi hz0 hz1 hz2 rfl (by decide) _ _ _ rfl L1.own a 0 c (scells []) rfl (by simp [scells]) HSRC2 (scells_one _) (by unfold maxLen; omega) (by omega) (by have := L1.size; (try simp); omega) ?_); intro v2 X2 hown2 hg2 _)
  have L2 := L1.app (World.grownBy.refl _ _) hg2 hown2
  clear q1 q2 q3 q4 q5 q6 q7 q8 q9
  go_ret
  exact lineTo_mk (by rw [HL1.out, HL0.out]; try simp) L2

set_option maxHeartbeats 4000000 in
theorem lw_ssd4E (nm rf rt rb ra ri : Tx) (rn rm ln : Int) (a : Addr) (c : Nat) (w : World) (it : Tx) (hit : ∀ W, Below w.heap.size w W → Calls Tryz.prog 138 #[.int .i64 rn] W fun e w' => e = .returned (.string (bs it)) ∧ Below W.heap.size W w') :
    Calls Tryz.prog 91 #[.agg #[.int .i64 4, .string (bs nm), .slice (some a) 0 c, .int .i64 rn, .int .i64 rm, .string (bs rf), .string (bs rt), .string (bs rb), .string (bs ra), .string (bs ri), .int .i64 ln]] w (LineTo ([wordP kindT 4] ++ [it]) w) := by
  have RA : (w.alloc (.cells #[.int .i64 4, .string (bs nm), .slice (some a) 0 c, .int .i64 rn, .int .i64 rm, .string (bs rf), .string (bs rt), .string (bs rb), .string (bs ra), .string (bs ri), .int .i64 ln] 28)).drew.heap[w.heap.size]? = some (.cells #[.int .i64 4, .string (bs nm), .slice (some a) 0 c, .int .i64 rn, .int .i64 rm, .string (bs rf), .string (bs rt), .string (bs rb), .string (bs ra), .string (bs ri), .int .i64 ln] 28 (0, 0)) := (heap_alloc_new _ _ : (w.alloc (.cells #[.int .i64 4, .string (bs nm), .slice (some a) 0 c, .int .i64 rn, .int .i64 rm, .string (bs rf), .string (bs rt), .string (bs rb), .string (bs ra), .string (bs ri), .int .i64 ln] 28)).heap[w.heap.size]? = _)
  have HB : Below w.heap.size w (w.alloc (.cells #[.int .i64 4, .string (bs nm), .slice (some a) 0 c, .int .i64 rn, .int .i64 rm, .string (bs rf), .string (bs rt), .string (bs rb), .string (bs ra), .string (bs ri), .int .i64 ln] 28)).drew := ((Below.refl _ _).alloc (Nat.le_refl _) _).drew
  obtain ⟨i0, hi, hz0, hz1, hz2⟩ := info_parts Tryz.infoString
  go_enter Tryz.func91, Tryz.ntmps91
  go_upto_region 1 with fail
  go_region_held3 (fun w' => w'.cell? ⟨w.heap.size, 0, none⟩ = some (.int .i64 4)) (first | exact row_q0 RA | exact row_q0 (row_alloc RA _) | assumption)
    (first
      | (go_at_call 137; refine (kindWords_any _).mono ?_; rintro e w1 ⟨t, rfl, ht, hst, hb1⟩; have HT := Lib.hid ht; clear ht; have RA := row_below RA hb1; have HB := below_then HB hb1 HB.size)
      | (go_at_call 136; refine (wordAt_any t 12 12 kindT 4 _ hst rfl (by decide) (by decide)).mono ?_; rintro e w2 ⟨rfl, rfl⟩))
  have L0 : LS w (w1.alloc (.cells #[.string (bs (wordP kindT 4))] 9)) #[.int .i64 4, .string (bs nm), .slice (some a) 0 c, .int .i64 rn, .int .i64 rm, .string (bs rf), .string (bs rt), .string (bs rb), .string (bs ra), .string (bs ri), .int .i64 ln] (.slice (some ⟨w1.heap.size, 0, none⟩) 1 1) [wordP kindT 4] :=
    ⟨row_alloc RA _, own_new w1 _ [wordP kindT 4] (by have := (Array.getElem?_eq_some_iff.1 RA).1; omega) (by simp), HB.alloc HB.size _⟩
  generalize w1.alloc (.cells #[.string (bs (wordP kindT 4))] 9) = X0 at *
  generalize w1.heap.size = h1 at *
  clear HT hst hb1 RA HB
  obtain ⟨l0, hl0⟩ : ∃ q, q = [wordP kindT 4] := ⟨_, rfl⟩
  rw [← hl0] at L0
  have n0 : l0.length ≤ 1 := by rw [hl0]; simp
  have HL0 := Lib.hid hl0
  clear hl0
  have q1 := row_q1 L0.row; have q2 := row_q2 L0.row; have q3 := row_q3 L0.row; have q4 := row_q4 L0.row; have q5 := row_q5 L0.row; have q6 := row_q6 L0.row; have q7 := row_q7 L0.row; have q8 := row_q8 L0.row; have q9 := row_q9 L0.row
  go_upto_region 15 with (first | (go_at_call 138; refine (hit _ L0.low).mono ?_; rintro e XI ⟨rfl, hbI⟩; have LI := L0.below hbI) | (at_builtin; go_must (refine wpList_append_own _ rfl (.tmp 44) (.tmp 48) 26 rfl (w.heap.size + 1) 9 i0 _ 1 16 Tryz.underlying26 hi hz0 hz1 hz2 rfl (by decide) _ _ _ rfl (LI.own.alloc _) ⟨XI.heap.size, 0, none⟩ 1 1 (scells [it]) rfl rfl (cells_new _ (scells [it]) _) (scells_one _) (by unfold maxLen; omega) (by omega) (by have := LI.size; (try simp); omega) ?_); intro v1 X1 hown1 hg1 _))
  have L1 := LI.app (World.grownBy_alloc _ _ none) hg1 hown1
  clear q1 q2 q3 q4 q5 q6 q7 q8 q9
  obtain ⟨l1, hl1⟩ : ∃ q, q = l0 ++ [it] := ⟨_, rfl⟩
  rw [← hl1] at L1
  have n1 : l1.length ≤ 6 := by rw [hl1]; simp; omega
  have HL1 := Lib.hid hl1
  clear hl1
  obtain ⟨A1, c1, rfl⟩ := own_slice L1.own
  have q1 := row_q1 L1.row; have q2 := row_q2 L1.row; have q3 := row_q3 L1.row; have q4 := row_q4 L1.row; have q5 := row_q5 L1.row; have q6 := row_q6 L1.row; have q7 := row_q7 L1.row; have q8 := row_q8 L1.row; have q9 := row_q9 L1.row
  have HSRC2 : ∀ j u, (scells [])[j]? = some u → X1.cell? (a.add j) = some u := (by intro j u hu; simp [scells] at hu)
  go_wp2_with (at_builtin; go_must (refine wpList_append_own _ rfl (.tmp 50) (.tmp 52) 26 rfl (w.heap.size + 1) 9 i0 _ 1 16 Tryz.underlying26 hi hz0 hz1 hz2 rfl (by decide) _ _ _ rfl L1.own a 0 c (scells []) rfl (by simp [scells]) HSRC2 (scells_one _) (by unfold maxLen; omega) (by omega) (by have := L1.size; (try simp); omega) ?_); intro v2 X2 hown2 hg2 _)
  have L2 := L1.app (World.grownBy.refl _ _) hg2 hown2
  clear q1 q2 q3 q4 q5 q6 q7 q8 q9
  go_ret
  exact lineTo_mk (by rw [HL1.out, HL0.out]; try simp) L2

set_option maxHeartbeats 4000000 in
theorem lw_ssd5E (nm rf rt rb ra ri : Tx) (rn rm ln : Int) (a : Addr) (c : Nat) (w : World) (it : Tx) (hit : ∀ W, Below w.heap.size w W → Calls Tryz.prog 138 #[.int .i64 rn] W fun e w' => e = .returned (.string (bs it)) ∧ Below W.heap.size W w') :
    Calls Tryz.prog 91 #[.agg #[.int .i64 5, .string (bs nm), .slice (some a) 0 c, .int .i64 rn, .int .i64 rm, .string (bs rf), .string (bs rt), .string (bs rb), .string (bs ra), .string (bs ri), .int .i64 ln]] w (LineTo ([wordP kindT 5] ++ [it]) w) := by
  have RA : (w.alloc (.cells #[.int .i64 5, .string (bs nm), .slice (some a) 0 c, .int .i64 rn, .int .i64 rm, .string (bs rf), .string (bs rt), .string (bs rb), .string (bs ra), .string (bs ri), .int .i64 ln] 28)).drew.heap[w.heap.size]? = some (.cells #[.int .i64 5, .string (bs nm), .slice (some a) 0 c, .int .i64 rn, .int .i64 rm, .string (bs rf), .string (bs rt), .string (bs rb), .string (bs ra), .string (bs ri), .int .i64 ln] 28 (0, 0)) := (heap_alloc_new _ _ : (w.alloc (.cells #[.int .i64 5, .string (bs nm), .slice (some a) 0 c, .int .i64 rn, .int .i64 rm, .string (bs rf), .string (bs rt), .string (bs rb), .string (bs ra), .string (bs ri), .int .i64 ln] 28)).heap[w.heap.size]? = _)
  have HB : Below w.heap.size w (w.alloc (.cells #[.int .i64 5, .string (bs nm), .slice (some a) 0 c, .int .i64 rn, .int .i64 rm, .string (bs rf), .string (bs rt), .string (bs rb), .string (bs ra), .string (bs ri), .int .i64 ln] 28)).drew := ((Below.refl _ _).alloc (Nat.le_refl _) _).drew
  obtain ⟨i0, hi, hz0, hz1, hz2⟩ := info_parts Tryz.infoString
  go_enter Tryz.func91, Tryz.ntmps91
  go_upto_region 1 with fail
  go_region_held3 (fun w' => w'.cell? ⟨w.heap.size, 0, none⟩ = some (.int .i64 5)) (first | exact row_q0 RA | exact row_q0 (row_alloc RA _) | assumption)
    (first
      | (go_at_call 137; refine (kindWords_any _).mono ?_; rintro e w1 ⟨t, rfl, ht, hst, hb1⟩; have HT := Lib.hid ht; clear ht; have RA := row_below RA hb1; have HB := below_then HB hb1 HB.size)
      | (go_at_call 136; refine (wordAt_any t 12 12 kindT 5 _ hst rfl (by decide) (by decide)).mono ?_; rintro e w2 ⟨rfl, rfl⟩))
  have L0 : LS w (w1.alloc (.cells #[.string (bs (wordP kindT 5))] 9)) #[.int .i64 5, .string (bs nm), .slice (some a) 0 c, .int .i64 rn, .int .i64 rm, .string (bs rf), .string (bs rt), .string (bs rb), .string (bs ra), .string (bs ri), .int .i64 ln] (.slice (some ⟨w1.heap.size, 0, none⟩) 1 1) [wordP kindT 5] :=
    ⟨row_alloc RA _, own_new w1 _ [wordP kindT 5] (by have := (Array.getElem?_eq_some_iff.1 RA).1; omega) (by simp), HB.alloc HB.size _⟩
  generalize w1.alloc (.cells #[.string (bs (wordP kindT 5))] 9) = X0 at *
  generalize w1.heap.size = h1 at *
  clear HT hst hb1 RA HB
  obtain ⟨l0, hl0⟩ : ∃ q, q = [wordP kindT 5] := ⟨_, rfl⟩
  rw [← hl0] at L0
  have n0 : l0.length ≤ 1 := by rw [hl0]; simp
  have HL0 := Lib.hid hl0
  clear hl0
  have q1 := row_q1 L0.row; have q2 := row_q2 L0.row; have q3 := row_q3 L0.row; have q4 := row_q4 L0.row; have q5 := row_q5 L0.row; have q6 := row_q6 L0.row; have q7 := row_q7 L0.row; have q8 := row_q8 L0.row; have q9 := row_q9 L0.row
  go_upto_region 15 with (first | (go_at_call 138; refine (hit _ L0.low).mono ?_; rintro e XI ⟨rfl, hbI⟩; have LI := L0.below hbI) | (at_builtin; go_must (refine wpList_append_own _ rfl (.tmp 44) (.tmp 48) 26 rfl (w.heap.size + 1) 9 i0 _ 1 16 Tryz.underlying26 hi hz0 hz1 hz2 rfl (by decide) _ _ _ rfl (LI.own.alloc _) ⟨XI.heap.size, 0, none⟩ 1 1 (scells [it]) rfl rfl (cells_new _ (scells [it]) _) (scells_one _) (by unfold maxLen; omega) (by omega) (by have := LI.size; (try simp); omega) ?_); intro v1 X1 hown1 hg1 _))
  have L1 := LI.app (World.grownBy_alloc _ _ none) hg1 hown1
  clear q1 q2 q3 q4 q5 q6 q7 q8 q9
  obtain ⟨l1, hl1⟩ : ∃ q, q = l0 ++ [it] := ⟨_, rfl⟩
  rw [← hl1] at L1
  have n1 : l1.length ≤ 6 := by rw [hl1]; simp; omega
  have HL1 := Lib.hid hl1
  clear hl1
  obtain ⟨A1, c1, rfl⟩ := own_slice L1.own
  have q1 := row_q1 L1.row; have q2 := row_q2 L1.row; have q3 := row_q3 L1.row; have q4 := row_q4 L1.row; have q5 := row_q5 L1.row; have q6 := row_q6 L1.row; have q7 := row_q7 L1.row; have q8 := row_q8 L1.row; have q9 := row_q9 L1.row
  have HSRC2 : ∀ j u, (scells [])[j]? = some u → X1.cell? (a.add j) = some u := (by intro j u hu; simp [scells] at hu)
  go_wp2_with (at_builtin; go_must (refine wpList_append_own _ rfl (.tmp 50) (.tmp 52) 26 rfl (w.heap.size + 1) 9 i0 _ 1 16 Tryz.underlying26 hi hz0 hz1 hz2 rfl (by decide) _ _ _ rfl L1.own a 0 c (scells []) rfl (by simp [scells]) HSRC2 (scells_one _) (by unfold maxLen; omega) (by omega) (by have := L1.size; (try simp); omega) ?_); intro v2 X2 hown2 hg2 _)
  have L2 := L1.app (World.grownBy.refl _ _) hg2 hown2
  clear q1 q2 q3 q4 q5 q6 q7 q8 q9
  go_ret
  exact lineTo_mk (by rw [HL1.out, HL0.out]; try simp) L2
end Go.Proofs.YtnnmjmjbfeoggaaGreatDoor
namespace Go.Proofs.YtnnmjmjbfeoggaaGreatDoor
set_option maxRecDepth 100000
open Go.ChangeShapes Go.WideShapes Go.ChangeAt Go.RowKit

/-- a list of texts that stands in memory, or none -/
def LIn (w : World) (A : Option Addr) (c : Nat) (l : List Tx) : Prop := (l = [] ∧ (A = none → c = 0)) ∨ ∃ g off, A = some ⟨g, off, none⟩ ∧ g < w.heap.size ∧ l.length ≤ c ∧ ∀ j (hj : j < l.length), w.cell? ⟨g, off + j, none⟩ = some (.string (bs l[j]))
theorem LIn.below {w w' : World} {A : Option Addr} {c : Nat} {l : List Tx} (h : LIn w A c l) (hb : Below w.heap.size w w') : LIn w' A c l := by
  rcases h with h | ⟨g, off, e, hg, hl, hc⟩
  · exact .inl h
  · exact .inr ⟨g, off, e, Nat.lt_of_lt_of_le hg hb.size, hl, fun j hj => (hb.cell hg).trans (hc j hj)⟩
theorem LIn.at {w : World} {A : Option Addr} {c : Nat} {l : List Tx} (h : LIn w A c l) (hm : l.length ≤ 9223372036854775807) : LAt w A c l := by
  rcases h with ⟨rfl, h0⟩ | ⟨g, off, e, hg, hl, hc⟩
  · exact ⟨Nat.zero_le _, hm, fun j hj => by simp at hj⟩
  · exact ⟨hl, hm, fun j hj => ⟨g, off, e, hg, hc j hj⟩⟩
/-- the table of powers of ten that the program lists -/
def TabAt (w : World) : Prop := Lib.TabIs Tryz.prog w "internal/strconv.uint64pow10" .u64 Lib.pow10Tab
theorem TabAt.below {w w' : World} (h : TabAt w) (hb : Below w.heap.size w w') : TabAt w' := by
  have hgn : Tryz.prog.globalNamed "internal/strconv.uint64pow10" = some 2 := by kernel_rfl
  unfold TabAt Lib.TabIs World.var? at h ⊢
  rw [hgn] at h ⊢
  simp only [Option.bind_some] at h ⊢
  have hlt : 2 < w.heap.size := by
    rcases Nat.lt_or_ge 2 w.heap.size with h' | h'
    · exact h'
    · rw [Array.getElem?_eq_none h'] at h; cases h
  rw [hb.block _ hlt]
  exact h
theorem Itoa_any (n : Int) (h0 : -9223372036854775808 ≤ n) (h1 : n ≤ 9223372036854775807) (w : World) (ht : TabAt w) : ∀ W, Below w.heap.size w W → Calls Tryz.prog 138 #[.int .i64 n] W fun e w' => e = .returned (.string (bs (Lib.itoa n))) ∧ Below W.heap.size W w' := fun W hW =>
  (Tryz.strconv_Itoa n h0 h1 W (ht.below hW)).mono fun e w' h => ⟨h.1, by obtain ⟨k, os, e⟩ := h.2; rw [e]; exact Lib.below_grow _ _ (Nat.le_refl _) _ _⟩
/-- The line of any rule: its words. -/
theorem lineWords_any (r : Ru) (A : Option Addr) (ca : Nat) (ln : Int) (w : World) (hL : LIn w A ca r.list) (hl : r.list.length ≤ 1048576) (hn0 : -9223372036854775808 ≤ r.n) (hn1 : r.n ≤ 9223372036854775807) (hm0 : -9223372036854775808 ≤ r.m) (hm1 : r.m ≤ 9223372036854775807) (ht : TabAt w) :
    Calls Tryz.prog 91 #[ruV r (.slice A r.list.length ca) ln] w (LineTo (lineP r) w) := by
  obtain ⟨kd, nm, l, rn, rm, rf, rt, rb, ra, ri⟩ := r
  simp only at hL hl hn0 hn1 hm0 hm1
  have hi := Itoa_any rn hn0 hn1 w ht
  have hi2 := Itoa_any rm hm0 hm1 w ht
  unfold lineP ruV
  simp only
  by_cases k1 : kd = 1
  · subst k1
    simp only [if_true]
    rcases hL with ⟨rfl, h0⟩ | ⟨g, off, rfl, hg, hc, hcells⟩
    · cases A with
      | none => obtain rfl := h0 rfl; exact lw_roleN nm rf rt rb ra ri rn rm ln w
      | some a => exact lw_roleE nm rf rt rb ra ri rn rm ln a ca w
    · by_cases hp : l = []
      · subst hp
        exact lw_roleE nm rf rt rb ra ri rn rm ln _ ca w
      · rw [if_neg hp]
        have := lw_roleS nm rf rt rb ra ri rn rm ln g off ca l w hg hcells hl (List.length_pos_iff.2 hp)
        simpa using this
  rw [if_neg k1]
  by_cases k23 : kd = 2 ∨ kd = 3
  · rw [if_pos k23]
    rcases hL with ⟨rfl, h0⟩ | ⟨g, off, rfl, hg, hc, hcells⟩
    · cases A with
      | none =>
        obtain rfl := h0 rfl
        rcases k23 with rfl | rfl
        · exact lw_user2N nm rf rt rb ra ri rn rm ln w
        · exact lw_user3N nm rf rt rb ra ri rn rm ln w
      | some a =>
        rcases k23 with rfl | rfl
        · exact lw_user2E nm rf rt rb ra ri rn rm ln a ca w
        · exact lw_user3E nm rf rt rb ra ri rn rm ln a ca w
    · rcases k23 with rfl | rfl
      · have := lw_user2S nm rf rt rb ra ri rn rm ln g off ca l w hg hcells hl
        simpa using this
      · have := lw_user3S nm rf rt rb ra ri rn rm ln g off ca l w hg hcells hl
        simpa using this
  rw [if_neg k23]
  by_cases k45 : kd = 4 ∨ kd = 5
  · rw [if_pos k45]
    rcases hL with ⟨rfl, h0⟩ | ⟨g, off, rfl, hg, hc, hcells⟩
    · cases A with
      | none =>
        obtain rfl := h0 rfl
        rcases k45 with rfl | rfl
        · exact lw_ssd4N nm rf rt rb ra ri rn rm ln w (Lib.itoa rn) hi
        · exact lw_ssd5N nm rf rt rb ra ri rn rm ln w (Lib.itoa rn) hi
      | some a =>
        rcases k45 with rfl | rfl
        · exact lw_ssd4E nm rf rt rb ra ri rn rm ln a ca w (Lib.itoa rn) hi
        · exact lw_ssd5E nm rf rt rb ra ri rn rm ln a ca w (Lib.itoa rn) hi
    · rcases k45 with rfl | rfl
      · have := lw_ssd4S nm rf rt rb ra ri rn rm ln g off ca l w hg hcells hl (Lib.itoa rn) hi
        simpa using this
      · have := lw_ssd5S nm rf rt rb ra ri rn rm ln g off ca l w hg hcells hl (Lib.itoa rn) hi
        simpa using this
  rw [if_neg k45]
  by_cases k6 : kd = 6
  · subst k6
    simp only [if_true]
    rcases hL with ⟨rfl, h0⟩ | ⟨g, off, rfl, hg, hc, hcells⟩
    · cases A with
      | none => obtain rfl := h0 rfl; exact lw_exclN nm rf rt rb ra ri rn rm ln w
      | some a => exact lw_exclE nm rf rt rb ra ri rn rm ln a ca w
    · exact lw_excl nm rf rt rb ra ri rn rm ln g off ca l w hg hcells hl
  rw [if_neg k6]
  by_cases k7 : kd = 7
  · subst k7
    simp only [if_true]
    exact lw_lend nm rf rt rb ra ri rn rm ln w (Lib.itoa rn) (Lib.itoa rm) hi hi2
  rw [if_neg k7]
  by_cases k8 : kd = 8
  · subst k8
    simp only [if_true]
    by_cases h : ri = []
    · have := lw_state0 (A := A) (na := l.length) (ca := ca) nm rf rt rb ra ri rn rm ln w h
      rw [show optP [105, 110] ri = [] by simp [optP, h]]
      simpa using this
    · have := lw_state1 (A := A) (na := l.length) (ca := ca) nm rf rt rb ra ri rn rm ln w h
      rw [show optP [105, 110] ri = [[105, 110], ri] by simp [optP, h]]
      simpa using this
  rw [if_neg k8]
  by_cases k9 : kd = 9
  · subst k9
    simp only [if_true]
    by_cases h : rb = []
    · rw [show optP [98, 121] rb = [] by simp [optP, h]]
      by_cases h2 : ra = []
      · rw [show optP [116, 97, 115, 107] ra = [] by simp [optP, h2]]
        have := lw_on00 (A := A) (na := l.length) (ca := ca) nm rf rt rb ra ri rn rm ln w h h2
        simpa using this
      · rw [show optP [116, 97, 115, 107] ra = [[116, 97, 115, 107], ra] by simp [optP, h2]]
        have := lw_on01 (A := A) (na := l.length) (ca := ca) nm rf rt rb ra ri rn rm ln w h h2
        simpa using this
    · rw [show optP [98, 121] rb = [[98, 121], rb] by simp [optP, h]]
      by_cases h2 : ra = []
      · rw [show optP [116, 97, 115, 107] ra = [] by simp [optP, h2]]
        have := lw_on10 (A := A) (na := l.length) (ca := ca) nm rf rt rb ra ri rn rm ln w h h2
        simpa using this
      · rw [show optP [116, 97, 115, 107] ra = [[116, 97, 115, 107], ra] by simp [optP, h2]]
        have := lw_on11 (A := A) (na := l.length) (ca := ca) nm rf rt rb ra ri rn rm ln w h h2
        simpa using this
  rw [if_neg k9]
  by_cases k10 : kd = 10
  · subst k10
    simp only [if_true]
    have := lw_auto (A := A) (na := l.length) (ca := ca) nm rf rt rb ra ri rn rm ln w
    simpa using this
  rw [if_neg k10]
  by_cases k11 : kd = 11
  · subst k11
    simp only [if_true]
    have := lw_after (A := A) (na := l.length) (ca := ca) nm rf rt rb ra ri rn rm ln w (Lib.itoa rn) hi
    simpa using this
  rw [if_neg k11]
  have n2 : kd ≠ 2 := fun e => k23 (.inl e)
  have n3 : kd ≠ 3 := fun e => k23 (.inr e)
  have n4 : kd ≠ 4 := fun e => k45 (.inl e)
  have n5 : kd ≠ 5 := fun e => k45 (.inr e)
  exact lw_none (A := A) (na := l.length) (ca := ca) nm rf rt rb ra ri kd rn rm ln w (by simpa using k1) (by simpa using n2) (by simpa using n3) (by simpa using n4) (by simpa using n5) (by simpa using k6) (by simpa using k7) (by simpa using k8) (by simpa using k9) (by simpa using k10) (by simpa using k11)
end Go.Proofs.YtnnmjmjbfeoggaaGreatDoor
