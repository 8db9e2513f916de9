/-
  Package chart: Valid, of a chart that may be.
-/
import Derived.Test.YtbacdllokgcohaaCA
import Derived.Test.YtbacdllokgcohaaD0
import Derived.Deep.RegionHeld3
import Derived.Deep.DeepCutAuto
import Derived.Deep.Onto
import Derived.Laws.OwnMore
import Derived.Test.YtbacdllokgcohaaRef01b
import Derived.Laws.AppendOwnNone
import Derived.Deep.AppendLies
namespace Go.Proofs.Ytbacdllokgcohaa
set_option maxRecDepth 100000
open Go.ChangeShapes Go.WideShapes Go.ChangeAt Go.RowKit

theorem there_yes (A B : Option Addr) (n c m d k : Nat) (w : World) (hk : k < n) :
    Calls Try.prog 91 #[.agg #[.slice A n c, .slice B m d], .int .i64 k] w fun e w' => e = .returned (.bool true) ∧ Below w.heap.size w w' := by
  have x0 := box_0 w 25 (.slice A n c) (.slice B m d)
  have HZ := Lib.hid (box_b w (.cells #[.slice A n c, .slice B m d] 25))
  have h1 : (0 : Int) ≤ k := by omega
  have h2 : (k : Int) < n := by omega
  go_enter Try.func91, Try.ntmps91
  go_wp2
  go_ret
  exact ⟨rfl, HZ.out⟩
theorem nameL_12 {x : Tx} (h : nameL x = true) : x.length ≤ 1000 := by
  unfold nameL at h
  simp only [Bool.and_eq_true, decide_eq_true_eq] at h
  omega
theorem optional_yes (x : Tx) (w : World) (h : optN x = true) : Calls Try.prog 93 #[.string (bs x)] w fun e w' => e = .returned (.bool true) ∧ w = w' := by
  by_cases hx : x = []
  · subst hx
    have hzb : ((bs []).toList == []) = true := by rw [Lib.toList_data, list_bs]; rfl
    have hzc : (bs []).toList.isEmpty = true := by rw [Lib.toList_data, list_bs]; rfl
    clear h
    go_enter Try.func93, Try.ntmps93
    go_wp2
    go_ret
    exact ⟨rfl, rfl⟩
  · have hn : nameL x = true := by unfold optN at h; simpa [hx] using h
    have b4 : ((bs x).toList == []) = false := by rw [Lib.toList_data, list_bs]; simpa using hx
    have b5 : (bs x).toList.isEmpty = false := by rw [Lib.toList_data, list_bs]; simpa using hx
    have NM := Lib.hid (fun W => Name_any (bs x) W (by rw [size_bs]; have := nameL_12 hn; unfold maxLen; omega))
    rw [list_bs, hn] at NM
    clear h hx hn
    go_enter Try.func93, Try.ntmps93
    go_wp2_with (go_at_call 89; refine (NM.out _).mono ?_; rintro e w2 ⟨rfl, rfl⟩)
    go_ret
    exact ⟨rfl, rfl⟩
section
variable {W : World} {t : Nat} {a0 a1 a2 a3 a4 a5 a6 : Value} {ty : TypeId} {fr : Nat × Nat}
theorem tr_q0 (R : W.heap[t]? = some (.cells #[a0, a1, a2, a3, a4, a5, a6] ty fr)) : W.cell? ⟨t, 0, none⟩ = some a0 := by rw [cell_of_row _ _ _ _ _ _ R]; rfl
theorem tr_q1 (R : W.heap[t]? = some (.cells #[a0, a1, a2, a3, a4, a5, a6] ty fr)) : W.cell? ⟨t, 1, none⟩ = some a1 := by rw [cell_of_row _ _ _ _ _ _ R]; rfl
theorem tr_q2 (R : W.heap[t]? = some (.cells #[a0, a1, a2, a3, a4, a5, a6] ty fr)) : W.cell? ⟨t, 2, none⟩ = some a2 := by rw [cell_of_row _ _ _ _ _ _ R]; rfl
theorem tr_q3 (R : W.heap[t]? = some (.cells #[a0, a1, a2, a3, a4, a5, a6] ty fr)) : W.cell? ⟨t, 3, none⟩ = some a3 := by rw [cell_of_row _ _ _ _ _ _ R]; rfl
theorem tr_q4 (R : W.heap[t]? = some (.cells #[a0, a1, a2, a3, a4, a5, a6] ty fr)) : W.cell? ⟨t, 4, none⟩ = some a4 := by rw [cell_of_row _ _ _ _ _ _ R]; rfl
theorem tr_q5 (R : W.heap[t]? = some (.cells #[a0, a1, a2, a3, a4, a5, a6] ty fr)) : W.cell? ⟨t, 5, none⟩ = some a5 := by rw [cell_of_row _ _ _ _ _ _ R]; rfl
theorem tr_q6 (R : W.heap[t]? = some (.cells #[a0, a1, a2, a3, a4, a5, a6] ty fr)) : W.cell? ⟨t, 6, none⟩ = some a6 := by rw [cell_of_row _ _ _ _ _ _ R]; rfl
end
set_option maxHeartbeats 2000000 in
theorem labelled_yes (t : Tr) (w : World) (h : lablB t = true) :
    Calls Try.prog 58 #[.agg #[.int .i64 t.kind, .int .i64 t.from_, .int .i64 t.to_, .string (bs t.event), .string (bs t.perm), .string (bs t.task), .int .i64 t.time]] w fun e w' => e = .returned (.bool true) ∧ Below w.heap.size w w' := by
  obtain ⟨kd, fr, tt, ev, pe, ta, ti⟩ := t
  have R := heap_alloc_new w (.cells #[.int .i64 kd, .int .i64 fr, .int .i64 tt, .string (bs ev), .string (bs pe), .string (bs ta), .int .i64 ti] 32)
  have HZ := Lib.hid (box_b w (.cells #[.int .i64 kd, .int .i64 fr, .int .i64 tt, .string (bs ev), .string (bs pe), .string (bs ta), .int .i64 ti] 32))
  have q0 := tr_q0 R; have q3 := tr_q3 R; have q4 := tr_q4 R; have q5 := tr_q5 R; have q6 := tr_q6 R
  have hzb : ((bs []).toList == []) = true := by rw [Lib.toList_data, list_bs]; rfl
  have hzc : (bs []).toList.isEmpty = true := by rw [Lib.toList_data, list_bs]; rfl
  unfold lablB at h
  simp only at h ⊢
  clear R
  by_cases h9 : kd = 9
  · rw [if_pos h9] at h
    subst h9
    simp only [Bool.and_eq_true, beq_iff_eq] at h
    obtain ⟨⟨⟨g1, g2⟩, g3⟩, rfl⟩ := h
    have hev : ev ≠ [] := nameL_ne g1
    have b4 : ((bs ev).toList == []) = false := by rw [Lib.toList_data, list_bs]; simpa using hev
    have b5 : (bs ev).toList.isEmpty = false := by rw [Lib.toList_data, list_bs]; simpa using hev
    have NM := Lib.hid (fun W => Name_any (bs ev) W (by rw [size_bs]; have := nameL_12 g1; unfold maxLen; omega))
    rw [list_bs, g1] at NM
    have O1 := Lib.hid (fun W => optional_yes pe W g2)
    have O2 := Lib.hid (fun W => optional_yes ta W g3)
    clear g1 g2 g3 hev
    go_enter Try.func58, Try.ntmps58
    go_wp2_with (first
      | (go_at_call 89; refine (NM.out _).mono ?_; rintro e w2 ⟨rfl, rfl⟩)
      | (go_at_call_of 93 (Value.string (bs pe)); refine (O1.out _).mono ?_; rintro e w2 ⟨rfl, rfl⟩)
      | (go_at_call_of 93 (Value.string (bs ta)); refine (O2.out _).mono ?_; rintro e w2 ⟨rfl, rfl⟩))
    go_ret
    exact ⟨rfl, HZ.out⟩
  rw [if_neg h9] at h
  have g9 : (kd == 9) = false := beq_eq_false_iff_ne.2 h9
  by_cases h10 : kd = 10
  · rw [if_pos h10] at h
    subst h10
    unfold silB at h
    simp only [Bool.and_eq_true, beq_iff_eq] at h
    obtain ⟨⟨⟨rfl, rfl⟩, rfl⟩, rfl⟩ := h
    clear h9
    go_enter Try.func58, Try.ntmps58
    go_wp2
    go_ret
    exact ⟨rfl, HZ.out⟩
  rw [if_neg h10] at h
  have g10 : (kd == 10) = false := beq_eq_false_iff_ne.2 h10
  by_cases h11 : kd = 11
  · rw [if_pos h11] at h
    subst h11
    unfold silB at h
    simp only [Bool.and_eq_true, beq_iff_eq, decide_eq_true_eq] at h
    obtain ⟨⟨⟨⟨rfl, rfl⟩, rfl⟩, t1⟩, t2⟩ := h
    clear h9 h10
    go_enter Try.func58, Try.ntmps58
    go_wp2
    go_ret
    exact ⟨rfl, HZ.out⟩
  · rw [if_neg h11] at h; cases h
set_option maxHeartbeats 2000000 in
theorem leads_yes (ks : List Int) (t : Tr) (A B : Option Addr) (n c m d : Nat) (w : World) (hI : IntsAt w (.slice A n c) ks) (hn : n = ks.length) (h : leadsB ks t = true) :
    Calls Try.prog 57 #[.agg #[.slice A n c, .slice B m d], .agg #[.int .i64 t.kind, .int .i64 t.from_, .int .i64 t.to_, .string (bs t.event), .string (bs t.perm), .string (bs t.task), .int .i64 t.time]] w fun e w' => e = .returned (.bool true) ∧ Below w.heap.size w w' := by
  obtain ⟨kd, fr, tt, ev, pe, ta, ti⟩ := t
  unfold leadsB thereB at h
  simp only [Bool.and_eq_true, decide_eq_true_eq] at h ⊢
  obtain ⟨⟨⟨a1, a2⟩, a3, a4⟩, a5⟩ := h
  obtain ⟨j, rfl⟩ : ∃ j : Nat, fr = j := ⟨fr.toNat, by omega⟩
  obtain ⟨i, rfl⟩ : ∃ i : Nat, tt = i := ⟨tt.toNat, by omega⟩
  rw [Int.toNat_natCast] at a5
  have hj : j < n := by omega
  have hi : i < n := by omega
  have hji : (j : Int) < n := by omega
  have hz1 := box_b w (.cells #[.slice A n c, .slice B m d] 25)
  have hz2 := below_then hz1 (box_b (w.alloc (.cells #[.slice A n c, .slice B m d] 25)) (.cells #[.int .i64 kd, .int .i64 j, .int .i64 i, .string (bs ev), .string (bs pe), .string (bs ta), .int .i64 ti] 32)) hz1.size
  have R := heap_alloc_new (w.alloc (.cells #[.slice A n c, .slice B m d] 25)) (.cells #[.int .i64 kd, .int .i64 j, .int .i64 i, .string (bs ev), .string (bs pe), .string (bs ta), .int .i64 ti] 32)
  have hs1 : (w.alloc (.cells #[.slice A n c, .slice B m d] 25)).heap.size = w.heap.size + 1 := by simp
  rw [hs1] at R
  have x0 := (World.cell?_alloc_lt (w.alloc (.cells #[.slice A n c, .slice B m d] 25)) (.cells #[.int .i64 kd, .int .i64 j, .int .i64 i, .string (bs ev), .string (bs pe), .string (bs ta), .int .i64 ti] 32) ⟨w.heap.size, 0, none⟩ (by simp)).trans (box_0 w 25 (.slice A n c) (.slice B m d))
  have x1 := (World.cell?_alloc_lt (w.alloc (.cells #[.slice A n c, .slice B m d] 25)) (.cells #[.int .i64 kd, .int .i64 j, .int .i64 i, .string (bs ev), .string (bs pe), .string (bs ta), .int .i64 ti] 32) ⟨w.heap.size, 1, none⟩ (by simp)).trans (box_1 w 25 (.slice A n c) (.slice B m d))
  have q1 := tr_q1 R; have q2 := tr_q2 R
  have hl2 : w.heap.size + 1 < ((w.alloc (.cells #[.slice A n c, .slice B m d] 25)).alloc (.cells #[.int .i64 kd, .int .i64 j, .int .i64 i, .string (bs ev), .string (bs pe), .string (bs ta), .int .i64 ti] 32)).heap.size := by simp
  have HI2 := Lib.hid (hI.below hz2)
  have HZ2 := Lib.hid hz2
  have T1 := Lib.hid (fun k W (hk : k < n) => there_yes A B n c m d k W hk)
  have SK := Lib.hid (fun W => stays_any (ks.getD j 0) W)
  rw [a5] at SK
  have HJ : Hid (j < ks.length) := by show _ < _; omega
  clear hI hz1 hz2 R a1 a2 a3 a4 a5 hs1 hn
  go_enter Try.func57, Try.ntmps57
  go_upto_region 1 with fail
  generalize (w.alloc (.cells #[.slice A n c, .slice B m d] 25)).alloc (.cells #[.int .i64 kd, .int .i64 j, .int .i64 i, .string (bs ev), .string (bs pe), .string (bs ta), .int .i64 ti] 32) = w1 at *
  obtain ⟨b, off, rfl, hb, hx, _⟩ := ints_cell HI2.out (k := j) HJ.out
  generalize ks.getD j 0 = x9 at *
  have hs1 : w.heap.size < w1.heap.size := by omega
  clear HI2 HJ
  go_wp2_with (first
    | (go_at_call_of 91 (Value.int .i64 j); refine (T1.out j _ hj).mono ?_; rintro e w2 ⟨rfl, hb2⟩; have k0 := (hb2.cell (p := ⟨w.heap.size, 0, none⟩) hs1).trans x0; have k1 := (hb2.cell (p := ⟨w.heap.size, 1, none⟩) hs1).trans x1; have k2 := (hb2.cell (p := ⟨w.heap.size + 1, 1, none⟩) hl2).trans q1; have k3 := (hb2.cell (p := ⟨w.heap.size + 1, 2, none⟩) hl2).trans q2; have kx := (hb2.cell (p := ⟨b, off + j, none⟩) hb).trans hx; have HB2 := Lib.hid hb2; clear hb2)
    | (go_at_call_of 91 (Value.int .i64 i); refine (T1.out i _ hi).mono ?_; rintro e w3 ⟨rfl, hb3⟩; have hb4 := below_then HB2.out hb3 HB2.out.size; have j0 := (hb4.cell (p := ⟨w.heap.size, 0, none⟩) hs1).trans x0; have j2 := (hb4.cell (p := ⟨w.heap.size + 1, 1, none⟩) hl2).trans q1; have jx := (hb4.cell (p := ⟨b, off + j, none⟩) hb).trans hx; have HB4 := Lib.hid hb4; clear hb3 hb4)
    | (go_at_call 92; refine (SK.out _).mono ?_; rintro e w5 ⟨rfl, rfl⟩))
  go_ret
  exact ⟨rfl, below_then HZ2.out HB4.out HZ2.out.size⟩
end Go.Proofs.Ytbacdllokgcohaa
/-
  A line that wrong tells, its start.
-/
namespace Go.Proofs.Ytbacdllokgcohaa
set_option maxRecDepth 100000
open Go.ChangeShapes Go.WideShapes Go.ChangeAt Go.RowKit

/-- W0 at the beginning, W now; the rule's cells in the block W0.heap.size; the list l, its own, in v -/
structure LS (W0 W : World) (cs : Array Value) (v : Value) (l : List Tx) : Prop where
  row : W.heap[W0.heap.size]? = some (.cells cs 110 (0, 0))
  own : OwnL W (W0.heap.size + 1) v l
  low : Below W0.heap.size W0 W
theorem LS.size {W0 W : World} {cs : Array Value} {v : Value} {l : List Tx} (h : LS W0 W cs v l) : W0.heap.size < W.heap.size := (Array.getElem?_eq_some_iff.1 h.row).1
theorem LS.grown {W0 W W' : World} {cs : Array Value} {v v' : Value} {l l' : List Tx} {row : Option Nat} (h : LS W0 W cs v l) (hg : W.grownBy W' row) (hr : ∀ j, row = some j → W0.heap.size < j) (ho : OwnL W' (W0.heap.size + 1) v' l') : LS W0 W' cs v' l' :=
  ⟨(hg.block _ h.size (fun e => by have := hr _ e.symm; omega)).trans h.row, ho, h.low.grown hg h.low.size (fun j e => by have := hr _ e; omega)⟩
theorem LS.below {W0 W W' : World} {cs : Array Value} {v : Value} {l : List Tx} (h : LS W0 W cs v l) (hb : Below W.heap.size W W') : LS W0 W' cs v l :=
  ⟨(hb.block _ h.size).trans h.row, own_below h.own hb (by have := h.size; omega), h.low.trans (hb.mono h.low.size)⟩
theorem LS.app {W0 W W1 W2 : World} {cs : Array Value} {v v' : Value} {l ts : List Tx} (h : LS W0 W cs v l) (hg0 : W.grownBy W1 none) (hg : W1.grownBy W2 v.ownBlock) (ho : W2.ownsRow (W0.heap.size + 1) 9 1 v' (l.length + ts.length) (scells l ++ scells ts)) : LS W0 W2 cs v' (l ++ ts) := by
  have hr : ∀ j, v.ownBlock = some j → W0.heap.size < j := fun j e => by have := (h.own.lt j e).1; omega
  refine ⟨?_, ?_, ?_⟩
  · rw [hg.block _ (Nat.lt_of_lt_of_le h.size hg0.size) (fun e => by have := hr _ e.symm; omega), hg0.block _ h.size (by simp)]; exact h.row
  rotate_left
  · exact (h.low.grown hg0 h.low.size (fun j e => by cases e)).grown hg (Nat.le_trans h.low.size hg0.size) (fun j e => by have := hr _ e; omega)
  unfold OwnL scells
  rw [List.length_append, List.map_append]
  exact ho
theorem LS.drew {W0 W : World} {cs : Array Value} {v : Value} {l : List Tx} (h : LS W0 W cs v l) : LS W0 W.drew cs v l := ⟨h.row, h.own, h.low.drew⟩
end Go.Proofs.Ytbacdllokgcohaa
namespace Go.Proofs.Ytbacdllokgcohaa
set_option maxRecDepth 100000
open Go.ChangeShapes Go.WideShapes Go.ChangeAt Go.RowKit
end Go.Proofs.Ytbacdllokgcohaa
