/-
  Package clock: Next of any Dues; the first is the first of the sorted ones.
-/
import Derived.Test.YtiodjjnohbjhlaaCk6
import Derived.Test.YtiodjjnohbjhlaaSt10
import Derived.Deep.RegionHeld3
import Derived.Test.YtiodjjnohbjhlaaSt11
namespace Go.Proofs.Ytiodjjnohbjhlaa
set_option maxRecDepth 100000
open Go.ChangeShapes Go.WideShapes Go.ChangeAt Go.RowKit

theorem minK_mem (l : List DueT) (hl : 0 < l.length) : ∀ k, k < l.length → minK l k ∈ l
  | 0, h => by
    show l.getD 0 (0, [], 0) ∈ l
    rw [List.getD_eq_getElem?_getD, List.getElem?_eq_getElem h]
    exact List.getElem_mem h
  | k + 1, h => by
    show (if ltB (l.getD (k + 1) (0, [], 0)) (minK l k) = true then l.getD (k + 1) (0, [], 0) else minK l k) ∈ l
    rw [List.getD_eq_getElem?_getD, List.getElem?_eq_getElem h]
    split
    · exact List.getElem_mem h
    · exact minK_mem l hl k (by omega)
theorem minK_le (l : List DueT) : ∀ k, k < l.length → ∀ j (hj : j < l.length), j ≤ k → ¬ ltD l[j] (minK l k)
  | 0, h, j, hj, hjk => by
    obtain rfl : j = 0 := by omega
    show ¬ ltD l[0] (l.getD 0 (0, [], 0))
    rw [List.getD_eq_getElem?_getD, List.getElem?_eq_getElem h]
    exact ltD_irrefl _
  | k + 1, h, j, hj, hjk => by
    have ih := minK_le l k (by omega)
    show ¬ ltD l[j] (if ltB (l.getD (k + 1) (0, [], 0)) (minK l k) = true then l.getD (k + 1) (0, [], 0) else minK l k)
    rw [List.getD_eq_getElem?_getD, List.getElem?_eq_getElem h]
    show ¬ ltD l[j] (if ltB l[k + 1] (minK l k) = true then l[k + 1] else minK l k)
    by_cases hc : ltB l[k + 1] (minK l k) = true
    · rw [if_pos hc]
      rcases (by omega : j ≤ k ∨ j = k + 1) with h1 | rfl
      · intro h9
        exact ih j hj h1 (ltD_trans h9 ((ltB_iff _ _).1 hc))
      · exact ltD_irrefl _
    · rw [if_neg hc]
      rcases (by omega : j ≤ k ∨ j = k + 1) with h1 | rfl
      · exact ih j hj h1
      · exact fun h9 => hc ((ltB_iff _ _).2 h9)
/-- the first of the sorted ones -/
theorem minK_first (l : List DueT) (hl : 0 < l.length) : (srtD l).head? = some (minK l (l.length - 1)) := by
  have hm := minK_mem l hl (l.length - 1) (by omega)
  have hle := minK_le l (l.length - 1) (by omega)
  have hp := srtD_perm l
  have hs := srtD_srt l
  cases e : srtD l with
  | nil => rw [e] at hp; have := hp.length_eq; simp at this; omega
  | cons x r =>
    rw [e] at hp hs
    show some x = _
    congr 1
    have h1 : minK l (l.length - 1) ∈ x :: r := hp.symm.subset hm
    have h2 : x ∈ l := hp.subset List.mem_cons_self
    obtain ⟨j, hj, hx⟩ := List.mem_iff_getElem.1 h2
    rcases List.mem_cons.1 h1 with h3 | h3
    · exact h3.symm
    · rcases ltD_tri x (minK l (l.length - 1)) with h4 | h4 | h4
      · exact absurd (hx ▸ h4) (hle j hj (by omega))
      · exact h4
      · exact absurd h4 (hs.1 _ h3)
theorem Next_nil (A : Option Addr) (c : Nat) (now : Int) (w : World) :
    Calls Try.prog 9 #[.slice A 0 c, .int .i64 now] w fun e w' => e = .returned (.tuple #[.agg #[.int .i64 0, .string ⟨#[]⟩, .int .i64 0], .bool false]) ∧ Below w.heap.size w w' := by
  go_enter Try.func9, Try.ntmps9
  go_wp2
  refine bodyPost_ret (run_cellU rfl _ _ w.heap.size _ _ _ _ rfl (heap_alloc_new w (.cells #[.int .i64 0, .string ⟨#[]⟩, .int .i64 0] 27)) Try.underlying27 rfl (by kernel_rfl)) rfl ?_
  exact ⟨rfl, box_b _ _⟩
def NextTo (m : DueT) (now : Int) (w : World) (e : Ending) (w' : World) : Prop := Below w.heap.size w w' ∧ e = .returned (.tuple #[if m.1 ≤ now then dueV m else .agg #[.int .i64 0, .string ⟨#[]⟩, .int .i64 0], .bool (decide (m.1 ≤ now))])
set_option maxHeartbeats 2000000 in
theorem Next_any (g cap : Nat) (l : List DueT) (now : Int) (w : World) (hl : 0 < l.length) (hm : l.length ≤ 1000) (h : DAt w g l) :
    Calls Try.prog 9 #[.slice (some ⟨g, 0, none⟩) l.length cap, .int .i64 now] w (NextTo (minK l (l.length - 1)) now w) := by
  have MD := Lib.hid (MinD_any g cap l (w.alloc (.cells #[.int .i64 0, .string ⟨#[]⟩, .int .i64 0] 27)) hl hm (h.below (box_b _ _)))
  have HR := Lib.hid (heap_alloc_new w (.cells #[.int .i64 0, .string ⟨#[]⟩, .int .i64 0] 27))
  have HB := Lib.hid (box_b w (.cells #[.int .i64 0, .string ⟨#[]⟩, .int .i64 0] 27))
  have hlt : w.heap.size < (w.alloc (.cells #[.int .i64 0, .string ⟨#[]⟩, .int .i64 0] 27)).heap.size := by simp
  have hl0 : ¬ ((l.length : Int) = 0) := by omega
  clear h
  generalize minK l (l.length - 1) = m at *
  go_enter Try.func9, Try.ntmps9
  go_upto_region 1 with fail
  generalize w.alloc (.cells #[.int .i64 0, .string ⟨#[]⟩, .int .i64 0] 27) = w0 at *
  go_upto_region 4 with (go_at_call 17; refine MD.out.mono ?_; rintro e w2 ⟨rfl, hb2⟩; have HB2 := Lib.hid hb2; clear hb2)
  have hb3 := below_then HB2.out (box_b w2 (.cells #[.int .i64 m.1, .string (bs m.2.1), .int .i64 m.2.2] 27)) HB2.out.size
  have R3 := heap_alloc_new w2 (.cells #[.int .i64 m.1, .string (bs m.2.1), .int .i64 m.2.2] 27)
  have R0 := (hb3.block _ hlt).trans HR.out
  generalize w2.heap.size = g3 at *
  generalize w2.alloc (.cells #[.int .i64 m.1, .string (bs m.2.1), .int .i64 m.2.2] 27) = w3 at *
  have z0 := cell_of_row _ _ 0 _ _ _ R0; have z1 := cell_of_row _ _ 1 _ _ _ R0; have z2 := cell_of_row _ _ 2 _ _ _ R0
  have f0 := fzc_of R0 0; have f1 := fzc_of R0 1; have f2 := fzc_of R0 2
  have y0 := cell_of_row _ _ 0 _ _ _ R3; have y1 := cell_of_row _ _ 1 _ _ _ R3; have y2 := cell_of_row _ _ 2 _ _ _ R3
  have HR0 := Lib.hid R0
  have HB3 := Lib.hid (below_then HB.out hb3 HB.out.size)
  clear R0 R3 HB2 hb3 MD HR HB
  by_cases hx : m.1 ≤ now
  · have hnx : ¬ now < m.1 := by omega
    have HE : Hid ((if m.1 ≤ now then dueV m else .agg #[.int .i64 0, .string ⟨#[]⟩, .int .i64 0]) = dueV m ∧ decide (m.1 ≤ now) = true) := ⟨if_pos hx, decide_eq_true hx⟩
    clear hx
    go_wp2
    (try simp only [Exit.inBlock, Exit.then])
    refine bodyPost_ret (run_cellU rfl _ _ w.heap.size _ _ _ _ rfl (sets3_row HR0.out _ _ _) Try.underlying27 rfl (by kernel_rfl)) rfl ?_
    exact ⟨sets3_below HB3.out (Nat.le_refl _) (Nat.le_refl _) _ _ _, by rw [HE.out.1, HE.out.2]; rfl⟩
  · have hnx : now < m.1 := by omega
    have HE : Hid ((if m.1 ≤ now then dueV m else .agg #[.int .i64 0, .string ⟨#[]⟩, .int .i64 0]) = .agg #[.int .i64 0, .string ⟨#[]⟩, .int .i64 0] ∧ decide (m.1 ≤ now) = false) := ⟨if_neg hx, decide_eq_false hx⟩
    clear hx
    go_wp2
    (try simp only [Exit.inBlock, Exit.then])
    refine bodyPost_ret (run_cellU rfl _ _ w.heap.size _ _ _ _ rfl (sets3_row HR0.out _ _ _) Try.underlying27 rfl (by kernel_rfl)) rfl ?_
    exact ⟨sets3_below HB3.out (Nat.le_refl _) (Nat.le_refl _) _ _ _, by rw [HE.out.1, HE.out.2]; rfl⟩
end Go.Proofs.Ytiodjjnohbjhlaa
