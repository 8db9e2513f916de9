/-
  ShapeForms: the walk.
-/
import Derived.Test.YtechijfckmfoaaaShR2
import Derived.Test.YtechijfckmfoaaaSh5
import Derived.Test.YtechijfckmfoaaaShOf
import Derived.Deep.RegionWith
namespace Go.Proofs.Ytechijfckmfoaaa
set_option maxRecDepth 100000
open Go.ChangeShapes Go.WideShapes Go.ChangeAt Go.RowKit

/-- shapes that are none -/
def noL (n : Int) : List (List Int × List Int) := [([], []), ([1], []), ([1], [0]), ([n + 3], [-1]), ([0], [-1]), ([1, 1], [1, -1]), ([3], [-1]), ([1, 3], [-1, 0]), ([2, 1, 4], [-1, 0, 0]), ([1, 1, 3, 1], [-1, 0, 0, 2]), ([1, 1], [-1, -n]), (List.replicate 25 0, List.replicate 25 0)]
theorem no_none : ∀ m : Fin 11, 2 ≤ m.val → (noL (m.val : Int)).all (fun p => !valB p.1 p.2 && p.1.length ≤ 25 && p.2.length ≤ 25) = true := by decide +kernel
theorem no_len (n : Int) : (noL n).length = 12 := rfl
/-- what is told of each operation of the great statement -/
def spAt (n : Int) (i : Nat) : Sp := match i with
  | 0 => .shp [] []
  | 1 => .ints [1]
  | 2 => .shp [1] []
  | 3 => .ints [1]
  | 4 => .ints [0]
  | 5 => .shp [1] [0]
  | 6 => .int n
  | 7 => .int (n + 3)
  | 8 => .ints [n + 3]
  | 9 => .ints [-1]
  | 10 => .shp [n + 3] [-1]
  | 11 => .ints [0]
  | 12 => .ints [-1]
  | 13 => .shp [0] [-1]
  | 14 => .ints [1, 1]
  | 15 => .ints [1, -1]
  | 16 => .shp [1, 1] [1, -1]
  | 17 => .ints [3]
  | 18 => .ints [-1]
  | 19 => .shp [3] [-1]
  | 20 => .ints [1, 3]
  | 21 => .ints [-1, 0]
  | 22 => .shp [1, 3] [-1, 0]
  | 23 => .ints [2, 1, 4]
  | 24 => .ints [-1, 0, 0]
  | 25 => .shp [2, 1, 4] [-1, 0, 0]
  | 26 => .ints [1, 1, 3, 1]
  | 27 => .ints [-1, 0, 0, 2]
  | 28 => .shp [1, 1, 3, 1] [-1, 0, 0, 2]
  | 29 => .ints [1, 1]
  | 30 => .int n
  | 31 => .int (-n)
  | 32 => .ints [-1, -n]
  | 33 => .shp [1, 1] [-1, -n]
  | 34 => .ints (List.replicate 25 0)
  | 35 => .ints (List.replicate 25 0)
  | 36 => .shp (List.replicate 25 0) (List.replicate 25 0)
  | 37 => .all (noL n)
  | 38 => .int 12
  | _ => .int 0
theorem okI_1 {x : Int} (h : -1000000 ≤ x ∧ x ≤ 1000000) : okI [x] := fun y hy => by rw [List.mem_singleton.1 hy]; exact wf_near h.1 h.2
theorem okI_cons {x : Int} {l : List Int} (h : -1000000 ≤ x ∧ x ≤ 1000000) (hl : okI l) : okI (x :: l) := fun y hy => by
  rcases List.mem_cons.1 hy with e | e
  · rw [e]; exact wf_near h.1 h.2
  · exact hl y e
def kS (j : Nat) : List Int := (List.range 24).map fun i => if i < j then 1 else 0
def pS (j : Nat) : List Int := (List.range 24).map fun i => if i < j then (i : Int) - 1 else 0
theorem kS_succ : ∀ j : Fin 24, kS (j.val + 1) = (kS j.val).set j.val 1 := by decide +kernel
theorem pS_succ : ∀ j : Fin 24, pS (j.val + 1) = (pS j.val).set j.val ((j.val : Int) - 1) := by decide +kernel
theorem kS_len (j : Nat) : (kS j).length = 24 := by simp [kS]
theorem pS_len (j : Nat) : (pS j).length = 24 := by simp [pS]
theorem val_chain : valB (kS 24) (pS 24) = true := by decide +kernel
theorem val_four : valB [1, 1, 3, 4] [-1, 0, 0, 0] = true := by decide +kernel
theorem val_three : valB [2, 1, 1] [-1, 0, 0] = true := by decide +kernel
theorem val_one : valB [2] [-1] = true := by decide +kernel
theorem okI_kS : okI (kS 24) := fun x hx => by
  obtain ⟨i, hi, rfl⟩ := List.mem_map.1 hx
  have := List.mem_range.1 hi
  rw [if_pos (by omega)]; exact wf_near (by omega) (by omega)
theorem okI_pS : okI (pS 24) := fun x hx => by
  obtain ⟨i, hi, rfl⟩ := List.mem_map.1 hx
  have := List.mem_range.1 hi
  rw [if_pos (by omega)]; exact wf_near (by omega) (by omega)
theorem TwoAt.swap {w : World} {base g c g' c' : Nat} {ks ps : List Int} (h : TwoAt w base g c g' c' ks ps) : TwoAt w base g' c' g c ps ks := ⟨fun e => h.1 e.symm, h.2.2, h.2.1⟩
theorem two_new (W : World) (base : Nat) (hb : base ≤ W.heap.size) : TwoAt ((W.alloc (.cells (Array.replicate 24 (.int .i64 0)) 3)).alloc (.cells (Array.replicate 24 (.int .i64 0)) 3)) base W.heap.size 24 (W.heap.size + 1) 24 (kS 0) (pS 0) := by
  have e1 : icells (kS 0) = (Array.replicate 24 (Value.int .i64 0)).toList := by kernel_rfl
  have e2 : icells (pS 0) = (Array.replicate 24 (Value.int .i64 0)).toList := by kernel_rfl
  have o1 := World.ownsRow_lit (base := base) (e := 3) (size := 1) W (Array.replicate 24 (.int .i64 0)) 24 hb (by unfold maxLen; omega) rfl
  have o2 := World.ownsRow_lit (base := base) (e := 3) (size := 1) (W.alloc (.cells (Array.replicate 24 (.int .i64 0)) 3)) (Array.replicate 24 (.int .i64 0)) 24 (by simp; omega) (by unfold maxLen; omega) rfl
  rw [show (W.alloc (.cells (Array.replicate 24 (.int .i64 0)) 3)).heap.size = W.heap.size + 1 by simp] at o2
  refine ⟨by omega, ?_, ?_⟩
  · unfold OwnI
    rw [kS_len, e1]
    exact o1.alloc _
  · unfold OwnI
    rw [pS_len, e2]
    exact o2
theorem two_laid (W : World) (l1 l2 : List Int) (h1 : okI l1) (h2 : okI l2) (n1 : l1.length ≤ 1000) (n2 : l2.length ≤ 1000) :
    IntsAt ((W.alloc (.cells (icells l1).toArray 3)).alloc (.cells (icells l2).toArray 3)) (.slice (some ⟨W.heap.size, 0, none⟩) l1.length l1.length) l1 ∧ IntsAt ((W.alloc (.cells (icells l1).toArray 3)).alloc (.cells (icells l2).toArray 3)) (.slice (some ⟨W.heap.size + 1, 0, none⟩) l2.length l2.length) l2 := by
  refine ⟨(ints_laid W l1 h1 n1).below (box_b _ _), ?_⟩
  have := ints_laid (W.alloc (.cells (icells l1).toArray 3)) l2 h2 n2
  rwa [show (W.alloc (.cells (icells l1).toArray 3)).heap.size = W.heap.size + 1 by simp] at this
/-- Valid of a shape that is written out -/
theorem val_laid (W : World) (l1 l2 : List Int) (h1 : okI l1) (h2 : okI l2) (n1 : l1.length ≤ 100) (n2 : l2.length ≤ 100) (hv : valB l1 l2 = true) :
    Calls Try.prog 8 #[.agg #[.slice (some ⟨W.heap.size, 0, none⟩) l1.length l1.length, .slice (some ⟨W.heap.size + 1, 0, none⟩) l2.length l2.length]] ((W.alloc (.cells (icells l1).toArray 3)).alloc (.cells (icells l2).toArray 3)) fun e w' => e = .returned (.bool true) ∧ Below W.heap.size W w' := by
  have h := Valid_any l1 l2 _ _ _ _ _ _ _ (two_laid W l1 l2 h1 h2 (by omega) (by omega)) rfl rfl n1 n2
  rw [hv] at h
  exact h.mono fun e w' ⟨he, hb⟩ => ⟨he, below_then (((Below.refl _ _).alloc (Nat.le_refl _) _).alloc (by simp) _) hb (by simp; omega)⟩
theorem arr_lit (t : Array Value) (n : Nat) (h : t.size = n) : t = ((List.range n).map fun k => t.getD k undef).toArray := by
  apply Array.ext_getElem?
  intro k
  by_cases hk : k < n
  · simp [hk, h]
  · rw [Array.getElem?_eq_none (by omega), Array.getElem?_eq_none (by simp; omega)]
set_option maxHeartbeats 8000000 in
theorem forms_walk (w : World) (x : Int) (hx : (Lit.int .i64 x).wf = true) : Calls Try.prog 3 #[.int .i64 x] w (TrueOn w) := by
  have WI := Lib.hid (fun W => Within_any x 9 W hx (by omega) (by omega))
  have hbd := within_bd x 9 (by omega)
  generalize within x 9 = z at *
  have hwz : IntKind.i64.wrap (2 + z) = 2 + z := by rw [IntKind.wrap_i64]; omega
  go_enter Try.func3, Try.ntmps3
  go_upto_region 2 with (go_at_call 7; refine (WI.out _).mono ?_; rintro e w1 ⟨rfl, rfl⟩)
  obtain ⟨n, hn⟩ : ∃ n : Int, 2 + z = n := ⟨_, rfl⟩
  rw [hn]
  have hn2 : 2 ≤ n ∧ n ≤ 10 := by omega
  clear hwz hbd WI hn
  refine wp_region_made (by kernel_rfl) 11 (by kernel_rfl) (of_decide_eq_true (by kernel_rfl)) (fun i v w => spSem (spAt n i) v w) (fun i v w w' h hb => spSem_mono _ v w w' h hb) ?_ ?_
  · intro i o ho a w' hfr hb hdep
    have hi : i < 40 := (Array.getElem?_eq_some_iff.1 ho).1
    show Made Try.prog o a w' (spAt n i)
    match i, hi, ho with
    | 0, _, ho =>
      exact st_b0 (op_of ho rfl)
    | 1, _, ho =>
      exact st_bs1 (.const (.int .i64 (1))) (1) (op_of ho rfl) rfl (wf_near (by omega) (by omega))
    | 2, _, ho =>
      obtain ⟨v1, h1, s1⟩ := dep_of (a := a) (w := w') (d0 := 11) (spec := fun i v w => spSem (spAt n i) v w) 1 ho hdep (by kernel_rfl)
      exact st_b1 (.tmp 12) (op_of ho rfl) (ev_tmp h1) s1
    | 3, _, ho =>
      exact st_bs1 (.const (.int .i64 (1))) (1) (op_of ho rfl) rfl (wf_near (by omega) (by omega))
    | 4, _, ho =>
      exact st_bs1 (.const (.int .i64 (0))) (0) (op_of ho rfl) rfl (wf_near (by omega) (by omega))
    | 5, _, ho =>
      obtain ⟨v1, h1, s1⟩ := dep_of (a := a) (w := w') (d0 := 11) (spec := fun i v w => spSem (spAt n i) v w) 3 ho hdep (by kernel_rfl)
      obtain ⟨v2, h2, s2⟩ := dep_of (a := a) (w := w') (d0 := 11) (spec := fun i v w => spSem (spAt n i) v w) 4 ho hdep (by kernel_rfl)
      exact st_b2 (.tmp 14) (.tmp 15) (op_of ho rfl) (ev_tmp h1) (ev_tmp h2) s1 s2
    | 6, _, ho =>
      exact st_move (.tmp 0) n (op_of ho rfl) (ev_tmp ((hfr 0 (by omega)).trans rfl))
    | 7, _, ho =>
      obtain ⟨v1, h1, s1⟩ := dep_of (a := a) (w := w') (d0 := 11) (spec := fun i v w => spSem (spAt n i) v w) 6 ho hdep (by kernel_rfl)
      exact st_add (.tmp 17) n 3 (op_of ho rfl) ((ev_tmp h1).trans s1) (by rw [IntKind.wrap_i64]; omega)
    | 8, _, ho =>
      obtain ⟨v1, h1, s1⟩ := dep_of (a := a) (w := w') (d0 := 11) (spec := fun i v w => spSem (spAt n i) v w) 7 ho hdep (by kernel_rfl)
      exact st_bs1 (.tmp 18) (n + 3) (op_of ho rfl) ((ev_tmp h1).trans s1) (wf_near (by omega) (by omega))
    | 9, _, ho =>
      exact st_bs1 (.const (.int .i64 (-1))) (-1) (op_of ho rfl) rfl (wf_near (by omega) (by omega))
    | 10, _, ho =>
      obtain ⟨v1, h1, s1⟩ := dep_of (a := a) (w := w') (d0 := 11) (spec := fun i v w => spSem (spAt n i) v w) 8 ho hdep (by kernel_rfl)
      obtain ⟨v2, h2, s2⟩ := dep_of (a := a) (w := w') (d0 := 11) (spec := fun i v w => spSem (spAt n i) v w) 9 ho hdep (by kernel_rfl)
      exact st_b2 (.tmp 19) (.tmp 20) (op_of ho rfl) (ev_tmp h1) (ev_tmp h2) s1 s2
    | 11, _, ho =>
      exact st_bs1 (.const (.int .i64 (0))) (0) (op_of ho rfl) rfl (wf_near (by omega) (by omega))
    | 12, _, ho =>
      exact st_bs1 (.const (.int .i64 (-1))) (-1) (op_of ho rfl) rfl (wf_near (by omega) (by omega))
    | 13, _, ho =>
      obtain ⟨v1, h1, s1⟩ := dep_of (a := a) (w := w') (d0 := 11) (spec := fun i v w => spSem (spAt n i) v w) 11 ho hdep (by kernel_rfl)
      obtain ⟨v2, h2, s2⟩ := dep_of (a := a) (w := w') (d0 := 11) (spec := fun i v w => spSem (spAt n i) v w) 12 ho hdep (by kernel_rfl)
      exact st_b2 (.tmp 22) (.tmp 23) (op_of ho rfl) (ev_tmp h1) (ev_tmp h2) s1 s2
    | 14, _, ho =>
      exact st_bs2 (.const (.int .i64 (1))) (.const (.int .i64 (1))) (1) (1) (op_of ho rfl) rfl rfl (okI_cons ⟨by omega, by omega⟩ (okI_1 ⟨by omega, by omega⟩))
    | 15, _, ho =>
      exact st_bs2 (.const (.int .i64 (1))) (.const (.int .i64 (-1))) (1) (-1) (op_of ho rfl) rfl rfl (okI_cons ⟨by omega, by omega⟩ (okI_1 ⟨by omega, by omega⟩))
    | 16, _, ho =>
      obtain ⟨v1, h1, s1⟩ := dep_of (a := a) (w := w') (d0 := 11) (spec := fun i v w => spSem (spAt n i) v w) 14 ho hdep (by kernel_rfl)
      obtain ⟨v2, h2, s2⟩ := dep_of (a := a) (w := w') (d0 := 11) (spec := fun i v w => spSem (spAt n i) v w) 15 ho hdep (by kernel_rfl)
      exact st_b2 (.tmp 25) (.tmp 26) (op_of ho rfl) (ev_tmp h1) (ev_tmp h2) s1 s2
    | 17, _, ho =>
      exact st_bs1 (.const (.int .i64 (3))) (3) (op_of ho rfl) rfl (wf_near (by omega) (by omega))
    | 18, _, ho =>
      exact st_bs1 (.const (.int .i64 (-1))) (-1) (op_of ho rfl) rfl (wf_near (by omega) (by omega))
    | 19, _, ho =>
      obtain ⟨v1, h1, s1⟩ := dep_of (a := a) (w := w') (d0 := 11) (spec := fun i v w => spSem (spAt n i) v w) 17 ho hdep (by kernel_rfl)
      obtain ⟨v2, h2, s2⟩ := dep_of (a := a) (w := w') (d0 := 11) (spec := fun i v w => spSem (spAt n i) v w) 18 ho hdep (by kernel_rfl)
      exact st_b2 (.tmp 28) (.tmp 29) (op_of ho rfl) (ev_tmp h1) (ev_tmp h2) s1 s2
    | 20, _, ho =>
      exact st_bs2 (.const (.int .i64 (1))) (.const (.int .i64 (3))) (1) (3) (op_of ho rfl) rfl rfl (okI_cons ⟨by omega, by omega⟩ (okI_1 ⟨by omega, by omega⟩))
    | 21, _, ho =>
      exact st_bs2 (.const (.int .i64 (-1))) (.const (.int .i64 (0))) (-1) (0) (op_of ho rfl) rfl rfl (okI_cons ⟨by omega, by omega⟩ (okI_1 ⟨by omega, by omega⟩))
    | 22, _, ho =>
      obtain ⟨v1, h1, s1⟩ := dep_of (a := a) (w := w') (d0 := 11) (spec := fun i v w => spSem (spAt n i) v w) 20 ho hdep (by kernel_rfl)
      obtain ⟨v2, h2, s2⟩ := dep_of (a := a) (w := w') (d0 := 11) (spec := fun i v w => spSem (spAt n i) v w) 21 ho hdep (by kernel_rfl)
      exact st_b2 (.tmp 31) (.tmp 32) (op_of ho rfl) (ev_tmp h1) (ev_tmp h2) s1 s2
    | 23, _, ho =>
      exact st_bs3 (.const (.int .i64 (2))) (.const (.int .i64 (1))) (.const (.int .i64 (4))) (2) (1) (4) (op_of ho rfl) rfl rfl rfl (okI_cons ⟨by omega, by omega⟩ (okI_cons ⟨by omega, by omega⟩ (okI_1 ⟨by omega, by omega⟩)))
    | 24, _, ho =>
      exact st_bs3 (.const (.int .i64 (-1))) (.const (.int .i64 (0))) (.const (.int .i64 (0))) (-1) (0) (0) (op_of ho rfl) rfl rfl rfl (okI_cons ⟨by omega, by omega⟩ (okI_cons ⟨by omega, by omega⟩ (okI_1 ⟨by omega, by omega⟩)))
    | 25, _, ho =>
      obtain ⟨v1, h1, s1⟩ := dep_of (a := a) (w := w') (d0 := 11) (spec := fun i v w => spSem (spAt n i) v w) 23 ho hdep (by kernel_rfl)
      obtain ⟨v2, h2, s2⟩ := dep_of (a := a) (w := w') (d0 := 11) (spec := fun i v w => spSem (spAt n i) v w) 24 ho hdep (by kernel_rfl)
      exact st_b2 (.tmp 34) (.tmp 35) (op_of ho rfl) (ev_tmp h1) (ev_tmp h2) s1 s2
    | 26, _, ho =>
      exact st_bs4 (.const (.int .i64 (1))) (.const (.int .i64 (1))) (.const (.int .i64 (3))) (.const (.int .i64 (1))) (1) (1) (3) (1) (op_of ho rfl) rfl rfl rfl rfl (okI_cons ⟨by omega, by omega⟩ (okI_cons ⟨by omega, by omega⟩ (okI_cons ⟨by omega, by omega⟩ (okI_1 ⟨by omega, by omega⟩))))
    | 27, _, ho =>
      exact st_bs4 (.const (.int .i64 (-1))) (.const (.int .i64 (0))) (.const (.int .i64 (0))) (.const (.int .i64 (2))) (-1) (0) (0) (2) (op_of ho rfl) rfl rfl rfl rfl (okI_cons ⟨by omega, by omega⟩ (okI_cons ⟨by omega, by omega⟩ (okI_cons ⟨by omega, by omega⟩ (okI_1 ⟨by omega, by omega⟩))))
    | 28, _, ho =>
      obtain ⟨v1, h1, s1⟩ := dep_of (a := a) (w := w') (d0 := 11) (spec := fun i v w => spSem (spAt n i) v w) 26 ho hdep (by kernel_rfl)
      obtain ⟨v2, h2, s2⟩ := dep_of (a := a) (w := w') (d0 := 11) (spec := fun i v w => spSem (spAt n i) v w) 27 ho hdep (by kernel_rfl)
      exact st_b2 (.tmp 37) (.tmp 38) (op_of ho rfl) (ev_tmp h1) (ev_tmp h2) s1 s2
    | 29, _, ho =>
      exact st_bs2 (.const (.int .i64 (1))) (.const (.int .i64 (1))) (1) (1) (op_of ho rfl) rfl rfl (okI_cons ⟨by omega, by omega⟩ (okI_1 ⟨by omega, by omega⟩))
    | 30, _, ho =>
      exact st_move (.tmp 0) n (op_of ho rfl) (ev_tmp ((hfr 0 (by omega)).trans rfl))
    | 31, _, ho =>
      obtain ⟨v1, h1, s1⟩ := dep_of (a := a) (w := w') (d0 := 11) (spec := fun i v w => spSem (spAt n i) v w) 30 ho hdep (by kernel_rfl)
      exact st_neg (.tmp 41) n (op_of ho rfl) ((ev_tmp h1).trans s1) (by rw [IntKind.wrap_i64]; omega)
    | 32, _, ho =>
      obtain ⟨v1, h1, s1⟩ := dep_of (a := a) (w := w') (d0 := 11) (spec := fun i v w => spSem (spAt n i) v w) 31 ho hdep (by kernel_rfl)
      exact st_bs2 (.const (.int .i64 (-1))) (.tmp 42) (-1) (-n) (op_of ho rfl) rfl ((ev_tmp h1).trans s1) (okI_cons ⟨by omega, by omega⟩ (okI_1 ⟨by omega, by omega⟩))
    | 33, _, ho =>
      obtain ⟨v1, h1, s1⟩ := dep_of (a := a) (w := w') (d0 := 11) (spec := fun i v w => spSem (spAt n i) v w) 29 ho hdep (by kernel_rfl)
      obtain ⟨v2, h2, s2⟩ := dep_of (a := a) (w := w') (d0 := 11) (spec := fun i v w => spSem (spAt n i) v w) 32 ho hdep (by kernel_rfl)
      exact st_b2 (.tmp 40) (.tmp 43) (op_of ho rfl) (ev_tmp h1) (ev_tmp h2) s1 s2
    | 34, _, ho =>
      exact st_mk (op_of ho rfl)
    | 35, _, ho =>
      exact st_mk (op_of ho rfl)
    | 36, _, ho =>
      obtain ⟨v1, h1, s1⟩ := dep_of (a := a) (w := w') (d0 := 11) (spec := fun i v w => spSem (spAt n i) v w) 34 ho hdep (by kernel_rfl)
      obtain ⟨v2, h2, s2⟩ := dep_of (a := a) (w := w') (d0 := 11) (spec := fun i v w => spSem (spAt n i) v w) 35 ho hdep (by kernel_rfl)
      exact st_b2 (.tmp 45) (.tmp 46) (op_of ho rfl) (ev_tmp h1) (ev_tmp h2) s1 s2
    | 37, _, ho =>
      obtain ⟨v0, h0, s0⟩ := dep_of (a := a) (w := w') (d0 := 11) (spec := fun i v w => spSem (spAt n i) v w) 0 ho hdep (by kernel_rfl)
      obtain ⟨v2, h2, s2⟩ := dep_of (a := a) (w := w') (d0 := 11) (spec := fun i v w => spSem (spAt n i) v w) 2 ho hdep (by kernel_rfl)
      obtain ⟨v5, h5, s5⟩ := dep_of (a := a) (w := w') (d0 := 11) (spec := fun i v w => spSem (spAt n i) v w) 5 ho hdep (by kernel_rfl)
      obtain ⟨v10, h10, s10⟩ := dep_of (a := a) (w := w') (d0 := 11) (spec := fun i v w => spSem (spAt n i) v w) 10 ho hdep (by kernel_rfl)
      obtain ⟨v13, h13, s13⟩ := dep_of (a := a) (w := w') (d0 := 11) (spec := fun i v w => spSem (spAt n i) v w) 13 ho hdep (by kernel_rfl)
      obtain ⟨v16, h16, s16⟩ := dep_of (a := a) (w := w') (d0 := 11) (spec := fun i v w => spSem (spAt n i) v w) 16 ho hdep (by kernel_rfl)
      obtain ⟨v19, h19, s19⟩ := dep_of (a := a) (w := w') (d0 := 11) (spec := fun i v w => spSem (spAt n i) v w) 19 ho hdep (by kernel_rfl)
      obtain ⟨v22, h22, s22⟩ := dep_of (a := a) (w := w') (d0 := 11) (spec := fun i v w => spSem (spAt n i) v w) 22 ho hdep (by kernel_rfl)
      obtain ⟨v25, h25, s25⟩ := dep_of (a := a) (w := w') (d0 := 11) (spec := fun i v w => spSem (spAt n i) v w) 25 ho hdep (by kernel_rfl)
      obtain ⟨v28, h28, s28⟩ := dep_of (a := a) (w := w') (d0 := 11) (spec := fun i v w => spSem (spAt n i) v w) 28 ho hdep (by kernel_rfl)
      obtain ⟨v33, h33, s33⟩ := dep_of (a := a) (w := w') (d0 := 11) (spec := fun i v w => spSem (spAt n i) v w) 33 ho hdep (by kernel_rfl)
      obtain ⟨v36, h36, s36⟩ := dep_of (a := a) (w := w') (d0 := 11) (spec := fun i v w => spSem (spAt n i) v w) 36 ho hdep (by kernel_rfl)
      exact st_all (op_of ho rfl) (ev_tmp h0) s0 (ev_tmp h2) s2 (ev_tmp h5) s5 (ev_tmp h10) s10 (ev_tmp h13) s13 (ev_tmp h16) s16 (ev_tmp h19) s19 (ev_tmp h22) s22 (ev_tmp h25) s25 (ev_tmp h28) s28 (ev_tmp h33) s33 (ev_tmp h36) s36
    | 38, _, ho =>
      obtain ⟨v1, h1, s1⟩ := dep_of (a := a) (w := w') (d0 := 11) (spec := fun i v w => spSem (spAt n i) v w) 37 ho hdep (by kernel_rfl)
      exact st_len (.tmp 48) (op_of ho rfl) (ev_tmp h1) s1
    | 39, _, ho =>
      exact st_move (.const (.int .i64 0)) 0 (op_of ho rfl) rfl
    | i + 40, hi, _ => exact absurd hi (by omega)
  · intro a w1 hdf hsz hfr hb hall
    obtain ⟨v48, h48, s48⟩ := hall 37 (of_decide_eq_true (by kernel_rfl))
    obtain ⟨v49, h49, s49⟩ := hall 38 (of_decide_eq_true (by kernel_rfl))
    obtain ⟨v50, h50, s50⟩ := hall 39 (of_decide_eq_true (by kernel_rfl))
    obtain ⟨g, rfl, hg, hcs⟩ := s48
    have e49 : v49 = .int .i64 12 := s49
    have e50 : v50 = .int .i64 0 := s50
    subst e49
    subst e50
    have hlit := arr_lit a.tmps 98 hsz
    have hmap : ∀ f : Nat → Value, ((List.range 98).map f).toArray = #[f 0, f 1, f 2, f 3, f 4, f 5, f 6, f 7, f 8, f 9, f 10, f 11, f 12, f 13, f 14, f 15, f 16, f 17, f 18, f 19, f 20, f 21, f 22, f 23, f 24, f 25, f 26, f 27, f 28, f 29, f 30, f 31, f 32, f 33, f 34, f 35, f 36, f 37, f 38, f 39, f 40, f 41, f 42, f 43, f 44, f 45, f 46, f 47, f 48, f 49, f 50, f 51, f 52, f 53, f 54, f 55, f 56, f 57, f 58, f 59, f 60, f 61, f 62, f 63, f 64, f 65, f 66, f 67, f 68, f 69, f 70, f 71, f 72, f 73, f 74, f 75, f 76, f 77, f 78, f 79, f 80, f 81, f 82, f 83, f 84, f 85, f 86, f 87, f 88, f 89, f 90, f 91, f 92, f 93, f 94, f 95, f 96, f 97] := fun f => rfl
    rw [hmap] at hlit
    clear hmap
    have g0 : a.tmps.getD 0 undef = (.int .i64 n : Value) := (Array.getD_eq_getD_getElem? (xs := a.tmps) (i := 0) (d := undef)).trans ((congrArg (fun q : Option Value => q.getD undef) (hfr 0 (.inl (by omega)))).trans rfl)
    have g1 : a.tmps.getD 1 undef = (undef : Value) := (Array.getD_eq_getD_getElem? (xs := a.tmps) (i := 1) (d := undef)).trans ((congrArg (fun q : Option Value => q.getD undef) (hfr 1 (.inl (by omega)))).trans rfl)
    have g2 : a.tmps.getD 2 undef = (.bool false : Value) := (Array.getD_eq_getD_getElem? (xs := a.tmps) (i := 2) (d := undef)).trans ((congrArg (fun q : Option Value => q.getD undef) (hfr 2 (.inl (by omega)))).trans rfl)
    have g3 : a.tmps.getD 3 undef = (undef : Value) := (Array.getD_eq_getD_getElem? (xs := a.tmps) (i := 3) (d := undef)).trans ((congrArg (fun q : Option Value => q.getD undef) (hfr 3 (.inl (by omega)))).trans rfl)
    have g4 : a.tmps.getD 4 undef = (undef : Value) := (Array.getD_eq_getD_getElem? (xs := a.tmps) (i := 4) (d := undef)).trans ((congrArg (fun q : Option Value => q.getD undef) (hfr 4 (.inl (by omega)))).trans rfl)
    have g5 : a.tmps.getD 5 undef = (undef : Value) := (Array.getD_eq_getD_getElem? (xs := a.tmps) (i := 5) (d := undef)).trans ((congrArg (fun q : Option Value => q.getD undef) (hfr 5 (.inl (by omega)))).trans rfl)
    have g6 : a.tmps.getD 6 undef = (undef : Value) := (Array.getD_eq_getD_getElem? (xs := a.tmps) (i := 6) (d := undef)).trans ((congrArg (fun q : Option Value => q.getD undef) (hfr 6 (.inl (by omega)))).trans rfl)
    have g7 : a.tmps.getD 7 undef = (undef : Value) := (Array.getD_eq_getD_getElem? (xs := a.tmps) (i := 7) (d := undef)).trans ((congrArg (fun q : Option Value => q.getD undef) (hfr 7 (.inl (by omega)))).trans rfl)
    have g8 : a.tmps.getD 8 undef = (.int .i64 x : Value) := (Array.getD_eq_getD_getElem? (xs := a.tmps) (i := 8) (d := undef)).trans ((congrArg (fun q : Option Value => q.getD undef) (hfr 8 (.inl (by omega)))).trans rfl)
    have g9 : a.tmps.getD 9 undef = (.int .i64 z : Value) := (Array.getD_eq_getD_getElem? (xs := a.tmps) (i := 9) (d := undef)).trans ((congrArg (fun q : Option Value => q.getD undef) (hfr 9 (.inl (by omega)))).trans rfl)
    have g10 : a.tmps.getD 10 undef = (.int .i64 n : Value) := (Array.getD_eq_getD_getElem? (xs := a.tmps) (i := 10) (d := undef)).trans ((congrArg (fun q : Option Value => q.getD undef) (hfr 10 (.inl (by omega)))).trans rfl)
    have g51 : a.tmps.getD 51 undef = (undef : Value) := (Array.getD_eq_getD_getElem? (xs := a.tmps) (i := 51) (d := undef)).trans ((congrArg (fun q : Option Value => q.getD undef) (hfr 51 (.inr (of_decide_eq_true (by kernel_rfl))))).trans rfl)
    have g52 : a.tmps.getD 52 undef = (undef : Value) := (Array.getD_eq_getD_getElem? (xs := a.tmps) (i := 52) (d := undef)).trans ((congrArg (fun q : Option Value => q.getD undef) (hfr 52 (.inr (of_decide_eq_true (by kernel_rfl))))).trans rfl)
    have g53 : a.tmps.getD 53 undef = (undef : Value) := (Array.getD_eq_getD_getElem? (xs := a.tmps) (i := 53) (d := undef)).trans ((congrArg (fun q : Option Value => q.getD undef) (hfr 53 (.inr (of_decide_eq_true (by kernel_rfl))))).trans rfl)
    have g54 : a.tmps.getD 54 undef = (undef : Value) := (Array.getD_eq_getD_getElem? (xs := a.tmps) (i := 54) (d := undef)).trans ((congrArg (fun q : Option Value => q.getD undef) (hfr 54 (.inr (of_decide_eq_true (by kernel_rfl))))).trans rfl)
    have g55 : a.tmps.getD 55 undef = (undef : Value) := (Array.getD_eq_getD_getElem? (xs := a.tmps) (i := 55) (d := undef)).trans ((congrArg (fun q : Option Value => q.getD undef) (hfr 55 (.inr (of_decide_eq_true (by kernel_rfl))))).trans rfl)
    have g56 : a.tmps.getD 56 undef = (undef : Value) := (Array.getD_eq_getD_getElem? (xs := a.tmps) (i := 56) (d := undef)).trans ((congrArg (fun q : Option Value => q.getD undef) (hfr 56 (.inr (of_decide_eq_true (by kernel_rfl))))).trans rfl)
    have g57 : a.tmps.getD 57 undef = (undef : Value) := (Array.getD_eq_getD_getElem? (xs := a.tmps) (i := 57) (d := undef)).trans ((congrArg (fun q : Option Value => q.getD undef) (hfr 57 (.inr (of_decide_eq_true (by kernel_rfl))))).trans rfl)
    have g58 : a.tmps.getD 58 undef = (undef : Value) := (Array.getD_eq_getD_getElem? (xs := a.tmps) (i := 58) (d := undef)).trans ((congrArg (fun q : Option Value => q.getD undef) (hfr 58 (.inr (of_decide_eq_true (by kernel_rfl))))).trans rfl)
    have g59 : a.tmps.getD 59 undef = (undef : Value) := (Array.getD_eq_getD_getElem? (xs := a.tmps) (i := 59) (d := undef)).trans ((congrArg (fun q : Option Value => q.getD undef) (hfr 59 (.inr (of_decide_eq_true (by kernel_rfl))))).trans rfl)
    have g60 : a.tmps.getD 60 undef = (undef : Value) := (Array.getD_eq_getD_getElem? (xs := a.tmps) (i := 60) (d := undef)).trans ((congrArg (fun q : Option Value => q.getD undef) (hfr 60 (.inr (of_decide_eq_true (by kernel_rfl))))).trans rfl)
    have g61 : a.tmps.getD 61 undef = (undef : Value) := (Array.getD_eq_getD_getElem? (xs := a.tmps) (i := 61) (d := undef)).trans ((congrArg (fun q : Option Value => q.getD undef) (hfr 61 (.inr (of_decide_eq_true (by kernel_rfl))))).trans rfl)
    have g62 : a.tmps.getD 62 undef = (undef : Value) := (Array.getD_eq_getD_getElem? (xs := a.tmps) (i := 62) (d := undef)).trans ((congrArg (fun q : Option Value => q.getD undef) (hfr 62 (.inr (of_decide_eq_true (by kernel_rfl))))).trans rfl)
    have g63 : a.tmps.getD 63 undef = (undef : Value) := (Array.getD_eq_getD_getElem? (xs := a.tmps) (i := 63) (d := undef)).trans ((congrArg (fun q : Option Value => q.getD undef) (hfr 63 (.inr (of_decide_eq_true (by kernel_rfl))))).trans rfl)
    have g64 : a.tmps.getD 64 undef = (undef : Value) := (Array.getD_eq_getD_getElem? (xs := a.tmps) (i := 64) (d := undef)).trans ((congrArg (fun q : Option Value => q.getD undef) (hfr 64 (.inr (of_decide_eq_true (by kernel_rfl))))).trans rfl)
    have g65 : a.tmps.getD 65 undef = (undef : Value) := (Array.getD_eq_getD_getElem? (xs := a.tmps) (i := 65) (d := undef)).trans ((congrArg (fun q : Option Value => q.getD undef) (hfr 65 (.inr (of_decide_eq_true (by kernel_rfl))))).trans rfl)
    have g66 : a.tmps.getD 66 undef = (undef : Value) := (Array.getD_eq_getD_getElem? (xs := a.tmps) (i := 66) (d := undef)).trans ((congrArg (fun q : Option Value => q.getD undef) (hfr 66 (.inr (of_decide_eq_true (by kernel_rfl))))).trans rfl)
    have g67 : a.tmps.getD 67 undef = (undef : Value) := (Array.getD_eq_getD_getElem? (xs := a.tmps) (i := 67) (d := undef)).trans ((congrArg (fun q : Option Value => q.getD undef) (hfr 67 (.inr (of_decide_eq_true (by kernel_rfl))))).trans rfl)
    have g68 : a.tmps.getD 68 undef = (undef : Value) := (Array.getD_eq_getD_getElem? (xs := a.tmps) (i := 68) (d := undef)).trans ((congrArg (fun q : Option Value => q.getD undef) (hfr 68 (.inr (of_decide_eq_true (by kernel_rfl))))).trans rfl)
    have g69 : a.tmps.getD 69 undef = (undef : Value) := (Array.getD_eq_getD_getElem? (xs := a.tmps) (i := 69) (d := undef)).trans ((congrArg (fun q : Option Value => q.getD undef) (hfr 69 (.inr (of_decide_eq_true (by kernel_rfl))))).trans rfl)
    have g70 : a.tmps.getD 70 undef = (undef : Value) := (Array.getD_eq_getD_getElem? (xs := a.tmps) (i := 70) (d := undef)).trans ((congrArg (fun q : Option Value => q.getD undef) (hfr 70 (.inr (of_decide_eq_true (by kernel_rfl))))).trans rfl)
    have g71 : a.tmps.getD 71 undef = (undef : Value) := (Array.getD_eq_getD_getElem? (xs := a.tmps) (i := 71) (d := undef)).trans ((congrArg (fun q : Option Value => q.getD undef) (hfr 71 (.inr (of_decide_eq_true (by kernel_rfl))))).trans rfl)
    have g72 : a.tmps.getD 72 undef = (undef : Value) := (Array.getD_eq_getD_getElem? (xs := a.tmps) (i := 72) (d := undef)).trans ((congrArg (fun q : Option Value => q.getD undef) (hfr 72 (.inr (of_decide_eq_true (by kernel_rfl))))).trans rfl)
    have g73 : a.tmps.getD 73 undef = (undef : Value) := (Array.getD_eq_getD_getElem? (xs := a.tmps) (i := 73) (d := undef)).trans ((congrArg (fun q : Option Value => q.getD undef) (hfr 73 (.inr (of_decide_eq_true (by kernel_rfl))))).trans rfl)
    have g74 : a.tmps.getD 74 undef = (undef : Value) := (Array.getD_eq_getD_getElem? (xs := a.tmps) (i := 74) (d := undef)).trans ((congrArg (fun q : Option Value => q.getD undef) (hfr 74 (.inr (of_decide_eq_true (by kernel_rfl))))).trans rfl)
    have g75 : a.tmps.getD 75 undef = (undef : Value) := (Array.getD_eq_getD_getElem? (xs := a.tmps) (i := 75) (d := undef)).trans ((congrArg (fun q : Option Value => q.getD undef) (hfr 75 (.inr (of_decide_eq_true (by kernel_rfl))))).trans rfl)
    have g76 : a.tmps.getD 76 undef = (undef : Value) := (Array.getD_eq_getD_getElem? (xs := a.tmps) (i := 76) (d := undef)).trans ((congrArg (fun q : Option Value => q.getD undef) (hfr 76 (.inr (of_decide_eq_true (by kernel_rfl))))).trans rfl)
    have g77 : a.tmps.getD 77 undef = (undef : Value) := (Array.getD_eq_getD_getElem? (xs := a.tmps) (i := 77) (d := undef)).trans ((congrArg (fun q : Option Value => q.getD undef) (hfr 77 (.inr (of_decide_eq_true (by kernel_rfl))))).trans rfl)
    have g78 : a.tmps.getD 78 undef = (undef : Value) := (Array.getD_eq_getD_getElem? (xs := a.tmps) (i := 78) (d := undef)).trans ((congrArg (fun q : Option Value => q.getD undef) (hfr 78 (.inr (of_decide_eq_true (by kernel_rfl))))).trans rfl)
    have g79 : a.tmps.getD 79 undef = (undef : Value) := (Array.getD_eq_getD_getElem? (xs := a.tmps) (i := 79) (d := undef)).trans ((congrArg (fun q : Option Value => q.getD undef) (hfr 79 (.inr (of_decide_eq_true (by kernel_rfl))))).trans rfl)
    have g80 : a.tmps.getD 80 undef = (undef : Value) := (Array.getD_eq_getD_getElem? (xs := a.tmps) (i := 80) (d := undef)).trans ((congrArg (fun q : Option Value => q.getD undef) (hfr 80 (.inr (of_decide_eq_true (by kernel_rfl))))).trans rfl)
    have g81 : a.tmps.getD 81 undef = (undef : Value) := (Array.getD_eq_getD_getElem? (xs := a.tmps) (i := 81) (d := undef)).trans ((congrArg (fun q : Option Value => q.getD undef) (hfr 81 (.inr (of_decide_eq_true (by kernel_rfl))))).trans rfl)
    have g82 : a.tmps.getD 82 undef = (undef : Value) := (Array.getD_eq_getD_getElem? (xs := a.tmps) (i := 82) (d := undef)).trans ((congrArg (fun q : Option Value => q.getD undef) (hfr 82 (.inr (of_decide_eq_true (by kernel_rfl))))).trans rfl)
    have g83 : a.tmps.getD 83 undef = (undef : Value) := (Array.getD_eq_getD_getElem? (xs := a.tmps) (i := 83) (d := undef)).trans ((congrArg (fun q : Option Value => q.getD undef) (hfr 83 (.inr (of_decide_eq_true (by kernel_rfl))))).trans rfl)
    have g84 : a.tmps.getD 84 undef = (undef : Value) := (Array.getD_eq_getD_getElem? (xs := a.tmps) (i := 84) (d := undef)).trans ((congrArg (fun q : Option Value => q.getD undef) (hfr 84 (.inr (of_decide_eq_true (by kernel_rfl))))).trans rfl)
    have g85 : a.tmps.getD 85 undef = (undef : Value) := (Array.getD_eq_getD_getElem? (xs := a.tmps) (i := 85) (d := undef)).trans ((congrArg (fun q : Option Value => q.getD undef) (hfr 85 (.inr (of_decide_eq_true (by kernel_rfl))))).trans rfl)
    have g86 : a.tmps.getD 86 undef = (undef : Value) := (Array.getD_eq_getD_getElem? (xs := a.tmps) (i := 86) (d := undef)).trans ((congrArg (fun q : Option Value => q.getD undef) (hfr 86 (.inr (of_decide_eq_true (by kernel_rfl))))).trans rfl)
    have g87 : a.tmps.getD 87 undef = (undef : Value) := (Array.getD_eq_getD_getElem? (xs := a.tmps) (i := 87) (d := undef)).trans ((congrArg (fun q : Option Value => q.getD undef) (hfr 87 (.inr (of_decide_eq_true (by kernel_rfl))))).trans rfl)
    have g88 : a.tmps.getD 88 undef = (undef : Value) := (Array.getD_eq_getD_getElem? (xs := a.tmps) (i := 88) (d := undef)).trans ((congrArg (fun q : Option Value => q.getD undef) (hfr 88 (.inr (of_decide_eq_true (by kernel_rfl))))).trans rfl)
    have g89 : a.tmps.getD 89 undef = (undef : Value) := (Array.getD_eq_getD_getElem? (xs := a.tmps) (i := 89) (d := undef)).trans ((congrArg (fun q : Option Value => q.getD undef) (hfr 89 (.inr (of_decide_eq_true (by kernel_rfl))))).trans rfl)
    have g90 : a.tmps.getD 90 undef = (undef : Value) := (Array.getD_eq_getD_getElem? (xs := a.tmps) (i := 90) (d := undef)).trans ((congrArg (fun q : Option Value => q.getD undef) (hfr 90 (.inr (of_decide_eq_true (by kernel_rfl))))).trans rfl)
    have g91 : a.tmps.getD 91 undef = (undef : Value) := (Array.getD_eq_getD_getElem? (xs := a.tmps) (i := 91) (d := undef)).trans ((congrArg (fun q : Option Value => q.getD undef) (hfr 91 (.inr (of_decide_eq_true (by kernel_rfl))))).trans rfl)
    have g92 : a.tmps.getD 92 undef = (undef : Value) := (Array.getD_eq_getD_getElem? (xs := a.tmps) (i := 92) (d := undef)).trans ((congrArg (fun q : Option Value => q.getD undef) (hfr 92 (.inr (of_decide_eq_true (by kernel_rfl))))).trans rfl)
    have g93 : a.tmps.getD 93 undef = (undef : Value) := (Array.getD_eq_getD_getElem? (xs := a.tmps) (i := 93) (d := undef)).trans ((congrArg (fun q : Option Value => q.getD undef) (hfr 93 (.inr (of_decide_eq_true (by kernel_rfl))))).trans rfl)
    have g94 : a.tmps.getD 94 undef = (undef : Value) := (Array.getD_eq_getD_getElem? (xs := a.tmps) (i := 94) (d := undef)).trans ((congrArg (fun q : Option Value => q.getD undef) (hfr 94 (.inr (of_decide_eq_true (by kernel_rfl))))).trans rfl)
    have g95 : a.tmps.getD 95 undef = (undef : Value) := (Array.getD_eq_getD_getElem? (xs := a.tmps) (i := 95) (d := undef)).trans ((congrArg (fun q : Option Value => q.getD undef) (hfr 95 (.inr (of_decide_eq_true (by kernel_rfl))))).trans rfl)
    have g96 : a.tmps.getD 96 undef = (undef : Value) := (Array.getD_eq_getD_getElem? (xs := a.tmps) (i := 96) (d := undef)).trans ((congrArg (fun q : Option Value => q.getD undef) (hfr 96 (.inr (of_decide_eq_true (by kernel_rfl))))).trans rfl)
    have g97 : a.tmps.getD 97 undef = (undef : Value) := (Array.getD_eq_getD_getElem? (xs := a.tmps) (i := 97) (d := undef)).trans ((congrArg (fun q : Option Value => q.getD undef) (hfr 97 (.inr (of_decide_eq_true (by kernel_rfl))))).trans rfl)
    have g48 : a.tmps.getD 48 undef = (.slice (some ⟨g, 0, none⟩) 12 12 : Value) := (Array.getD_eq_getD_getElem? (xs := a.tmps) (i := 48) (d := undef)).trans (congrArg (fun q : Option Value => q.getD undef) h48)
    have g49 : a.tmps.getD 49 undef = (.int .i64 12 : Value) := (Array.getD_eq_getD_getElem? (xs := a.tmps) (i := 49) (d := undef)).trans (congrArg (fun q : Option Value => q.getD undef) h49)
    have g50 : a.tmps.getD 50 undef = (.int .i64 0 : Value) := (Array.getD_eq_getD_getElem? (xs := a.tmps) (i := 50) (d := undef)).trans (congrArg (fun q : Option Value => q.getD undef) h50)
    rw [g0, g1, g2, g3, g4, g5, g6, g7, g8, g9, g10, g48, g49, g50, g51, g52, g53, g54, g55, g56, g57, g58, g59, g60, g61, g62, g63, g64, g65, g66, g67, g68, g69, g70, g71, g72, g73, g74, g75, g76, g77, g78, g79, g80, g81, g82, g83, g84, g85, g86, g87, g88, g89, g90, g91, g92, g93, g94, g95, g96, g97] at hlit
    clear g0 g1 g2 g3 g4 g5 g6 g7 g8 g9 g10 g48 g49 g50 g51 g52 g53 g54 g55 g56 g57 g58 g59 g60 g61 g62 g63 g64 g65 g66 g67 g68 g69 g70 g71 g72 g73 g74 g75 g76 g77 g78 g79 g80 g81 g82 g83 g84 g85 g86 g87 g88 g89 g90 g91 g92 g93 g94 g95 g96 g97 h48 h49 h50 hall hfr hsz
    generalize a.tmps.getD 11 undef = y11 at hlit
    generalize a.tmps.getD 12 undef = y12 at hlit
    generalize a.tmps.getD 13 undef = y13 at hlit
    generalize a.tmps.getD 14 undef = y14 at hlit
    generalize a.tmps.getD 15 undef = y15 at hlit
    generalize a.tmps.getD 16 undef = y16 at hlit
    generalize a.tmps.getD 17 undef = y17 at hlit
    generalize a.tmps.getD 18 undef = y18 at hlit
    generalize a.tmps.getD 19 undef = y19 at hlit
    generalize a.tmps.getD 20 undef = y20 at hlit
    generalize a.tmps.getD 21 undef = y21 at hlit
    generalize a.tmps.getD 22 undef = y22 at hlit
    generalize a.tmps.getD 23 undef = y23 at hlit
    generalize a.tmps.getD 24 undef = y24 at hlit
    generalize a.tmps.getD 25 undef = y25 at hlit
    generalize a.tmps.getD 26 undef = y26 at hlit
    generalize a.tmps.getD 27 undef = y27 at hlit
    generalize a.tmps.getD 28 undef = y28 at hlit
    generalize a.tmps.getD 29 undef = y29 at hlit
    generalize a.tmps.getD 30 undef = y30 at hlit
    generalize a.tmps.getD 31 undef = y31 at hlit
    generalize a.tmps.getD 32 undef = y32 at hlit
    generalize a.tmps.getD 33 undef = y33 at hlit
    generalize a.tmps.getD 34 undef = y34 at hlit
    generalize a.tmps.getD 35 undef = y35 at hlit
    generalize a.tmps.getD 36 undef = y36 at hlit
    generalize a.tmps.getD 37 undef = y37 at hlit
    generalize a.tmps.getD 38 undef = y38 at hlit
    generalize a.tmps.getD 39 undef = y39 at hlit
    generalize a.tmps.getD 40 undef = y40 at hlit
    generalize a.tmps.getD 41 undef = y41 at hlit
    generalize a.tmps.getD 42 undef = y42 at hlit
    generalize a.tmps.getD 43 undef = y43 at hlit
    generalize a.tmps.getD 44 undef = y44 at hlit
    generalize a.tmps.getD 45 undef = y45 at hlit
    generalize a.tmps.getD 46 undef = y46 at hlit
    generalize a.tmps.getD 47 undef = y47 at hlit
    obtain ⟨t, df⟩ := a
    simp only at hlit hdf
    subst hlit
    subst hdf
    simp only [Exit.then]
    have hno : (noL n).all (fun p => !valB p.1 p.2 && p.1.length ≤ 25 && p.2.length ≤ 25) = true := by
      have := no_none ⟨n.toNat, by omega⟩ (by show 2 ≤ n.toNat; omega)
      have e : ((n.toNat : Nat) : Int) = n := by omega
      simpa only [e] using this
    have HNO : Hid (∀ j (h : j < (noL n).length), valB (noL n)[j].1 (noL n)[j].2 = false ∧ (noL n)[j].1.length ≤ 25 ∧ (noL n)[j].2.length ≤ 25) := fun j hj => by
      have := List.all_eq_true.1 hno _ (List.getElem_mem hj)
      simp only [Bool.and_eq_true, Bool.not_eq_true', decide_eq_true_eq] at this
      exact ⟨this.1.1, this.1.2, this.2⟩
    have HCS := Lib.hid hcs
    have HB := Lib.hid hb
    have HLEN := Lib.hid (no_len n)
    clear hno hcs hb s49 s50 hx
    generalize noL n = L at *
    go_wp2
    go_loopw [50] (fun i wr => ∃ j : Nat, j ≤ 12 ∧ i = .int .i64 j ∧ Hid (Below w1.heap.size w1 wr)) (fun i _ => 12 - (intOf i).toNat)
    case atStart => exact ⟨0, by omega, rfl, Below.refl _ _⟩
    case round =>
      obtain ⟨j, hj, rfl, HBr⟩ := hrel
      by_cases hj12 : j < 12
      · have hji : (j : Int) < 12 := by omega
        have hjl : j < L.length := by have := HLEN.out; omega
        obtain ⟨u1, u2, c1, c2, A, c, B, d, rfl, rfl, i1, i2⟩ := HCS.out j hjl
        obtain ⟨hv, l1, l2⟩ := HNO.out j hjl
        have z1 := (HBr.out.cell (p := ⟨g, j * 2, none⟩) hg).trans c1
        have z2 := (HBr.out.cell (p := ⟨g, j * 2 + 1, none⟩) hg).trans c2
        have VA := Lib.hid (fun W (hW : Below w1.heap.size w1 W) => Valid_any L[j].1 L[j].2 A B L[j].1.length c L[j].2.length d W ⟨i1.below hW, i2.below hW⟩ rfl rfl (by omega) (by omega))
        rw [hv] at VA
        clear i1 i2 hv c1 c2
        generalize L[j].1.length = n1 at *
        generalize L[j].2.length = n2 at *
        have hbx := box_b wr (.cells #[.slice A n1 c, .slice B n2 d] 25)
        have y0 := box_0 wr 25 (.slice A n1 c) (.slice B n2 d)
        have y1 := box_1 wr 25 (.slice A n1 c) (.slice B n2 d)
        have hbz := below_then HBr.out hbx HBr.out.size
        go_wp2_with (go_at_call 8; refine (VA.out _ hbz).mono ?_; rintro e w3 ⟨rfl, hb3⟩)
        go_roundw
        case rel => exact ⟨j + 1, by omega, by go_num, below_then hbz hb3 hbz.size⟩
        case measure => simp [intOf]; omega
      · go_upto_region 8 with (fail)
        have hbz1 := HBr.out.size
        go_cut [5, 6] (fun x y wx => ∃ g1 g2 : Nat, x = .slice (some ⟨g1, 0, none⟩) 24 24 ∧ y = .slice (some ⟨g2, 0, none⟩) 24 24 ∧ Hid (TwoAt wx w1.heap.size g1 24 g2 24 (kS 0) (pS 0)) ∧ Hid (Below w1.heap.size w1 wx))
        case first =>
          have hmk : ∀ W : World, (Instr.makeSlice 23 (.int .i64 24) (.int .i64 24)).run Try.prog W = .ok (.slice (some ⟨W.heap.size, 0, none⟩) 24 24) (W.alloc (.cells (Array.replicate 24 (.int .i64 0)) 3)) := fun W => by kernel_rfl
          have T1 := Lib.hid (two_new wr.drew w1.heap.size (by simpa using hbz1))
          have B1 : Hid (Below w1.heap.size w1 ((wr.drew.alloc (.cells (Array.replicate 24 (.int .i64 0)) 3)).alloc (.cells (Array.replicate 24 (.int .i64 0)) 3))) := ((below_drew HBr.out).alloc (by simpa using hbz1) _).alloc (by simp; omega) _
          go_region
          all_goals
            go_wp2
            go_meet
          · exact ⟨_, _, rfl, rfl, T1, B1⟩
          · exact ⟨_, _, rfl, rfl, T1.out.swap, B1⟩
        case rest =>
          obtain ⟨g1, g2, rfl, rfl, T0, B0⟩ := hcut
          go_wp2
          go_loopw [61] (fun i wx => ∃ j : Nat, j ≤ 24 ∧ i = .int .i64 j ∧ Hid (TwoAt wx w1.heap.size g1 24 g2 24 (kS j) (pS j)) ∧ Hid (Below w1.heap.size w1 wx)) (fun i _ => 24 - (intOf i).toNat)
          case atStart => exact ⟨0, by omega, rfl, T0, B0⟩
          case round =>
            clear T0 B0
            obtain ⟨j, hj, rfl, T1, B1⟩ := hrel
            by_cases hj24 : j < 24
            · have hji : (j : Int) < 24 := by omega
              have c1 := own_cell T1.out.2.1 (k := j) (by rw [kS_len]; exact hj24)
              have f1 := T1.out.frozen j
              have t2 := T1.out.store (i := j) (x := 1) (by rw [kS_len]; exact hj24)
              rw [← kS_succ ⟨j, hj24⟩] at t2
              have c2 := own_cell t2.2.2 (k := j) (by rw [pS_len]; exact hj24)
              have f2 := t2.swap.frozen j
              have t3 := (t2.swap.store (i := j) (x := (j : Int) - 1) (by rw [pS_len]; exact hj24)).swap
              rw [← pS_succ ⟨j, hj24⟩] at t3
              have T3 := Lib.hid t3
              have b2 := set_below (k := j) (u := .int .i64 1) B1.out B1.out.size T1.out.base
              have B3 := Lib.hid (set_below (k := j) (u := .int .i64 ((j : Int) - 1)) b2 b2.size t2.swap.base)
              have hwj : IntKind.i64.wrap ((j : Int) - 1) = (j : Int) - 1 := by rw [IntKind.wrap_i64]; omega
              clear t2 t3 b2
              generalize (kS j).getD j 0 = k0 at c1
              generalize (pS j).getD j 0 = p0 at c2
              go_wp2
              go_roundw
              case rel => exact ⟨j + 1, by omega, by go_num, T3, B3⟩
              case measure => simp [intOf]; omega
            · have ej : j = 24 := by omega
              subst ej
              have i1 := ints_of_own T1.out.2.1 okI_kS (by rw [kS_len]; omega)
              have i2 := ints_of_own T1.out.2.2 okI_pS (by rw [pS_len]; omega)
              rw [kS_len] at i1
              rw [pS_len] at i2
              have V1 := Valid_any (kS 24) (pS 24) _ _ 24 24 24 24 wr ⟨i1, i2⟩ (kS_len 24).symm (pS_len 24).symm (by omega) (by omega)
              rw [val_chain] at V1
              have VA := Lib.hid V1
              have VB : Hid (∀ W : World, Calls Try.prog 8 #[.agg #[.slice (some ⟨W.heap.size, 0, none⟩) 4 4, .slice (some ⟨W.heap.size + 1, 0, none⟩) 4 4]] ((W.alloc (.cells #[.int .i64 1, .int .i64 1, .int .i64 3, .int .i64 4] 3)).alloc (.cells #[.int .i64 (-1), .int .i64 0, .int .i64 0, .int .i64 0] 3)) fun e w' => e = .returned (.bool true) ∧ Below W.heap.size W w') := fun W =>
                val_laid W [1, 1, 3, 4] [-1, 0, 0, 0] (okI_cons ⟨by omega, by omega⟩ (okI_cons ⟨by omega, by omega⟩ (okI_cons ⟨by omega, by omega⟩ (okI_1 ⟨by omega, by omega⟩)))) (okI_cons ⟨by omega, by omega⟩ (okI_cons ⟨by omega, by omega⟩ (okI_cons ⟨by omega, by omega⟩ (okI_1 ⟨by omega, by omega⟩)))) (by simp) (by simp) val_four
              have VC : Hid (∀ W : World, Calls Try.prog 8 #[.agg #[.slice (some ⟨W.heap.size, 0, none⟩) 3 3, .slice (some ⟨W.heap.size + 1, 0, none⟩) 3 3]] ((W.alloc (.cells #[.int .i64 2, .int .i64 1, .int .i64 1] 3)).alloc (.cells #[.int .i64 (-1), .int .i64 0, .int .i64 0] 3)) fun e w' => e = .returned (.bool true) ∧ Below W.heap.size W w') := fun W =>
                val_laid W [2, 1, 1] [-1, 0, 0] (okI_cons ⟨by omega, by omega⟩ (okI_cons ⟨by omega, by omega⟩ (okI_1 ⟨by omega, by omega⟩))) (okI_cons ⟨by omega, by omega⟩ (okI_cons ⟨by omega, by omega⟩ (okI_1 ⟨by omega, by omega⟩))) (by simp) (by simp) val_three
              have VD : Hid (∀ W : World, Calls Try.prog 8 #[.agg #[.slice (some ⟨W.heap.size, 0, none⟩) 1 1, .slice (some ⟨W.heap.size + 1, 0, none⟩) 1 1]] ((W.alloc (.cells #[.int .i64 2] 3)).alloc (.cells #[.int .i64 (-1)] 3)) fun e w' => e = .returned (.bool true) ∧ Below W.heap.size W w') := fun W =>
                val_laid W [2] [-1] (okI_1 ⟨by omega, by omega⟩) (okI_1 ⟨by omega, by omega⟩) (by simp) (by simp) val_one
              clear i1 i2 V1 T1
              have tk1 : True := trivial
              have tk2 : True := trivial
              have tk3 : True := trivial
              go_wp2_with (first
                | (have _t := tk1; go_at_call 8; refine VA.out.mono ?_; rintro e w5 ⟨rfl, hb5⟩; have h5 := below_then B1.out hb5 B1.out.size; clear tk1 _t)
                | (have _t := tk2; go_at_call 8; refine (VB.out w5).mono ?_; rintro e w6 ⟨rfl, hb6⟩; have h6 := below_then h5 hb6 h5.size; clear tk2 _t)
                | (have _t := tk3; go_at_call 8; refine (VC.out w6).mono ?_; rintro e w7 ⟨rfl, hb7⟩; have h7 := below_then h6 hb7 h6.size; clear tk3 _t)
                | (go_at_call 8; refine (VD.out w7).mono ?_; rintro e w8 ⟨rfl, hb8⟩; have h8 := below_then h7 hb8 h7.size)
                | (go_at_call 9; refine (wakes06 _).mono ?_; rintro e w9 ⟨rfl, hb9⟩))
              go_ret
              exact ⟨rfl, below_then HB.out (below_then h8 hb9 h8.size) HB.out.size⟩
end Go.Proofs.Ytechijfckmfoaaa
