import Derived.Test.YtgffbgmieppckaaGreatDoorLw1
import Derived.Test.YtgffbgmieppckaaGreatDoorLw2
import Derived.Test.YtgffbgmieppckaaGreatDoorLw5
import Derived.Test.YtgffbgmieppckaaGreatDoorLw6
import Derived.Test.YtgffbgmieppckaaGreatDoorPol6
import Derived.Test.YtgffbgmieppckaaGreatDoorShelf
import Derived.Lib.AppendIntMem
import Derived.Deep.Fields
import Derived.Test.YtgffbgmieppckaaGreatDoorSplit
import Derived.Deep.RegionWith
import Derived.StillTailTactics
import Derived.Test.YtgffbgmieppckaaGreatDoorAgain
import Derived.Test.YtgffbgmieppckaaGreatDoorParse
import Derived.Test.YtgffbgmieppckaaGreatDoorDT0
import Derived.Test.YtgffbgmieppckaaGreatDoorOwn
import Derived.Test.YtgffbgmieppckaaGreatDoorPrint2
import Derived.Deep.RegionHeld3
import Derived.Deep.DeepCutAuto
import Derived.Laws.StructEq
import Derived.ChangeKeysEq
namespace Go.Proofs.YtgffbgmieppckaaGreatDoor
set_option maxRecDepth 100000
open Go.ChangeShapes Go.WideShapes Go.ChangeAt Go.RowKit
def LIn (w : World) (A : Option Addr) (c : Nat) (l : List Tx) : Prop := (l = [] ∧ (A = none → c = 0)) ∨ ∃ g off, A = some ⟨g, off, none⟩ ∧ g < w.heap.size ∧ l.length ≤ c ∧ ∀ j (hj : j < l.length), w.cell? ⟨g, off + j, none⟩ = some (.string (bs l[j]))
theorem LIn.below {w w' : World} {A : Option Addr} {c : Nat} {l : List Tx} (h : LIn w A c l) (hb : Below w.heap.size w w') : LIn w' A c l := by
 rcases h with h | ⟨g, off, e, hg, hl, hc⟩
 ·exact .inl h
 ·exact .inr ⟨g, off, e, Nat.lt_of_lt_of_le hg hb.size, hl, fun j hj => (hb.cell hg).trans (hc j hj)⟩
theorem LIn.at {w : World} {A : Option Addr} {c : Nat} {l : List Tx} (h : LIn w A c l) (hm : l.length ≤ 9223372036854775807) : LAt w A c l := by
 rcases h with ⟨rfl, h0⟩ | ⟨g, off, e, hg, hl, hc⟩
 ·exact ⟨Nat.zero_le _, hm, fun j hj => by simp at hj⟩
 ·exact ⟨hl, hm, fun j hj => ⟨g, off, e, hg, hc j hj⟩⟩
def TabAt (w : World) : Prop := Lib.TabIs Tryz.prog w "internal/strconv.uint64pow10" .u64 Lib.pow10Tab
theorem TabAt.below {w w' : World} (h : TabAt w) (hb : Below w.heap.size w w') : TabAt w' := by
 have hgn : Tryz.prog.globalNamed "internal/strconv.uint64pow10" = some 2 := by kernel_rfl
 unfold TabAt Lib.TabIs World.var? at h ⊢
 rw [hgn] at h ⊢
 simp only [Option.bind_some] at h ⊢
 have hlt : 2 < w.heap.size := by
  rcases Nat.lt_or_ge 2 w.heap.size with h' | h'
  ·exact h'
  ·rw [Array.getElem?_eq_none h'] at h; cases h
 rw [hb.block _ hlt]
 exact h
theorem Itoa_any (n : Int) (h0 : -9223372036854775808 ≤ n) (h1 : n ≤ 9223372036854775807) (w : World) (ht : TabAt w) : ∀ W, Below w.heap.size w W → Calls Tryz.prog 184 #[.int .i64 n] W fun e w' => e = .returned (.string (bs (Lib.itoa n))) ∧ Below W.heap.size W w' := fun W hW =>
 (Tryz.strconv_Itoa n h0 h1 W (ht.below hW)).mono fun e w' h => ⟨h.1, by obtain ⟨k, os, e⟩ := h.2; rw [e]; exact Lib.below_grow _ _ (Nat.le_refl _) _ _⟩
theorem lineWords_any (r : Ru) (A : Option Addr) (ca : Nat) (ln : Int) (w : World) (hL : LIn w A ca r.list) (hl : r.list.length ≤ 1048576) (hn0 : -9223372036854775808 ≤ r.n) (hn1 : r.n ≤ 9223372036854775807) (hm0 : -9223372036854775808 ≤ r.m) (hm1 : r.m ≤ 9223372036854775807) (ht : TabAt w) :
  Calls Tryz.prog 133 #[ruV r (.slice A r.list.length ca) ln] w (LineTo (lineP r) w) := by
 obtain ⟨kd, nm, l, rn, rm, rf, rt, rb, ra, ri⟩ := r
 simp only at hL hl hn0 hn1 hm0 hm1
 have hi := Itoa_any rn hn0 hn1 w ht
 have hi2 := Itoa_any rm hm0 hm1 w ht
 unfold lineP ruV
 simp only
 by_cases k1 : kd = 1
 ·subst k1
  simp only [if_true]
  rcases hL with ⟨rfl, h0⟩ | ⟨g, off, rfl, hg, hc, hcells⟩
  ·cases A with
   | none => obtain rfl := h0 rfl; exact lw_roleN nm rf rt rb ra ri rn rm ln w
   | some a => exact lw_roleE nm rf rt rb ra ri rn rm ln a ca w
  ·by_cases hp : l = []
   ·subst hp
    exact lw_roleE nm rf rt rb ra ri rn rm ln _ ca w
   ·rw [if_neg hp]
    have := lw_roleS nm rf rt rb ra ri rn rm ln g off ca l w hg hcells hl (List.length_pos_iff.2 hp)
    simpa using this
 rw [if_neg k1]
 by_cases k23 : kd = 2 ∨ kd = 3
 ·rw [if_pos k23]
  rcases hL with ⟨rfl, h0⟩ | ⟨g, off, rfl, hg, hc, hcells⟩
  ·cases A with
   | none =>
    obtain rfl := h0 rfl
    rcases k23 with rfl | rfl
    ·exact lw_user2N nm rf rt rb ra ri rn rm ln w
    ·exact lw_user3N nm rf rt rb ra ri rn rm ln w
   | some a =>
    rcases k23 with rfl | rfl
    ·exact lw_user2E nm rf rt rb ra ri rn rm ln a ca w
    ·exact lw_user3E nm rf rt rb ra ri rn rm ln a ca w
  ·rcases k23 with rfl | rfl
   ·have := lw_user2S nm rf rt rb ra ri rn rm ln g off ca l w hg hcells hl
    simpa using this
   ·have := lw_user3S nm rf rt rb ra ri rn rm ln g off ca l w hg hcells hl
    simpa using this
 rw [if_neg k23]
 by_cases k45 : kd = 4 ∨ kd = 5
 ·rw [if_pos k45]
  rcases hL with ⟨rfl, h0⟩ | ⟨g, off, rfl, hg, hc, hcells⟩
  ·cases A with
   | none =>
    obtain rfl := h0 rfl
    rcases k45 with rfl | rfl
    ·exact lw_ssd4N nm rf rt rb ra ri rn rm ln w (Lib.itoa rn) hi
    ·exact lw_ssd5N nm rf rt rb ra ri rn rm ln w (Lib.itoa rn) hi
   | some a =>
    rcases k45 with rfl | rfl
    ·exact lw_ssd4E nm rf rt rb ra ri rn rm ln a ca w (Lib.itoa rn) hi
    ·exact lw_ssd5E nm rf rt rb ra ri rn rm ln a ca w (Lib.itoa rn) hi
  ·rcases k45 with rfl | rfl
   ·have := lw_ssd4S nm rf rt rb ra ri rn rm ln g off ca l w hg hcells hl (Lib.itoa rn) hi
    simpa using this
   ·have := lw_ssd5S nm rf rt rb ra ri rn rm ln g off ca l w hg hcells hl (Lib.itoa rn) hi
    simpa using this
 rw [if_neg k45]
 by_cases k6 : kd = 6
 ·subst k6
  simp only [if_true]
  rcases hL with ⟨rfl, h0⟩ | ⟨g, off, rfl, hg, hc, hcells⟩
  ·cases A with
   | none => obtain rfl := h0 rfl; exact lw_exclN nm rf rt rb ra ri rn rm ln w
   | some a => exact lw_exclE nm rf rt rb ra ri rn rm ln a ca w
  ·exact lw_excl nm rf rt rb ra ri rn rm ln g off ca l w hg hcells hl
 rw [if_neg k6]
 by_cases k7 : kd = 7
 ·subst k7
  simp only [if_true]
  exact lw_lend nm rf rt rb ra ri rn rm ln w (Lib.itoa rn) (Lib.itoa rm) hi hi2
 rw [if_neg k7]
 by_cases k8 : kd = 8
 ·subst k8
  simp only [if_true]
  by_cases h : ri = []
  ·have := lw_state0 (A := A) (na := l.length) (ca := ca) nm rf rt rb ra ri rn rm ln w h
   rw [show optP [105, 110] ri = [] by simp [optP, h]]
   simpa using this
  ·have := lw_state1 (A := A) (na := l.length) (ca := ca) nm rf rt rb ra ri rn rm ln w h
   rw [show optP [105, 110] ri = [[105, 110], ri] by simp [optP, h]]
   simpa using this
 rw [if_neg k8]
 by_cases k9 : kd = 9
 ·subst k9
  simp only [if_true]
  by_cases h : rb = []
  ·rw [show optP [98, 121] rb = [] by simp [optP, h]]
   by_cases h2 : ra = []
   ·rw [show optP [116, 97, 115, 107] ra = [] by simp [optP, h2]]
    have := lw_on00 (A := A) (na := l.length) (ca := ca) nm rf rt rb ra ri rn rm ln w h h2
    simpa using this
   ·rw [show optP [116, 97, 115, 107] ra = [[116, 97, 115, 107], ra] by simp [optP, h2]]
    have := lw_on01 (A := A) (na := l.length) (ca := ca) nm rf rt rb ra ri rn rm ln w h h2
    simpa using this
  ·rw [show optP [98, 121] rb = [[98, 121], rb] by simp [optP, h]]
   by_cases h2 : ra = []
   ·rw [show optP [116, 97, 115, 107] ra = [] by simp [optP, h2]]
    have := lw_on10 (A := A) (na := l.length) (ca := ca) nm rf rt rb ra ri rn rm ln w h h2
    simpa using this
   ·rw [show optP [116, 97, 115, 107] ra = [[116, 97, 115, 107], ra] by simp [optP, h2]]
    have := lw_on11 (A := A) (na := l.length) (ca := ca) nm rf rt rb ra ri rn rm ln w h h2
    simpa using this
 rw [if_neg k9]
 by_cases k10 : kd = 10
 ·subst k10
  simp only [if_true]
  have := lw_auto (A := A) (na := l.length) (ca := ca) nm rf rt rb ra ri rn rm ln w
  simpa using this
 rw [if_neg k10]
 by_cases k11 : kd = 11
 ·subst k11
  simp only [if_true]
  have := lw_after (A := A) (na := l.length) (ca := ca) nm rf rt rb ra ri rn rm ln w (Lib.itoa rn) hi
  simpa using this
 rw [if_neg k11]
 have n2 : kd ≠ 2 := fun e => k23 (.inl e)
 have n3 : kd ≠ 3 := fun e => k23 (.inr e)
 have n4 : kd ≠ 4 := fun e => k45 (.inl e)
 have n5 : kd ≠ 5 := fun e => k45 (.inr e)
 exact lw_none (A := A) (na := l.length) (ca := ca) nm rf rt rb ra ri kd rn rm ln w (by simpa using k1) (by simpa using n2) (by simpa using n3) (by simpa using n4) (by simpa using n5) (by simpa using k6) (by simpa using k7) (by simpa using k8) (by simpa using k9) (by simpa using k10) (by simpa using k11)
end Go.Proofs.YtgffbgmieppckaaGreatDoor
namespace Go.Proofs.YtgffbgmieppckaaGreatDoor
set_option maxRecDepth 100000
open Go.ChangeShapes Go.WideShapes Go.ChangeAt Go.RowKit Go.Deep
def sumL : List Tx → Nat
 | [] => 0
 | t :: r => t.length + 1 + sumL r
def totR (r : Ru) : Nat := r.name.length + sumL r.list + r.from_.length + r.to_.length + r.by_.length + r.task.length + r.in_.length
theorem sum_len (l : List Tx) : l.length ≤ sumL l := by
 induction l with
 | nil => exact Nat.le_refl _
 | cons t r ih => simp only [sumL, List.length_cons]; omega
theorem sum_app (l m : List Tx) : sumL (l ++ m) = sumL l + sumL m := by
 induction l with
 | nil => simp [sumL]
 | cons t r ih => simp only [List.cons_append, sumL, ih]; omega
theorem join_sum (l : List Tx) : (joinP l).length ≤ sumL l := by
 induction l with
 | nil => simp [joinP, Lib.join, sumL]
 | cons a r ih =>
  cases r with
  | nil => rw [join_one]; simp only [sumL]; omega
  | cons b r => rw [join_cons2]; simp only [sumL, List.length_append, List.length_cons] at ih ⊢; omega
theorem nDig_le (u : Nat) : ∀ k : Nat, u < 10 ^ (k + 1) → (Lib.decDigits u).length ≤ k + 1 := by
 intro k
 induction k generalizing u with
 | zero => intro h; rw [Lib.decDigits, dif_pos (by omega)]; simp
 | succ k ih =>
  intro h
  rw [Lib.decDigits]
  split
  ·simp
  ·have := ih (u / 10) (by rw [Nat.pow_succ] at h; omega)
   simp; omega
theorem itoa_le {n : Int} (h0 : -9223372036854775808 ≤ n) (h1 : n ≤ 9223372036854775807) : (Lib.itoa n).length ≤ 20 := by
 have hp : (10 : Nat) ^ (18 + 1) = 10000000000000000000 := by decide
 unfold Lib.itoa
 split
 ·have := nDig_le n.natAbs 18 (by rw [hp]; omega)
  simp; omega
 ·have := nDig_le n.toNat 18 (by rw [hp]; omega)
  omega
theorem kindT_le : ∀ t ∈ kindT, t.length ≤ 9 := by decide +kernel
theorem stateT_le : ∀ t ∈ stateT, t.length ≤ 9 := by decide +kernel
theorem wordP_le {tbl : List Tx} (h : ∀ t ∈ tbl, t.length ≤ 9) (k : Int) : (wordP tbl k).length ≤ 9 := by
 unfold wordP
 split
 ·simp
 ·cases hh : tbl[k.toNat]? with
  | none => simp
  | some t => exact h t (List.mem_of_getElem? hh)
theorem sum_opt (x y : Tx) (hx : x.length ≤ 4) : sumL (optP x y) ≤ y.length + 6 := by
 unfold optP
 split
 ·simp [sumL]
 ·simp only [sumL]; omega
theorem line_sum (r : Ru) (hn0 : -9223372036854775808 ≤ r.n) (hn1 : r.n ≤ 9223372036854775807) (hm0 : -9223372036854775808 ≤ r.m) (hm1 : r.m ≤ 9223372036854775807) : sumL (lineP r) ≤ totR r + 60 := by
 have i1 := itoa_le hn0 hn1
 have i2 := itoa_le hm0 hm1
 have w1 := wordP_le kindT_le r.kind
 have w2 := wordP_le stateT_le r.n
 have o1 := sum_opt [105, 110] r.in_ (by decide)
 have o2 := sum_opt [98, 121] r.by_ (by decide)
 have o3 := sum_opt [116, 97, 115, 107] r.task (by decide)
 unfold lineP totR
 simp only [sumL]
 split
 ·split
  ·rename_i e; simp only [sumL, e]; omega
  ·simp only [sumL, List.length_cons, List.length_nil]; omega
 split
 ·simp only [sumL]; omega
 split
 ·simp only [sumL]; omega
 split
 ·omega
 split
 ·simp only [sumL]; omega
 split
 ·simp only [sum_app, sumL]; omega
 split
 ·simp only [sum_app, sumL, List.length_cons, List.length_nil]; omega
 split
 ·simp only [sumL, List.length_cons, List.length_nil]; omega
 split
 ·simp only [sumL, List.length_cons, List.length_nil]; omega
 ·simp only [sumL]; omega
end Go.Proofs.YtgffbgmieppckaaGreatDoor
namespace Go.Proofs.YtgffbgmieppckaaGreatDoor
set_option maxRecDepth 100000
open Go.ChangeShapes Go.WideShapes Go.ChangeAt Go.RowKit
structure XS (W0 W : World) (rc : Array Value) (k : Int) (nm : Tx) (v : Value) (l : List Tx) (n m : Int) (f t b a i : Tx) : Prop where
 r0 : W.heap[W0.heap.size]? = some (.cells rc 31 (0, 0))
 t0 : W.heap[W0.heap.size + 1]? = some (.cells zero11 31 (0, 0))
 x0 : W.heap[W0.heap.size + 1 + 1]? = some (.cells #[.int .i64 k, .string (bs nm), v, .int .i64 n, .int .i64 m, .string (bs f), .string (bs t), .string (bs b), .string (bs a), .string (bs i), .int .i64 0] 31 (0, 0))
 own : OwnL W (W0.heap.size + 3) v l
 low : Below W0.heap.size W0 W
section
variable {W0 W W' : World} {rc : Array Value} {k : Int} {nm : Tx} {v : Value} {l : List Tx} {n m : Int} {f t b a i : Tx}
theorem XS.size (h : XS W0 W rc k nm v l n m f t b a i) : W0.heap.size + 1 + 1 < W.heap.size := (Array.getElem?_eq_some_iff.1 h.x0).1
theorem XS.below (h : XS W0 W rc k nm v l n m f t b a i) (hb : Below W.heap.size W W') : XS W0 W' rc k nm v l n m f t b a i :=
 have := h.size
 ⟨(hb.block _ (by omega)).trans h.r0, (hb.block _ (by omega)).trans h.t0, (hb.block _ (by omega)).trans h.x0, own_below h.own hb (by omega), h.low.trans (hb.mono (by omega))⟩
theorem XS.grown {v' : Value} {l' : List Tx} {row : Option Nat} (h : XS W0 W rc k nm v l n m f t b a i) (hg : W.grownBy W' row) (hr : ∀ j, row = some j → W0.heap.size + 3 ≤ j) (ho : OwnL W' (W0.heap.size + 3) v' l') : W'.heap[W0.heap.size]? = some (.cells rc 31 (0, 0)) ∧ W'.heap[W0.heap.size + 1]? = some (.cells zero11 31 (0, 0)) ∧ W'.heap[W0.heap.size + 1 + 1]? = some (.cells #[.int .i64 k, .string (bs nm), v, .int .i64 n, .int .i64 m, .string (bs f), .string (bs t), .string (bs b), .string (bs a), .string (bs i), .int .i64 0] 31 (0, 0)) ∧ OwnL W' (W0.heap.size + 3) v' l' ∧ Below W0.heap.size W0 W' :=
 have hs := h.size
 ⟨(hg.block _ (by omega) (fun e => by have := hr _ e.symm; omega)).trans h.r0, (hg.block _ (by omega) (fun e => by have := hr _ e.symm; omega)).trans h.t0, (hg.block _ (by omega) (fun e => by have := hr _ e.symm; omega)).trans h.x0, ho, h.low.grown hg h.low.size (fun j e => by have := hr _ e; omega)⟩
theorem far_row {W : World} {p j : Nat} {o : Obj} {c : Value} {t : Nat} (h : W.heap[p]? = some o) (hne : t ≠ p) : (W.setCell ⟨t, j, none⟩ c).heap[p]? = some o := by
 have hg := grown_setCell W t j c
 rw [hg.block p (Array.getElem?_eq_some_iff.1 h).1 (by simp; omega)]; exact h
theorem own_set {W : World} {base t j : Nat} {v c : Value} {l : List Tx} (h : OwnL W base v l) (ht : t < base) : OwnL (W.setCell ⟨t, j, none⟩ c) base v l :=
 World.ownsRow.kept h (grown_setCell W t j c) (.inr (fun e => by have := (h.lt t e).1; omega))
theorem XS.drew (h : XS W0 W rc k nm v l n m f t b a i) : XS W0 W.drew rc k nm v l n m f t b a i := ⟨h.r0, h.t0, h.x0, h.own, h.low.drew⟩
theorem XS.low_set (h : XS W0 W rc k nm v l n m f t b a i) (j : Nat) (c : Value) : Below W0.heap.size W0 (W.setCell ⟨W0.heap.size + 1 + 1, j, none⟩ c) :=
 h.low.grown (grown_setCell W _ j c) h.low.size (fun q e => by simp at e; omega)
theorem XS.set2 {v' : Value} {l' : List Tx} (h : XS W0 W rc k nm v l n m f t b a i) (ho : OwnL W (W0.heap.size + 3) v' l') : XS W0 (W.setCell ⟨W0.heap.size + 1 + 1, 2, none⟩ v') rc k nm v' l' n m f t b a i :=
 ⟨far_row h.r0 (by omega), far_row h.t0 (by omega), heap_set h.x0 _, own_set ho (by omega), h.low_set _ _⟩
structure XG (W0 W : World) (rc : Array Value) (v' : Value) (l' : List Tx) (k : Int) (nm : Tx) (v : Value) (n m : Int) (f t b a i : Tx) : Prop where
 r0 : W.heap[W0.heap.size]? = some (.cells rc 31 (0, 0))
 t0 : W.heap[W0.heap.size + 1]? = some (.cells zero11 31 (0, 0))
 x0 : W.heap[W0.heap.size + 1 + 1]? = some (.cells #[.int .i64 k, .string (bs nm), v, .int .i64 n, .int .i64 m, .string (bs f), .string (bs t), .string (bs b), .string (bs a), .string (bs i), .int .i64 0] 31 (0, 0))
 own : OwnL W (W0.heap.size + 3) v' l'
 low : Below W0.heap.size W0 W
theorem XS.app {W1 W2 : World} {v' : Value} {ts : List Tx} (h : XS W0 W rc k nm v l n m f t b a i) (hg0 : W.grownBy W1 none) (hg : W1.grownBy W2 v.ownBlock) (ho : W2.ownsRow (W0.heap.size + 3) 9 1 v' (l.length + ts.length) (scells l ++ scells ts)) : XG W0 W2 rc v' (l ++ ts) k nm v n m f t b a i := by
 have hr : ∀ j, v.ownBlock = some j → W0.heap.size + 3 ≤ j := fun j e => by have := (h.own.lt j e).1; omega
 have hs := h.size
 have hb : ∀ p, p < W0.heap.size + 3 → W2.heap[p]? = W.heap[p]? := fun p hp => by
  rw [hg.block _ (Nat.lt_of_lt_of_le (by omega) hg0.size) (fun e => by have := hr _ e.symm; omega), hg0.block _ (by omega) (by simp)]
 refine ⟨(hb _ (by omega)).trans h.r0, (hb _ (by omega)).trans h.t0, (hb _ (by omega)).trans h.x0, ?_, (h.low.grown hg0 h.low.size (fun j e => by cases e)).grown hg (Nat.le_trans h.low.size hg0.size) (fun j e => by have := hr _ e; omega)⟩
 unfold OwnL scells
 rw [List.length_append, List.map_append]
 exact ho
theorem XG.store {v' : Value} {l' : List Tx} (h : XG W0 W rc v' l' k nm v n m f t b a i) : XS W0 (W.setCell ⟨W0.heap.size + 1 + 1, 2, none⟩ v') rc k nm v' l' n m f t b a i :=
 ⟨far_row h.r0 (by omega), far_row h.t0 (by omega), heap_set h.x0 _, own_set h.own (by omega), h.low.grown (grown_setCell W _ 2 v') h.low.size (fun q e => by simp at e; omega)⟩
theorem XG.fz {v' : Value} {l' : List Tx} (h : XG W0 W rc v' l' k nm v n m f t b a i) (j : Nat) : W.frozen? ⟨W0.heap.size + 1 + 1, j, none⟩ = false := by simp [World.frozen?, h.x0]
theorem XS.q0 (h : XS W0 W rc k nm v l n m f t b a i) : W.cell? ⟨W0.heap.size + 1 + 1, 0, none⟩ = some (.int .i64 k) := row_q0 h.x0
theorem XS.q1 (h : XS W0 W rc k nm v l n m f t b a i) : W.cell? ⟨W0.heap.size + 1 + 1, 1, none⟩ = some (.string (bs nm)) := row_q1 h.x0
theorem XS.q2 (h : XS W0 W rc k nm v l n m f t b a i) : W.cell? ⟨W0.heap.size + 1 + 1, 2, none⟩ = some (v) := row_q2 h.x0
theorem XS.q3 (h : XS W0 W rc k nm v l n m f t b a i) : W.cell? ⟨W0.heap.size + 1 + 1, 3, none⟩ = some (.int .i64 n) := row_q3 h.x0
theorem XS.q4 (h : XS W0 W rc k nm v l n m f t b a i) : W.cell? ⟨W0.heap.size + 1 + 1, 4, none⟩ = some (.int .i64 m) := row_q4 h.x0
theorem XS.q5 (h : XS W0 W rc k nm v l n m f t b a i) : W.cell? ⟨W0.heap.size + 1 + 1, 5, none⟩ = some (.string (bs f)) := row_q5 h.x0
theorem XS.q6 (h : XS W0 W rc k nm v l n m f t b a i) : W.cell? ⟨W0.heap.size + 1 + 1, 6, none⟩ = some (.string (bs t)) := row_q6 h.x0
theorem XS.q7 (h : XS W0 W rc k nm v l n m f t b a i) : W.cell? ⟨W0.heap.size + 1 + 1, 7, none⟩ = some (.string (bs b)) := row_q7 h.x0
theorem XS.q8 (h : XS W0 W rc k nm v l n m f t b a i) : W.cell? ⟨W0.heap.size + 1 + 1, 8, none⟩ = some (.string (bs a)) := row_q8 h.x0
theorem XS.q9 (h : XS W0 W rc k nm v l n m f t b a i) : W.cell? ⟨W0.heap.size + 1 + 1, 9, none⟩ = some (.string (bs i)) := row_q9 h.x0
theorem XS.q10 (h : XS W0 W rc k nm v l n m f t b a i) : W.cell? ⟨W0.heap.size + 1 + 1, 10, none⟩ = some (.int .i64 0) := row_q10 h.x0
theorem XS.fz (h : XS W0 W rc k nm v l n m f t b a i) (j : Nat) : W.frozen? ⟨W0.heap.size + 1 + 1, j, none⟩ = false := by simp [World.frozen?, h.x0]
theorem XS.fzt (h : XS W0 W rc k nm v l n m f t b a i) (j : Nat) : W.frozen? ⟨W0.heap.size + 1, j, none⟩ = false := by simp [World.frozen?, h.t0]
end
theorem own_LIn {w : World} {base c : Nat} {A : Option Addr} {l : List Tx} (h : OwnL w base (.slice A l.length c) l) : LIn w A c l := by
 obtain ⟨h1, h2⟩ := strSl_of h
 by_cases h0 : 0 < l.length
 ·obtain ⟨g, rfl, _, hg, _⟩ := h2 0 h0
  refine .inr ⟨g, 0, rfl, hg, h1, fun j hj => ?_⟩
  obtain ⟨g', e, _, _, hc⟩ := h2 j hj
  cases e; rw [Nat.zero_add]; exact hc
 ·have e : l = [] := List.eq_nil_of_length_eq_zero (by omega)
  subst e
  refine .inl ⟨rfl, fun e => ?_⟩
  subst e
  rcases h.2 with ⟨hv, _⟩ | ⟨g, cap, cur, hv, _⟩
  ·cases hv; rfl
  ·cases hv
theorem LIn.grown {w w' : World} {A : Option Addr} {c p : Nat} {l : List Tx} (h : LIn w A c l) (hg : w.grownBy w' (some p)) (hB : ∀ g off, A = some ⟨g, off, none⟩ → l ≠ [] → g ≠ p) : LIn w' A c l := by
 by_cases h0 : l = []
 ·rcases h with h | ⟨g, off, e, hgl, hl, hc⟩
  ·exact .inl h
  ·exact .inr ⟨g, off, e, Nat.lt_of_lt_of_le hgl hg.size, hl, fun j hj => by subst h0; simp at hj⟩
 rcases h with h | ⟨g, off, e, hgl, hl, hc⟩
 ·exact .inl h
 ·refine .inr ⟨g, off, e, Nat.lt_of_lt_of_le hgl hg.size, hl, fun j hj => ?_⟩
  rw [← hc j hj]
  unfold World.cell?
  simp only
  rw [hg.block g hgl (by have := hB g off e h0; simp; omega)]
theorem cells22 {a0 a3 a4 a10 : Int} {a1 a5 a6 a7 a8 a9 : ByteArray} {A : Option Addr} {na ca : Nat} {b0 b3 b4 b10 : Int} {b1 b5 b6 b7 b8 b9 : ByteArray} {B : Option Addr} {nb cb : Nat} {w W : World} (RA : W.heap[w.heap.size]? = some (.cells #[.int .i64 a0, .string a1, .slice A na ca, .int .i64 a3, .int .i64 a4, .string a5, .string a6, .string a7, .string a8, .string a9, .int .i64 a10] 31 (0, 0))) (RB : W.heap[w.heap.size + 1]? = some (.cells #[.int .i64 b0, .string b1, .slice B nb cb, .int .i64 b3, .int .i64 b4, .string b5, .string b6, .string b7, .string b8, .string b9, .int .i64 b10] 31 (0, 0))) : W.cell? ⟨w.heap.size, 0, none⟩ = some (.int .i64 a0) ∧ W.cell? ⟨w.heap.size, 1, none⟩ = some (.string a1) ∧ W.cell? ⟨w.heap.size, 2, none⟩ = some (.slice A na ca) ∧ W.cell? ⟨w.heap.size, 3, none⟩ = some (.int .i64 a3) ∧ W.cell? ⟨w.heap.size, 4, none⟩ = some (.int .i64 a4) ∧ W.cell? ⟨w.heap.size, 5, none⟩ = some (.string a5) ∧ W.cell? ⟨w.heap.size, 6, none⟩ = some (.string a6) ∧ W.cell? ⟨w.heap.size, 7, none⟩ = some (.string a7) ∧ W.cell? ⟨w.heap.size, 8, none⟩ = some (.string a8) ∧ W.cell? ⟨w.heap.size, 9, none⟩ = some (.string a9) ∧ W.cell? ⟨w.heap.size, 10, none⟩ = some (.int .i64 a10) ∧ W.cell? ⟨w.heap.size + 1, 0, none⟩ = some (.int .i64 b0) ∧ W.cell? ⟨w.heap.size + 1, 1, none⟩ = some (.string b1) ∧ W.cell? ⟨w.heap.size + 1, 2, none⟩ = some (.slice B nb cb) ∧ W.cell? ⟨w.heap.size + 1, 3, none⟩ = some (.int .i64 b3) ∧ W.cell? ⟨w.heap.size + 1, 4, none⟩ = some (.int .i64 b4) ∧ W.cell? ⟨w.heap.size + 1, 5, none⟩ = some (.string b5) ∧ W.cell? ⟨w.heap.size + 1, 6, none⟩ = some (.string b6) ∧ W.cell? ⟨w.heap.size + 1, 7, none⟩ = some (.string b7) ∧ W.cell? ⟨w.heap.size + 1, 8, none⟩ = some (.string b8) ∧ W.cell? ⟨w.heap.size + 1, 9, none⟩ = some (.string b9) ∧ W.cell? ⟨w.heap.size + 1, 10, none⟩ = some (.int .i64 b10) := ⟨row_q0 RA, row_q1 RA, row_q2 RA, row_q3 RA, row_q4 RA, row_q5 RA, row_q6 RA, row_q7 RA, row_q8 RA, row_q9 RA, row_q10 RA, row_q0 RB, row_q1 RB, row_q2 RB, row_q3 RB, row_q4 RB, row_q5 RB, row_q6 RB, row_q7 RB, row_q8 RB, row_q9 RB, row_q10 RB⟩
theorem numbers_lit (a0 a3 a4 a10 : Int) (a1 a5 a6 a7 a8 a9 : ByteArray) (A : Option Addr) (na ca : Nat) (w : World) : Calls Tryz.prog 191 #[.agg #[.int .i64 a0, .string a1, .slice A na ca, .int .i64 a3, .int .i64 a4, .string a5, .string a6, .string a7, .string a8, .string a9, .int .i64 a10]] w (ValB (.agg #[.int .i64 a0, .int .i64 a3, .int .i64 a4]) w) := by
 go_enter Tryz.func191, Tryz.ntmps191
 go_wp2
 (try simp only [Exit.inBlock, Exit.then])
 refine bodyPost_ret (results_cell_row rfl _ _ (w.heap.size + 1) _ _ _ _ rfl (alloc_at (by simp) _) Tryz.underlying298 rfl (by kernel_rfl)) rfl ?_
 exact ⟨rfl, ((Below.refl _ _).alloc (Nat.le_refl _) _).alloc (by simp) _⟩
theorem rnames_lit (a0 a3 a4 a10 : Int) (a1 a5 a6 a7 a8 a9 : ByteArray) (A : Option Addr) (na ca : Nat) (w : World) : Calls Tryz.prog 192 #[.agg #[.int .i64 a0, .string a1, .slice A na ca, .int .i64 a3, .int .i64 a4, .string a5, .string a6, .string a7, .string a8, .string a9, .int .i64 a10]] w (ValB (.agg #[.string a1, .string a5, .string a6, .string a7, .string a8, .string a9]) w) := by
 go_enter Tryz.func192, Tryz.ntmps192
 go_wp2
 (try simp only [Exit.inBlock, Exit.then])
 refine bodyPost_ret (results_cell_row rfl _ _ (w.heap.size + 1) _ _ _ _ rfl (alloc_at (by simp) _) Tryz.underlying300 rfl (by kernel_rfl)) rfl ?_
 exact ⟨rfl, ((Below.refl _ _).alloc (Nat.le_refl _) _).alloc (by simp) _⟩
set_option maxHeartbeats 4000000 in
theorem same_lists (a0 a3 a4 a10 : Int) (a1 a5 a6 a7 a8 a9 : ByteArray) (A : Option Addr) (na ca : Nat) (b0 b3 b4 b10 : Int) (b1 b5 b6 b7 b8 b9 : ByteArray) (B : Option Addr) (nb cb : Nat) (w : World) (h1 : (∀ W, (binOp .eql 298 (.agg #[.int .i64 a0, .int .i64 a3, .int .i64 a4]) (.agg #[.int .i64 b0, .int .i64 b3, .int .i64 b4])).run Tryz.prog W = .ok (.bool true) W)) (h2 : (∀ W, (binOp .eql 300 (.agg #[.string a1, .string a5, .string a6, .string a7, .string a8, .string a9]) (.agg #[.string b1, .string b5, .string b6, .string b7, .string b8, .string b9])).run Tryz.prog W = .ok (.bool true) W)) (r : Bool) (heq : ∀ W, Below w.heap.size w W → Calls Tryz.prog 193 #[.slice A na ca, .slice B nb cb] W (ValB (.bool r) W)) :
  Calls Tryz.prog 135 #[.agg #[.int .i64 a0, .string a1, .slice A na ca, .int .i64 a3, .int .i64 a4, .string a5, .string a6, .string a7, .string a8, .string a9, .int .i64 a10], .agg #[.int .i64 b0, .string b1, .slice B nb cb, .int .i64 b3, .int .i64 b4, .string b5, .string b6, .string b7, .string b8, .string b9, .int .i64 b10]] w (ValB (.bool r) w) := by
 have RA : ((w.alloc (.cells #[.int .i64 a0, .string a1, .slice A na ca, .int .i64 a3, .int .i64 a4, .string a5, .string a6, .string a7, .string a8, .string a9, .int .i64 a10] 31)).alloc (.cells #[.int .i64 b0, .string b1, .slice B nb cb, .int .i64 b3, .int .i64 b4, .string b5, .string b6, .string b7, .string b8, .string b9, .int .i64 b10] 31)).drew.heap[w.heap.size]? = some (.cells #[.int .i64 a0, .string a1, .slice A na ca, .int .i64 a3, .int .i64 a4, .string a5, .string a6, .string a7, .string a8, .string a9, .int .i64 a10] 31 (0, 0)) := (row_alloc (heap_alloc_new _ _) _ : ((w.alloc (.cells #[.int .i64 a0, .string a1, .slice A na ca, .int .i64 a3, .int .i64 a4, .string a5, .string a6, .string a7, .string a8, .string a9, .int .i64 a10] 31)).alloc (.cells #[.int .i64 b0, .string b1, .slice B nb cb, .int .i64 b3, .int .i64 b4, .string b5, .string b6, .string b7, .string b8, .string b9, .int .i64 b10] 31)).heap[w.heap.size]? = some (.cells #[.int .i64 a0, .string a1, .slice A na ca, .int .i64 a3, .int .i64 a4, .string a5, .string a6, .string a7, .string a8, .string a9, .int .i64 a10] 31 (0, 0)))
 have RB : ((w.alloc (.cells #[.int .i64 a0, .string a1, .slice A na ca, .int .i64 a3, .int .i64 a4, .string a5, .string a6, .string a7, .string a8, .string a9, .int .i64 a10] 31)).alloc (.cells #[.int .i64 b0, .string b1, .slice B nb cb, .int .i64 b3, .int .i64 b4, .string b5, .string b6, .string b7, .string b8, .string b9, .int .i64 b10] 31)).drew.heap[w.heap.size + 1]? = some (.cells #[.int .i64 b0, .string b1, .slice B nb cb, .int .i64 b3, .int .i64 b4, .string b5, .string b6, .string b7, .string b8, .string b9, .int .i64 b10] 31 (0, 0)) := (alloc_at (by simp) _ : ((w.alloc (.cells #[.int .i64 a0, .string a1, .slice A na ca, .int .i64 a3, .int .i64 a4, .string a5, .string a6, .string a7, .string a8, .string a9, .int .i64 a10] 31)).alloc (.cells #[.int .i64 b0, .string b1, .slice B nb cb, .int .i64 b3, .int .i64 b4, .string b5, .string b6, .string b7, .string b8, .string b9, .int .i64 b10] 31)).heap[w.heap.size + 1]? = some (.cells #[.int .i64 b0, .string b1, .slice B nb cb, .int .i64 b3, .int .i64 b4, .string b5, .string b6, .string b7, .string b8, .string b9, .int .i64 b10] 31 (0, 0)))
 have HB : Below w.heap.size w ((w.alloc (.cells #[.int .i64 a0, .string a1, .slice A na ca, .int .i64 a3, .int .i64 a4, .string a5, .string a6, .string a7, .string a8, .string a9, .int .i64 a10] 31)).alloc (.cells #[.int .i64 b0, .string b1, .slice B nb cb, .int .i64 b3, .int .i64 b4, .string b5, .string b6, .string b7, .string b8, .string b9, .int .i64 b10] 31)).drew := (((Below.refl _ _).alloc (Nat.le_refl _) _).alloc (by simp) _).drew
 go_enter Tryz.func135, Tryz.ntmps135
 go_upto_region 1 with fail
 go_region_held3 (fun w' => w'.cell? ⟨w.heap.size, 0, none⟩ = some (.int .i64 a0) ∧ w'.cell? ⟨w.heap.size, 1, none⟩ = some (.string a1) ∧ w'.cell? ⟨w.heap.size, 2, none⟩ = some (.slice A na ca) ∧ w'.cell? ⟨w.heap.size, 3, none⟩ = some (.int .i64 a3) ∧ w'.cell? ⟨w.heap.size, 4, none⟩ = some (.int .i64 a4) ∧ w'.cell? ⟨w.heap.size, 5, none⟩ = some (.string a5) ∧ w'.cell? ⟨w.heap.size, 6, none⟩ = some (.string a6) ∧ w'.cell? ⟨w.heap.size, 7, none⟩ = some (.string a7) ∧ w'.cell? ⟨w.heap.size, 8, none⟩ = some (.string a8) ∧ w'.cell? ⟨w.heap.size, 9, none⟩ = some (.string a9) ∧ w'.cell? ⟨w.heap.size, 10, none⟩ = some (.int .i64 a10) ∧ w'.cell? ⟨w.heap.size + 1, 0, none⟩ = some (.int .i64 b0) ∧ w'.cell? ⟨w.heap.size + 1, 1, none⟩ = some (.string b1) ∧ w'.cell? ⟨w.heap.size + 1, 2, none⟩ = some (.slice B nb cb) ∧ w'.cell? ⟨w.heap.size + 1, 3, none⟩ = some (.int .i64 b3) ∧ w'.cell? ⟨w.heap.size + 1, 4, none⟩ = some (.int .i64 b4) ∧ w'.cell? ⟨w.heap.size + 1, 5, none⟩ = some (.string b5) ∧ w'.cell? ⟨w.heap.size + 1, 6, none⟩ = some (.string b6) ∧ w'.cell? ⟨w.heap.size + 1, 7, none⟩ = some (.string b7) ∧ w'.cell? ⟨w.heap.size + 1, 8, none⟩ = some (.string b8) ∧ w'.cell? ⟨w.heap.size + 1, 9, none⟩ = some (.string b9) ∧ w'.cell? ⟨w.heap.size + 1, 10, none⟩ = some (.int .i64 b10)) (first | exact cells22 (by assumption) (by assumption) | exact cells22 RA RB)
  (first
    | (go_at_call 191; refine (numbers_lit _ _ _ _ _ _ _ _ _ _ _ _ _ _).mono ?_; rintro e w5 ⟨rfl, hb5⟩; have RA := row_below RA hb5; have RB := row_below RB hb5; have HB := below_then HB hb5 HB.size)
    | (go_at_call 192; refine (rnames_lit _ _ _ _ _ _ _ _ _ _ _ _ _ _).mono ?_; rintro e w5 ⟨rfl, hb5⟩; have RA := row_below RA hb5; have RB := row_below RB hb5; have HB := below_then HB hb5 HB.size)
    | (go_at_call 193; refine (heq _ HB).mono ?_; rintro e w5 ⟨rfl, hb5⟩; have RA := row_below RA hb5; have RB := row_below RB hb5; have HB := below_then HB hb5 HB.size))
 all_goals
  go_wp2
  go_ret
  exact ⟨rfl, HB⟩
theorem info_size1 {t : TypeId} (h : (Tryz.prog.info? t).map (·.size) = some 1) : ∃ i, Tryz.prog.info? t = some i := by
 cases hh : Tryz.prog.info? t with
 | none => rw [hh] at h; cases h
 | some i => exact ⟨i, rfl⟩
theorem eqNums (a b c a' b' c' : Int) (W : World) : (binOp .eql 298 (.agg #[.int .i64 a, .int .i64 b, .int .i64 c]) (.agg #[.int .i64 a', .int .i64 b', .int .i64 c'])).run Tryz.prog W = .ok (.bool (decide (a = a' ∧ b = b' ∧ c = c'))) W := by
 obtain ⟨i, hi⟩ := info_size1 (t := 3) (by kernel_rfl)
 have hc : Tryz.prog.cellsOf 3 = 1 := by kernel_rfl
 have ha : ∀ W, (isAgg 3).run Tryz.prog W = .ok false W := fun W => by kernel_rfl
 rw [run_eql_struct, show (10000 : Nat) = 9998 + 1 + 1 from rfl, run_equalIn_array _ _ _ _ Tryz.underlying298 hi, hc]
 simp [Op.eqItems, List.range, List.range.loop, part, ha, run_equalIn_int W 9998 3 .i64 .i64 _ _ Tryz.underlying3, Result.andThen]
 by_cases h1 : a = a' <;> by_cases h2 : b = b' <;> by_cases h3 : c = c' <;> simp [h1, h2, h3]
theorem eqTexts (a b c d e f a' b' c' d' e' f' : Tx) (W : World) : (binOp .eql 300 (.agg #[.string (bs a), .string (bs b), .string (bs c), .string (bs d), .string (bs e), .string (bs f)]) (.agg #[.string (bs a'), .string (bs b'), .string (bs c'), .string (bs d'), .string (bs e'), .string (bs f')])).run Tryz.prog W = .ok (.bool (decide (a = a' ∧ b = b' ∧ c = c' ∧ d = d' ∧ e = e' ∧ f = f'))) W := by
 obtain ⟨i, hi⟩ := info_size1 (t := 9) (by kernel_rfl)
 have hc : Tryz.prog.cellsOf 9 = 1 := by kernel_rfl
 have ha : ∀ W, (isAgg 9).run Tryz.prog W = .ok false W := fun W => by kernel_rfl
 rw [run_eql_struct, show (10000 : Nat) = 9998 + 1 + 1 from rfl, run_equalIn_array _ _ _ _ Tryz.underlying300 hi, hc]
 simp [Op.eqItems, List.range, List.range.loop, part, ha, run_equalIn_string W 9998 9 _ _ Tryz.underlying9, Result.andThen, Lib.toList_data, list_bs]
 by_cases h1 : a = a'
 ·by_cases h2 : b = b'
  ·by_cases h3 : c = c'
   ·by_cases h4 : d = d'
    ·by_cases h5 : e = e'
     ·by_cases h6 : f = f' <;> simp [h1, h2, h3, h4, h5, h6]
     ·simp [h1, h2, h3, h4, h5]
    ·simp [h1, h2, h3, h4]
   ·simp [h1, h2, h3]
  ·simp [h1, h2]
 ·simp [h1]
theorem sameEq (r : Ru) (lb : List Tx) (A B : Option Addr) (ca cb : Nat) (la ln : Int) (w : World) (ha : LAt w A ca r.list) (hb : LAt w B cb lb) :
  Calls Tryz.prog 135 #[ruV r (.slice A r.list.length ca) la, ruV { r with list := lb } (.slice B lb.length cb) ln] w (ValB (.bool (decide (r.list = lb))) w) := by
 obtain ⟨kd, nm, l, rn, rm, rf, rt, rb, ra, ri⟩ := r
 refine same_lists kd rn rm la _ _ _ _ _ _ A l.length ca kd rn rm ln _ _ _ _ _ _ B lb.length cb w (fun W => ?_) (fun W => ?_) _ (fun W hW => Equal_any l lb A B ca cb W (ha.below hW) (hb.below hW))
 ·rw [eqNums]; simp
 ·rw [eqTexts]; simp
end Go.Proofs.YtgffbgmieppckaaGreatDoor
