/-
  What a walk of ParseRule knows.
-/
import Derived.Test.YtahgfmobdfhaaaaGreatDoorRdr7
namespace Go.Proofs.YtahgfmobdfhaaaaGreatDoor
set_option maxRecDepth 100000
open Go.ChangeShapes Go.WideShapes Go.ChangeAt Go.RowKit

theorem wcellR_at (l : List (Nat × List UInt8)) (k : Nat) (h : k < l.length) : (wcells l)[k * 2]? = some (.string (bs l[k].2)) ∧ (wcells l)[k * 2 + 1]? = some (.int .i64 l[k].1) := by
  induction l generalizing k with
  | nil => simp at h
  | cons a l ih =>
    have e : wcells (a :: l) = .string (bs a.2) :: .int .i64 a.1 :: wcells l := rfl
    rw [e]
    cases k with
    | zero => exact ⟨rfl, rfl⟩
    | succ k =>
      have := ih k (by simpa using h)
      rw [show (k + 1) * 2 = k * 2 + 1 + 1 by omega]
      simpa using this
theorem lAt_own {w : World} {base c : Nat} {A : Option Addr} {l : List Tx} (h : OwnL w base (.slice A l.length c) l) (hl : l.length ≤ 1000000000) : LAt w A c l := lAt_of (listAt_of h) (by omega)
/-- the walk's state: w0 at the beginning, W now; the reader in the block b, the rule in r, both results in t and u -/
structure PS (w0 W : World) (b g cap : Nat) (ws : List (Nat × Tx)) (t u r k : Nat) (m : Bool) (cs : Array Value) : Prop where
  rd : RRd W b g cap ws k m
  row : W.heap[r]? = some (.cells cs 41 (0, 0))
  told : W.heap[t]? = some (.cells #[.int .i64 0, .string ⟨#[]⟩, .slice none 0 0, .int .i64 0, .int .i64 0, .string ⟨#[]⟩, .string ⟨#[]⟩, .string ⟨#[]⟩, .string ⟨#[]⟩, .string ⟨#[]⟩, .int .i64 0] 41 (0, 0))
  flt : W.heap[u]? = some (.cells #[.int .i64 0, .int .i64 0, .int .i64 0] 47 (0, 0))
  be : Below w0.heap.size w0 W
  lo : w0.heap.size ≤ t ∧ w0.heap.size ≤ b ∧ w0.heap.size ≤ r ∧ w0.heap.size ≤ u
  ne : b ≠ r ∧ g ≠ r ∧ t ≠ r ∧ u ≠ r ∧ t ≠ b ∧ u ≠ b ∧ t ≠ u
section
variable {w0 W W' : World} {b g cap t u r k k' : Nat} {ws : List (Nat × Tx)} {m m' : Bool} {cs : Array Value} {a0 a1 a2 a3 a4 a5 a6 a7 a8 a9 a10 : Value}
theorem PS.call (R : PS w0 W b g cap ws t u r k m cs) (h : RRd W' b g cap ws k' m') (hg : W.grownBy W' (some b)) : PS w0 W' b g cap ws t u r k' m' cs where
  rd := h
  row := by rw [hg.block r (Array.getElem?_eq_some_iff.1 R.row).1 (by simp; have := R.ne; omega)]; exact R.row
  told := by rw [hg.block t (Array.getElem?_eq_some_iff.1 R.told).1 (by simp; have := R.ne; omega)]; exact R.told
  flt := by rw [hg.block u (Array.getElem?_eq_some_iff.1 R.flt).1 (by simp; have := R.ne; omega)]; exact R.flt
  be := R.be.grown hg R.be.size (fun j e => by simp at e; have := R.lo; omega)
  lo := R.lo
  ne := R.ne
theorem PS.store (R : PS w0 W b g cap ws t u r k m cs) (j : Nat) (v : Value) : PS w0 (W.setCell ⟨r, j, none⟩ v) b g cap ws t u r k m (cs.setIfInBounds j v) :=
  have hg := grown_setCell W r j v
  { rd := R.rd.keptBut hg (by simp; have := R.ne; omega) (by simp; have := R.ne; omega)
    row := heap_set R.row v
    told := by rw [hg.block t (Array.getElem?_eq_some_iff.1 R.told).1 (by simp; have := R.ne; omega)]; exact R.told
    flt := by rw [hg.block u (Array.getElem?_eq_some_iff.1 R.flt).1 (by simp; have := R.ne; omega)]; exact R.flt
    be := R.be.grown hg R.be.size (fun j e => by simp at e; have := R.lo; omega)
    lo := R.lo
    ne := R.ne }
/-- one on -/
theorem PS.step (R : PS w0 W b g cap ws t u r k m cs) (hk : k ≤ ws.length) : PS w0 (W.setCell ⟨b, 1, none⟩ (.int .i64 ((k : Int) + 1))) b g cap ws t u r (k + 1) m cs := R.call (R.rd.step hk) (grown_setCell W b 1 _)
theorem PS.below (R : PS w0 W b g cap ws t u r k m cs) (hb : Below W.heap.size W W') : PS w0 W' b g cap ws t u r k m cs := R.call (R.rd.kept (below_none hb)) (grown_more (below_none hb))
theorem PS.fz (R : PS w0 W b g cap ws t u r k m cs) (j : Nat) : W.frozen? ⟨r, j, none⟩ = false := by simp [World.frozen?, R.row]
theorem PS.rlt (R : PS w0 W b g cap ws t u r k m cs) : r < W.heap.size := (Array.getElem?_eq_some_iff.1 R.row).1
theorem PS.q0 (R : PS w0 W b g cap ws t u r k m #[a0, a1, a2, a3, a4, a5, a6, a7, a8, a9, a10]) : W.cell? ⟨r, 0, none⟩ = some a0 := by rw [cell_of_row _ _ _ _ _ _ R.row]; rfl
theorem PS.q1 (R : PS w0 W b g cap ws t u r k m #[a0, a1, a2, a3, a4, a5, a6, a7, a8, a9, a10]) : W.cell? ⟨r, 1, none⟩ = some a1 := by rw [cell_of_row _ _ _ _ _ _ R.row]; rfl
theorem PS.q2 (R : PS w0 W b g cap ws t u r k m #[a0, a1, a2, a3, a4, a5, a6, a7, a8, a9, a10]) : W.cell? ⟨r, 2, none⟩ = some a2 := by rw [cell_of_row _ _ _ _ _ _ R.row]; rfl
theorem PS.q3 (R : PS w0 W b g cap ws t u r k m #[a0, a1, a2, a3, a4, a5, a6, a7, a8, a9, a10]) : W.cell? ⟨r, 3, none⟩ = some a3 := by rw [cell_of_row _ _ _ _ _ _ R.row]; rfl
theorem PS.q4 (R : PS w0 W b g cap ws t u r k m #[a0, a1, a2, a3, a4, a5, a6, a7, a8, a9, a10]) : W.cell? ⟨r, 4, none⟩ = some a4 := by rw [cell_of_row _ _ _ _ _ _ R.row]; rfl
theorem PS.q5 (R : PS w0 W b g cap ws t u r k m #[a0, a1, a2, a3, a4, a5, a6, a7, a8, a9, a10]) : W.cell? ⟨r, 5, none⟩ = some a5 := by rw [cell_of_row _ _ _ _ _ _ R.row]; rfl
theorem PS.q6 (R : PS w0 W b g cap ws t u r k m #[a0, a1, a2, a3, a4, a5, a6, a7, a8, a9, a10]) : W.cell? ⟨r, 6, none⟩ = some a6 := by rw [cell_of_row _ _ _ _ _ _ R.row]; rfl
theorem PS.q7 (R : PS w0 W b g cap ws t u r k m #[a0, a1, a2, a3, a4, a5, a6, a7, a8, a9, a10]) : W.cell? ⟨r, 7, none⟩ = some a7 := by rw [cell_of_row _ _ _ _ _ _ R.row]; rfl
theorem PS.q8 (R : PS w0 W b g cap ws t u r k m #[a0, a1, a2, a3, a4, a5, a6, a7, a8, a9, a10]) : W.cell? ⟨r, 8, none⟩ = some a8 := by rw [cell_of_row _ _ _ _ _ _ R.row]; rfl
theorem PS.q9 (R : PS w0 W b g cap ws t u r k m #[a0, a1, a2, a3, a4, a5, a6, a7, a8, a9, a10]) : W.cell? ⟨r, 9, none⟩ = some a9 := by rw [cell_of_row _ _ _ _ _ _ R.row]; rfl
theorem PS.q10 (R : PS w0 W b g cap ws t u r k m #[a0, a1, a2, a3, a4, a5, a6, a7, a8, a9, a10]) : W.cell? ⟨r, 10, none⟩ = some a10 := by rw [cell_of_row _ _ _ _ _ _ R.row]; rfl
/-- a list that was read lies in a block behind all of these -/
theorem PS.own {W1 : World} {v : Value} {l : List Tx} (R : PS w0 W b g cap ws t u r k m cs) (hg : W.grownBy W1 (some b)) (ho : OwnL W1 W.heap.size v l) : ∃ B, OwnL (W1.setCell ⟨r, 2, none⟩ v) B v l ∧ t < B ∧ u < B ∧ w0.heap.size ≤ B ∧ B ≤ (W1.setCell ⟨r, 2, none⟩ v).heap.size :=
  ⟨W.heap.size, World.ownsRow.kept ho (grown_setCell W1 r 2 v) (.inr (fun e => by have := (ho.lt r e).1; have := R.rlt; omega)), (Array.getElem?_eq_some_iff.1 R.told).1, (Array.getElem?_eq_some_iff.1 R.flt).1, R.be.size, Nat.le_trans hg.size (grown_setCell W1 r 2 v).size⟩
theorem kept_set {X : World} {B j i : Nat} {x v : Value} {l : List Tx} (h : OwnL X B v l) (hj : j < B) : OwnL (X.setCell ⟨j, i, none⟩ x) B v l := World.ownsRow.kept h (grown_setCell X j i x) (own_ne h hj)
theorem two_own (b0 b1 b2 b3 b4 b5 b6 b7 b8 b9 b10 c0 c1 c2 : Value) {B : Nat} {v : Value} {l : List Tx} (h : OwnL W B v l) (ht : t < B) (hu : u < B) : OwnL (((((((((((((((W.setCell ⟨t, 0, none⟩ b0).setCell ⟨t, 1, none⟩ b1).setCell ⟨t, 2, none⟩ b2).setCell ⟨t, 3, none⟩ b3).setCell ⟨t, 4, none⟩ b4).setCell ⟨t, 5, none⟩ b5).setCell ⟨t, 6, none⟩ b6).setCell ⟨t, 7, none⟩ b7).setCell ⟨t, 8, none⟩ b8).setCell ⟨t, 9, none⟩ b9).setCell ⟨t, 10, none⟩ b10).setCell ⟨u, 0, none⟩ c0).setCell ⟨u, 1, none⟩ c1).setCell ⟨u, 2, none⟩ c2)) B v l :=
  kept_set (kept_set (kept_set (kept_set (kept_set (kept_set (kept_set (kept_set (kept_set (kept_set (kept_set (kept_set (kept_set (kept_set h ht) ht) ht) ht) ht) ht) ht) ht) ht) ht) ht) hu) hu) hu
/-- as far as the switch -/
theorem PS.start {w1 : World} (hb1 : Below w0.heap.size w0 w1) (hW : WAt w1 g 0 ws) (hg : g < w1.heap.size) (hl : ws.length ≤ 1000000000)
    (ht : w1.heap[t]? = some (.cells #[.int .i64 0, .string ⟨#[]⟩, .slice none 0 0, .int .i64 0, .int .i64 0, .string ⟨#[]⟩, .string ⟨#[]⟩, .string ⟨#[]⟩, .string ⟨#[]⟩, .string ⟨#[]⟩, .int .i64 0] 41 (0, 0))) (hu : w1.heap[u]? = some (.cells #[.int .i64 0, .int .i64 0, .int .i64 0] 47 (0, 0))) (hlo : w0.heap.size ≤ t ∧ w0.heap.size ≤ u ∧ t ≠ u) : 
    RRd (w1.alloc (.cells #[.slice (some ⟨g, 0, none⟩) ws.length cap, .int .i64 0, .int .i64 0, .int .i64 0, .int .i64 0] 94)) w1.heap.size g cap ws 0 false ∧ ∀ (w2 : World) (kd n : Value), Below (w1.alloc (.cells #[.slice (some ⟨g, 0, none⟩) ws.length cap, .int .i64 0, .int .i64 0, .int .i64 0, .int .i64 0] 94)).heap.size (w1.alloc (.cells #[.slice (some ⟨g, 0, none⟩) ws.length cap, .int .i64 0, .int .i64 0, .int .i64 0, .int .i64 0] 94)) w2 →
      PS w0 (w2.alloc (.cells #[kd, .string ⟨#[]⟩, .slice none 0 0, .int .i64 0, .int .i64 0, .string ⟨#[]⟩, .string ⟨#[]⟩, .string ⟨#[]⟩, .string ⟨#[]⟩, .string ⟨#[]⟩, n] 41)) w1.heap.size g cap ws t u w2.heap.size 0 false #[kd, .string ⟨#[]⟩, .slice none 0 0, .int .i64 0, .int .i64 0, .string ⟨#[]⟩, .string ⟨#[]⟩, .string ⟨#[]⟩, .string ⟨#[]⟩, .string ⟨#[]⟩, n] := by
  have hr : RRd (w1.alloc (.cells #[.slice (some ⟨g, 0, none⟩) ws.length cap, .int .i64 0, .int .i64 0, .int .i64 0, .int .i64 0] 94)) w1.heap.size g cap ws 0 false :=
    ⟨⟨0, 0, heap_alloc_new _ _⟩, hW.below hg ((Below.refl _ _).alloc (Nat.le_refl _) _), by simp; omega, by omega, hl, by omega⟩
  refine ⟨hr, fun w2 kd n hb2 => ?_⟩
  have hs2 := hb2.size
  simp at hs2
  have htl := (Array.getElem?_eq_some_iff.1 ht).1
  have hul := (Array.getElem?_eq_some_iff.1 hu).1
  have ht2 : w2.heap[t]? = _ := (hb2.block t (by simp; omega)).trans ((heap_alloc_old _ _ htl).trans ht)
  have hu2 : w2.heap[u]? = _ := (hb2.block u (by simp; omega)).trans ((heap_alloc_old _ _ hul).trans hu)
  have hz := hb1.size
  exact { rd := (hr.kept (below_none hb2)).kept (World.grownBy_alloc _ _ _)
          row := heap_alloc_new _ _
          told := (heap_alloc_old _ _ (by omega)).trans ht2
          flt := (heap_alloc_old _ _ (by omega)).trans hu2
          be := (below_then (hb1.alloc hz _) hb2 (by simp; omega)).alloc (by omega) _
          lo := ⟨hlo.1, hz, by omega, hlo.2.1⟩
          ne := ⟨by omega, by omega, by omega, by omega, by omega, by omega, hlo.2.2⟩ }
end
theorem RRd.c3 {w : World} {b g cap k : Nat} {ws : List (Nat × Tx)} {m : Bool} (h : RRd w b g cap ws k m) : ∃ y : Int, w.cell? ⟨b, 3, none⟩ = some (.int .i64 y) := by obtain ⟨⟨x, y, R⟩, _⟩ := h; exact ⟨y, by rw [cell_of_row _ _ _ _ _ _ R]; rfl⟩
theorem lit_bs (a l : Tx) : ((bs a).toList == l) = (a == l) := by rw [Lib.toList_data, list_bs]
theorem len_small {l : List Tx} {f n : Nat} (h : l ≠ [] → 1 ≤ f ∧ f + l.length ≤ n) (hn : n ≤ 1000000000) : l.length ≤ 1000000000 := by
  by_cases e : l = []
  · rw [e]; simp
  · have := h e; omega
/-- what the document's ParseRule tells of words -/
def RPTo (ws : List (Nat × Tx)) (number : Int) (w : World) (e : Ending) (w' : World) : Prop := Below w.heap.size w w' ∧ ((AccR (tx ws) ∧ ∃ v, e = .returned (.tuple #[ruV (readR (tx ws)).1 v number, .bool false, fltV 0 0 0]) ∧ OwnL w' w.heap.size v (readR (tx ws)).1.list) ∨
  (¬ AccR (tx ws) ∧ ∃ c k : Int, k ≠ 0 ∧ e = .returned (.tuple #[zeroV, .bool false, fltV number c k])))
theorem rej_k {T : List Tx} {ru : Ru} {k : Nat} {m : Bool} (h : readR T = (ru, k, m)) (hk : k < T.length) : ¬ AccR T := fun hA => by have := hA.1; rw [h] at this; simp only at this; omega
theorem rej_m {T : List Tx} {ru : Ru} {k : Nat} (h : readR T = (ru, k, true)) : ¬ AccR T := fun hA => by have := hA.2.1; rw [h] at this; cases this
theorem rej_ok {T : List Tx} {ru : Ru} {k : Nat} {m : Bool} (h : readR T = (ru, k, m)) (ho : okB ru = false) : ¬ AccR T := fun hA => by have := hA.2.2; rw [h] at this; simp only at this; rw [ho] at this; cases this
theorem rpt_no {ws : List (Nat × Tx)} {number c k : Int} {w w' : World} (hb : Below w.heap.size w w') (hn : ¬ AccR (tx ws)) (hk : k ≠ 0) : RPTo ws number w (.returned (.tuple #[zeroV, .bool false, fltV number c k])) w' := ⟨hb, .inr ⟨hn, c, k, hk, rfl⟩⟩
theorem rpt_ok {ws : List (Nat × Tx)} {number : Int} {w w' : World} {ru : Ru} {k : Nat} {v : Value} (hb : Below w.heap.size w w') (h : readR (tx ws) = (ru, k, false)) (hk : (tx ws).length ≤ k) (ho : okB ru = true) (hO : OwnL w' w.heap.size v ru.list) : RPTo ws number w (.returned (.tuple #[ruV ru v number, .bool false, fltV 0 0 0])) w' := by
  refine ⟨hb, .inl ⟨⟨by rw [h]; exact hk, by rw [h], by rw [h]; exact ho⟩, v, ?_, ?_⟩⟩
  · rw [h]
  · rw [h]; exact hO
/-- behind the form: the list is the end of the words, and what may be wrong is one of them -/
theorem tail_facts {T : List Tx} {ru : Ru} {k : Nat} (h : readR T = (ru, k, false)) (hk : T.length ≤ k) : (ru.list ≠ [] → 1 ≤ firstR T (kdR T) ∧ firstR T (kdR T) + ru.list.length ≤ T.length) ∧ wrongK ru.kind ru.n ru.m ru.list.length < T.length := by
  obtain ⟨e1, e2⟩ := read_at T
  rw [h] at e1 e2
  obtain ⟨e3, e4⟩ := e2 rfl
  rcases kd_at T with ⟨_, h2⟩ | ⟨h2, h3, _, h4⟩
  · rw [h2] at e1; cases e1
  have hrd : readR T = bodyR T (kdR T) (1, false) := by unfold readR; rw [if_neg (by omega)]
  have hb : bodyR T (kdR T) (1, false) = (ru, k, false) := hrd.symm.trans h
  obtain ⟨hkd, hla⟩ := list_at h4 (kdR T) (by rw [hb]) (by rw [hb]; exact hk)
  rw [hb] at hkd hla
  have hF := formed (T := T) e1.symm (by rw [← e3]; have := rule_le T; rw [← e3] at this; exact this)
  rw [← e4] at hF
  refine ⟨fun hne => ?_, ?_⟩
  · rcases hla with h9 | ⟨h9, h10⟩
    · exact absurd h9 hne
    · refine ⟨h9, ?_⟩
      simp only at h10
      rw [h10] at hne ⊢
      rw [List.length_drop]
      have : firstR T (kdR T) < T.length := by
        by_cases hf : firstR T (kdR T) < T.length
        · exact hf
        · exact absurd (List.drop_of_length_le (by omega)) hne
      omega
  · have hk9 := hF.2.1
    unfold wrongK
    simp only at hk9 ⊢
    split
    · split <;> omega
    split
    · split
      · omega
      split <;> omega
    split
    · split <;> omega
    omega
end Go.Proofs.YtahgfmobdfhaaaaGreatDoor
namespace Go.Proofs.YtahgfmobdfhaaaaGreatDoor
set_option maxRecDepth 100000
open Go.ChangeShapes Go.WideShapes Go.ChangeAt Go.RowKit

set_option maxHeartbeats 8000000 in
theorem rpar0_any (s : ByteArray) (number : Int) (ws : List (Nat × Tx)) (w : World) (hs : s.size ≤ 1000000000) (hws : wordsL s.data.toList = ws) (hbad : badL s.data.toList = 0) (h0 : 0 < ws.length) (hpl : ws.length ≤ 1000000000) (hsz : ∀ j (hj : j < ws.length), ws[j].2.length ≤ 1000000000) (hkd : kdR (tx ws) = 0) :
    Calls Tryz.prog 19 #[.string s, .int .i64 number] w (RPTo ws number w) := by
  have SP := Lib.hid (fun W => RSplit_any s W hs)
  rw [hws, hbad] at SP
  have HSZ := Lib.hid hsz
  clear hsz
  have KDC := Lib.hid (fun W => RKind_any (ws.headD (0, [])).2 W)
  have hk9 : posR kindR (ws.headD (0, [])).2 0 = 0 := by
    rw [← hkd]
    unfold kdR pk
    cases hws2 : ws with
    | nil => rw [hws2] at h0; simp at h0
    | cons a l => rfl
  rw [hk9] at KDC
  have HKD := Lib.hid hkd
  clear hk9 hws hbad hkd
  go_enter Tryz.func19, Tryz.ntmps19
  go_upto_region 1 with (fail)
  have ht : ((w.alloc (.cells #[.int .i64 0, .string ⟨#[]⟩, .slice none 0 0, .int .i64 0, .int .i64 0, .string ⟨#[]⟩, .string ⟨#[]⟩, .string ⟨#[]⟩, .string ⟨#[]⟩, .string ⟨#[]⟩, .int .i64 0] 41)).alloc (.cells #[.int .i64 0, .int .i64 0, .int .i64 0] 47)).heap[w.heap.size]? = some (.cells #[.int .i64 0, .string ⟨#[]⟩, .slice none 0 0, .int .i64 0, .int .i64 0, .string ⟨#[]⟩, .string ⟨#[]⟩, .string ⟨#[]⟩, .string ⟨#[]⟩, .string ⟨#[]⟩, .int .i64 0] 41 (0, 0)) := by rw [heap_alloc_old _ _ (by simp)]; exact heap_alloc_new _ _
  have hu : ((w.alloc (.cells #[.int .i64 0, .string ⟨#[]⟩, .slice none 0 0, .int .i64 0, .int .i64 0, .string ⟨#[]⟩, .string ⟨#[]⟩, .string ⟨#[]⟩, .string ⟨#[]⟩, .string ⟨#[]⟩, .int .i64 0] 41)).alloc (.cells #[.int .i64 0, .int .i64 0, .int .i64 0] 47)).heap[w.heap.size + 1]? = some (.cells #[.int .i64 0, .int .i64 0, .int .i64 0] 47 (0, 0)) := by
    have := heap_alloc_new (w.alloc (.cells #[.int .i64 0, .string ⟨#[]⟩, .slice none 0 0, .int .i64 0, .int .i64 0, .string ⟨#[]⟩, .string ⟨#[]⟩, .string ⟨#[]⟩, .string ⟨#[]⟩, .string ⟨#[]⟩, .int .i64 0] 41)) (.cells #[.int .i64 0, .int .i64 0, .int .i64 0] 47)
    simpa using this
  have hb0 : Below w.heap.size w ((w.alloc (.cells #[.int .i64 0, .string ⟨#[]⟩, .slice none 0 0, .int .i64 0, .int .i64 0, .string ⟨#[]⟩, .string ⟨#[]⟩, .string ⟨#[]⟩, .string ⟨#[]⟩, .string ⟨#[]⟩, .int .i64 0] 41)).alloc (.cells #[.int .i64 0, .int .i64 0, .int .i64 0] 47)) := ((Below.refl _ _).alloc (Nat.le_refl _) _).alloc (by simp) _
  have HT := Lib.hid ht
  have HU := Lib.hid hu
  have HB0 := Lib.hid hb0
  clear ht hu hb0
  generalize (w.alloc (.cells #[.int .i64 0, .string ⟨#[]⟩, .slice none 0 0, .int .i64 0, .int .i64 0, .string ⟨#[]⟩, .string ⟨#[]⟩, .string ⟨#[]⟩, .string ⟨#[]⟩, .string ⟨#[]⟩, .int .i64 0] 41)).alloc (.cells #[.int .i64 0, .int .i64 0, .int .i64 0] 47) = w1 at *
  have h0i : ((ws.length : Int) == 0) = false := beq_eq_false_iff_ne.2 (by omega)
  have h0p : (0 : Int) < ws.length := by omega
  go_upto_region 6 with (go_at_call 41; refine (SP.out _).mono ?_; rintro e w2 ⟨v2, rfl, hown, hb2⟩; obtain ⟨g, cap, rfl, _, hg2, _, hcell⟩ := own_form hown h0; have HCL := Lib.hid hcell; have HGL := Lib.hid hg2; have HB2 := Lib.hid hb2; clear hown hcell hg2 hb2)
  have HW2 : Hid (WAt w2 g 0 ws) := fun j hj => by
    refine ⟨?_, ?_, ?_⟩
    · rw [Nat.zero_add]; exact HCL.out _ _ (wcellR_at ws j hj).1
    · rw [Nat.zero_add]; exact HCL.out _ _ (wcellR_at ws j hj).2
    · have := HSZ.out j hj; unfold maxLen; omega
  have ht2 := (HB2.out.block _ (Array.getElem?_eq_some_iff.1 HT.out).1).trans HT.out
  have hu2 := (HB2.out.block _ (Array.getElem?_eq_some_iff.1 HU.out).1).trans HU.out
  have hbz : Below w.heap.size w w2 := below_then HB0.out HB2.out HB0.out.size
  have hst := PS.start (cap := cap) hbz HW2.out HGL.out hpl ht2 hu2 ⟨Nat.le_refl _, by omega, by omega⟩
  have HST := Lib.hid hst
  have hc0 := (HW2.out 0 h0).1
  have hge : (ws[0]'h0).2 = (ws.headD (0, [])).2 := by cases ws with | nil => simp at h0 | cons a l => rfl
  rw [hge, Nat.zero_add, Nat.zero_mul] at hc0
  clear hst ht2 hu2 hbz HT HU hge
  have hgw := HGL.out
  have hc0' : ∀ O, (w2.alloc O).cell? ⟨g, 0, none⟩ = some (.string (bs (ws.headD (0, [])).2)) := fun O => (World.cell?_alloc_lt _ _ _ hgw).trans hc0
  generalize (ws.headD (0, [])).2 = x0 at *
  go_upto_region 8 with (go_at_call 42; refine (KDC.out _).mono ?_; rintro e w3 ⟨rfl, hb3⟩; have R0 := HST.out.2 w3 (.int .i64 0) (.int .i64 number) hb3; clear hb3)
  clear hc0 hc0' hgw
  generalize w2.heap.size = b at *
  generalize w3.heap.size = r at *
  generalize w3.alloc (.cells #[.int .i64 0, .string ⟨#[]⟩, .slice none 0 0, .int .i64 0, .int .i64 0, .string ⟨#[]⟩, .string ⟨#[]⟩, .string ⟨#[]⟩, .string ⟨#[]⟩, .string ⟨#[]⟩, .int .i64 number] 41) = w4 at *
  clear HST HCL HW2 HGL
  have q0 := R0.q0; have a1 := R0.rd.q1; have af := R0.rd.f1
  have htl : (tx ws).length = ws.length := tx_len _
  go_upto_region 11 with (go_at_call 43; refine (dfail_any b g cap ws 0 false _ R0.rd h0).mono ?_; rintro e w5 ⟨rfl, h9, g9⟩; have R5 := R0.call h9 g9; (try simp only [List.setIfInBounds_toArray, List.set] at R5); clear a1 af; have a1 := R5.rd.q1; have af := R5.rd.f1; clear h9 g9)
  have R1 := R5.step (Nat.zero_le _)
  rw [show ((0 : Nat) : Int) + 1 = 1 from rfl, Nat.zero_add] at R1
  clear a1 af R0 R5 q0
  generalize w5.setCell ⟨b, 1, none⟩ (.int .i64 1) = W1 at *
  have q0 := R1.q0
  go_upto_region 60 with (fail)
  have HRD : Hid (readR (tx ws) = ({ kind := 0 }, 1, true)) := by
    show _ = _
    unfold readR
    rw [HKD.out, if_pos rfl]
  have R9 := R1
  clear R1 q0
  by_cases hkl : 1 < ws.length
  · have hki : ((1 : Nat) : Int) < ws.length := by omega
    have a1 := R9.rd.q1
    go_upto_region 62 with (go_at_call 43; refine (dfail_any b g cap ws 1 true _ R9.rd h0).mono ?_; rintro e w8 ⟨rfl, h9, g9⟩; have R8 := R9.call h9 g9; clear h9 g9)
    clear a1 R9
    have hno := Lib.hid (rej_k HRD.out (by rw [htl]; exact hkl))
    obtain ⟨y9, c3⟩ := R8.rd.c3
    have c4 := R8.rd.q4
    rw [if_pos rfl] at c4
    have s0 := row_q0 R8.told; have s1 := row_q1 R8.told; have s2 := row_q2 R8.told; have s3 := row_q3 R8.told; have s4 := row_q4 R8.told; have s5 := row_q5 R8.told; have s6 := row_q6 R8.told; have s7 := row_q7 R8.told; have s8 := row_q8 R8.told; have s9 := row_q9 R8.told; have s10 := row_q10 R8.told
    have f0 := row_fz R8.told 0; have f1 := row_fz R8.told 1; have f2 := row_fz R8.told 2; have f3 := row_fz R8.told 3; have f4 := row_fz R8.told 4; have f5 := row_fz R8.told 5; have f6 := row_fz R8.told 6; have f7 := row_fz R8.told 7; have f8 := row_fz R8.told 8; have f9 := row_fz R8.told 9; have f10 := row_fz R8.told 10; have k0 := flt_q0 R8.flt; have k1 := flt_q1 R8.flt; have k2 := flt_q2 R8.flt; have e0 := flt_fz R8.flt 0; have e1 := flt_fz R8.flt 1; have e2 := flt_fz R8.flt 2
    have hn1 : ¬ b = w.heap.size := by have := R8.ne; omega
    have hn2 : ¬ b = w.heap.size + 1 := by have := R8.ne; omega
    have HR := Lib.hid R8
    clear R8
    go_upto_region 63 with (fail)
    go_region
    go_wp2
    obtain ⟨h8, h10, hbl⟩ := two_rowsD (.int .i64 0) (.string ⟨#[]⟩) (.slice none 0 0) (.int .i64 0) (.int .i64 0) (.string ⟨#[]⟩) (.string ⟨#[]⟩) (.string ⟨#[]⟩) (.string ⟨#[]⟩) (.string ⟨#[]⟩) (.int .i64 0) (.int .i64 number) (.int .i64 y9) (.int .i64 2) HR.out.told HR.out.flt (by omega) _ _ rfl rfl
    (try simp only [Exit.inBlock, Exit.then])
    refine bodyPost_ret (run_cell212 rfl _ _ w.heap.size (w.heap.size + 1) _ _ _ _ _ _ _ _ rfl rfl h8 h10 Tryz.underlying41 rfl (by kernel_rfl) Tryz.underlying47 rfl (by kernel_rfl)) rfl ?_
    exact rpt_no (hbl _ _ HR.out.be HR.out.be.size (Nat.le_refl _) (by omega)) hno.out (by decide)
  · have hki : ¬ ((1 : Nat) : Int) < ws.length := by omega
    have a1 := R9.rd.q1
    have hno := Lib.hid (rej_m HRD.out)
    obtain ⟨y9, c3⟩ := R9.rd.c3
    have c4 := R9.rd.q4
    rw [if_pos rfl] at c4
    have s0 := row_q0 R9.told; have s1 := row_q1 R9.told; have s2 := row_q2 R9.told; have s3 := row_q3 R9.told; have s4 := row_q4 R9.told; have s5 := row_q5 R9.told; have s6 := row_q6 R9.told; have s7 := row_q7 R9.told; have s8 := row_q8 R9.told; have s9 := row_q9 R9.told; have s10 := row_q10 R9.told
    have f0 := row_fz R9.told 0; have f1 := row_fz R9.told 1; have f2 := row_fz R9.told 2; have f3 := row_fz R9.told 3; have f4 := row_fz R9.told 4; have f5 := row_fz R9.told 5; have f6 := row_fz R9.told 6; have f7 := row_fz R9.told 7; have f8 := row_fz R9.told 8; have f9 := row_fz R9.told 9; have f10 := row_fz R9.told 10; have k0 := flt_q0 R9.flt; have k1 := flt_q1 R9.flt; have k2 := flt_q2 R9.flt; have e0 := flt_fz R9.flt 0; have e1 := flt_fz R9.flt 1; have e2 := flt_fz R9.flt 2
    have hn1 : ¬ b = w.heap.size := by have := R9.ne; omega
    have hn2 : ¬ b = w.heap.size + 1 := by have := R9.ne; omega
    have HR := Lib.hid R9
    clear R9
    go_upto_region 63 with (fail)
    go_region
    go_wp2
    obtain ⟨h8, h10, hbl⟩ := two_rowsD (.int .i64 0) (.string ⟨#[]⟩) (.slice none 0 0) (.int .i64 0) (.int .i64 0) (.string ⟨#[]⟩) (.string ⟨#[]⟩) (.string ⟨#[]⟩) (.string ⟨#[]⟩) (.string ⟨#[]⟩) (.int .i64 0) (.int .i64 number) (.int .i64 y9) (.int .i64 2) HR.out.told HR.out.flt (by omega) _ _ rfl rfl
    (try simp only [Exit.inBlock, Exit.then])
    refine bodyPost_ret (run_cell212 rfl _ _ w.heap.size (w.heap.size + 1) _ _ _ _ _ _ _ _ rfl rfl h8 h10 Tryz.underlying41 rfl (by kernel_rfl) Tryz.underlying47 rfl (by kernel_rfl)) rfl ?_
    exact rpt_no (hbl _ _ HR.out.be HR.out.be.size (Nat.le_refl _) (by omega)) hno.out (by decide)

end Go.Proofs.YtahgfmobdfhaaaaGreatDoor
