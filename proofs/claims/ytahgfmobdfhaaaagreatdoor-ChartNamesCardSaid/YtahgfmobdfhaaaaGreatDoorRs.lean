/-
  The reader's rule: where the walk of it stands: the reader, the rule that is being made, the rule that is told.
-/
import Derived.Test.YtahgfmobdfhaaaaGreatDoorRd4
import Derived.Deep.Onto
import Derived.Deep.DeepCutAuto
namespace Go.Proofs.YtahgfmobdfhaaaaGreatDoor
set_option maxRecDepth 100000
open Go.ChangeShapes Go.WideShapes Go.ChangeAt Go.RowKit

theorem kindChoice (b g cap : Nat) (ws : List (Nat × List UInt8)) (s : St) (t : Nat) (w : World) (h : Rd w b g cap ws s) (ht : StrAt w t kindT) (hb : t ≠ b) (C : Int × St) (hC : choiceP (tx ws) kindT s = C) :
    Calls Tryz.prog 89 #[.pointer (some ⟨b, 0, none⟩), .slice (some ⟨t, 0, none⟩) 12 12] w (RdTo b g cap ws C.2 (.int .i64 C.1) w) := by
  subst hC; exact choice_any b g cap ws s t 12 12 kindT w h ht rfl (by decide) (by decide) hb rfl
theorem stateChoice (b g cap : Nat) (ws : List (Nat × List UInt8)) (s : St) (t : Nat) (w : World) (h : Rd w b g cap ws s) (ht : StrAt w t stateT) (hb : t ≠ b) :
    Calls Tryz.prog 89 #[.pointer (some ⟨b, 0, none⟩), .slice (some ⟨t, 0, none⟩) 5 5] w (RdTo b g cap ws (choiceP (tx ws) stateT s).2 (.int .i64 (choiceP (tx ws) stateT s).1) w) :=
  choice_any b g cap ws s t 5 5 stateT w h ht rfl (by decide) (by decide) hb rfl
theorem grown_of_below {w w' : World} (h : Below w.heap.size w w') (row : Option Nat) : w.grownBy w' row := ⟨h.os, h.tape, h.output, h.size, fun k hk _ => h.block k hk⟩
theorem Rd.below2 {w w' : World} {o : Obj} {b g cap : Nat} {ws : List (Nat × List UInt8)} {s : St} (h : Rd w b g cap ws s) (hb : Below (w.alloc o).heap.size (w.alloc o) w') : Rd w' b g cap ws s :=
  h.kept ((World.grownBy_alloc w o none).trans (grown_of_below hb none))
/-- a rule that holds nothing yet -/
def zero11 : Array Value := #[.int .i64 0, .string ⟨#[]⟩, .slice none 0 0, .int .i64 0, .int .i64 0, .string ⟨#[]⟩, .string ⟨#[]⟩, .string ⟨#[]⟩, .string ⟨#[]⟩, .string ⟨#[]⟩, .int .i64 0]
/-- the walk's state: W0 at the beginning, W now; the rule's cells in the block r, the told one's in the block t -/
structure RS (W0 W : World) (b g cap : Nat) (ws : List (Nat × List UInt8)) (t r : Nat) (s : St) (cs : Array Value) : Prop where
  rd : Rd W b g cap ws s
  row : W.heap[r]? = some (.cells cs 41 (0, 0))
  told : W.heap[t]? = some (.cells zero11 41 (0, 0))
  grown : W0.grownBy W (some b)
  b0 : b < W0.heap.size
  g0 : g < W0.heap.size
  t0 : W0.heap.size ≤ t
  tr : t < r
section
variable {W0 W W' : World} {b g cap t r : Nat} {ws : List (Nat × List UInt8)} {s s' : St} {cs : Array Value} {a0 a1 a2 a3 a4 a5 a6 a7 a8 a9 a10 : Value}
theorem RS.call (R : RS W0 W b g cap ws t r s cs) (h : Rd W' b g cap ws s') (hg : W.grownBy W' (some b)) : RS W0 W' b g cap ws t r s' cs :=
  have hr : r < W.heap.size := (Array.getElem?_eq_some_iff.1 R.row).1
  ⟨h, by rw [hg.block r hr (by simp; have := R.b0; have := R.t0; have := R.tr; omega)]; exact R.row, by rw [hg.block t (by have := R.tr; omega) (by simp; have := R.b0; have := R.t0; omega)]; exact R.told, R.grown.trans hg, R.b0, R.g0, R.t0, R.tr⟩
theorem RS.store (R : RS W0 W b g cap ws t r s cs) (j : Nat) (v : Value) : RS W0 (W.setCell ⟨r, j, none⟩ v) b g cap ws t r s (cs.setIfInBounds j v) :=
  have hg := grown_setCell W r j v
  have h1 : b ≠ r := by have := R.b0; have := R.t0; have := R.tr; omega
  have h2 : g ≠ r := by have := R.g0; have := R.t0; have := R.tr; omega
  ⟨R.rd.keptBut hg (by simpa using h1) (by simpa using h2), heap_set R.row v, by rw [hg.block t (Array.getElem?_eq_some_iff.1 R.told).1 (by simp; have := R.tr; omega)]; exact R.told,
    R.grown.andThen hg (fun j e => .inl (by simp at e; have := R.t0; have := R.tr; omega)), R.b0, R.g0, R.t0, R.tr⟩
theorem RS.fz (R : RS W0 W b g cap ws t r s cs) (j : Nat) : W.frozen? ⟨r, j, none⟩ = false := by simp [World.frozen?, R.row]
theorem RS.fzt (R : RS W0 W b g cap ws t r s cs) (j : Nat) : W.frozen? ⟨t, j, none⟩ = false := by simp [World.frozen?, R.told]
theorem RS.drewN (R : RS W0 W b g cap ws t r s cs) (n : Nat) : RS W0 (W.drewN n) b g cap ws t r s cs := ⟨R.rd.kept (grown_drewN _ _ _), R.row, R.told, R.grown.trans (grown_drewN _ _ _), R.b0, R.g0, R.t0, R.tr⟩
theorem RS.q0 (R : RS W0 W b g cap ws t r s #[a0, a1, a2, a3, a4, a5, a6, a7, a8, a9, a10]) : W.cell? ⟨r, 0, none⟩ = some a0 := by rw [cell_of_row _ _ _ _ _ _ R.row]; rfl
theorem RS.q1 (R : RS W0 W b g cap ws t r s #[a0, a1, a2, a3, a4, a5, a6, a7, a8, a9, a10]) : W.cell? ⟨r, 1, none⟩ = some a1 := by rw [cell_of_row _ _ _ _ _ _ R.row]; rfl
theorem RS.q2 (R : RS W0 W b g cap ws t r s #[a0, a1, a2, a3, a4, a5, a6, a7, a8, a9, a10]) : W.cell? ⟨r, 2, none⟩ = some a2 := by rw [cell_of_row _ _ _ _ _ _ R.row]; rfl
theorem RS.q3 (R : RS W0 W b g cap ws t r s #[a0, a1, a2, a3, a4, a5, a6, a7, a8, a9, a10]) : W.cell? ⟨r, 3, none⟩ = some a3 := by rw [cell_of_row _ _ _ _ _ _ R.row]; rfl
theorem RS.q4 (R : RS W0 W b g cap ws t r s #[a0, a1, a2, a3, a4, a5, a6, a7, a8, a9, a10]) : W.cell? ⟨r, 4, none⟩ = some a4 := by rw [cell_of_row _ _ _ _ _ _ R.row]; rfl
theorem RS.q5 (R : RS W0 W b g cap ws t r s #[a0, a1, a2, a3, a4, a5, a6, a7, a8, a9, a10]) : W.cell? ⟨r, 5, none⟩ = some a5 := by rw [cell_of_row _ _ _ _ _ _ R.row]; rfl
theorem RS.q6 (R : RS W0 W b g cap ws t r s #[a0, a1, a2, a3, a4, a5, a6, a7, a8, a9, a10]) : W.cell? ⟨r, 6, none⟩ = some a6 := by rw [cell_of_row _ _ _ _ _ _ R.row]; rfl
theorem RS.q7 (R : RS W0 W b g cap ws t r s #[a0, a1, a2, a3, a4, a5, a6, a7, a8, a9, a10]) : W.cell? ⟨r, 7, none⟩ = some a7 := by rw [cell_of_row _ _ _ _ _ _ R.row]; rfl
theorem RS.q8 (R : RS W0 W b g cap ws t r s #[a0, a1, a2, a3, a4, a5, a6, a7, a8, a9, a10]) : W.cell? ⟨r, 8, none⟩ = some a8 := by rw [cell_of_row _ _ _ _ _ _ R.row]; rfl
theorem RS.q9 (R : RS W0 W b g cap ws t r s #[a0, a1, a2, a3, a4, a5, a6, a7, a8, a9, a10]) : W.cell? ⟨r, 9, none⟩ = some a9 := by rw [cell_of_row _ _ _ _ _ _ R.row]; rfl
theorem RS.q10 (R : RS W0 W b g cap ws t r s #[a0, a1, a2, a3, a4, a5, a6, a7, a8, a9, a10]) : W.cell? ⟨r, 10, none⟩ = some a10 := by rw [cell_of_row _ _ _ _ _ _ R.row]; rfl
theorem RS.z0 (R : RS W0 W b g cap ws t r s cs) : W.cell? ⟨t, 0, none⟩ = some (.int .i64 0) := by rw [cell_of_row _ _ _ _ _ _ R.told]; rfl
theorem RS.z1 (R : RS W0 W b g cap ws t r s cs) : W.cell? ⟨t, 1, none⟩ = some (.string ⟨#[]⟩) := by rw [cell_of_row _ _ _ _ _ _ R.told]; rfl
theorem RS.z2 (R : RS W0 W b g cap ws t r s cs) : W.cell? ⟨t, 2, none⟩ = some (.slice none 0 0) := by rw [cell_of_row _ _ _ _ _ _ R.told]; rfl
theorem RS.z3 (R : RS W0 W b g cap ws t r s cs) : W.cell? ⟨t, 3, none⟩ = some (.int .i64 0) := by rw [cell_of_row _ _ _ _ _ _ R.told]; rfl
theorem RS.z4 (R : RS W0 W b g cap ws t r s cs) : W.cell? ⟨t, 4, none⟩ = some (.int .i64 0) := by rw [cell_of_row _ _ _ _ _ _ R.told]; rfl
theorem RS.z5 (R : RS W0 W b g cap ws t r s cs) : W.cell? ⟨t, 5, none⟩ = some (.string ⟨#[]⟩) := by rw [cell_of_row _ _ _ _ _ _ R.told]; rfl
theorem RS.z6 (R : RS W0 W b g cap ws t r s cs) : W.cell? ⟨t, 6, none⟩ = some (.string ⟨#[]⟩) := by rw [cell_of_row _ _ _ _ _ _ R.told]; rfl
theorem RS.z7 (R : RS W0 W b g cap ws t r s cs) : W.cell? ⟨t, 7, none⟩ = some (.string ⟨#[]⟩) := by rw [cell_of_row _ _ _ _ _ _ R.told]; rfl
theorem RS.z8 (R : RS W0 W b g cap ws t r s cs) : W.cell? ⟨t, 8, none⟩ = some (.string ⟨#[]⟩) := by rw [cell_of_row _ _ _ _ _ _ R.told]; rfl
theorem RS.z9 (R : RS W0 W b g cap ws t r s cs) : W.cell? ⟨t, 9, none⟩ = some (.string ⟨#[]⟩) := by rw [cell_of_row _ _ _ _ _ _ R.told]; rfl
theorem RS.z10 (R : RS W0 W b g cap ws t r s cs) : W.cell? ⟨t, 10, none⟩ = some (.int .i64 0) := by rw [cell_of_row _ _ _ _ _ _ R.told]; rfl
theorem RS.start {w w1 w2 : World} {s0 : St} (h : Rd w b g cap ws s) (hb1 : Below (w.alloc (.cells zero11 41)).heap.size (w.alloc (.cells zero11 41)) w1) (h2 : Rd w2 b g cap ws s0) (g2 : w1.grownBy w2 (some b)) (v : Value) :
    RS w (w2.alloc (.cells #[v, .string ⟨#[]⟩, .slice none 0 0, .int .i64 0, .int .i64 0, .string ⟨#[]⟩, .string ⟨#[]⟩, .string ⟨#[]⟩, .string ⟨#[]⟩, .string ⟨#[]⟩, .int .i64 0] 41)) b g cap ws w.heap.size w2.heap.size s0 #[v, .string ⟨#[]⟩, .slice none 0 0, .int .i64 0, .int .i64 0, .string ⟨#[]⟩, .string ⟨#[]⟩, .string ⟨#[]⟩, .string ⟨#[]⟩, .string ⟨#[]⟩, .int .i64 0] := by
  have hs1 : w.heap.size < w1.heap.size := by have := hb1.size; simp at this; omega
  have hs2 := g2.size
  have hbl := h.blt
  have ht : w2.heap[w.heap.size]? = some (.cells zero11 41 (0, 0)) := by
    rw [g2.block _ hs1 (by simp; omega), hb1.block _ (by simp)]; exact heap_alloc_new _ _
  refine ⟨h2.kept (World.grownBy_alloc _ _ _), heap_alloc_new _ _, ?_, ?_, h.blt, h.lt, Nat.le_refl _, by omega⟩
  · rw [heap_alloc_old _ _ (by omega)]; exact ht
  · exact (((World.grownBy_alloc w _ _).trans (grown_of_below hb1 _)).trans g2).trans (World.grownBy_alloc _ _ _)
theorem RS.tell (R : RS W0 W b g cap ws t r s #[a0, a1, a2, a3, a4, a5, a6, a7, a8, a9, a10]) : ∀ X, ((((((((((W.setCell ⟨t, 0, none⟩ a0).setCell ⟨t, 1, none⟩ a1).setCell ⟨t, 2, none⟩ a2).setCell ⟨t, 3, none⟩ a3).setCell ⟨t, 4, none⟩ a4).setCell ⟨t, 5, none⟩ a5).setCell ⟨t, 6, none⟩ a6).setCell ⟨t, 7, none⟩ a7).setCell ⟨t, 8, none⟩ a8).setCell ⟨t, 9, none⟩ a9).setCell ⟨t, 10, none⟩ a10 = X → Rd X b g cap ws s ∧ X.heap[t]? = some (.cells #[a0, a1, a2, a3, a4, a5, a6, a7, a8, a9, a10] 41 (0, 0)) ∧ W0.grownBy X (some b) ∧ W.grownBy X (some t) := by
  rintro X rfl
  have hg : W.grownBy (((((((((((W.setCell ⟨t, 0, none⟩ a0).setCell ⟨t, 1, none⟩ a1).setCell ⟨t, 2, none⟩ a2).setCell ⟨t, 3, none⟩ a3).setCell ⟨t, 4, none⟩ a4).setCell ⟨t, 5, none⟩ a5).setCell ⟨t, 6, none⟩ a6).setCell ⟨t, 7, none⟩ a7).setCell ⟨t, 8, none⟩ a8).setCell ⟨t, 9, none⟩ a9).setCell ⟨t, 10, none⟩ a10) (some t) := (World.grownBy.trans (World.grownBy.trans (World.grownBy.trans (World.grownBy.trans (World.grownBy.trans (World.grownBy.trans (World.grownBy.trans (World.grownBy.trans (World.grownBy.trans (World.grownBy.trans (grown_setCell _ _ _ _) (grown_setCell _ _ _ _)) (grown_setCell _ _ _ _)) (grown_setCell _ _ _ _)) (grown_setCell _ _ _ _)) (grown_setCell _ _ _ _)) (grown_setCell _ _ _ _)) (grown_setCell _ _ _ _)) (grown_setCell _ _ _ _)) (grown_setCell _ _ _ _)) (grown_setCell _ _ _ _))
  have h1 : b ≠ t := by have := R.b0; have := R.t0; omega
  have h2 : g ≠ t := by have := R.g0; have := R.t0; omega
  refine ⟨R.rd.keptBut hg (by simpa using h1) (by simpa using h2), ?_, R.grown.andThen hg (fun j e => .inl (by simp at e; have := R.t0; omega)), hg⟩
  have e := (heap_set (j := 10) (heap_set (j := 9) (heap_set (j := 8) (heap_set (j := 7) (heap_set (j := 6) (heap_set (j := 5) (heap_set (j := 4) (heap_set (j := 3) (heap_set (j := 2) (heap_set (j := 1) (heap_set (j := 0) R.told a0) a1) a2) a3) a4) a5) a6) a7) a8) a9) a10)
  simpa [zero11] using e
theorem RS.below (R : RS W0 W b g cap ws t r s cs) (hb : Below W.heap.size W W') : RS W0 W' b g cap ws t r s cs :=
  R.call (R.rd.kept (grown_of_below hb none)) (grown_of_below hb _)
theorem RS.own {v : Value} {l : List Tx} (R : RS W0 W b g cap ws t r s cs) (_hg : W.grownBy W' (some b)) (ho : OwnL W' W.heap.size v l) : ∀ X, (W'.setCell ⟨r, 2, none⟩ v).grownBy X (some t) → OwnL X W0.heap.size v l := by
  intro X hX
  have hr : r < W.heap.size := (Array.getElem?_eq_some_iff.1 R.row).1
  have h1 := World.ownsRow.kept ho (grown_setCell W' r 2 v) (.inr (fun e => by have := (ho.lt r e).1; omega))
  have h2 := World.ownsRow.kept h1 hX (.inr (fun e => by have := (ho.lt t e).1; have := R.tr; omega))
  exact World.ownsRow.mono h2 R.grown.size
end
/-- a rule as a value: its list L, its line -/
def ruV (r : Ru) (L : Value) (line : Int) : Value := .agg #[.int .i64 r.kind, .string (bs r.name), L, .int .i64 r.n, .int .i64 r.m, .string (bs r.from_), .string (bs r.to_), .string (bs r.by_), .string (bs r.task), .string (bs r.in_), .int .i64 line]
/-- what rule answers -/
def RuleTo (b g cap : Nat) (ws : List (Nat × List UInt8)) (p : Ru × St) (w : World) (e : Ending) (w' : World) : Prop :=
  ∃ L, e = .returned (ruV p.1 L 0) ∧ Rd w' b g cap ws p.2 ∧ OwnL w' w.heap.size L p.1.list ∧ w.grownBy w' (some b)
theorem ownL_nil (w : World) (base : Nat) : OwnL w base (.slice none 0 0) [] := World.ownsRow_nil _ _ _ _
theorem ruleTo_mk {b g cap : Nat} {ws : List (Nat × List UInt8)} {p : Ru × St} {l : List Tx} {s : St} {v L : Value} {w w' : World} (hv : v = ruV p.1 L 0) (h : Rd w' b g cap ws s) (ho : OwnL w' w.heap.size L l) (hg : w.grownBy w' (some b)) (he : (l, s) = (p.1.list, p.2)) : RuleTo b g cap ws p w (.returned v) w' := by
  subst hv; cases he; exact ⟨L, rfl, h, ho, hg⟩
end Go.Proofs.YtahgfmobdfhaaaaGreatDoor
