/-
  The reader's misfitColumn.
-/
import Derived.Test.YtgemciecdplcgaaDoorWrong
import Derived.StillTailTactics
namespace Go.Proofs.YtgemciecdplcgaaDoor
set_option maxRecDepth 100000
open Go.ChangeShapes Go.WideShapes Go.ChangeAt Go.RowKit

/-- the column behind the last word -/
def endP (ws : List (Nat × Tx)) : Nat := colAt ws (ws.length - 1) + (ws[ws.length - 1]?.map (·.2.length)).getD 0
def misP (ws : List (Nat × Tx)) (s : St) : Nat := if s.k < ws.length then colAt ws s.k else if s.m = false then 0 else endP ws
theorem new_fz (W : World) (cs : Array Value) (T : TypeId) (j : Nat) : (W.alloc (.cells cs T)).frozen? ⟨W.heap.size, j, none⟩ = false := by simp
theorem new_cell (W : World) (cs : Array Value) (T : TypeId) (j : Nat) : (W.alloc (.cells cs T)).cell? ⟨W.heap.size, j, none⟩ = cs[j]? := by rw [cell_of_row _ _ j cs T (0, 0) (heap_alloc_new W _)]
set_option maxHeartbeats 2000000 in
theorem mis_any (b g cap : Nat) (ws : List (Nat × List UInt8)) (s : St) (w : World) (h : Rd w b g cap ws s) (h1 : 1 ≤ ws.length) (hc : ∀ j (hj : j < ws.length), ws[j].1 + ws[j].2.length ≤ 4611686018427387904) :
    Calls Tryd.prog 29 #[.pointer (some ⟨b, 0, none⟩)] w (IntB (misP ws s) w) := by
  have c0 := h.c0
  have c1 := h.c1
  have c2 := h.c2
  have hk := h.k
  have hn := h.len
  have hcp := h.cp
  by_cases hlt : s.k < ws.length
  · have ht := h.col s.k hlt
    have hv : misP ws s = ws[s.k].1 := by unfold misP; rw [if_pos hlt, colAt_eq hlt]
    rw [hv]
    have g1 : decide (s.k < ws.length) = true := by simp [hlt]
    generalize ws[s.k].1 = C at *
    go_enter Tryd.func29, Tryd.ntmps29
    go_wp2
    go_quiet (fail)
    go_wp2
    go_quiet (fail)
    go_wp2
    go_ret
    exact intB_mk rfl (below_drewN (below_drewN (Below.refl _ _) _) _)
  · have g1 : decide (s.k < ws.length) = false := by simp [hlt]
    obtain ⟨k, m⟩ := s
    cases m with
    | false =>
      have hv : misP ws ⟨k, false⟩ = 0 := by unfold misP; rw [if_neg hlt]; rfl
      rw [hv]
      go_enter Tryd.func29, Tryd.ntmps29
      go_wp2
      go_quiet (fail)
      go_wp2
      go_ret
      exact intB_mk rfl (below_drewN (Below.refl _ _) _)
    | true =>
      have hl : ws.length - 1 < ws.length := by omega
      have x1 := h.text _ hl
      have x2 := h.col _ hl
      have hx := hc _ hl
      have y0 : ∀ n O, ((w.drewN n).alloc O).cell? ⟨b, 0, none⟩ = some (.slice (some ⟨g, 0, none⟩) ws.length cap) := fun n O => (World.cell?_alloc_lt _ _ _ h.blt).trans c0
      have y1 : ∀ n O, ((w.drewN n).alloc O).cell? ⟨g, (ws.length - 1) * 2, none⟩ = some (.string (bs ws[ws.length - 1].2)) := fun n O => (World.cell?_alloc_lt _ _ _ h.lt).trans x1
      have y2 : ∀ n O, ((w.drewN n).alloc O).cell? ⟨g, (ws.length - 1) * 2 + 1, none⟩ = some (.int .i64 ws[ws.length - 1].1) := fun n O => (World.cell?_alloc_lt _ _ _ h.lt).trans x2
      have y3 : ∀ n, ((w.drewN n).alloc (.cells #[.string ⟨#[]⟩, .int .i64 0] 99)).frozen? ⟨w.heap.size, 0, none⟩ = false := fun n => new_fz (w.drewN n) _ _ _
      have y5 : ∀ n, ((w.drewN n).alloc (.cells #[.string ⟨#[]⟩, .int .i64 0] 99)).cell? ⟨w.heap.size, 0, none⟩ = some (.string ⟨#[]⟩) := fun n => new_cell (w.drewN n) _ _ _
      have y4 : ∀ n, ((w.drewN n).alloc (.cells #[.string ⟨#[]⟩, .int .i64 0] 99)).frozen? ⟨w.heap.size, 1, none⟩ = false := fun n => new_fz (w.drewN n) _ _ _
      have y6 : ∀ n, ((w.drewN n).alloc (.cells #[.string ⟨#[]⟩, .int .i64 0] 99)).cell? ⟨w.heap.size, 1, none⟩ = some (.int .i64 0) := fun n => new_cell (w.drewN n) _ _ _
      have hv : misP ws ⟨k, true⟩ = ws[ws.length - 1].1 + ws[ws.length - 1].2.length := by
        unfold misP endP; rw [if_neg hlt, colAt_eq hl]; simp [hl]
      rw [hv]
      generalize ws[ws.length - 1] = W at *
      obtain ⟨wc, wt⟩ := W
      simp only at *
      have e1 : IntKind.i64.wrap ((ws.length : Int) - 1) = ((ws.length - 1 : Nat) : Int) := by rw [IntKind.wrap_i64]; omega
      have e2 : IntKind.i64.wrap ((wc : Int) + (bs wt).size) = ((wc + wt.length : Nat) : Int) := by rw [IntKind.wrap_i64, size_bs]; omega
      go_enter Tryd.func29, Tryd.ntmps29
      go_wp2
      go_quiet (fail)
      go_wp2
      go_region
      all_goals
        go_wp2
        go_ret
        exact intB_mk rfl ((((below_drewN (Below.refl _ _) _).alloc (Nat.le_refl _) _).setCell (Nat.le_refl _) _).setCell (Nat.le_refl _) _)
end Go.Proofs.YtgemciecdplcgaaDoor
