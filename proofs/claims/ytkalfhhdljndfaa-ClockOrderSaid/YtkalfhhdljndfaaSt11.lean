/-
  The library's sort by insertion, of transitions by the levels of their states.
-/
import Derived.Test.YtkalfhhdljndfaaSt6
import Derived.Deep.RegionHeld3
import Derived.StillTailTactics
namespace Go.Proofs.Ytkalfhhdljndfaa
set_option maxRecDepth 100000
open Go.ChangeShapes Go.WideShapes Go.ChangeAt Go.RowKit

theorem ncells_set (l : List Nat) (i x : Nat) : icells ((l.set i x).map fun k : Nat => (k : Int)) = (icells (l.map fun k : Nat => (k : Int))).set i (.int .i64 (x : Int)) := by simp [icells, List.map_set]
/-- numbers in a row of the call's own, from its beginning on -/
def NAt (w : World) (base g cap : Nat) (l : List Nat) : Prop := w.ownsRow base 3 1 (.slice (some ⟨g, 0, none⟩) l.length cap) l.length (icells (l.map fun k : Nat => (k : Int)))
theorem NAt.cell {w : World} {base g cap : Nat} {l : List Nat} (h : NAt w base g cap l) {j : Nat} (hj : j < l.length) : w.cell? ⟨g, j, none⟩ = some (.int .i64 (l[j] : Nat)) := by
  obtain ⟨g', cap', e', _, _, _, hc⟩ := own_form h (by omega)
  injection e' with e1
  injection e1 with e1
  injection e1 with e1
  subst e1
  exact hc _ _ (by simp [icells, hj])
theorem NAt.set {w : World} {base g cap : Nat} {l : List Nat} (h : NAt w base g cap l) (j x : Nat) : NAt (w.setCell ⟨g, j, none⟩ (.int .i64 (x : Int))) base g cap (l.set j x) := by
  unfold NAt
  rw [List.length_set, ncells_set]
  exact (World.ownsRow.stored h j (.int .i64 (x : Int))).1
theorem NAt.below {w w' : World} {base g cap : Nat} {l : List Nat} (h : NAt w base g cap l) (hb : Below w.heap.size w w') (hB : base ≤ w.heap.size) : NAt w' base g cap l := own_below h hb hB
theorem NAt.lt {w : World} {base g cap : Nat} {l : List Nat} (h : NAt w base g cap l) : base ≤ g ∧ g < w.heap.size := World.ownsRow.lt h g rfl
end Go.Proofs.Ytkalfhhdljndfaa
/-
  Package step: Take, of a transition that is enabled.
-/
namespace Go.Proofs.Ytkalfhhdljndfaa
set_option maxRecDepth 100000
open Go.ChangeShapes Go.WideShapes Go.ChangeAt Go.RowKit

theorem run_cellU {P : Program} {fn : Func} {p u : Tmp} {ty : TypeId} (h : fn.results = #[.cell p ty, .tmp u]) (tmps : Array Value) (w : World) (g : Nat) (t : TypeId) (cs : Array Value) (fr : Nat × Nat) (d : TypeDesc)
    (hp : tmps.getD p undef = .pointer (some ⟨g, 0, none⟩)) (hg : w.heap[g]? = some (.cells cs t fr))
    (hu : P.underlying ty = some d) (hd : (match d with | .struct _ | .array _ _ => true | _ => false) = true) (hi : (P.info? ty).map (·.size) = some cs.size) :
    (results fn tmps).run P w = .ok (.tuple #[.agg cs, tmps.getD u undef]) w := by
  have hp' : tmps[p]?.getD undef = .pointer (some ⟨g, 0, none⟩) := by simpa using hp
  simp [results, h, hp', asAddr, run_loadVar_row w g t ty cs fr d hg hu hd hi]
end Go.Proofs.Ytkalfhhdljndfaa
/-
  Package step: Run.
-/
namespace Go.Proofs.Ytkalfhhdljndfaa
set_option maxRecDepth 100000
open Go.ChangeShapes Go.WideShapes Go.ChangeAt Go.RowKit

abbrev sets3 (W : World) (b : Nat) (v0 v1 v2 : Value) : World := ((W.setCell ⟨b, 0, none⟩ v0).setCell ⟨b, 1, none⟩ v1).setCell ⟨b, 2, none⟩ v2
theorem sets3_row {W : World} {b : Nat} {a0 a1 a2 : Value} {t : TypeId} (h : W.heap[b]? = some (.cells #[a0, a1, a2] t (0, 0))) (v0 v1 v2 : Value) : (sets3 W b v0 v1 v2).heap[b]? = some (.cells #[v0, v1, v2] t (0, 0)) := by
  have e := heap_set (j := 2) (heap_set (j := 1) (heap_set (j := 0) h v0) v1) v2
  simpa using e
theorem sets3_below {n b : Nat} {W0 W : World} (h : Below n W0 W) (hn : n ≤ W0.heap.size) (hb : n ≤ b) (v0 v1 v2 : Value) : Below n W0 (sets3 W b v0 v1 v2) := by
  have st : ∀ {X : World} (j : Nat) (u : Value), Below n W0 X → Below n W0 (X.setCell ⟨b, j, none⟩ u) := fun j u hX => hX.grown (grown_setCell _ b j u) (Nat.le_trans hn hX.size) (fun k e => by cases e; exact hb)
  exact st _ _ (st _ _ (st _ _ h))
end Go.Proofs.Ytkalfhhdljndfaa
