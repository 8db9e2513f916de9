/-
  Package step: Run.
-/
import Derived.Test.YtiodjjnohbjhlaaSt10
import Derived.StillTailTactics
namespace Go.Proofs.Ytiodjjnohbjhlaa
set_option maxRecDepth 100000
open Go.ChangeShapes Go.WideShapes Go.ChangeAt Go.RowKit

abbrev sets3 (W : World) (b : Nat) (v0 v1 v2 : Value) : World := ((W.setCell ⟨b, 0, none⟩ v0).setCell ⟨b, 1, none⟩ v1).setCell ⟨b, 2, none⟩ v2
theorem sets3_block (W : World) (b : Nat) (v0 v1 v2 : Value) {g : Nat} (hg : g < W.heap.size) (hne : g ≠ b) : (sets3 W b v0 v1 v2).heap[g]? = W.heap[g]? := by
  show (((W.setCell ⟨b, 0, none⟩ v0).setCell ⟨b, 1, none⟩ v1).setCell ⟨b, 2, none⟩ v2).heap[g]? = _
  rw [(grown_setCell _ _ _ _).block g (by simpa [World.setCell] using hg) (by simpa using hne), (grown_setCell _ _ _ _).block g (by simpa [World.setCell] using hg) (by simpa using hne), (grown_setCell _ _ _ _).block g hg (by simpa using hne)]
theorem sets3_row {W : World} {b : Nat} {a0 a1 a2 : Value} {t : TypeId} (h : W.heap[b]? = some (.cells #[a0, a1, a2] t (0, 0))) (v0 v1 v2 : Value) : (sets3 W b v0 v1 v2).heap[b]? = some (.cells #[v0, v1, v2] t (0, 0)) := by
  have e := heap_set (j := 2) (heap_set (j := 1) (heap_set (j := 0) h v0) v1) v2
  simpa using e
theorem sets3_below {n b : Nat} {W0 W : World} (h : Below n W0 W) (hn : n ≤ W0.heap.size) (hb : n ≤ b) (v0 v1 v2 : Value) : Below n W0 (sets3 W b v0 v1 v2) := by
  have st : ∀ {X : World} (j : Nat) (u : Value), Below n W0 X → Below n W0 (X.setCell ⟨b, j, none⟩ u) := fun j u hX => hX.grown (grown_setCell _ b j u) (Nat.le_trans hn hX.size) (fun k e => by cases e; exact hb)
  exact st _ _ (st _ _ (st _ _ h))
def lenV : Value → Nat
  | .slice _ m _ => m
  | _ => 0
end Go.Proofs.Ytiodjjnohbjhlaa
