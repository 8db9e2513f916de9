/-
  Package shape: size, holds, parent, has.
-/
import Derived.Test.YtkalfhhdljndfaaInts
import Derived.Test.YtkalfhhdljndfaaSh0
import Derived.Laws.ShiftsVar
import Derived.Test.YtkalfhhdljndfaaWth
import Derived.Maps.Range
import Derived.Test.YtkalfhhdljndfaaOkP
import Derived.Lib.SplitLaws
import Derived.Test.YtkalfhhdljndfaaD0
import Derived.Lib.ItoaMem
import Derived.BigQuiet
namespace Go.Proofs.Ytkalfhhdljndfaa
set_option maxRecDepth 100000
open Go.ChangeShapes Go.WideShapes Go.ChangeAt Go.RowKit

theorem box_b (w : World) (o : Obj) : Below w.heap.size w (w.alloc o) := (Below.refl _ _).alloc (Nat.le_refl _) _
end Go.Proofs.Ytkalfhhdljndfaa
/-
  Package shape: Initial, Kids, open.
-/
namespace Go.Proofs.Ytkalfhhdljndfaa
set_option maxRecDepth 100000
open Go.ChangeShapes Go.WideShapes Go.ChangeAt Go.RowKit

def icells (l : List Int) : List Value := l.map (Value.int .i64)
/-- a list of integers in memory of the call's own -/
def OwnI (w : World) (base : Nat) (v : Value) (l : List Int) : Prop := w.ownsRow base 3 1 v l.length (icells l)

section
variable (ks ps : List Int) (A B : Option Addr) (n c m d : Nat) (w : World)
def KidsTo (l : List Nat) (w : World) (e : Ending) (w' : World) : Prop := ∃ v, e = .returned v ∧ OwnI w' w.heap.size v (l.map fun k : Nat => (k : Int)) ∧ Below w.heap.size w w'
end
end Go.Proofs.Ytkalfhhdljndfaa
/-
  Package chart, its small parts: stays, mayStand, find.
-/
namespace Go.Proofs.Ytkalfhhdljndfaa
set_option maxRecDepth 100000
open Go.ChangeShapes Go.WideShapes Go.ChangeAt Go.RowKit

/-! ### the place of a state's rule -/
/-- rules in a block's cells, whatever their lists -/
def RI2 (w : World) (A : Option Addr) (acc : List RL) : Prop := ∀ j (h : j < acc.length), ∃ g, A = some ⟨g, 0, none⟩ ∧ g < w.heap.size ∧ (∀ f u, f < 11 → (rcell acc[j])[f]? = some u → w.cell? ⟨g, j * 11 + f, none⟩ = some u) ∧ ∃ B n c, acc[j].2.2 = .slice B n c
theorem RI2.below {w w' : World} {A : Option Addr} {acc : List RL} (h : RI2 w A acc) (hb : Below w.heap.size w w') : RI2 w' A acc := fun j hj =>
  let ⟨g, e, hl, hc, q⟩ := h j hj
  ⟨g, e, Nat.lt_of_lt_of_le hl hb.size, fun f u hf hu => (hb.cell (p := ⟨g, j * 11 + f, none⟩) hl).trans (hc f u hf hu), q⟩
end Go.Proofs.Ytkalfhhdljndfaa
/-
  Lists of integers that come in: their cells, and that their capacity is not below their length.
-/
namespace Go.Proofs.Ytkalfhhdljndfaa
set_option maxRecDepth 100000
open Go.ChangeShapes Go.WideShapes Go.ChangeAt Go.RowKit

def IntsC (W : World) (v : Value) (zs : List Int) : Prop := IntsAt W v zs ∧ ∃ A c, v = .slice A zs.length c ∧ zs.length ≤ c
theorem IntsC.below {w w' : World} {v : Value} {zs : List Int} (h : IntsC w v zs) (hb : Below w.heap.size w w') : IntsC w' v zs := ⟨h.1.below hb, h.2⟩
end Go.Proofs.Ytkalfhhdljndfaa
/-
  Lists of integers of the call's own; the help Copy, of integers.
-/
namespace Go.Proofs.Ytkalfhhdljndfaa
set_option maxRecDepth 100000
open Go.ChangeShapes Go.WideShapes Go.ChangeAt Go.RowKit

def okI (l : List Int) : Prop := ∀ x ∈ l, (Lit.int .i64 x).wf = true
theorem icells_at (l : List Int) (j : Nat) (h : j < l.length) : (icells l)[j]? = some (.int .i64 l[j]) := by simp [icells, h]
theorem ints_of_own {w : World} {base c : Nat} {A : Option Addr} {l : List Int} (h : OwnI w base (.slice A l.length c) l) (ho : okI l) (hl : l.length ≤ 1000) : IntsAt w (.slice A l.length c) l := by
  refine ⟨A, c, rfl, by unfold maxLen; omega, fun k hk => ?_⟩
  obtain ⟨g, cap', e, _, hg, _, hc⟩ := own_form h (by omega)
  have eA : A = some ⟨g, 0, none⟩ := by injection e
  exact ⟨g, 0, eA, hg, by rw [Nat.zero_add]; exact hc _ _ (icells_at l k hk), ho _ (List.getElem_mem hk)⟩
end Go.Proofs.Ytkalfhhdljndfaa
