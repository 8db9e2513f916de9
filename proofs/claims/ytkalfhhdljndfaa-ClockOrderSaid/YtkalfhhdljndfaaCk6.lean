/-
  Package clock: the first of any Dues (MinFunc), and Next.
-/
import Derived.Test.YtkalfhhdljndfaaCk5
import Derived.Test.YtkalfhhdljndfaaCkO
namespace Go.Proofs.Ytkalfhhdljndfaa
set_option maxRecDepth 100000
open Go.ChangeShapes Go.WideShapes Go.ChangeAt Go.RowKit

theorem bsL (a : List UInt8) : (bs a).toList = a := by rw [Lib.toList_data, list_bs]
/-- Dues in a block -/
def DAt (W : World) (g : Nat) (l : List DueT) : Prop := g < W.heap.size ∧ ∀ k (h : k < l.length), W.cell? ⟨g, k * 3, none⟩ = some (.int .i64 l[k].1) ∧ W.cell? ⟨g, k * 3 + 1, none⟩ = some (.string (bs l[k].2.1)) ∧ W.cell? ⟨g, k * 3 + 2, none⟩ = some (.int .i64 l[k].2.2)
theorem DAt.below {W W' : World} {g : Nat} {l : List DueT} (h : DAt W g l) (hb : Below W.heap.size W W') : DAt W' g l :=
  ⟨Nat.lt_of_lt_of_le h.1 hb.size, fun k hk => ⟨(hb.cell (p := ⟨g, k * 3, none⟩) h.1).trans (h.2 k hk).1, (hb.cell (p := ⟨g, k * 3 + 1, none⟩) h.1).trans (h.2 k hk).2.1, (hb.cell (p := ⟨g, k * 3 + 2, none⟩) h.1).trans (h.2 k hk).2.2⟩⟩
end Go.Proofs.Ytkalfhhdljndfaa
