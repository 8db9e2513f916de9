/-
  rule.same at two rules that are equal but for their lists' places and their Lines: the lists decide. (Where numbers or names differ: not done.)
-/
import Derived.Test.YtlbhgjilgdmedaaDoorSame
import Derived.Test.YtlbhgjilgdmedaaDoorPrint3
namespace Go.Proofs.YtlbhgjilgdmedaaDoor
set_option maxRecDepth 100000
open Go.ChangeShapes Go.WideShapes Go.ChangeAt Go.RowKit

theorem sameEq (r : Ru) (lb : List Tx) (A B : Option Addr) (ca cb : Nat) (la ln : Int) (w : World) (ha : LAt w A ca r.list) (hb : LAt w B cb lb) :
    Calls Tryd.prog 24 #[ruV r (.slice A r.list.length ca) la, ruV { r with list := lb } (.slice B lb.length cb) ln] w (ValB (.bool (decide (r.list = lb))) w) := by
  obtain ⟨kd, nm, l, rn, rm, rf, rt, rb, ra, ri⟩ := r
  refine same_lists kd rn rm la _ _ _ _ _ _ A l.length ca kd rn rm ln _ _ _ _ _ _ B lb.length cb w (fun W => ?_) (fun W => ?_) _ (fun W hW => Equal_any l lb A B ca cb W (ha.below hW) (hb.below hW))
  · rw [eqNums]; simp
  · rw [eqTexts]; simp
end Go.Proofs.YtlbhgjilgdmedaaDoor
