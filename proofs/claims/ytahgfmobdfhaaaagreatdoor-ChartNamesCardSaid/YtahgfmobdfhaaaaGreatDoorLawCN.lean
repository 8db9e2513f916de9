/-
  ChartNames: a chart's states and transitions stand in the order of their rules: the walk.
-/
import Derived.Test.YtahgfmobdfhaaaaGreatDoorCNd
import Derived.Test.YtahgfmobdfhaaaaGreatDoorCNe
import Derived.Test.YtahgfmobdfhaaaaGreatDoorCNg
import Derived.Test.YtahgfmobdfhaaaaGreatDoorCNh
namespace Go.Proofs.YtahgfmobdfhaaaaGreatDoor
set_option maxRecDepth 100000
open Go.ChangeShapes Go.WideShapes Go.ChangeAt Go.RowKit

theorem cnames_walk (w : World) (v : Value) (zs : List Int) (hz : IntsAt w v zs) (hg : HandleAt w) (ht : TabAt w) :
    Calls Tryz.prog 3 #[.agg #[v]] w (TrueOn w) := cnCut.2.2 ⟨cnCutS.2.2 ⟨cn_top⟩ ⟨cn_in⟩⟩ ⟨cnCutT.2.2 ⟨cn_time⟩ ⟨cn_free⟩⟩ w v zs hz hg ht
end Go.Proofs.YtahgfmobdfhaaaaGreatDoor
