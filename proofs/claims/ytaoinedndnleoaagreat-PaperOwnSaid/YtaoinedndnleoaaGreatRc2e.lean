/-
  The document's Compile of rules as a chart.
-/
import Derived.Test.YtaoinedndnleoaaGreatRc2c
import Derived.Test.YtaoinedndnleoaaGreatRc2d
namespace Go.Proofs.YtaoinedndnleoaaGreat
set_option maxRecDepth 100000
open Go.ChangeShapes Go.WideShapes Go.ChangeAt Go.RowKit

theorem RComp_any (acc : List RL) (A : Option Addr) (cap : Nat) (w : World) (hR : RIn w A acc) (ha : acc.length ≤ 1000) (hac : acc.length ≤ cap) (hPR : ∀ x ∈ acc, ∀ B c W, x.2.2 = .slice B x.1.list.length c → Below w.heap.size w W → Calls Tryz.prog 58 #[ruV x.1 (.slice B x.1.list.length c) x.2.1] W (PrD x.1 W)) :
    Calls Tryz.prog 30 #[.slice A acc.length cap] w (RCompTo (compR (acc.map er)) w) := rcCut.2.2 ⟨rcCutS.2 ⟨rc_arms⟩⟩ ⟨rc_trans⟩ acc A cap w hR ha hac hPR
end Go.Proofs.YtaoinedndnleoaaGreat
