/-
  A help of the statements: Is, where there is no error and none is asked for.
-/
import Derived.Test.YteplbbikjcjheaaKeepO
namespace Go.Proofs.Yteplbbikjcjheaa
set_option maxRecDepth 100000
open Go.ChangeShapes Go.WideShapes Go.ChangeAt Go.RowKit

theorem keepIs00 (w : World) : Calls Try.prog 14 #[.nilIface, .int .i64 0] w fun e w' => e = .returned (.bool true) ∧ w = w' := by
  go_enter Try.func14, Try.ntmps14
  go_wp2
  go_ret
  exact ⟨rfl, rfl⟩
end Go.Proofs.Yteplbbikjcjheaa
