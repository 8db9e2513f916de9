/-
  A world in which the listed tables and the listed handle lie.
-/
import Derived.Test.YtlbhgjilgdmedaaGreatDoorLaid
import Derived.Lay
namespace Go.Proofs.YtlbhgjilgdmedaaGreatDoor
set_option maxRecDepth 100000
open Go.ChangeShapes Go.WideShapes Go.RowKit

abbrev laid3 : List (String × DataW Unit) := [("math/bits.deBruijn32tab", Rows.laid_math_bits_deBruijn32tab), ("math/bits.deBruijn64tab", Rows.laid_math_bits_deBruijn64tab), ("internal/strconv.uint64pow10", Rows.laid_internal_strconv_uint64pow10)]
abbrev laid4 : List (String × DataW Unit) := [("math/bits.deBruijn32tab", Rows.laid_math_bits_deBruijn32tab), ("math/bits.deBruijn64tab", Rows.laid_math_bits_deBruijn64tab), ("internal/strconv.uint64pow10", Rows.laid_internal_strconv_uint64pow10), ("errors.errorType", Rows.laid_errors_errorType)]
/-- the settled world, the tables laid, errors.errorType laid -/
noncomputable def laidWorld4 (os : Os) : World :=
  let w0 := World.laidAll Tryz.prog os laid3
  { w0 with heap := w0.heap.modify 0 fun
      | .cells _ t frozen => .cells #[.iface 123 (.agg #[.pointer (some ⟨5, 27, none⟩)])] t frozen
      | o => o }
theorem laidWorld4_met (os : Os) (args : Array Value) : laidMetH Tryz.prog laid4 ((laidWorld4 os).forCall (fun _ _ => 0) ⟨#[], args, []⟩).memory :=
  laidMetH_of_parts (laidMet_of_run' 1000 (by kernel_rfl) (by kernel_rfl)) (by kernel_rfl)
theorem handle4_of {W : World} (h : laidMetH Tryz.prog laid4 W) : HandleAt W := handle_of (ls := laid3) h
end Go.Proofs.YtlbhgjilgdmedaaGreatDoor
