/-
  A world in which the listed tables and the listed handle lie.
-/
import Derived.Test.YtgemciecdplcgaaDoorLaid
import Derived.Lay
namespace Go.Proofs.YtgemciecdplcgaaDoor
set_option maxRecDepth 100000
open Go.ChangeShapes Go.WideShapes Go.RowKit

abbrev laidT : List (String × DataW Unit) := [("unicode/utf8.acceptRanges", Rows.laid_unicode_utf8_acceptRanges), ("unicode/utf8.first", Rows.laid_unicode_utf8_first)]
abbrev laid5 : List (String × DataW Unit) := [("unicode/utf8.acceptRanges", Rows.laid_unicode_utf8_acceptRanges), ("errors.errorType", Rows.laid_errors_errorType), ("unicode/utf8.first", Rows.laid_unicode_utf8_first)]
/-- the settled world, the tables laid, errors.errorType laid -/
noncomputable def laidWorld5 (os : Os) : World :=
  let w0 := World.laidAll Tryd.prog os laidT
  { w0 with heap := w0.heap.modify 0 fun
      | .cells _ t frozen => .cells #[.iface 111 (.agg #[.pointer (some ⟨4, 25, none⟩)])] t frozen
      | o => o }
theorem laidWorld5_met (os : Os) (args : Array Value) : laidMetH Tryd.prog laid5 ((laidWorld5 os).forCall (fun _ _ => 0) ⟨#[], args, []⟩).memory :=
  laidMetH_of_parts (laidMet_of_run' 1000 (by kernel_rfl) (by kernel_rfl)) (by kernel_rfl)
theorem handle5_of {W : World} (h : laidMetH Tryd.prog laid5 W) : HandleAt W := handle_of (ls := laidT) h
end Go.Proofs.YtgemciecdplcgaaDoor
