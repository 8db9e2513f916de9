import Derived.Test.YtgffbgmieppckaaGreatDoorDT0
import Derived.Test.YtgffbgmieppckaaGreatDoorOwn
import Derived.ChangeSame
import Derived.ChangeVars
import Derived.JoinedOf
import Derived.RowKit
import Derived.RowKitTokens
import Derived.LaidLaws
import Derived.LaidHandle
import Derived.Stop.Joined
import Derived.Lay
import Derived.Test.YtgffbgmieppckaaGreatDoorParse
namespace Go.Proofs.YtgffbgmieppckaaGreatDoor
set_option maxRecDepth 100000
open Go.ChangeShapes Go.WideShapes Go.RowKit
theorem Tryz.gET : Tryz.prog.globalNamed "errors.errorType" = some 0 := by kernel_rfl
theorem Tryz.tRT : (Tryz.prog.cutTypes.find? (·.1 == "internal/reflectlite.rtype")).map (·.2) = some 311 := by kernel_rfl
theorem Tryz.oneError : ((List.range 394).filter fun t => Tryz.prog.rowNamed t [101, 114, 114, 111, 114]) = [35] := by kernel_rfl
theorem Tryz.tySize : Tryz.prog.types.size = 394 := by kernel_rfl
theorem handle_of {ls : List (String × DataW Unit)} {W : World} (h : laidMet Tryz.prog ls W ∧ handlesMet Tryz.prog [("errors.errorType", Rows.laid_errors_errorType)] W) : HandleAt W := by
 obtain ⟨name, u, ty, e1, e2, e3, e4, e5⟩ := h.2 _ (List.mem_singleton.2 rfl)
 have en : name = [101, 114, 114, 111, 114] := (Option.some.inj e1).symm
 subst en
 obtain rfl := Option.some.inj (Tryz.tRT.symm.trans e2)
 have hm : ty ∈ (List.range 394).filter fun t => Tryz.prog.rowNamed t [101, 114, 114, 111, 114] := List.mem_filter.2 ⟨List.mem_range.2 (by rw [← Tryz.tySize]; exact e3), e4⟩
 rw [Tryz.oneError] at hm
 obtain rfl := List.mem_singleton.1 hm
 have hh : typeHandle Tryz.prog 35 = .pointer (some ⟨5, 35, none⟩) := by kernel_rfl
 rw [hh] at e5
 unfold HandleAt
 simpa using World.var?_cell Tryz.gET e5 0
abbrev laid3 : List (String × DataW Unit) := [("math/bits.deBruijn32tab", Rows.laid_math_bits_deBruijn32tab), ("math/bits.deBruijn64tab", Rows.laid_math_bits_deBruijn64tab), ("internal/strconv.uint64pow10", Rows.laid_internal_strconv_uint64pow10)]
abbrev laid4 : List (String × DataW Unit) := [("math/bits.deBruijn32tab", Rows.laid_math_bits_deBruijn32tab), ("math/bits.deBruijn64tab", Rows.laid_math_bits_deBruijn64tab), ("internal/strconv.uint64pow10", Rows.laid_internal_strconv_uint64pow10), ("errors.errorType", Rows.laid_errors_errorType)]
noncomputable def laidWorld4 (os : Os) : World :=
 let w0 := World.laidAll Tryz.prog os laid3
 { w0 with heap := w0.heap.modify 0 fun
    | .cells _ t frozen => .cells #[.iface 311 (.agg #[.pointer (some ⟨5, 35, none⟩)])] t frozen
    | o => o }
theorem laidWorld4_met (os : Os) (args : Array Value) : laidMetH Tryz.prog laid4 ((laidWorld4 os).forCall (fun _ _ => 0) ⟨#[], args, []⟩).memory :=
 laidMetH_of_parts (laidMet_of_run' 1000 (by kernel_rfl) (by kernel_rfl)) (by kernel_rfl)
theorem handle4_of {W : World} (h : laidMetH Tryz.prog laid4 W) : HandleAt W := handle_of (ls := laid3) h
end Go.Proofs.YtgffbgmieppckaaGreatDoor
