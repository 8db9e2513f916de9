/-
  A plan that comes in, opened.
-/
import Derived.Test.YtahgfmobdfhaaaaGreatDoorOwn
import Derived.ChangeSame
import Derived.Lay
import Derived.LaidLaws
import Derived.LaidHandle
import Derived.ChangeVars
import Derived.JoinedOf
import Derived.RowKit
import Derived.RowKitTokens
import Derived.Stop.Joined
import Derived.Test.YtahgfmobdfhaaaaGreatDoorAs
import Derived.Test.YtahgfmobdfhaaaaGreatDoorPrint2
namespace Go.Proofs.YtahgfmobdfhaaaaGreatDoor
set_option maxRecDepth 100000
open Go.ChangeShapes Go.WideShapes Go.ChangeAt Go.RowKit

section
variable {H : Type} {enc : TypeId × Value → H}
theorem arg_ints2 {t : TypeId} {fuel : Nat} {v : Value} {x : DataW H × List MemPlace} {W : World} (ht : Tryz.prog.underlying t = some (.slice 3)) (hc : Tryz.prog.cellsOf 3 = 1)
    (h : DataW.trod enc Tryz.prog W 0 (fun _ => true) true fuel t [v] = some x) : ∃ zs, IntsAt W v zs := by
  rcases open_ints ht Tryz.underlying3 hc h with ⟨hcs, _⟩ | ⟨a, len, cap, zs, hcs, _, hl, hm, hn, _, hcell, hwf⟩
  · obtain rfl : v = .slice none 0 0 := by simpa using hcs
    exact ⟨[], none, 0, rfl, Nat.zero_le _, fun k h => by simp at h⟩
  · obtain rfl : v = .slice (some a) len cap := by simpa using hcs
    rw [if_pos rfl] at hn
    refine ⟨zs.take len, some a, cap, by rw [List.length_take, Nat.min_eq_left (by omega)], by rw [List.length_take]; omega, fun k h => ?_⟩
    have hk : k < zs.length := by rw [List.length_take] at h; omega
    have hk' := hcell k hk
    have e : (zs.take len)[k] = zs[k] := by simp
    have e2 : zs.getD k 0 = zs[k] := by simp [List.getD_eq_getElem?_getD, List.getElem?_eq_getElem hk]
    rw [e2] at hk'
    obtain ⟨b, off, spot⟩ := a
    have hsp : spot = none := by
      have h0 := hcell 0 (by omega)
      simpa [Addr.add] using World.cell?_spot h0
    subst hsp
    rw [Go.WideShapes.add_plain] at hk'
    rw [e]
    exact ⟨b, off, rfl, World.block_lt_of_cell? W _ hk', hk', hwf _ (List.getElem_mem _)⟩
theorem arg_plan {d : DataW H} {W : World} {base : Nat} {v : Value} {p : List MemPlace} (hv : Value.okWide Tryz.prog W .any base 24 v) (h : DataW.Trod enc Tryz.prog W 0 (fun _ => true) true 24 v d p) :
    ∃ v0 zs, v = .agg #[v0] ∧ IntsAt W v0 zs := by
  obtain ⟨cs, rfl, hsz⟩ := okWide_struct Tryz.underlying24 hv
  have hC : Tryz.prog.cellsOf 24 = 1 := by kernel_rfl
  have hC2 : Tryz.prog.cellsOf 22 = 1 := by kernel_rfl
  have hsz2 := hsz.trans hC
  obtain ⟨l⟩ := cs
  obtain ⟨v0, rfl⟩ : ∃ v0, l = [v0] := by
    match l, hsz2 with
    | [v0], _ => exact ⟨v0, rfl⟩
  obtain ⟨fuel, hf⟩ := h
  obtain ⟨y0, n, _, _, g0⟩ := trod_struct1 Tryz.underlying24 hf
  have g1 : DataW.trod enc Tryz.prog W 0 (fun _ => true) true n 22 [v0] = some y0 := by
    simp only [hC2] at g0
    exact g0
  obtain ⟨zs, hz⟩ := arg_ints2 Tryz.underlying22 (by kernel_rfl) g1
  exact ⟨v0, zs, rfl, hz⟩
end
end Go.Proofs.YtahgfmobdfhaaaaGreatDoor
/-
  Listed tables, and a world that holds them.
-/
namespace Go.Proofs.YtahgfmobdfhaaaaGreatDoor
set_option maxRecDepth 100000
open Go.ChangeShapes Go.WideShapes Go.RowKit

theorem Tryz.gET : Tryz.prog.globalNamed "errors.errorType" = some 0 := by kernel_rfl
theorem Tryz.tRT : (Tryz.prog.cutTypes.find? (·.1 == "internal/reflectlite.rtype")).map (·.2) = some 157 := by kernel_rfl
theorem Tryz.oneError : ((List.range 228).filter fun t => Tryz.prog.rowNamed t [101, 114, 114, 111, 114]) = [35] := by kernel_rfl
theorem Tryz.tySize : Tryz.prog.types.size = 228 := by kernel_rfl
theorem handle_of {ls : List (String × DataW Unit)} {W : World} (h : laidMet Tryz.prog ls W ∧ handlesMet Tryz.prog [("errors.errorType", Rows.laid_errors_errorType)] W) : HandleAt W := by
  obtain ⟨name, u, ty, e1, e2, e3, e4, e5⟩ := h.2 _ (List.mem_singleton.2 rfl)
  have en : name = [101, 114, 114, 111, 114] := (Option.some.inj e1).symm
  subst en
  obtain rfl := Option.some.inj (Tryz.tRT.symm.trans e2)
  have hm : ty ∈ (List.range 228).filter fun t => Tryz.prog.rowNamed t [101, 114, 114, 111, 114] := List.mem_filter.2 ⟨List.mem_range.2 (by rw [← Tryz.tySize]; exact e3), e4⟩
  rw [Tryz.oneError] at hm
  obtain rfl := List.mem_singleton.1 hm
  have hh : typeHandle Tryz.prog 35 = .pointer (some ⟨5, 35, none⟩) := by kernel_rfl
  rw [hh] at e5
  unfold HandleAt
  simpa using World.var?_cell Tryz.gET e5 0
end Go.Proofs.YtahgfmobdfhaaaaGreatDoor
namespace Go.Proofs.YtahgfmobdfhaaaaGreatDoor
set_option maxRecDepth 100000
open Go.ChangeShapes Go.WideShapes Go.RowKit

abbrev laid3 : List (String × DataW Unit) := [("math/bits.deBruijn32tab", Rows.laid_math_bits_deBruijn32tab), ("math/bits.deBruijn64tab", Rows.laid_math_bits_deBruijn64tab), ("internal/strconv.uint64pow10", Rows.laid_internal_strconv_uint64pow10)]
abbrev laid4 : List (String × DataW Unit) := [("math/bits.deBruijn32tab", Rows.laid_math_bits_deBruijn32tab), ("math/bits.deBruijn64tab", Rows.laid_math_bits_deBruijn64tab), ("internal/strconv.uint64pow10", Rows.laid_internal_strconv_uint64pow10), ("errors.errorType", Rows.laid_errors_errorType)]
/-- the settled world, the tables laid, errors.errorType laid -/
noncomputable def laidWorld4 (os : Os) : World :=
  let w0 := World.laidAll Tryz.prog os laid3
  { w0 with heap := w0.heap.modify 0 fun
      | .cells _ t frozen => .cells #[.iface 157 (.agg #[.pointer (some ⟨5, 35, none⟩)])] t frozen
      | o => o }
theorem laidWorld4_met (os : Os) (args : Array Value) : laidMetH Tryz.prog laid4 ((laidWorld4 os).forCall (fun _ _ => 0) ⟨#[], args, []⟩).memory :=
  laidMetH_of_parts (laidMet_of_run' 1000 (by kernel_rfl) (by kernel_rfl)) (by kernel_rfl)
theorem handle4_of {W : World} (h : laidMetH Tryz.prog laid4 W) : HandleAt W := handle_of (ls := laid3) h
end Go.Proofs.YtahgfmobdfhaaaaGreatDoor
