/-
  A plan that comes in, opened; a world in which the listed tables lie.
-/
import Derived.Test.YtgemciecdplcgaaDoorClose
import Derived.ChangeSame
import Derived.Lay
import Derived.LaidLaws
import Derived.LaidHandle
import Derived.ChangeVars
import Derived.JoinedOf
import Derived.RowKit
import Derived.RowKitTokens
import Derived.Stop.Joined
namespace Go.Proofs.YtgemciecdplcgaaDoor
set_option maxRecDepth 100000
open Go.ChangeShapes Go.WideShapes Go.ChangeAt Go.RowKit

section
variable {H : Type} {enc : TypeId × Value → H}
theorem arg_ints2 {t : TypeId} {fuel : Nat} {v : Value} {x : DataW H × List MemPlace} {W : World} (ht : Tryd.prog.underlying t = some (.slice 3)) (hc : Tryd.prog.cellsOf 3 = 1)
    (h : DataW.trod enc Tryd.prog W 0 (fun _ => true) true fuel t [v] = some x) : ∃ zs, IntsAt W v zs := by
  rcases open_ints ht Tryd.underlying3 hc h with ⟨hcs, _⟩ | ⟨a, len, cap, zs, hcs, _, hl, hm, hn, _, hcell, hwf⟩
  · obtain rfl : v = .slice none 0 0 := by simpa using hcs
    exact ⟨[], none, 0, rfl, Nat.zero_le _, fun k h => by simp at h⟩
  · obtain rfl : v = .slice (some a) len cap := by simpa using hcs
    rw [if_pos rfl] at hn
    refine ⟨zs.take len, some a, cap, by rw [List.length_take, Nat.min_eq_left (by omega)], by rw [List.length_take]; omega, fun k h => ?_⟩
    have hk : k < zs.length := by rw [List.length_take] at h; omega
    have hk' := hcell k hk
    have e : (zs.take len)[k] = zs[k] := by simp
    have e2 : zs.getD k 0 = zs[k] := by simp [List.getD_eq_getElem?_getD, List.getElem?_eq_getElem hk]
    rw [e2] at hk'
    obtain ⟨b, off, spot⟩ := a
    have hsp : spot = none := by
      have h0 := hcell 0 (by omega)
      simpa [Addr.add] using World.cell?_spot h0
    subst hsp
    rw [Go.WideShapes.add_plain] at hk'
    rw [e]
    exact ⟨b, off, rfl, World.block_lt_of_cell? W _ hk', hk', hwf _ (List.getElem_mem _)⟩
theorem arg_plan {d : DataW H} {W : World} {base : Nat} {v : Value} {p : List MemPlace} (hv : Value.okWide Tryd.prog W .any base 38 v) (h : DataW.Trod enc Tryd.prog W 0 (fun _ => true) true 38 v d p) :
    ∃ v0 zs, v = .agg #[v0] ∧ IntsAt W v0 zs := by
  obtain ⟨cs, rfl, hsz⟩ := okWide_struct Tryd.underlying38 hv
  have hC : Tryd.prog.cellsOf 38 = 1 := by kernel_rfl
  have hC2 : Tryd.prog.cellsOf 36 = 1 := by kernel_rfl
  have hsz2 := hsz.trans hC
  obtain ⟨l⟩ := cs
  obtain ⟨v0, rfl⟩ : ∃ v0, l = [v0] := by
    match l, hsz2 with
    | [v0], _ => exact ⟨v0, rfl⟩
  obtain ⟨fuel, hf⟩ := h
  obtain ⟨y0, n, _, _, g0⟩ := trod_struct1 Tryd.underlying38 hf
  have g1 : DataW.trod enc Tryd.prog W 0 (fun _ => true) true n 36 [v0] = some y0 := by
    simp only [hC2] at g0
    exact g0
  obtain ⟨zs, hz⟩ := arg_ints2 Tryd.underlying36 (by kernel_rfl) g1
  exact ⟨v0, zs, rfl, hz⟩
end
abbrev laidT2 : List (String × DataW Unit) := [("unicode/utf8.acceptRanges", Rows.laid_unicode_utf8_acceptRanges), ("unicode/utf8.first", Rows.laid_unicode_utf8_first)]
/-- the settled world, the tables laid -/
noncomputable def laidWorld6 (os : Os) : World := World.laidAll Tryd.prog os laidT2
theorem laidWorld6_met (os : Os) (args : Array Value) : laidMetH Tryd.prog laidT2 ((laidWorld6 os).forCall (fun _ _ => 0) ⟨#[], args, []⟩).memory :=
  laidMetH_of_parts (laidMet_of_run' 1000 (by kernel_rfl) (by kernel_rfl)) (by kernel_rfl)
end Go.Proofs.YtgemciecdplcgaaDoor
