/-
  Lists of integers that come in: their cells, and that their capacity is not below their length.
-/
import Derived.Test.YtaolebdcmdmnjaaInts
namespace Go.Proofs.Ytaolebdcmdmnjaa
set_option maxRecDepth 100000
open Go.ChangeShapes Go.WideShapes Go.ChangeAt Go.RowKit

def IntsC (W : World) (v : Value) (zs : List Int) : Prop := IntsAt W v zs ∧ ∃ A c, v = .slice A zs.length c ∧ zs.length ≤ c
section
variable {H : Type} {enc : TypeId × Value → H}
theorem arg_intsC {t : TypeId} {d : DataW H} {W : World} {base : Nat} {v : Value} {p : List MemPlace} (ht : Try.prog.underlying t = some (.slice 3)) (hc : Try.prog.cellsOf 3 = 1)
    (hv : Value.okWide Try.prog W .any base t v) (h : DataW.Trod enc Try.prog W 0 (fun _ => true) true t v d p) : ∃ zs, IntsC W v zs := by
  obtain ⟨A, n, c, rfl⟩ := okWide_slice ht hv
  obtain ⟨fuel, hf⟩ := h
  rcases open_ints ht Try.underlying3 hc hf with ⟨hcs, _⟩ | ⟨a, len, cap, zs, hcs, _, hl, hm, hn, _, hcell, hwf⟩
  · simp [Value.cells] at hcs
    obtain ⟨rfl, rfl, rfl⟩ := hcs
    exact ⟨[], ⟨_, _, rfl, Nat.zero_le _, fun k h => by simp at h⟩, _, _, rfl, Nat.zero_le _⟩
  · simp [Value.cells] at hcs
    obtain ⟨rfl, rfl, rfl⟩ := hcs
    rw [if_pos rfl] at hn
    refine ⟨zs.take n, ⟨some a, c, by rw [List.length_take, Nat.min_eq_left (by omega)], by rw [List.length_take]; omega, fun k h => ?_⟩, some a, c, by rw [List.length_take, Nat.min_eq_left (by omega)], by rw [List.length_take]; omega⟩
    have hk : k < zs.length := by rw [List.length_take] at h; omega
    have hk' := hcell k hk
    have e : (zs.take n)[k] = zs[k] := by simp
    have e2 : zs.getD k 0 = zs[k] := by simp [List.getD_eq_getElem?_getD, List.getElem?_eq_getElem hk]
    rw [e2] at hk'
    obtain ⟨b, off, spot⟩ := a
    have hsp : spot = none := by
      have h0 := hcell 0 (by omega)
      simpa [Addr.add] using World.cell?_spot h0
    subst hsp
    rw [Go.WideShapes.add_plain] at hk'
    rw [e]
    exact ⟨b, off, rfl, World.block_lt_of_cell? W _ hk', hk', hwf _ (List.getElem_mem _)⟩
end
theorem IntsC.below {w w' : World} {v : Value} {zs : List Int} (h : IntsC w v zs) (hb : Below w.heap.size w w') : IntsC w' v zs := ⟨h.1.below hb, h.2⟩
end Go.Proofs.Ytaolebdcmdmnjaa
