/-
  Lists of numbers of 32 bits, and lists of lists of numbers, that come in: their cells.
-/
import Derived.Test.YtaolebdcmdmnjaaClose
import Derived.Deep.Matrix
namespace Go.Proofs.Ytaolebdcmdmnjaa
set_option maxRecDepth 100000
open Go.ChangeShapes Go.WideShapes Go.ChangeAt Go.RowKit

/-- a list of numbers of 32 bits that comes in: its cells -/
def U32sAt (W : World) (v : Value) (rs : List Nat) : Prop := ∃ A cap, v = .slice A rs.length cap ∧ rs.length ≤ maxLen ∧
  ∀ k (h : k < rs.length), ∃ b off, A = some ⟨b, off, none⟩ ∧ b < W.heap.size ∧ W.cell? ⟨b, off + k, none⟩ = some (.int .u32 (rs[k] : Nat)) ∧ rs[k] < 4294967296
/-- a list of lists of integers that comes in -/
def RowsAt2 (W : World) (v : Value) (Z : List (List Int)) : Prop := ∃ A cap, v = .slice A Z.length cap ∧ Z.length ≤ maxLen ∧
  ∀ k (h : k < Z.length), ∃ b off u, A = some ⟨b, off, none⟩ ∧ b < W.heap.size ∧ W.cell? ⟨b, off + k, none⟩ = some u ∧ IntsAt W u Z[k]
theorem u32_nat2 {x : Int} (h : (Lit.int .u32 x).wf = true) : ∃ k : Nat, x = (k : Int) ∧ k < 4294967296 := by
  have := bounds_u32 h
  exact ⟨x.toNat, by omega, by omega⟩
section
variable {H : Type} {enc : TypeId × Value → H}
theorem arg_u32s {t : TypeId} {d : DataW H} {W : World} {base : Nat} {v : Value} {p : List MemPlace} (ht : Try.prog.underlying t = some (.slice 29)) (hc : Try.prog.cellsOf 29 = 1)
    (hv : Value.okWide Try.prog W .any base t v) (h : DataW.Trod enc Try.prog W 0 (fun _ => true) true t v d p) : ∃ rs, U32sAt W v rs := by
  obtain ⟨A, n, c, rfl⟩ := okWide_slice ht hv
  obtain ⟨fuel, hf⟩ := h
  rcases open_ints ht Try.underlying29 hc hf with ⟨hcs, _⟩ | ⟨a, len, cap, zs, hcs, _, hl, hm, hn, _, hcell, hwf⟩
  · simp [Value.cells] at hcs
    obtain ⟨rfl, rfl, rfl⟩ := hcs
    exact ⟨[], _, _, rfl, Nat.zero_le _, fun k h => by simp at h⟩
  · simp [Value.cells] at hcs
    obtain ⟨rfl, rfl, rfl⟩ := hcs
    rw [if_pos rfl] at hn
    refine ⟨(zs.take n).map Int.toNat, some a, c, by rw [List.length_map, List.length_take, Nat.min_eq_left (by omega)], by rw [List.length_map, List.length_take]; omega, fun k h => ?_⟩
    have hk : k < zs.length := by rw [List.length_map, List.length_take] at h; omega
    have hk' := hcell k hk
    have e : ((zs.take n).map Int.toNat)[k] = zs[k].toNat := by simp
    have e2 : zs.getD k 0 = zs[k] := by simp [List.getD_eq_getElem?_getD, List.getElem?_eq_getElem hk]
    have hb := bounds_u32 (hwf _ (List.getElem_mem hk))
    rw [e2] at hk'
    obtain ⟨b, off, spot⟩ := a
    have hsp : spot = none := by
      have h0 := hcell 0 (by omega)
      simpa [Addr.add] using World.cell?_spot h0
    subst hsp
    rw [Go.WideShapes.add_plain] at hk'
    rw [e]
    refine ⟨b, off, rfl, World.block_lt_of_cell? W _ hk', ?_, by omega⟩
    rw [Int.toNat_of_nonneg hb.1]; exact hk'
theorem arg_rows {t : TypeId} {d : DataW H} {W : World} {base : Nat} {v : Value} {p : List MemPlace} (ht : Try.prog.underlying t = some (.slice 22)) (hc : Try.prog.cellsOf 22 = 1) (hc2 : Try.prog.cellsOf 3 = 1)
    (hv : Value.okWide Try.prog W .any base t v) (h : DataW.Trod enc Try.prog W 0 (fun _ => true) true t v d p) : ∃ Z, RowsAt2 W v Z := by
  obtain ⟨A0, n, c, rfl⟩ := okWide_slice ht hv
  obtain ⟨fuel, hf⟩ := h
  rcases Go.Deep.open_int_rows ht Try.underlying22 Try.underlying3 hc hc2 hf with ⟨hcs, _⟩ | ⟨a, len, cap, A, L, C, Z, hcs, _, hl, hm, _, hr⟩
  · simp [Value.cells] at hcs
    obtain ⟨rfl, rfl, rfl⟩ := hcs
    exact ⟨[], _, _, rfl, Nat.zero_le _, fun k h => by simp at h⟩
  · simp [Value.cells] at hcs
    obtain ⟨rfl, rfl, rfl⟩ := hcs
    refine ⟨(List.range n).map fun r => (Z r).take (L r), some a, c, by simp, by simp; omega, fun k h => ?_⟩
    have hk : k < n := by simpa using h
    obtain ⟨h1, h2, h3, h4, h5, h6, h7⟩ := hr k (by omega)
    obtain ⟨b, off, spot⟩ := a
    have hsp : spot = none := by
      have h0 := (hr 0 (by omega)).1
      simpa [Addr.add] using World.cell?_spot h0
    subst hsp
    rw [Go.WideShapes.add_plain] at h1
    have e : ((List.range n).map fun r => (Z r).take (L r))[k] = (Z k).take (L k) := by simp
    rw [e]
    refine ⟨b, off, _, rfl, World.block_lt_of_cell? W _ h1, h1, A k, C k, by rw [List.length_take, Nat.min_eq_left (by omega)], by rw [List.length_take]; omega, fun j hj => ?_⟩
    have hj' : j < (Z k).length := by rw [List.length_take] at hj; omega
    cases hA : A k with
    | none =>
      have := h6 hA
      omega
    | some a' =>
      have hj2 := (h7 a' hA).2 j (by omega)
      obtain ⟨b', off', spot'⟩ := a'
      have hsp' : spot' = none := by
        have h0 := (h7 _ hA).2 0 (by omega)
        simpa [Addr.add] using World.cell?_spot h0
      subst hsp'
      rw [Go.WideShapes.add_plain] at hj2
      have e1 : ((Z k).take (L k))[j] = (Z k)[j] := by simp
      have e2 : (Z k).getD j 0 = (Z k)[j] := by simp [List.getD_eq_getElem?_getD, List.getElem?_eq_getElem hj']
      rw [e2] at hj2
      rw [e1]
      exact ⟨b', off', rfl, World.block_lt_of_cell? W _ hj2, hj2, h5 _ (List.getElem_mem _)⟩
end
end Go.Proofs.Ytaolebdcmdmnjaa
