/-
  A list of Dues that comes in: its cells.
-/
import Derived.Test.YtkalfhhdljndfaaCkO
import Derived.Test.YtkalfhhdljndfaaCh3
import Derived.Test.YtkalfhhdljndfaaSameL
import Derived.Deep.Slices
namespace Go.Proofs.Ytkalfhhdljndfaa
set_option maxRecDepth 100000
open Go.ChangeShapes Go.WideShapes Go.ChangeAt Go.RowKit Go.Deep

def DueAt (W : World) (b off k : Nat) (x : DueT) : Prop := W.cell? ⟨b, off + k * 3, none⟩ = some (.int .i64 x.1) ∧ W.cell? ⟨b, off + k * 3 + 1, none⟩ = some (.string (bs x.2.1)) ∧ W.cell? ⟨b, off + k * 3 + 2, none⟩ = some (.int .i64 x.2.2) ∧ (Lit.int .i64 x.1).wf = true ∧ (Lit.int .i64 x.2.2).wf = true ∧ x.2.1.length ≤ maxLen
def DuesAt (W : World) (v : Value) (l : List DueT) : Prop := ∃ A c, v = .slice A l.length c ∧ l.length ≤ c ∧ c ≤ maxLen ∧ ∀ k (h : k < l.length), ∃ b off, A = some ⟨b, off, none⟩ ∧ b < W.heap.size ∧ DueAt W b off k l[k]
section
variable {H : Type} {enc : TypeId × Value → H}
theorem arg_dues {t : TypeId} {d : DataW H} {W : World} {base : Nat} {v : Value} {p : List MemPlace} (ht : Try.prog.underlying t = some (.slice 27)) (hc : Try.prog.cellsOf 27 = 3) (hci : Try.prog.cellsOf 3 = 1) (hcs1 : Try.prog.cellsOf 9 = 1)
    (hv : Value.okWide Try.prog W .any base t v) (h : DataW.Trod enc Try.prog W 0 (fun _ => true) true t v d p) : ∃ l, DuesAt W v l := by
  obtain ⟨A, n, c, rfl⟩ := okWide_slice ht hv
  obtain ⟨fuel, hf⟩ := h
  rcases open_slice ht hf with ⟨hcs, _⟩ | ⟨a, len, cap, m, n', D, Pl, hcs, hb, hl, hm, hmm, hx, hi⟩
  · simp [Value.cells] at hcs
    obtain ⟨rfl, rfl, rfl⟩ := hcs
    exact ⟨[], none, 0, rfl, Nat.le_refl _, Nat.zero_le _, fun k h => by simp at h⟩
  · simp [Value.cells] at hcs
    obtain ⟨rfl, rfl, rfl⟩ := hcs
    rw [if_pos rfl] at hmm
    have el : ∀ i, i < n → ∃ x : DueT, W.cell? (a.add (i * 3)) = some (.int .i64 x.1) ∧ W.cell? ((a.add (i * 3)).add 1) = some (.string (bs x.2.1)) ∧ W.cell? ((a.add (i * 3)).add 2) = some (.int .i64 x.2.2) ∧ (Lit.int .i64 x.1).wf = true ∧ (Lit.int .i64 x.2.2).wf = true ∧ x.2.1.length ≤ maxLen := fun i hin => by
      obtain ⟨cs', hcc, ht'⟩ := hi i (by omega)
      rw [hc] at hcc
      obtain ⟨_, hlen, hcell⟩ := World.cells?_some hcc
      obtain ⟨xs, n9, _, _, _, hxl, hff⟩ := DataW.trod_struct Try.underlying27 ht'
      have f0 := hff 0 _ rfl; have f1 := hff 1 _ rfl; have f2 := hff 2 _ rfl
      have e0 := hcell 0 (by omega); have e1 := hcell 1 (by omega); have e2 := hcell 2 (by omega)
      match cs', hlen with
      | [c0, c1, c2], _ =>
        have hx3 : xs.length = 3 := hxl
        rw [List.getElem?_eq_getElem (by omega : 0 < xs.length)] at f0
        rw [List.getElem?_eq_getElem (by omega : 1 < xs.length)] at f1
        rw [List.getElem?_eq_getElem (by omega : 2 < xs.length)] at f2
        obtain ⟨z0, h0, _, w0⟩ := DataW.trod_int Try.underlying3 f0
        obtain ⟨s1, h1, _, w1⟩ := DataW.trod_string Try.underlying9 f1
        obtain ⟨z2, h2, _, w2⟩ := DataW.trod_int Try.underlying3 f2
        have g0 : c0 = .int .i64 z0 := by
          have : ([c0, c1, c2].drop 0).take (Try.prog.cellsOf 3) = [.int .i64 z0] := h0
          rw [hci] at this; simpa using this
        have g1 : c1 = .string s1 := by
          have : ([c0, c1, c2].drop 1).take (Try.prog.cellsOf 9) = [.string s1] := h1
          rw [hcs1] at this; simpa using this
        have g2 : c2 = .int .i64 z2 := by
          have : ([c0, c1, c2].drop 2).take (Try.prog.cellsOf 3) = [.int .i64 z2] := h2
          rw [hci] at this; simpa using this
        subst g0 g1 g2
        refine ⟨(z0, s1.toList, z2), ?_, ?_, ?_, w0, w2, ?_⟩
        · rw [show a.add (i * 3) = (a.add (i * 3)).add 0 by simp [Addr.add]]; exact e0
        · rw [e1]; show some (Value.string s1) = some (.string (bs s1.toList)); rw [Lib.toList_data]; rfl
        · exact e2
        · rw [Lib.toList_data]; exact w1
    obtain ⟨X, hX⟩ : ∃ X : Nat → DueT, ∀ i, i < n → W.cell? (a.add (i * 3)) = some (.int .i64 (X i).1) ∧ W.cell? ((a.add (i * 3)).add 1) = some (.string (bs (X i).2.1)) ∧ W.cell? ((a.add (i * 3)).add 2) = some (.int .i64 (X i).2.2) ∧ (Lit.int .i64 (X i).1).wf = true ∧ (Lit.int .i64 (X i).2.2).wf = true ∧ (X i).2.1.length ≤ maxLen := by
      refine ⟨fun i => if h : i < n then Classical.choose (el i h) else (0, [], 0), fun i hin => ?_⟩
      simp only [dif_pos hin]
      exact Classical.choose_spec (el i hin)
    refine ⟨(List.range n).map X, some a, c, by rw [List.length_map, List.length_range], by rw [List.length_map, List.length_range]; omega, hm, fun k hk => ?_⟩
    have hkn : k < n := by rw [List.length_map, List.length_range] at hk; exact hk
    obtain ⟨h0, h1, h2, h3, h4, h5⟩ := hX k hkn
    have e : ((List.range n).map X)[k] = X k := by simp
    rw [e]
    obtain ⟨b, off, spot⟩ := a
    have hsp : spot = none := by
      simpa [Addr.add] using World.cell?_spot (hX 0 (by omega)).1
    subst hsp
    simp only [Go.WideShapes.add_plain] at h0 h1 h2
    exact ⟨b, off, rfl, World.block_lt_of_cell? W _ h0, h0, h1, h2, h3, h4, h5⟩
end
theorem DuesAt.below {w w' : World} {v : Value} {l : List DueT} (h : DuesAt w v l) (hb : Below w.heap.size w w') : DuesAt w' v l := by
  obtain ⟨A, c, e, h1, h2, h3⟩ := h
  refine ⟨A, c, e, h1, h2, fun k hk => ?_⟩
  obtain ⟨b, off, eA, hlt, h4, h5, h6, h7⟩ := h3 k hk
  exact ⟨b, off, eA, Nat.lt_of_lt_of_le hlt hb.size, (hb.cell (p := ⟨b, off + k * 3, none⟩) hlt).trans h4, (hb.cell (p := ⟨b, off + k * 3 + 1, none⟩) hlt).trans h5, (hb.cell (p := ⟨b, off + k * 3 + 2, none⟩) hlt).trans h6, h7⟩
end Go.Proofs.Ytkalfhhdljndfaa
