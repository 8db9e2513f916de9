/-
  A list of moves that comes in: its cells.
-/
import Derived.Test.YtaoinedndnleoaaGreatTil
import Derived.Deep.Slices
namespace Go.Proofs.YtaoinedndnleoaaGreat
set_option maxRecDepth 100000
open Go.ChangeShapes Go.WideShapes Go.ChangeAt Go.RowKit Go.Deep

structure MovT where
  tr : Int
  us : Int
  how : Int
def MovAt (W : World) (b off k : Nat) (x : MovT) : Prop := W.cell? ⟨b, off + k * 3, none⟩ = some (.int .i64 x.tr) ∧ W.cell? ⟨b, off + k * 3 + 1, none⟩ = some (.int .i64 x.us) ∧ W.cell? ⟨b, off + k * 3 + 2, none⟩ = some (.int .i64 x.how) ∧ (Lit.int .i64 x.tr).wf = true ∧ (Lit.int .i64 x.us).wf = true ∧ (Lit.int .i64 x.how).wf = true
def MovsAt (W : World) (v : Value) (l : List MovT) : Prop := ∃ A c, v = .slice A l.length c ∧ l.length ≤ c ∧ c ≤ maxLen ∧ ∀ k (h : k < l.length), ∃ b off, A = some ⟨b, off, none⟩ ∧ b < W.heap.size ∧ MovAt W b off k l[k]
section
variable {H : Type} {enc : TypeId × Value → H}
theorem arg_movs {t : TypeId} {d : DataW H} {W : World} {base : Nat} {v : Value} {p : List MemPlace} (ht : Tryz.prog.underlying t = some (.slice 64)) (hc : Tryz.prog.cellsOf 64 = 3) (hci : Tryz.prog.cellsOf 3 = 1) 
    (hv : Value.okWide Tryz.prog W .any base t v) (h : DataW.Trod enc Tryz.prog W 0 (fun _ => true) true t v d p) : ∃ l, MovsAt W v l := by
  obtain ⟨A, n, c, rfl⟩ := okWide_slice ht hv
  obtain ⟨fuel, hf⟩ := h
  rcases open_slice ht hf with ⟨hcs, _⟩ | ⟨a, len, cap, m, n', D, Pl, hcs, hb, hl, hm, hmm, hx, hi⟩
  · simp [Value.cells] at hcs
    obtain ⟨rfl, rfl, rfl⟩ := hcs
    exact ⟨[], none, 0, rfl, Nat.le_refl _, Nat.zero_le _, fun k h => by simp at h⟩
  · simp [Value.cells] at hcs
    obtain ⟨rfl, rfl, rfl⟩ := hcs
    rw [if_pos rfl] at hmm
    have el : ∀ i, i < n → ∃ x : MovT, W.cell? (a.add (i * 3)) = some (.int .i64 x.tr) ∧ W.cell? ((a.add (i * 3)).add 1) = some (.int .i64 x.us) ∧ W.cell? ((a.add (i * 3)).add 2) = some (.int .i64 x.how) ∧ (Lit.int .i64 x.tr).wf = true ∧ (Lit.int .i64 x.us).wf = true ∧ (Lit.int .i64 x.how).wf = true := fun i hin => by
      obtain ⟨cs', hcc, ht'⟩ := hi i (by omega)
      rw [hc] at hcc
      obtain ⟨_, hlen, hcell⟩ := World.cells?_some hcc
      obtain ⟨xs, n9, _, _, _, hxl, hff⟩ := DataW.trod_struct Tryz.underlying64 ht'
      have f0 := hff 0 _ rfl; have f1 := hff 1 _ rfl; have f2 := hff 2 _ rfl
      have e0 := hcell 0 (by omega); have e1 := hcell 1 (by omega); have e2 := hcell 2 (by omega)
      match cs', hlen with
      | [c0, c1, c2], _ =>
        have hx3 : xs.length = 3 := hxl
        rw [List.getElem?_eq_getElem (by omega : 0 < xs.length)] at f0
        rw [List.getElem?_eq_getElem (by omega : 1 < xs.length)] at f1
        rw [List.getElem?_eq_getElem (by omega : 2 < xs.length)] at f2
        obtain ⟨z0, h0, _, w0⟩ := DataW.trod_int Tryz.underlying3 f0
        obtain ⟨z1, h1, _, w1⟩ := DataW.trod_int Tryz.underlying3 f1
        obtain ⟨z2, h2, _, w2⟩ := DataW.trod_int Tryz.underlying3 f2
        have g0 : c0 = .int .i64 z0 := by
          have : ([c0, c1, c2].drop 0).take (Tryz.prog.cellsOf 3) = [.int .i64 z0] := h0
          rw [hci] at this; simpa using this
        have g1 : c1 = .int .i64 z1 := by
          have : ([c0, c1, c2].drop 1).take (Tryz.prog.cellsOf 3) = [.int .i64 z1] := h1
          rw [hci] at this; simpa using this
        have g2 : c2 = .int .i64 z2 := by
          have : ([c0, c1, c2].drop 2).take (Tryz.prog.cellsOf 3) = [.int .i64 z2] := h2
          rw [hci] at this; simpa using this
        subst g0 g1 g2
        refine ⟨⟨z0, z1, z2⟩, ?_, ?_, ?_, w0, w1, w2⟩
        · rw [show a.add (i * 3) = (a.add (i * 3)).add 0 by simp [Addr.add]]; exact e0
        · exact e1
        · exact e2
    obtain ⟨X, hX⟩ : ∃ X : Nat → MovT, ∀ i, i < n → W.cell? (a.add (i * 3)) = some (.int .i64 (X i).tr) ∧ W.cell? ((a.add (i * 3)).add 1) = some (.int .i64 (X i).us) ∧ W.cell? ((a.add (i * 3)).add 2) = some (.int .i64 (X i).how) ∧ (Lit.int .i64 (X i).tr).wf = true ∧ (Lit.int .i64 (X i).us).wf = true ∧ (Lit.int .i64 (X i).how).wf = true := by
      refine ⟨fun i => if h : i < n then Classical.choose (el i h) else ⟨0, 0, 0⟩, fun i hin => ?_⟩
      simp only [dif_pos hin]
      exact Classical.choose_spec (el i hin)
    refine ⟨(List.range n).map X, some a, c, by rw [List.length_map, List.length_range], by rw [List.length_map, List.length_range]; omega, hm, fun k hk => ?_⟩
    have hkn : k < n := by rw [List.length_map, List.length_range] at hk; exact hk
    obtain ⟨h0, h1, h2, h3, h4, h5⟩ := hX k hkn
    have e : ((List.range n).map X)[k] = X k := by simp
    rw [e]
    obtain ⟨b, off, spot⟩ := a
    have hsp : spot = none := by
      simpa [Addr.add] using World.cell?_spot (hX 0 (by omega)).1
    subst hsp
    simp only [Go.WideShapes.add_plain] at h0 h1 h2
    exact ⟨b, off, rfl, World.block_lt_of_cell? W _ h0, h0, h1, h2, h3, h4, h5⟩
end
theorem MovsAt.below {w w' : World} {v : Value} {l : List MovT} (h : MovsAt w v l) (hb : Below w.heap.size w w') : MovsAt w' v l := by
  obtain ⟨A, c, e, h1, h2, h3⟩ := h
  refine ⟨A, c, e, h1, h2, fun k hk => ?_⟩
  obtain ⟨b, off, eA, hlt, h4, h5, h6, h7⟩ := h3 k hk
  exact ⟨b, off, eA, Nat.lt_of_lt_of_le hlt hb.size, (hb.cell (p := ⟨b, off + k * 3, none⟩) hlt).trans h4, (hb.cell (p := ⟨b, off + k * 3 + 1, none⟩) hlt).trans h5, (hb.cell (p := ⟨b, off + k * 3 + 2, none⟩) hlt).trans h6, h7⟩
end Go.Proofs.YtaoinedndnleoaaGreat
