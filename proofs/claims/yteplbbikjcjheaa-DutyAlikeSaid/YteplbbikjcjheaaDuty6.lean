/-
  The lists of tasks that the statements on duties are made of, in memory of the call's own.
-/
import Derived.Test.YteplbbikjcjheaaDuty5
namespace Go.Proofs.Yteplbbikjcjheaa
set_option maxRecDepth 100000
open Go.ChangeShapes Go.WideShapes Go.ChangeAt Go.RowKit

theorem Try.infoStrings : (Try.prog.info? 25).map (fun i => (i.zero, i.size, i.bytes)) = some (some (.slice none 0 0), 1, 24) := by kernel_rfl
/-- rows of unlike types lie in unlike blocks -/
theorem own_apart2 {w : World} {b1 b2 e1 e2 s1 s2 n1 n2 : Nat} {v1 v2 : Value} {xs1 xs2 : List Value} (h : w.ownsRow b1 e1 s1 v1 n1 xs1) (h' : w.ownsRow b2 e2 s2 v2 n2 xs2) (hne : e1 ≠ e2) : v1.ownBlock = none ∨ v1.ownBlock ≠ v2.ownBlock := by
  rcases h.2 with ⟨hv, _⟩ | ⟨g, cap, cur, hv, _, hg, _⟩
  · left; rw [hv]; rfl
  · right
    rcases h'.2 with ⟨hv', _⟩ | ⟨g', cap', cur', hv', _, hg', _⟩
    · rw [hv, hv']; simp [Value.ownBlock]
    · rw [hv, hv']
      intro e
      have e2 : g = g' := by simpa [Value.ownBlock] using e
      subst e2
      rw [hg] at hg'
      simp only [Option.some.injEq, Obj.cells.injEq] at hg'
      exact hne hg'.2.1
theorem own_mono2 {w : World} {base base' e size n : Nat} {v : Value} {xs : List Value} (h : w.ownsRow base e size v n xs) (hle : base' ≤ base) : w.ownsRow base' e size v n xs :=
  ⟨h.1, h.2.elim .inl fun ⟨g, cap, cur, e, hb, r⟩ => .inr ⟨g, cap, cur, e, Nat.le_trans hle hb, r⟩⟩
/-- a list of lists in memory of the call's own -/
def OwnLL (w : World) (base : Nat) (v : Value) (L : List (List Tx)) : Prop := ∃ cs : List Value, cs.length = L.length ∧ w.ownsRow base 25 1 v L.length cs ∧ ∀ j (hj : j < L.length), ∃ u, cs[j]? = some u ∧ OwnL w base u L[j]
theorem ownLL_nil (w : World) (base : Nat) : OwnLL w base (.slice none 0 0) [] := ⟨[], rfl, World.ownsRow_nil _ _ _ _, fun j hj => by simp at hj⟩
theorem OwnLL.below {w w' : World} {base : Nat} {v : Value} {L : List (List Tx)} (h : OwnLL w base v L) (hb : Below w.heap.size w w') (hB : base ≤ w.heap.size) : OwnLL w' base v L :=
  let ⟨cs, hl, ho, hc⟩ := h
  ⟨cs, hl, own_below ho hb hB, fun j hj => let ⟨u, e, hu⟩ := hc j hj; ⟨u, e, own_below hu hb hB⟩⟩
theorem OwnLL.snoc {w w' : World} {base : Nat} {v v' u : Value} {L : List (List Tx)} {l : List Tx} {cs : List Value} (hl : cs.length = L.length) (ho : w.ownsRow base 25 1 v L.length cs) (hc : ∀ j (hj : j < L.length), ∃ u, cs[j]? = some u ∧ OwnL w base u L[j]) (hu : OwnL w base u l)
    (hown : w'.ownsRow base 25 1 v' (L.length + 1) (cs ++ [u])) (hg : w.grownBy w' v.ownBlock) : OwnLL w' base v' (L ++ [l]) := by
  have keep : ∀ {x : Value} {m : List Tx}, OwnL w base x m → OwnL w' base x m := fun {x m} h => World.ownsRow.kept h hg (own_apart2 h ho (by decide))
  refine ⟨cs ++ [u], by simp [hl], by rw [List.length_append]; exact hown, fun j hj => ?_⟩
  by_cases e : j < L.length
  · obtain ⟨x, h1, h2⟩ := hc j e
    refine ⟨x, ?_, ?_⟩
    · rw [List.getElem?_append_left (by omega)]; exact h1
    · rw [List.getElem_append_left e]; exact keep h2
  · have ej : j = L.length := by simp at hj; omega
    subst ej
    refine ⟨u, ?_, ?_⟩
    · rw [List.getElem?_append_right (by omega)]; simp [hl]
    · simp; exact keep hu
theorem llAt_of {w : World} {base c : Nat} {A : Option Addr} {L : List (List Tx)} (h : OwnLL w base (.slice A L.length c) L) : LLAt w A c L := by
  obtain ⟨cs, hl, ho, hc⟩ := h
  refine ⟨own_cap ho, fun j hj => ?_⟩
  obtain ⟨g, cap', e, _, hgl, _, hcell⟩ := own_form ho (by omega)
  obtain ⟨u, hu, ou⟩ := hc j hj
  obtain ⟨B, d, rfl⟩ := own_slice ou
  have eA : A = some ⟨g, 0, none⟩ := by injection e
  exact ⟨g, B, d, eA, hgl, hcell _ _ hu, listAt_of ou⟩
theorem ownLL_slice {w : World} {base : Nat} {v : Value} {L : List (List Tx)} (h : OwnLL w base v L) : ∃ A c, v = .slice A L.length c := let ⟨_, _, ho, _⟩ := h; own_slice ho
theorem ownL_slice {w : World} {base : Nat} {v : Value} {l : List Tx} (h : OwnL w base v l) : ∃ A c, v = .slice A l.length c := own_slice h
def tkLL (Z : List (List Int)) (k : Nat) : List (List Tx) := (Z.take k).map tkL
theorem tkLL_len (Z : List (List Int)) {k : Nat} (hk : k ≤ 4) : (tkLL Z k).length ≤ 4 := by unfold tkLL; rw [List.length_map, List.length_take]; omega
theorem tkLL_each {Z : List (List Int)} {k : Nat} : ∀ l ∈ tkLL Z k, l.length ≤ 6 ∧ ∀ x ∈ l, x.length = 2 := fun l hl => by
  obtain ⟨z, _, rfl⟩ := List.mem_map.1 hl
  exact ⟨tkL_len z, tkL_size⟩
theorem IntsAt.below {w w' : World} {v : Value} {zs : List Int} (h : IntsAt w v zs) (hb : Below w.heap.size w w') : IntsAt w' v zs :=
  let ⟨A, c, e, hl, hc⟩ := h
  ⟨A, c, e, hl, fun k hk => let ⟨b, off, e, hbl, hx, hw⟩ := hc k hk; ⟨b, off, e, Nat.lt_of_lt_of_le hbl hb.size, (hb.cell (p := ⟨b, off + k, none⟩) hbl).trans hx, hw⟩⟩
end Go.Proofs.Yteplbbikjcjheaa
