/-
  The shapes that the statements are made of: what is known of them.
-/
import Derived.Test.YtbacdllokgcohaaCA
import Derived.Test.YtbacdllokgcohaaSameL
import Derived.Deep.AppendLies
import Derived.Deep.CutBlock
import Derived.Maps.Range
import Derived.Test.YtbacdllokgcohaaEnt0
import Derived.ArgAppend
import Derived.Deep.Upon
import Derived.Deep.MidRow
import Derived.Test.YtbacdllokgcohaaEn8
import Derived.Test.YtbacdllokgcohaaOwnSome
import Derived.Test.YtbacdllokgcohaaSh1b
import Derived.Test.YtbacdllokgcohaaCfg1
import Derived.Test.YtbacdllokgcohaaSh6
namespace Go.Proofs.Ytbacdllokgcohaa
set_option maxRecDepth 100000
open Go.ChangeShapes Go.WideShapes Go.ChangeAt Go.RowKit

/-- kinds and parents that may be -/
def ShOk (ks ps : List Int) : Prop := ks.length = ps.length ∧ (∀ k, k < ks.length → 1 ≤ ks.getD k 0 ∧ ks.getD k 0 ≤ 4) ∧ (∀ k, k < ks.length → -1 ≤ ps.getD k 0 ∧ ps.getD k 0 < k) ∧ hl ks 0 = true
theorem getD_snoc (l : List Int) (x : Int) (k : Nat) : (l ++ [x]).getD k 0 = if k < l.length then l.getD k 0 else if k = l.length then x else 0 := by
  simp only [List.getD_eq_getElem?_getD]
  split
  · rename_i h; rw [List.getElem?_append_left h]
  · split
    · rename_i h1 h2; subst h2; simp
    · rename_i h1 h2; rw [List.getElem?_append_right (by omega)]; rw [List.getElem?_eq_none (by simp; omega)]; rfl
theorem hl_snoc {l : List Int} {x : Int} (h : 0 < l.length) : hl (l ++ [x]) 0 = hl l 0 := by
  unfold hl
  rw [getD_snoc, if_pos h]
theorem ShOk.snoc {ks ps : List Int} (h : ShOk ks ps) (h0 : 0 < ks.length) {y p : Int} (hy : 1 ≤ y ∧ y ≤ 4) (hp : -1 ≤ p ∧ p < ks.length) : ShOk (ks ++ [y]) (ps ++ [p]) := by
  obtain ⟨h1, h2, h3, h4⟩ := h
  refine ⟨by simp [h1], fun k hk => ?_, fun k hk => ?_, by rw [hl_snoc h0]; exact h4⟩
  · rw [List.length_append, List.length_singleton] at hk
    rw [getD_snoc]
    by_cases e : k < ks.length
    · rw [if_pos e]; exact h2 k e
    · rw [if_neg e, if_pos (by omega)]; exact hy
  · rw [List.length_append, List.length_singleton] at hk
    rw [getD_snoc]
    by_cases e : k < ks.length
    · rw [if_pos (by omega)]; exact h3 k e
    · rw [if_neg (by omega), if_pos (by omega)]; omega
/-- two rows of the call's own, in two blocks -/
def TwoAt (w : World) (base g c g' c' : Nat) (ks ps : List Int) : Prop := g ≠ g' ∧ OwnI w base (.slice (some ⟨g, 0, none⟩) ks.length c) ks ∧ OwnI w base (.slice (some ⟨g', 0, none⟩) ps.length c') ps
theorem TwoAt.frozen {w : World} {base g c g' c' : Nat} {ks ps : List Int} (h : TwoAt w base g c g' c' ks ps) (j : Nat) : w.frozen? ⟨g, j, none⟩ = false := World.ownsRow.frozenAt h.2.1 j
theorem TwoAt.base {w : World} {base g c g' c' : Nat} {ks ps : List Int} (h : TwoAt w base g c g' c' ks ps) : base ≤ g := (World.ownsRow.lt h.2.1 g rfl).1
theorem set_below {B : Nat} {a w : World} {g k : Nat} {u : Value} (h : Below B a w) (hB : B ≤ w.heap.size) (hg : B ≤ g) : Below B a (w.setCell ⟨g, k, none⟩ u) :=
  h.grown (grown_setCell w g k u) hB (fun j e => by injection e with e; omega)
theorem getD_set (l : List Int) (i k : Nat) (x : Int) : (l.set i x).getD k 0 = if k = i ∧ i < l.length then x else l.getD k 0 := by
  simp only [List.getD_eq_getElem?_getD, List.getElem?_set]
  by_cases e : i = k
  · subst e
    by_cases h : i < l.length
    · simp [h]
    · simp [h]
  · rw [if_neg e, if_neg (by rintro ⟨h, _⟩; exact e h.symm)]
theorem ShOk.set {ks ps : List Int} (h : ShOk ks ps) {i : Nat} {x : Int} (hx : 1 ≤ x ∧ x ≤ 4) (h0 : i = 0 → x = 1 ∨ x = 2) : ShOk (ks.set i x) ps := by
  obtain ⟨h1, h2, h3, h4⟩ := h
  refine ⟨by rw [List.length_set]; exact h1, fun k hk => ?_, fun k hk => h3 k (by rwa [List.length_set] at hk), ?_⟩
  · rw [List.length_set] at hk
    rw [getD_set]
    split
    · exact hx
    · exact h2 k hk
  · unfold hl at *
    rw [getD_set]
    split
    · rename_i e
      rcases h0 e.1.symm with e | e <;> rw [e] <;> rfl
    · exact h4
end Go.Proofs.Ytbacdllokgcohaa
/-
  What is known of the shapes that the statements are made of, whole: a history's parent is Plain and has a state, a parent may hold states.
-/
namespace Go.Proofs.Ytbacdllokgcohaa
set_option maxRecDepth 100000

/-- a shape in the making: up to j the histories of the first state are well -/
def ShW (ks ps : List Int) (j : Nat) : Prop := ShOk ks ps ∧ (∀ k q : Nat, k < ks.length → ps.getD k 0 = q → hl ks q = true) ∧
  ∀ k, k < ks.length → hl ks k = false → ∃ q : Nat, ps.getD k 0 = q ∧ (ks.getD q 0 = 1 ∨ (q = 0 ∧ j ≤ k)) ∧ ∃ i, i < ks.length ∧ isKid ks ps q i = true
/-- a parent that may be one -/
def parOk (ks : List Int) (p : Int) : Prop := p = -1 ∨ ∃ q : Nat, p = q ∧ hl ks q = true
/-- a history stands behind a state of a Plain one -/
def behindY (ks ps : List Int) (p y : Int) : Prop := 3 ≤ y → ∃ q i : Nat, p = q ∧ ks.getD q 0 = 1 ∧ i < ks.length ∧ isKid ks ps q i = true
section
variable {ks ps : List Int} {j k : Nat}
theorem hl_in {i : Nat} (h1 : 1 ≤ ks.getD i 0) (h2 : ks.getD i 0 ≤ 2) : hl ks i = true := by
  unfold hl
  have : ks.getD i 0 = 1 ∨ ks.getD i 0 = 2 := by omega
  rcases this with e | e <;> rw [e] <;> rfl
theorem hl_no {i : Nat} (h : hl ks i = false) : ks.getD i 0 ≠ 1 ∧ ks.getD i 0 ≠ 2 := by
  unfold hl at h
  rw [Bool.or_eq_false_iff] at h
  exact ⟨by simpa using h.1, by simpa using h.2⟩
theorem ShW.start : ShW [1] [-1] 1 := by
  refine ⟨⟨rfl, fun k hk => ?_, fun k hk => ?_, by decide⟩, fun k q hk e => ?_, fun k hk hh => ?_⟩
  · simp at hk; subst hk; decide
  · simp at hk; subst hk; decide
  · simp at hk; subst hk; simp at e
  · simp at hk; subst hk; exact absurd hh (by decide)
theorem parOk.of (h : ShW ks ps k) {q : Nat} (hq : q < ks.length) (h3 : ks.getD q 0 < 3) : parOk ks q := .inr ⟨q, rfl, hl_in (h.1.2.1 q hq).1 (by omega)⟩
theorem ShW.snoc (h : ShW ks ps k) (hk : ks.length = k) (h0 : 0 < k) {y p : Int} (hy : 1 ≤ y ∧ y ≤ 4) (hp : -1 ≤ p ∧ p < k) (hpar : parOk ks p) (hb : behindY ks ps p y) : ShW (ks ++ [y]) (ps ++ [p]) (k + 1) := by
  obtain ⟨h1, h2, h3⟩ := h
  have hpl : ps.length = k := by rw [← h1.1]; exact hk
  have gk : ∀ i, (ks ++ [y]).getD i 0 = if i < k then ks.getD i 0 else if i = k then y else 0 := fun i => by rw [getD_snoc, hk]
  have gp : ∀ i, (ps ++ [p]).getD i 0 = if i < k then ps.getD i 0 else if i = k then p else 0 := fun i => by rw [getD_snoc, hpl]
  have gh : ∀ i, i < k → hl (ks ++ [y]) i = hl ks i := fun i hi => by unfold hl; rw [gk, if_pos hi]
  have gi : ∀ (a : Int) (i : Nat), i < k → isKid (ks ++ [y]) (ps ++ [p]) a i = isKid ks ps a i := fun a i hi => by unfold isKid; rw [gp, if_pos hi, gh i hi]
  have hl' : (ks ++ [y]).length = k + 1 := by rw [List.length_append, hk]; rfl
  refine ⟨h1.snoc (by omega) hy ⟨hp.1, by omega⟩, fun i q hi e => ?_, fun i hi hh => ?_⟩
  · rw [hl'] at hi
    rw [gp] at e
    by_cases hik : i < k
    · rw [if_pos hik] at e
      have := (h1.2.2.1 i (by omega)).2
      rw [gh q (by omega)]
      exact h2 i q (by omega) e
    · rw [if_neg hik, if_pos (by omega)] at e
      rw [gh q (by omega)]
      rcases hpar with e' | ⟨q', e', hh⟩
      · omega
      · have : q' = q := by omega
        subst this; exact hh
  · rw [hl'] at hi
    rw [hl']
    by_cases hik : i < k
    · rw [gh i hik] at hh
      obtain ⟨q, e1, e2, i', hi', hki⟩ := h3 i (by omega) hh
      have := (h1.2.2.1 i (by omega)).2
      refine ⟨q, by rw [gp, if_pos hik]; exact e1, .inl ?_, i', by omega, by rw [gi _ _ (by omega)]; exact hki⟩
      rw [gk, if_pos (by omega)]
      rcases e2 with e2 | e2
      · exact e2
      · omega
    · have hik' : i = k := by omega
      have hn := hl_no hh
      rw [gk, if_neg hik, if_pos hik'] at hn
      obtain ⟨q, i', e1, e2, e3, e4⟩ := hb (by omega)
      refine ⟨q, by rw [gp, if_neg hik, if_pos hik']; exact e1, .inl ?_, i', by omega, by rw [gi _ _ (by omega)]; exact e4⟩
      rw [gk, if_pos (by omega)]; exact e2
end
end Go.Proofs.Ytbacdllokgcohaa
/-
  A queue of integers: a slice of the call's own that is cut at its head and appended to.
-/
namespace Go.Proofs.Ytbacdllokgcohaa
set_option maxRecDepth 100000
open Go.ChangeShapes Go.WideShapes Go.ChangeAt Go.RowKit

/-- a queue -/
def QAt (w : World) (B : Nat) (v : Value) (L : List Int) : Prop := ∃ g o c : Nat, v = .slice (some ⟨g, o, none⟩) L.length c ∧ B ≤ g ∧ g < w.heap.size ∧ L.length ≤ c ∧
  (∀ j (h : j < L.length), w.cell? ⟨g, o + j, none⟩ = some (.int .i64 L[j])) ∧ ∀ j, j < c - L.length → (w.cell? ⟨g, o + L.length + j, none⟩).isSome = true ∧ w.frozen? ⟨g, o + L.length + j, none⟩ = false
theorem QAt.below {w w' : World} {B : Nat} {v : Value} {L : List Int} (h : QAt w B v L) (hb : Below w.heap.size w w') : QAt w' B v L := by
  obtain ⟨g, o, c, e, h1, h2, h3, h4, h5⟩ := h
  have hg := hb.block g h2
  refine ⟨g, o, c, e, h1, Nat.lt_of_lt_of_le h2 hb.size, h3, fun j hj => (World.cell?_of_block (a := ⟨g, o + j, none⟩) hg).trans (h4 j hj), fun j hj => ?_⟩
  rw [World.cell?_of_block (a := ⟨g, o + L.length + j, none⟩) hg, World.frozen?_of_block (a := ⟨g, o + L.length + j, none⟩) hg]
  exact h5 j hj
theorem QAt.ofRow {w : World} {B g : Nat} {cur : Array Value} {c : Nat} {L : List Int} (hB : B ≤ g) (hg : w.heap[g]? = some (.cells cur 3 (0, 0))) (hs : cur.size = c) (hl : L.length ≤ c) (hc : ∀ j (h : j < L.length), cur[j]? = some (.int .i64 L[j])) :
    QAt w B (.slice (some ⟨g, 0, none⟩) L.length c) L := by
  have hlt : g < w.heap.size := (Array.getElem?_eq_some_iff.1 hg).1
  have hcell : ∀ j, w.cell? ⟨g, j, none⟩ = cur[j]? := fun j => cell_of_row w g j cur _ _ hg
  refine ⟨g, 0, c, rfl, hB, hlt, hl, fun j hj => by rw [Nat.zero_add, hcell]; exact hc j hj, fun j hj => ⟨?_, ?_⟩⟩
  · rw [hcell, Nat.zero_add]
    have : L.length + j < cur.size := by omega
    simp [this]
  · simp [World.frozen?, hg]
theorem QAt.start (w : World) (B : Nat) (x : Int) (hB : B ≤ w.heap.size) : QAt (w.alloc (.cells #[.int .i64 x] 3)) B (.slice (some ⟨w.heap.size, 0, none⟩) 1 1) [x] :=
  QAt.ofRow (L := [x]) hB (heap_alloc_new w _) rfl (Nat.le_refl _) (fun j hj => by simp at hj; subst hj; rfl)
end Go.Proofs.Ytbacdllokgcohaa
/-
  The document's Under; lists of numbers of 32 bits of the call's own; what a part of a configuration is as a number.
-/
namespace Go.Proofs.Ytbacdllokgcohaa
set_option maxRecDepth 100000
open Go.ChangeShapes Go.WideShapes Go.ChangeAt Go.RowKit

theorem Try.infoU5 : (Try.prog.info? 33).map (fun i => (i.zero, i.size, i.bytes)) = some (some (.int .u32 0), 1, 4) := by kernel_rfl
def ucl (l : List Nat) : List Value := l.map fun s : Nat => Value.int .u32 (s : Int)
theorem ucl_len (l : List Nat) : (ucl l).length = l.length := List.length_map ..
theorem ucl_at (l : List Nat) (j : Nat) (hj : j < l.length) : (ucl l)[j]? = some (.int .u32 (l[j] : Nat)) := by simp [ucl, hj]
theorem ucl_one (l : List Nat) : ∀ u ∈ ucl l, u.oneCell' = true := by
  intro u hu
  simp only [ucl, List.mem_map] at hu
  obtain ⟨p, _, rfl⟩ := hu
  rfl
/-- a list of numbers of 32 bits in memory of the call's own -/
def OwnU (w : World) (base : Nat) (v : Value) (l : List Nat) : Prop := w.ownsRow base 33 1 v l.length (ucl l)
theorem OwnU.nil (w : World) (base : Nat) : OwnU w base (.slice none 0 0) [] := World.ownsRow_nil _ _ _ _
theorem OwnU.snoc {w : World} {base : Nat} {v : Value} {l : List Nat} {k : Nat} (h : w.ownsRow base 33 1 v (l.length + 1) (ucl l ++ [.int .u32 (k : Int)])) : OwnU w base v (l ++ [k]) := by
  unfold OwnU
  rw [List.length_append]
  have : ucl (l ++ [k]) = ucl l ++ [.int .u32 (k : Int)] := by simp [ucl]
  rw [this]; exact h
theorem OwnU.at {w : World} {base : Nat} {v : Value} {l : List Nat} (h : OwnU w base v l) (hk : ∀ k ∈ l, k < 4294967296) (hl : l.length ≤ 1000) : U32sAt w v l := by
  obtain ⟨A, c, rfl⟩ := own_slice h
  refine ⟨A, c, rfl, by unfold maxLen; omega, fun j hj => ?_⟩
  obtain ⟨g, cap, e, _, hg, _, hc⟩ := own_form h (by omega)
  injection e with e1 _ _
  exact ⟨g, 0, e1, hg, by rw [Nat.zero_add]; exact hc j _ (ucl_at l j hj), hk _ (List.getElem_mem hj)⟩
theorem RowsAt2.below {w w' : World} {v : Value} {Z : List (List Int)} (h : RowsAt2 w v Z) (hb : Below w.heap.size w w') : RowsAt2 w' v Z := by
  obtain ⟨A, c, e, hl, hc⟩ := h
  refine ⟨A, c, e, hl, fun k hk => ?_⟩
  obtain ⟨b, off, u, e2, hlt, hx, hi⟩ := hc k hk
  exact ⟨b, off, u, e2, Nat.lt_of_lt_of_le hlt hb.size, (hb.cell (p := ⟨b, off + k, none⟩) hlt).trans hx, hi.below hb⟩
/-- parts of configurations -/
def PartOf (ks ps : List Int) (n : Nat) (rs : List Nat) : Prop := rs.length ≤ n ∧ (∀ x ∈ rs, x < 2 ^ n) ∧ ∀ q, q < n → (∀ k, k < n → (rs.getD q 0).testBit k = false) ∨ ∃ c, prop ks ps c = true ∧ ∀ k, k < n → (rs.getD q 0).testBit k = (c.testBit q && (c.testBit k && (decide (k ≠ q) && undB ps k q)))
theorem PartOf.past {ks ps : List Int} {n : Nat} {rs : List Nat} (h : PartOf ks ps n rs) (hf : ShF ks ps n) (hn : n ≤ 32) : PastOk ks ps n (pfun rs) := PastOk.of hf hn h.2.2
theorem getD_snoc2 (rs : List Nat) (x q : Nat) : (rs ++ [x]).getD q 0 = if q < rs.length then rs.getD q 0 else if q = rs.length then x else 0 := by
  simp only [List.getD_eq_getElem?_getD, List.getElem?_append]
  split
  · rfl
  · rename_i h
    by_cases e : q = rs.length
    · subst e; simp
    · rw [if_neg e, List.getElem?_eq_none (by simp; omega)]; rfl
theorem PartOf.nil (ks ps : List Int) (n : Nat) : PartOf ks ps n [] := ⟨Nat.zero_le _, (fun x h => nomatch h), fun q _ => .inl fun k _ => by simp⟩
theorem PartOf.snoc {ks ps : List Int} {n : Nat} {rs : List Nat} (h : PartOf ks ps n rs) (hl : rs.length < n) {x : Nat} (hx : x < 2 ^ n)
    (hp : (∀ k, k < n → x.testBit k = false) ∨ ∃ c, prop ks ps c = true ∧ ∀ k, k < n → x.testBit k = (c.testBit rs.length && (c.testBit k && (decide (k ≠ rs.length) && undB ps k rs.length)))) : PartOf ks ps n (rs ++ [x]) := by
  refine ⟨by rw [List.length_append, List.length_singleton]; omega, fun y hy => ?_, fun q hq => ?_⟩
  · rw [List.mem_append, List.mem_singleton] at hy
    rcases hy with hy | rfl
    · exact h.2.1 y hy
    · exact hx
  · rw [getD_snoc2]
    by_cases h1 : q < rs.length
    · rw [if_pos h1]; exact h.2.2 q hq
    · rw [if_neg h1]
      by_cases e : q = rs.length
      · subst e; rw [if_pos rfl]; exact hp
      · rw [if_neg e]; exact .inl fun k _ => Nat.zero_testBit k
end Go.Proofs.Ytbacdllokgcohaa
