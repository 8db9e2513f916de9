/-
  A queue of integers: a slice of the call's own that is cut at its head and appended to.
-/
import Derived.Test.YtaolebdcmdmnjaaOwnI
import Derived.ArgAppend
import Derived.Deep.Upon
import Derived.Deep.MidRow
namespace Go.Proofs.Ytaolebdcmdmnjaa
set_option maxRecDepth 100000
open Go.ChangeShapes Go.WideShapes Go.ChangeAt Go.RowKit

/-- a queue -/
def QAt (w : World) (B : Nat) (v : Value) (L : List Int) : Prop := ∃ g o c : Nat, v = .slice (some ⟨g, o, none⟩) L.length c ∧ B ≤ g ∧ g < w.heap.size ∧ L.length ≤ c ∧
  (∀ j (h : j < L.length), w.cell? ⟨g, o + j, none⟩ = some (.int .i64 L[j])) ∧ ∀ j, j < c - L.length → (w.cell? ⟨g, o + L.length + j, none⟩).isSome = true ∧ w.frozen? ⟨g, o + L.length + j, none⟩ = false
theorem QAt.below {w w' : World} {B : Nat} {v : Value} {L : List Int} (h : QAt w B v L) (hb : Below w.heap.size w w') : QAt w' B v L := by
  obtain ⟨g, o, c, e, h1, h2, h3, h4, h5⟩ := h
  have hg := hb.block g h2
  refine ⟨g, o, c, e, h1, Nat.lt_of_lt_of_le h2 hb.size, h3, fun j hj => (World.cell?_of_block (a := ⟨g, o + j, none⟩) hg).trans (h4 j hj), fun j hj => ?_⟩
  rw [World.cell?_of_block (a := ⟨g, o + L.length + j, none⟩) hg, World.frozen?_of_block (a := ⟨g, o + L.length + j, none⟩) hg]
  exact h5 j hj
theorem QAt.ofRow {w : World} {B g : Nat} {cur : Array Value} {c : Nat} {L : List Int} (hB : B ≤ g) (hg : w.heap[g]? = some (.cells cur 3 (0, 0))) (hs : cur.size = c) (hl : L.length ≤ c) (hc : ∀ j (h : j < L.length), cur[j]? = some (.int .i64 L[j])) :
    QAt w B (.slice (some ⟨g, 0, none⟩) L.length c) L := by
  have hlt : g < w.heap.size := (Array.getElem?_eq_some_iff.1 hg).1
  have hcell : ∀ j, w.cell? ⟨g, j, none⟩ = cur[j]? := fun j => cell_of_row w g j cur _ _ hg
  refine ⟨g, 0, c, rfl, hB, hlt, hl, fun j hj => by rw [Nat.zero_add, hcell]; exact hc j hj, fun j hj => ⟨?_, ?_⟩⟩
  · rw [hcell, Nat.zero_add]
    have : L.length + j < cur.size := by omega
    simp [this]
  · simp [World.frozen?, hg]
theorem QAt.start (w : World) (B : Nat) (x : Int) (hB : B ≤ w.heap.size) : QAt (w.alloc (.cells #[.int .i64 x] 3)) B (.slice (some ⟨w.heap.size, 0, none⟩) 1 1) [x] :=
  QAt.ofRow (L := [x]) hB (heap_alloc_new w _) rfl (Nat.le_refl _) (fun j hj => by simp at hj; subst hj; rfl)
/-- its head is taken -/
theorem QAt.rest {w : World} {B g o n c : Nat} {a : Int} {L : List Int} (h : QAt w B (.slice (some ⟨g, o, none⟩) n c) (a :: L)) : QAt w B (.slice (some ⟨g, o + 1, none⟩) L.length (c - 1)) L ∧ (c = 1 → QAt w B (.slice (some ⟨g, o, none⟩) L.length 0) L) := by
  obtain ⟨g', o', c', e, h1, h2, h3, h4, h5⟩ := h
  injection e with e1 e2 e3
  injection e1 with e1
  injection e1 with eg eo
  subst eg; subst eo; subst e3
  rw [List.length_cons] at h3 h5
  refine ⟨⟨g, o + 1, c - 1, rfl, h1, h2, by omega, fun j hj => ?_, fun j hj => ?_⟩, fun hc => ?_⟩
  · have := h4 (j + 1) (by rw [List.length_cons]; omega)
    rw [List.getElem_cons_succ] at this
    rw [show o + 1 + j = o + (j + 1) by omega]; exact this
  · have := h5 j (by omega)
    rw [show o + 1 + L.length + j = o + (L.length + 1) + j by omega]; exact this
  · have : L = [] := List.eq_nil_of_length_eq_zero (by omega)
    subst this
    exact ⟨g, o, 0, rfl, h1, h2, by simp, fun j hj => by simp at hj, fun j hj => by simp at hj⟩
theorem ints_some {w : World} {A : Option Addr} {c : Nat} {C : List Int} (h : IntsAt w (.slice A C.length c) C) (h0 : 0 < C.length) : ∃ b off, A = some ⟨b, off, none⟩ ∧ ∀ j u, (icells C)[j]? = some u → w.cell? ((⟨b, off, none⟩ : Addr).add j) = some u := by
  obtain ⟨b, off, rfl, _⟩ := ints_cell h h0
  refine ⟨b, off, rfl, fun j u hu => ?_⟩
  have hj : j < C.length := by have := (List.getElem?_eq_some_iff.1 hu).1; rwa [icells_length] at this
  obtain ⟨b', off', e, _, hx, _⟩ := ints_cell h hj
  injection e with e
  injection e with e1 e2
  subst e1; subst e2
  rw [icells_at C j hj] at hu
  rw [Go.WideShapes.add_plain, hx, ← hu]
  simp [List.getD_eq_getElem?_getD, hj]
theorem setCells_grown (w : World) (g o : Nat) (vs : List Value) : w.heap.size ≤ (w.setCells g o vs).heap.size ∧ (w.setCells g o vs).os = w.os ∧ (w.setCells g o vs).tape = w.tape ∧ (w.setCells g o vs).output = w.output := by
  induction vs generalizing w o with
  | nil => exact ⟨Nat.le_refl _, rfl, rfl, rfl⟩
  | cons v r ih =>
    have := ih (w.setCell ⟨g, o, none⟩ v) (o + 1)
    have hs : (w.setCell ⟨g, o, none⟩ v).heap.size = w.heap.size := by simp [World.setCell]
    rw [hs] at this
    exact this
theorem wpList_append_q {w : World} {ops : Array Oper} {rest : List Oper} {o : Oper} {a : Act} {Q : Exit → Act → World → Prop} (hgd : o.guard = none) (s x : Operand)
    (ho : o.op = .call { callee := .builtin .append, args := #[s, x], argTypes := #[22, 22] })
    {B : Nat} {v : Value} {L : List Int} (hq : QAt w B v L) (hs : a.eval s = v) (C : List Int) (Ak : Option Addr) (ck : Nat) (hx : a.eval x = .slice Ak C.length ck) (hC : IntsAt w (.slice Ak C.length ck) C)
    (hlen : L.length + C.length ≤ 1000) (hB : B ≤ w.heap.size)
    (hK : ∀ v' w', QAt w' B v' (L ++ C) → (∀ W0, Below B W0 w → Below B W0 w') → w.heap.size ≤ w'.heap.size → wpList Try.prog ops Q rest (a.put o.dst v') w') : wpList Try.prog ops Q (o :: rest) a w := by
  obtain ⟨i0, hi, hz0, hz1, hz2⟩ := info_parts Try.infoInt
  by_cases h0 : C.length = 0
  · have e0 : C = [] := List.eq_nil_of_length_eq_zero h0
    subst e0
    obtain ⟨g, of, c, rfl, h1, h2, h3, h4, h5⟩ := hq
    refine wpList_plain hgd fun K hK' => ?_
    have hsrc : Src Try.prog i0.size 22 (.slice Ak 0 ck) 0 [] w := by
      cases Ak with
      | none => exact Src.ofNil w Try.underlying22 ck
      | some ad => exact Src.ofSlice w Try.underlying22 ad 0 ck [] (by simp) (fun j u hu => by simp at hu) (fun u hu => by cases hu)
    have hrun := run_append_nothing (P := Try.prog) w 22 22 o.type 3 i0 Try.underlying22 hi (some ⟨g, of, none⟩) L.length c h3 _ hsrc
    have hx' : a.eval x = .slice Ak 0 ck := hx
    unfold Oper.wp
    simp [execOp, ho, resolve, invoke, builtin, hs, hx', hrun, Result.andThen]
    refine hK' _ _ (hK _ _ ?_ (fun _ h => h) (Nat.le_refl _))
    rw [List.append_nil]
    exact ⟨g, of, c, rfl, h1, h2, h3, h4, h5⟩
  · obtain ⟨b, off, rfl, hcells⟩ := ints_some hC (by omega)
    obtain ⟨g, of, c, rfl, h1, h2, h3, h4, h5⟩ := hq
    have hlc : (icells (L ++ C)) = icells L ++ icells C := by simp [icells]
    refine wpList_append_arg w hgd s x 22 ho 3 i0 (.int .i64 0) 1 8 Try.underlying22 hi hz0 hz1 hz2 rfl (by decide) g of L.length c (icells L) hs (by rw [icells_length, Nat.mul_one])
      (fun j u hu => ?_) ⟨b, off, none⟩ C.length ck (icells C) hx (by rw [icells_length, Nat.mul_one]) hcells (icells_one C) (fun hr j hj => ?_) (by unfold maxLen; omega) (by omega) (fun hr => ?_) (fun hg v' w' hown hgrow => ?_)
    · have hj : j < L.length := by have := (List.getElem?_eq_some_iff.1 hu).1; rwa [icells_length] at this
      rw [icells_at L j hj] at hu
      rw [h4 j hj]; exact hu
    · rw [icells_length] at hj
      rw [Nat.mul_one]
      exact h5 j (by omega)
    · rw [Nat.mul_one]
      have hso : ∀ j, j < (icells C).length → (w.cell? ⟨g, of + L.length + j, none⟩).isSome = true := fun j hj => by
        rw [icells_length] at hj; exact (h5 j (by omega)).1
      have hgr := setCells_grown w g (of + L.length) (icells C)
      have e : Value.slice (some ⟨g, of, none⟩) (L.length + C.length) c = .slice (some ⟨g, of, none⟩) (L ++ C).length c := by rw [List.length_append]
      rw [e]
      refine hK _ _ ⟨g, of, c, rfl, h1, Nat.lt_of_lt_of_le h2 hgr.1, by rw [List.length_append]; exact hr, fun j hj => ?_, fun j hj => ⟨?_, ?_⟩⟩ (fun W0 h => ?_) hgr.1
      · by_cases hlt : j < L.length
        · rw [World.cell?_setCells_out g (icells C) (of + L.length) w ⟨g, of + j, none⟩ (fun _ _ => .inl (by show of + j < of + L.length; omega)), h4 j hlt, List.getElem_append_left hlt]
        · obtain ⟨q, rfl⟩ : ∃ q, j = L.length + q := ⟨j - L.length, by omega⟩
          have hq : q < C.length := by rw [List.length_append] at hj; omega
          have := World.cell?_setCells_in g (icells C) (of + L.length) w hso q (by rw [icells_length]; exact hq)
          rw [show of + (L.length + q) = of + L.length + q by omega, this, List.getElem_append_right (by omega)]
          simp [icells]
      · rw [List.length_append] at hj ⊢
        refine World.isSome_setCells g (icells C) (of + L.length) w _ ?_
        rw [show of + (L.length + C.length) + j = of + L.length + (C.length + j) by omega]
        exact (h5 (C.length + j) (by omega)).1
      · rw [World.frozen?_setCells, List.length_append]
        rw [List.length_append] at hj
        rw [show of + (L.length + C.length) + j = of + L.length + (C.length + j) by omega]
        exact (h5 (C.length + j) (by omega)).2
      · refine ⟨hgr.2.1.trans h.os, hgr.2.2.1.trans h.tape, hgr.2.2.2.trans h.output, Nat.le_trans h.size hgr.1, fun k hk => ?_⟩
        rw [World.heap_setCells_other w g _ _ (by omega) (by omega)]
        exact h.block k hk
    · have hlt : w.heap.size ≤ w'.heap.size := hgrow.size
      rcases hown.2 with ⟨_, hn⟩ | ⟨g', cap, cur, rfl, hb, hgg, hnc, hcm, hcs, htake⟩
      · omega
      · rw [Nat.mul_one] at hcs
        have e : Value.slice (some ⟨g', 0, none⟩) (L.length + C.length) cap = .slice (some ⟨g', 0, none⟩) (L ++ C).length cap := by rw [List.length_append]
        rw [e]
        refine hK _ _ (QAt.ofRow (by omega) hgg hcs (by rw [List.length_append]; exact hnc) fun j hj => ?_) (fun W0 h => ?_) hlt
        · have h6 : (cur.toList.take ((L.length + C.length) * 1))[j]? = (icells L ++ icells C)[j]? := by rw [htake]
          rw [List.length_append] at hj
          rw [List.getElem?_take_of_lt (by omega), ← hlc, icells_at _ _ (by rw [List.length_append]; exact hj)] at h6
          simpa using h6
        · exact ⟨hgrow.os.trans h.os, hgrow.tape.trans h.tape, hgrow.output.trans h.output, Nat.le_trans h.size hlt, fun k hk => by
            have := h.size
            rw [hgrow.block k (by omega) (by simp)]; exact h.block k hk⟩
end Go.Proofs.Ytaolebdcmdmnjaa
