/-
  rule.Parse: what it answers, plainly; the block of a rule that is told.
-/
import Derived.Test.YtahhepmhdcbplaaGreatDoorMis
import Derived.Test.YtahhepmhdcbplaaGreatDoorPlain03
import Derived.Laws.ResultCell
namespace Go.Proofs.YtahhepmhdcbplaaGreatDoor
set_option maxRecDepth 100000
open Go.ChangeShapes Go.WideShapes Go.ChangeAt Go.RowKit

inductive PR where
  | bad (col : Nat) (code : Int)
  | empty
  | ok (r : Ru)
def parseW (ws : List (Nat × Tx)) : PR :=
  if 0 < misP ws (ruleP (tx ws)).2 then .bad (misP ws (ruleP (tx ws)).2) 2
  else if 0 < wrongP (ruleP (tx ws)).1 ws then .bad (wrongP (ruleP (tx ws)).1 ws) 1
  else .ok (ruleP (tx ws)).1
def parseL (L : List UInt8) : PR := if 0 < badL L then .bad (badL L) 2 else if wordsL L = [] then .empty else parseW (wordsL L)
def zeroV : Value := .agg zero11
/-- a place at the block b: its line, its column, the number that it wraps -/
def FaultAt (w : World) (b : Nat) (n c k : Int) : Prop := w.cell? ⟨b, 0, none⟩ = some (.int .i64 n) ∧ w.cell? ⟨b, 1, none⟩ = some (.int .i64 c) ∧ w.cell? ⟨b, 2, none⟩ = some (.iface 34 (.int .i64 k))
def ParseTo (p : PR) (n : Int) (w : World) (e : Ending) (w' : World) : Prop := Below w.heap.size w w' ∧ match p with
  | .bad c k => ∃ b, e = .returned (.tuple #[zeroV, .bool false, .iface 59 (.pointer (some ⟨b, 0, none⟩))]) ∧ w.heap.size ≤ b ∧ b < w'.heap.size ∧ FaultAt w' b n c k
  | .empty => e = .returned (.tuple #[zeroV, .bool true, .nilIface])
  | .ok r => ∃ L, e = .returned (.tuple #[ruV r L n, .bool false, .nilIface]) ∧ OwnL w' w.heap.size L r.list

section
variable {W X : World} {t : Nat} {a0 a1 a2 a3 a4 a5 a6 a7 a8 a9 a10 : Value} {fr : Nat × Nat}
theorem run_cell3 {P : Program} {fn : Func} {p u v : Tmp} {ty : TypeId} (h : fn.results = #[.cell p ty, .tmp u, .tmp v]) (tmps : Array Value) (w : World) (g : Nat) (t : TypeId) (cs : Array Value) (fr : Nat × Nat) (d : TypeDesc)
    (hp : tmps.getD p undef = .pointer (some ⟨g, 0, none⟩)) (hg : w.heap[g]? = some (.cells cs t fr))
    (hu : P.underlying ty = some d) (hd : (match d with | .struct _ | .array _ _ => true | _ => false) = true) (hi : (P.info? ty).map (·.size) = some cs.size) :
    (results fn tmps).run P w = .ok (.tuple #[.agg cs, tmps.getD u undef, tmps.getD v undef]) w := by
  have hp' : tmps[p]?.getD undef = .pointer (some ⟨g, 0, none⟩) := by simpa using hp
  simp [results, h, hp', asAddr, run_loadVar_row w g t ty cs fr d hg hu hd hi]
theorem row_fz (R : W.heap[t]? = some (.cells #[a0, a1, a2, a3, a4, a5, a6, a7, a8, a9, a10] 24 (0, 0))) (j : Nat) : W.frozen? ⟨t, j, none⟩ = false := by simp [World.frozen?, R]
theorem row_alloc (R : W.heap[t]? = some (.cells #[a0, a1, a2, a3, a4, a5, a6, a7, a8, a9, a10] 24 (0, 0))) (O : Obj) : (W.alloc O).heap[t]? = some (.cells #[a0, a1, a2, a3, a4, a5, a6, a7, a8, a9, a10] 24 (0, 0)) := (heap_alloc_old _ _ (Array.getElem?_eq_some_iff.1 R).1).trans R
theorem row_below (R : W.heap[t]? = some (.cells #[a0, a1, a2, a3, a4, a5, a6, a7, a8, a9, a10] 24 (0, 0))) (h : Below W.heap.size W X) : X.heap[t]? = some (.cells #[a0, a1, a2, a3, a4, a5, a6, a7, a8, a9, a10] 24 (0, 0)) := (h.block _ (Array.getElem?_eq_some_iff.1 R).1).trans R
theorem row_tell (b0 b1 b2 b3 b4 b5 b6 b7 b8 b9 b10 : Value) (R : W.heap[t]? = some (.cells #[a0, a1, a2, a3, a4, a5, a6, a7, a8, a9, a10] 24 (0, 0))) : ∀ X, ((((((((((W.setCell ⟨t, 0, none⟩ b0).setCell ⟨t, 1, none⟩ b1).setCell ⟨t, 2, none⟩ b2).setCell ⟨t, 3, none⟩ b3).setCell ⟨t, 4, none⟩ b4).setCell ⟨t, 5, none⟩ b5).setCell ⟨t, 6, none⟩ b6).setCell ⟨t, 7, none⟩ b7).setCell ⟨t, 8, none⟩ b8).setCell ⟨t, 9, none⟩ b9).setCell ⟨t, 10, none⟩ b10 = X → X.heap[t]? = some (.cells #[b0, b1, b2, b3, b4, b5, b6, b7, b8, b9, b10] 24 (0, 0)) ∧ W.grownBy X (some t) := by
  rintro X rfl
  refine ⟨?_, (World.grownBy.trans (World.grownBy.trans (World.grownBy.trans (World.grownBy.trans (World.grownBy.trans (World.grownBy.trans (World.grownBy.trans (World.grownBy.trans (World.grownBy.trans (World.grownBy.trans (grown_setCell _ _ _ _) (grown_setCell _ _ _ _)) (grown_setCell _ _ _ _)) (grown_setCell _ _ _ _)) (grown_setCell _ _ _ _)) (grown_setCell _ _ _ _)) (grown_setCell _ _ _ _)) (grown_setCell _ _ _ _)) (grown_setCell _ _ _ _)) (grown_setCell _ _ _ _)) (grown_setCell _ _ _ _))⟩
  have e := (heap_set (j := 10) (heap_set (j := 9) (heap_set (j := 8) (heap_set (j := 7) (heap_set (j := 6) (heap_set (j := 5) (heap_set (j := 4) (heap_set (j := 3) (heap_set (j := 2) (heap_set (j := 1) (heap_set (j := 0) R b0) b1) b2) b3) b4) b5) b6) b7) b8) b9) b10)
  simpa using e
theorem row_q0 (R : W.heap[t]? = some (.cells #[a0, a1, a2, a3, a4, a5, a6, a7, a8, a9, a10] 24 (0, 0))) : W.cell? ⟨t, 0, none⟩ = some a0 := by rw [cell_of_row _ _ _ _ _ _ R]; rfl
theorem row_q1 (R : W.heap[t]? = some (.cells #[a0, a1, a2, a3, a4, a5, a6, a7, a8, a9, a10] 24 (0, 0))) : W.cell? ⟨t, 1, none⟩ = some a1 := by rw [cell_of_row _ _ _ _ _ _ R]; rfl
theorem row_q2 (R : W.heap[t]? = some (.cells #[a0, a1, a2, a3, a4, a5, a6, a7, a8, a9, a10] 24 (0, 0))) : W.cell? ⟨t, 2, none⟩ = some a2 := by rw [cell_of_row _ _ _ _ _ _ R]; rfl
theorem row_q3 (R : W.heap[t]? = some (.cells #[a0, a1, a2, a3, a4, a5, a6, a7, a8, a9, a10] 24 (0, 0))) : W.cell? ⟨t, 3, none⟩ = some a3 := by rw [cell_of_row _ _ _ _ _ _ R]; rfl
theorem row_q4 (R : W.heap[t]? = some (.cells #[a0, a1, a2, a3, a4, a5, a6, a7, a8, a9, a10] 24 (0, 0))) : W.cell? ⟨t, 4, none⟩ = some a4 := by rw [cell_of_row _ _ _ _ _ _ R]; rfl
theorem row_q5 (R : W.heap[t]? = some (.cells #[a0, a1, a2, a3, a4, a5, a6, a7, a8, a9, a10] 24 (0, 0))) : W.cell? ⟨t, 5, none⟩ = some a5 := by rw [cell_of_row _ _ _ _ _ _ R]; rfl
theorem row_q6 (R : W.heap[t]? = some (.cells #[a0, a1, a2, a3, a4, a5, a6, a7, a8, a9, a10] 24 (0, 0))) : W.cell? ⟨t, 6, none⟩ = some a6 := by rw [cell_of_row _ _ _ _ _ _ R]; rfl
theorem row_q7 (R : W.heap[t]? = some (.cells #[a0, a1, a2, a3, a4, a5, a6, a7, a8, a9, a10] 24 (0, 0))) : W.cell? ⟨t, 7, none⟩ = some a7 := by rw [cell_of_row _ _ _ _ _ _ R]; rfl
theorem row_q8 (R : W.heap[t]? = some (.cells #[a0, a1, a2, a3, a4, a5, a6, a7, a8, a9, a10] 24 (0, 0))) : W.cell? ⟨t, 8, none⟩ = some a8 := by rw [cell_of_row _ _ _ _ _ _ R]; rfl
theorem row_q9 (R : W.heap[t]? = some (.cells #[a0, a1, a2, a3, a4, a5, a6, a7, a8, a9, a10] 24 (0, 0))) : W.cell? ⟨t, 9, none⟩ = some a9 := by rw [cell_of_row _ _ _ _ _ _ R]; rfl
theorem row_q10 (R : W.heap[t]? = some (.cells #[a0, a1, a2, a3, a4, a5, a6, a7, a8, a9, a10] 24 (0, 0))) : W.cell? ⟨t, 10, none⟩ = some a10 := by rw [cell_of_row _ _ _ _ _ _ R]; rfl
theorem fault_end {n c k : Int} {w W X : World} {b : Nat} (hB : Below w.heap.size w W) (hG : W.grownBy X (some w.heap.size)) (hlt : b < W.heap.size) (hF : FaultAt W b n c k) (h0 : w.heap.size ≤ b) (hne : w.heap.size < b) :
    Below w.heap.size w X ∧ ∃ b', Ending.returned (.tuple #[zeroV, .bool false, .iface 59 (.pointer (some ⟨b, 0, none⟩))]) = .returned (.tuple #[zeroV, .bool false, .iface 59 (.pointer (some ⟨b', 0, none⟩))]) ∧ w.heap.size ≤ b' ∧ b' < X.heap.size ∧ FaultAt X b' n c k :=
  ⟨hB.grown hG hB.size (fun j e => by cases e; exact Nat.le_refl _), b, rfl, h0, Nat.lt_of_lt_of_le hlt hG.size, hG.cell hF.1 (by simp; omega), hG.cell hF.2.1 (by simp; omega), hG.cell hF.2.2 (by simp; omega)⟩
end
/-! ### what the words of a line are -/
theorem toks_bounds : ∀ (n : Nat) (l : List UInt8), l.length ≤ n → ∀ c, ∀ x ∈ toks l c, c ≤ x.1 ∧ x.1 + x.2.length ≤ c + l.length ∧ 1 ≤ x.2.length := by
  intro n
  induction n with
  | zero => intro l h c x hx; have : l = [] := List.eq_nil_of_length_eq_zero (by omega); subst this; simp [toks_nil] at hx
  | succ n ih =>
    intro l h c x hx
    by_cases hl : l = []
    · subst hl; simp [toks_nil] at hx
    have hpos : 0 < l.length := List.length_pos_iff.2 hl
    have hwl := word_le l
    rw [toks_step] at hx
    rcases List.mem_append.1 hx with hx | hx
    · by_cases hw : (word l).length = 0
      · rw [if_pos hw] at hx; simp at hx
      · rw [if_neg hw] at hx
        simp only [List.mem_singleton] at hx
        subst hx
        exact ⟨Nat.le_refl _, by simp only; omega, by simp only; omega⟩
    · by_cases hd : (word l).length + 1 ≤ l.length
      · have H := ih (l.drop ((word l).length + 1)) (by simp; omega) _ x hx
        rw [List.length_drop] at H
        omega
      · rw [List.drop_of_length_le (by omega), toks_nil] at hx; simp at hx
theorem words_bounds (L : List UInt8) : ∀ x ∈ wordsL L, 1 ≤ x.1 ∧ x.1 + x.2.length ≤ L.length + 1 ∧ 1 ≤ x.2.length := by
  intro x hx
  unfold wordsL at hx
  split at hx
  · have := toks_bounds _ _ (Nat.le_refl _) 1 x hx
    have := partL_le L
    omega
  · simp at hx
theorem words_count (l : List UInt8) : 2 * (wordsL l).length ≤ (partL l).length + 1 := by
  unfold wordsL
  split
  · exact toks_count (partL l) 1
  · simp
theorem wcells_at (ws : List (Nat × Tx)) : ∀ j (h : j < ws.length), (wcells ws)[j * 2]? = some (.string (bs ws[j].2)) ∧ (wcells ws)[j * 2 + 1]? = some (.int .i64 ws[j].1) := by
  induction ws with
  | nil => intro j h; simp at h
  | cons a r ih =>
    intro j h
    have e : wcells (a :: r) = .string (bs a.2) :: .int .i64 a.1 :: wcells r := rfl
    rw [e]
    cases j with
    | zero => exact ⟨rfl, rfl⟩
    | succ j =>
      have H := ih j (by simpa using h)
      rw [show (j + 1) * 2 = j * 2 + 1 + 1 by omega, show j * 2 + 1 + 1 + 1 = (j * 2 + 1) + 1 + 1 by omega]
      simpa using H
theorem rd_start {w : World} {g c : Nat} {ws : List (Nat × Tx)} (hg : g < w.heap.size) (hc : ws.length ≤ c) (hlen : ws.length ≤ 1099511627776) (hsz : ∀ j (h : j < ws.length), ws[j].2.length ≤ maxLen) (hcells : ∀ j u, (wcells ws)[j]? = some u → w.cell? ⟨g, j, none⟩ = some u) :
    Rd (w.alloc (.cells #[.slice (some ⟨g, 0, none⟩) ws.length c, .int .i64 0, .bool false] 96)) w.heap.size g c ws ⟨0, false⟩ :=
  ⟨heap_alloc_new _ _, by omega, by simp; omega, fun j h => (World.cell?_alloc_lt _ _ _ hg).trans (hcells _ _ (wcells_at ws j h).1), fun j h => (World.cell?_alloc_lt _ _ _ hg).trans (hcells _ _ (wcells_at ws j h).2), hlen, hc, hsz, Nat.zero_le _⟩
theorem Rd.wat {w : World} {b g cap : Nat} {ws : List (Nat × Tx)} {s : St} (h : Rd w b g cap ws s) : WAt w g 0 ws := fun j hj => by
  refine ⟨?_, ?_, h.size j hj⟩
  · rw [Nat.zero_add]; exact h.text j hj
  · rw [Nat.zero_add]; exact h.col j hj
theorem row_step {W X : World} {t b : Nat} {cs : Array Value} {T : TypeId} (R : W.heap[t]? = some (.cells cs T (0, 0))) (hg : W.grownBy X (some b)) (h : t < b) : X.heap[t]? = some (.cells cs T (0, 0)) :=
  (hg.block _ (Array.getElem?_eq_some_iff.1 R).1 (by simp; omega)).trans R
theorem own_far2 {w : World} {base t : Nat} {v : Value} {l : List Tx} (h : OwnL w base v l) (ht : t < base) : v.ownBlock = none ∨ v.ownBlock ≠ some t := by
  right; intro e; have := (h.lt t e).1; omega
end Go.Proofs.YtahhepmhdcbplaaGreatDoor
