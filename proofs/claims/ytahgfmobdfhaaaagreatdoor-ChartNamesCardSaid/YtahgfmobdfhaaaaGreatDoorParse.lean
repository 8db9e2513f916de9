/-
  rule.Parse.
-/
import Derived.Test.YtahgfmobdfhaaaaGreatDoorMis
import Derived.Test.YtahgfmobdfhaaaaGreatDoorOwn
import Derived.Laws.ResultCell
namespace Go.Proofs.YtahgfmobdfhaaaaGreatDoor
set_option maxRecDepth 100000
open Go.ChangeShapes Go.WideShapes Go.ChangeAt Go.RowKit

inductive PR where
  | bad (col : Nat) (code : Int)
  | empty
  | ok (r : Ru)
def parseW (ws : List (Nat × Tx)) : PR :=
  if 0 < misP ws (ruleP (tx ws)).2 then .bad (misP ws (ruleP (tx ws)).2) 2
  else if 0 < wrongP (ruleP (tx ws)).1 ws then .bad (wrongP (ruleP (tx ws)).1 ws) 1
  else .ok (ruleP (tx ws)).1
def parseL (L : List UInt8) : PR := if 0 < badL L then .bad (badL L) 2 else if wordsL L = [] then .empty else parseW (wordsL L)
def zeroV : Value := .agg zero11
/-- a place at the block b: its line, its column, the number that it wraps -/
def FaultAt (w : World) (b : Nat) (n c k : Int) : Prop := w.cell? ⟨b, 0, none⟩ = some (.int .i64 n) ∧ w.cell? ⟨b, 1, none⟩ = some (.int .i64 c) ∧ w.cell? ⟨b, 2, none⟩ = some (.iface 45 (.int .i64 k))
def ParseTo (p : PR) (n : Int) (w : World) (e : Ending) (w' : World) : Prop := Below w.heap.size w w' ∧ match p with
  | .bad c k => ∃ b, e = .returned (.tuple #[zeroV, .bool false, .iface 60 (.pointer (some ⟨b, 0, none⟩))]) ∧ w.heap.size ≤ b ∧ b < w'.heap.size ∧ FaultAt w' b n c k
  | .empty => e = .returned (.tuple #[zeroV, .bool true, .nilIface])
  | .ok r => ∃ L, e = .returned (.tuple #[ruV r L n, .bool false, .nilIface]) ∧ OwnL w' w.heap.size L r.list

section
variable {W X : World} {t : Nat} {a0 a1 a2 a3 a4 a5 a6 a7 a8 a9 a10 : Value} {fr : Nat × Nat}
theorem run_cell3 {P : Program} {fn : Func} {p u v : Tmp} {ty : TypeId} (h : fn.results = #[.cell p ty, .tmp u, .tmp v]) (tmps : Array Value) (w : World) (g : Nat) (t : TypeId) (cs : Array Value) (fr : Nat × Nat) (d : TypeDesc)
    (hp : tmps.getD p undef = .pointer (some ⟨g, 0, none⟩)) (hg : w.heap[g]? = some (.cells cs t fr))
    (hu : P.underlying ty = some d) (hd : (match d with | .struct _ | .array _ _ => true | _ => false) = true) (hi : (P.info? ty).map (·.size) = some cs.size) :
    (results fn tmps).run P w = .ok (.tuple #[.agg cs, tmps.getD u undef, tmps.getD v undef]) w := by
  have hp' : tmps[p]?.getD undef = .pointer (some ⟨g, 0, none⟩) := by simpa using hp
  simp [results, h, hp', asAddr, run_loadVar_row w g t ty cs fr d hg hu hd hi]
theorem row_fz (R : W.heap[t]? = some (.cells #[a0, a1, a2, a3, a4, a5, a6, a7, a8, a9, a10] 41 (0, 0))) (j : Nat) : W.frozen? ⟨t, j, none⟩ = false := by simp [World.frozen?, R]
theorem row_alloc (R : W.heap[t]? = some (.cells #[a0, a1, a2, a3, a4, a5, a6, a7, a8, a9, a10] 41 (0, 0))) (O : Obj) : (W.alloc O).heap[t]? = some (.cells #[a0, a1, a2, a3, a4, a5, a6, a7, a8, a9, a10] 41 (0, 0)) := (heap_alloc_old _ _ (Array.getElem?_eq_some_iff.1 R).1).trans R
theorem row_below (R : W.heap[t]? = some (.cells #[a0, a1, a2, a3, a4, a5, a6, a7, a8, a9, a10] 41 (0, 0))) (h : Below W.heap.size W X) : X.heap[t]? = some (.cells #[a0, a1, a2, a3, a4, a5, a6, a7, a8, a9, a10] 41 (0, 0)) := (h.block _ (Array.getElem?_eq_some_iff.1 R).1).trans R
theorem row_tell (b0 b1 b2 b3 b4 b5 b6 b7 b8 b9 b10 : Value) (R : W.heap[t]? = some (.cells #[a0, a1, a2, a3, a4, a5, a6, a7, a8, a9, a10] 41 (0, 0))) : ∀ X, ((((((((((W.setCell ⟨t, 0, none⟩ b0).setCell ⟨t, 1, none⟩ b1).setCell ⟨t, 2, none⟩ b2).setCell ⟨t, 3, none⟩ b3).setCell ⟨t, 4, none⟩ b4).setCell ⟨t, 5, none⟩ b5).setCell ⟨t, 6, none⟩ b6).setCell ⟨t, 7, none⟩ b7).setCell ⟨t, 8, none⟩ b8).setCell ⟨t, 9, none⟩ b9).setCell ⟨t, 10, none⟩ b10 = X → X.heap[t]? = some (.cells #[b0, b1, b2, b3, b4, b5, b6, b7, b8, b9, b10] 41 (0, 0)) ∧ W.grownBy X (some t) := by
  rintro X rfl
  refine ⟨?_, (World.grownBy.trans (World.grownBy.trans (World.grownBy.trans (World.grownBy.trans (World.grownBy.trans (World.grownBy.trans (World.grownBy.trans (World.grownBy.trans (World.grownBy.trans (World.grownBy.trans (grown_setCell _ _ _ _) (grown_setCell _ _ _ _)) (grown_setCell _ _ _ _)) (grown_setCell _ _ _ _)) (grown_setCell _ _ _ _)) (grown_setCell _ _ _ _)) (grown_setCell _ _ _ _)) (grown_setCell _ _ _ _)) (grown_setCell _ _ _ _)) (grown_setCell _ _ _ _)) (grown_setCell _ _ _ _))⟩
  have e := (heap_set (j := 10) (heap_set (j := 9) (heap_set (j := 8) (heap_set (j := 7) (heap_set (j := 6) (heap_set (j := 5) (heap_set (j := 4) (heap_set (j := 3) (heap_set (j := 2) (heap_set (j := 1) (heap_set (j := 0) R b0) b1) b2) b3) b4) b5) b6) b7) b8) b9) b10)
  simpa using e
theorem row_q0 (R : W.heap[t]? = some (.cells #[a0, a1, a2, a3, a4, a5, a6, a7, a8, a9, a10] 41 (0, 0))) : W.cell? ⟨t, 0, none⟩ = some a0 := by rw [cell_of_row _ _ _ _ _ _ R]; rfl
theorem row_q1 (R : W.heap[t]? = some (.cells #[a0, a1, a2, a3, a4, a5, a6, a7, a8, a9, a10] 41 (0, 0))) : W.cell? ⟨t, 1, none⟩ = some a1 := by rw [cell_of_row _ _ _ _ _ _ R]; rfl
theorem row_q2 (R : W.heap[t]? = some (.cells #[a0, a1, a2, a3, a4, a5, a6, a7, a8, a9, a10] 41 (0, 0))) : W.cell? ⟨t, 2, none⟩ = some a2 := by rw [cell_of_row _ _ _ _ _ _ R]; rfl
theorem row_q3 (R : W.heap[t]? = some (.cells #[a0, a1, a2, a3, a4, a5, a6, a7, a8, a9, a10] 41 (0, 0))) : W.cell? ⟨t, 3, none⟩ = some a3 := by rw [cell_of_row _ _ _ _ _ _ R]; rfl
theorem row_q4 (R : W.heap[t]? = some (.cells #[a0, a1, a2, a3, a4, a5, a6, a7, a8, a9, a10] 41 (0, 0))) : W.cell? ⟨t, 4, none⟩ = some a4 := by rw [cell_of_row _ _ _ _ _ _ R]; rfl
theorem row_q5 (R : W.heap[t]? = some (.cells #[a0, a1, a2, a3, a4, a5, a6, a7, a8, a9, a10] 41 (0, 0))) : W.cell? ⟨t, 5, none⟩ = some a5 := by rw [cell_of_row _ _ _ _ _ _ R]; rfl
theorem row_q6 (R : W.heap[t]? = some (.cells #[a0, a1, a2, a3, a4, a5, a6, a7, a8, a9, a10] 41 (0, 0))) : W.cell? ⟨t, 6, none⟩ = some a6 := by rw [cell_of_row _ _ _ _ _ _ R]; rfl
theorem row_q7 (R : W.heap[t]? = some (.cells #[a0, a1, a2, a3, a4, a5, a6, a7, a8, a9, a10] 41 (0, 0))) : W.cell? ⟨t, 7, none⟩ = some a7 := by rw [cell_of_row _ _ _ _ _ _ R]; rfl
theorem row_q8 (R : W.heap[t]? = some (.cells #[a0, a1, a2, a3, a4, a5, a6, a7, a8, a9, a10] 41 (0, 0))) : W.cell? ⟨t, 8, none⟩ = some a8 := by rw [cell_of_row _ _ _ _ _ _ R]; rfl
theorem row_q9 (R : W.heap[t]? = some (.cells #[a0, a1, a2, a3, a4, a5, a6, a7, a8, a9, a10] 41 (0, 0))) : W.cell? ⟨t, 9, none⟩ = some a9 := by rw [cell_of_row _ _ _ _ _ _ R]; rfl
theorem row_q10 (R : W.heap[t]? = some (.cells #[a0, a1, a2, a3, a4, a5, a6, a7, a8, a9, a10] 41 (0, 0))) : W.cell? ⟨t, 10, none⟩ = some a10 := by rw [cell_of_row _ _ _ _ _ _ R]; rfl
theorem fault_end {n c k : Int} {w W X : World} {b : Nat} (hB : Below w.heap.size w W) (hG : W.grownBy X (some w.heap.size)) (hlt : b < W.heap.size) (hF : FaultAt W b n c k) (h0 : w.heap.size ≤ b) (hne : w.heap.size < b) :
    Below w.heap.size w X ∧ ∃ b', Ending.returned (.tuple #[zeroV, .bool false, .iface 60 (.pointer (some ⟨b, 0, none⟩))]) = .returned (.tuple #[zeroV, .bool false, .iface 60 (.pointer (some ⟨b', 0, none⟩))]) ∧ w.heap.size ≤ b' ∧ b' < X.heap.size ∧ FaultAt X b' n c k :=
  ⟨hB.grown hG hB.size (fun j e => by cases e; exact Nat.le_refl _), b, rfl, h0, Nat.lt_of_lt_of_le hlt hG.size, hG.cell hF.1 (by simp; omega), hG.cell hF.2.1 (by simp; omega), hG.cell hF.2.2 (by simp; omega)⟩
end
/-! ### what the words of a line are -/
theorem toks_bounds : ∀ (n : Nat) (l : List UInt8), l.length ≤ n → ∀ c, ∀ x ∈ toks l c, c ≤ x.1 ∧ x.1 + x.2.length ≤ c + l.length ∧ 1 ≤ x.2.length := by
  intro n
  induction n with
  | zero => intro l h c x hx; have : l = [] := List.eq_nil_of_length_eq_zero (by omega); subst this; simp [toks_nil] at hx
  | succ n ih =>
    intro l h c x hx
    by_cases hl : l = []
    · subst hl; simp [toks_nil] at hx
    have hpos : 0 < l.length := List.length_pos_iff.2 hl
    have hwl := word_le l
    rw [toks_step] at hx
    rcases List.mem_append.1 hx with hx | hx
    · by_cases hw : (word l).length = 0
      · rw [if_pos hw] at hx; simp at hx
      · rw [if_neg hw] at hx
        simp only [List.mem_singleton] at hx
        subst hx
        exact ⟨Nat.le_refl _, by simp only; omega, by simp only; omega⟩
    · by_cases hd : (word l).length + 1 ≤ l.length
      · have H := ih (l.drop ((word l).length + 1)) (by simp; omega) _ x hx
        rw [List.length_drop] at H
        omega
      · rw [List.drop_of_length_le (by omega), toks_nil] at hx; simp at hx
theorem words_bounds (L : List UInt8) : ∀ x ∈ wordsL L, 1 ≤ x.1 ∧ x.1 + x.2.length ≤ L.length + 1 ∧ 1 ≤ x.2.length := by
  intro x hx
  unfold wordsL at hx
  split at hx
  · have := toks_bounds _ _ (Nat.le_refl _) 1 x hx
    have := partL_le L
    omega
  · simp at hx
theorem words_count (l : List UInt8) : 2 * (wordsL l).length ≤ (partL l).length + 1 := by
  unfold wordsL
  split
  · exact toks_count (partL l) 1
  · simp
theorem wcells_at (ws : List (Nat × Tx)) : ∀ j (h : j < ws.length), (wcells ws)[j * 2]? = some (.string (bs ws[j].2)) ∧ (wcells ws)[j * 2 + 1]? = some (.int .i64 ws[j].1) := by
  induction ws with
  | nil => intro j h; simp at h
  | cons a r ih =>
    intro j h
    have e : wcells (a :: r) = .string (bs a.2) :: .int .i64 a.1 :: wcells r := rfl
    rw [e]
    cases j with
    | zero => exact ⟨rfl, rfl⟩
    | succ j =>
      have H := ih j (by simpa using h)
      rw [show (j + 1) * 2 = j * 2 + 1 + 1 by omega, show j * 2 + 1 + 1 + 1 = (j * 2 + 1) + 1 + 1 by omega]
      simpa using H
theorem rd_start {w : World} {g c : Nat} {ws : List (Nat × Tx)} (hg : g < w.heap.size) (hc : ws.length ≤ c) (hlen : ws.length ≤ 1099511627776) (hsz : ∀ j (h : j < ws.length), ws[j].2.length ≤ maxLen) (hcells : ∀ j u, (wcells ws)[j]? = some u → w.cell? ⟨g, j, none⟩ = some u) :
    Rd (w.alloc (.cells #[.slice (some ⟨g, 0, none⟩) ws.length c, .int .i64 0, .bool false] 117)) w.heap.size g c ws ⟨0, false⟩ :=
  ⟨heap_alloc_new _ _, by omega, by simp; omega, fun j h => (World.cell?_alloc_lt _ _ _ hg).trans (hcells _ _ (wcells_at ws j h).1), fun j h => (World.cell?_alloc_lt _ _ _ hg).trans (hcells _ _ (wcells_at ws j h).2), hlen, hc, hsz, Nat.zero_le _⟩
theorem Rd.wat {w : World} {b g cap : Nat} {ws : List (Nat × Tx)} {s : St} (h : Rd w b g cap ws s) : WAt w g 0 ws := fun j hj => by
  refine ⟨?_, ?_, h.size j hj⟩
  · rw [Nat.zero_add]; exact h.text j hj
  · rw [Nat.zero_add]; exact h.col j hj
theorem row_step {W X : World} {t b : Nat} {cs : Array Value} {T : TypeId} (R : W.heap[t]? = some (.cells cs T (0, 0))) (hg : W.grownBy X (some b)) (h : t < b) : X.heap[t]? = some (.cells cs T (0, 0)) :=
  (hg.block _ (Array.getElem?_eq_some_iff.1 R).1 (by simp; omega)).trans R
theorem own_far2 {w : World} {base t : Nat} {v : Value} {l : List Tx} (h : OwnL w base v l) (ht : t < base) : v.ownBlock = none ∨ v.ownBlock ≠ some t := by
  right; intro e; have := (h.lt t e).1; omega
end Go.Proofs.YtahgfmobdfhaaaaGreatDoor
namespace Go.Proofs.YtahgfmobdfhaaaaGreatDoor
set_option maxRecDepth 100000
open Go.ChangeShapes Go.WideShapes Go.ChangeAt Go.RowKit

set_option maxHeartbeats 2000000 in
theorem parse_bad (s : ByteArray) (n : Int) (bad : Nat) (w : World) (hpos : 0 < bad) (hsp : ∀ W, Calls Tryz.prog 60 #[.string s] W (SplitTo [] bad W)) :
    Calls Tryz.prog 25 #[.string s, .int .i64 n] w (ParseTo (.bad bad 2) n w) := by
  have HSP := Lib.hid hsp
  clear hsp
  have g1 : decide ((0 : Int) < bad) = true := by simp; omega
  go_enter Tryz.func25, Tryz.ntmps25
  go_upto_region 3 with (go_at_call 60; refine (HSP.out _).mono ?_; rintro e w1 ⟨v, rfl, hown, hb⟩; obtain ⟨A1, c1, rfl⟩ := own_slice hown; have hbw := (Below.refl w.heap.size w).alloc (Nat.le_refl _) (.cells zero11 41); have hb1 : Below w.heap.size w w1 := below_then hbw hb (by simp); have R1 : w1.heap[w.heap.size]? = some (.cells zero11 41 (0, 0)) := (hb.block _ (by simp)).trans (heap_alloc_new _ _))
  have q0 := row_q0 R1; have q1 := row_q1 R1; have q2 := row_q2 R1; have q3 := row_q3 R1; have q4 := row_q4 R1; have q5 := row_q5 R1; have q6 := row_q6 R1; have q7 := row_q7 R1; have q8 := row_q8 R1; have q9 := row_q9 R1; have q10 := row_q10 R1
  have f0 := row_fz R1 0; have f1 := row_fz R1 1; have f2 := row_fz R1 2; have f3 := row_fz R1 3; have f4 := row_fz R1 4; have f5 := row_fz R1 5; have f6 := row_fz R1 6; have f7 := row_fz R1 7; have f8 := row_fz R1 8; have f9 := row_fz R1 9; have f10 := row_fz R1 10
  have qa0 := fun O => row_q0 (row_alloc R1 O); have qa1 := fun O => row_q1 (row_alloc R1 O); have qa2 := fun O => row_q2 (row_alloc R1 O); have qa3 := fun O => row_q3 (row_alloc R1 O); have qa4 := fun O => row_q4 (row_alloc R1 O); have qa5 := fun O => row_q5 (row_alloc R1 O); have qa6 := fun O => row_q6 (row_alloc R1 O); have qa7 := fun O => row_q7 (row_alloc R1 O); have qa8 := fun O => row_q8 (row_alloc R1 O); have qa9 := fun O => row_q9 (row_alloc R1 O); have qa10 := fun O => row_q10 (row_alloc R1 O)
  have fa0 := fun O => row_fz (row_alloc R1 O) 0; have fa1 := fun O => row_fz (row_alloc R1 O) 1; have fa2 := fun O => row_fz (row_alloc R1 O) 2; have fa3 := fun O => row_fz (row_alloc R1 O) 3; have fa4 := fun O => row_fz (row_alloc R1 O) 4; have fa5 := fun O => row_fz (row_alloc R1 O) 5; have fa6 := fun O => row_fz (row_alloc R1 O) 6; have fa7 := fun O => row_fz (row_alloc R1 O) 7; have fa8 := fun O => row_fz (row_alloc R1 O) 8; have fa9 := fun O => row_fz (row_alloc R1 O) 9; have fa10 := fun O => row_fz (row_alloc R1 O) 10
  go_wp2

  clear q0 f0 q1 f1 q2 f2 q3 f3 q4 f4 q5 f5 q6 f6 q7 f7 q8 f8 q9 f9 q10 f10 qa0 fa0 qa1 fa1 qa2 fa2 qa3 fa3 qa4 fa4 qa5 fa5 qa6 fa6 qa7 fa7 qa8 fa8 qa9 fa9 qa10 fa10
  have RA := row_alloc R1 (.cells #[.int .i64 n, .int .i64 bad, .iface 45 (.int .i64 2)] 62)
  have FB : FaultAt (w1.alloc (.cells #[.int .i64 n, .int .i64 bad, .iface 45 (.int .i64 2)] 62)) w1.heap.size n bad 2 := ⟨new_cell w1 _ _ 0, new_cell w1 _ _ 1, new_cell w1 _ _ 2⟩
  have BA := (hb1).alloc (hb1).size (.cells #[.int .i64 n, .int .i64 bad, .iface 45 (.int .i64 2)] 62)
  have SA : w1.heap.size < (w1.alloc (.cells #[.int .i64 n, .int .i64 bad, .iface 45 (.int .i64 2)] 62)).heap.size := by simp
  have T5 := row_tell (.int .i64 0) (.string ⟨#[]⟩) (.slice none 0 0) (.int .i64 0) (.int .i64 0) (.string ⟨#[]⟩) (.string ⟨#[]⟩) (.string ⟨#[]⟩) (.string ⟨#[]⟩) (.string ⟨#[]⟩) (.int .i64 0) RA _ rfl
  generalize (World.setCell (World.setCell (World.setCell (World.setCell (World.setCell (World.setCell (World.setCell (World.setCell (World.setCell (World.setCell (World.setCell (w1.alloc (.cells #[.int .i64 n, .int .i64 bad, .iface 45 (.int .i64 2)] 62)) ⟨w.heap.size, 0, none⟩ (.int .i64 0)) ⟨w.heap.size, 1, none⟩ (.string ⟨#[]⟩)) ⟨w.heap.size, 2, none⟩ (.slice none 0 0)) ⟨w.heap.size, 3, none⟩ (.int .i64 0)) ⟨w.heap.size, 4, none⟩ (.int .i64 0)) ⟨w.heap.size, 5, none⟩ (.string ⟨#[]⟩)) ⟨w.heap.size, 6, none⟩ (.string ⟨#[]⟩)) ⟨w.heap.size, 7, none⟩ (.string ⟨#[]⟩)) ⟨w.heap.size, 8, none⟩ (.string ⟨#[]⟩)) ⟨w.heap.size, 9, none⟩ (.string ⟨#[]⟩)) ⟨w.heap.size, 10, none⟩ (.int .i64 0)) = X5 at *
  obtain ⟨RX5, GX5⟩ := T5
  (try simp only [Exit.inBlock, Exit.then])
  refine bodyPost_ret (run_cell3 rfl _ _ w.heap.size _ _ _ _ rfl RX5 Tryz.underlying41 rfl (by kernel_rfl)) rfl ?_
  exact fault_end BA GX5 SA FB (hb1).size (by have := (Array.getElem?_eq_some_iff.1 R1).1; omega)


set_option maxHeartbeats 2000000 in
theorem parse_empty (s : ByteArray) (n : Int) (w : World) (hsp : ∀ W, Calls Tryz.prog 60 #[.string s] W (SplitTo [] 0 W)) :
    Calls Tryz.prog 25 #[.string s, .int .i64 n] w (ParseTo .empty n w) := by
  have HSP := Lib.hid hsp
  clear hsp
  go_enter Tryz.func25, Tryz.ntmps25
  go_upto_region 4 with (go_at_call 60; refine (HSP.out _).mono ?_; rintro e w1 ⟨v, rfl, hown, hb⟩; obtain ⟨A1, c1, rfl⟩ := own_slice hown; have hbw := (Below.refl w.heap.size w).alloc (Nat.le_refl _) (.cells zero11 41); have hb1 : Below w.heap.size w w1 := below_then hbw hb (by simp); have R1 : w1.heap[w.heap.size]? = some (.cells zero11 41 (0, 0)) := (hb.block _ (by simp)).trans (heap_alloc_new _ _))
  have q0 := row_q0 R1; have q1 := row_q1 R1; have q2 := row_q2 R1; have q3 := row_q3 R1; have q4 := row_q4 R1; have q5 := row_q5 R1; have q6 := row_q6 R1; have q7 := row_q7 R1; have q8 := row_q8 R1; have q9 := row_q9 R1; have q10 := row_q10 R1
  have f0 := row_fz R1 0; have f1 := row_fz R1 1; have f2 := row_fz R1 2; have f3 := row_fz R1 3; have f4 := row_fz R1 4; have f5 := row_fz R1 5; have f6 := row_fz R1 6; have f7 := row_fz R1 7; have f8 := row_fz R1 8; have f9 := row_fz R1 9; have f10 := row_fz R1 10
  go_wp2
  clear q0 f0 q1 f1 q2 f2 q3 f3 q4 f4 q5 f5 q6 f6 q7 f7 q8 f8 q9 f9 q10 f10
  have T5 := row_tell (.int .i64 0) (.string ⟨#[]⟩) (.slice none 0 0) (.int .i64 0) (.int .i64 0) (.string ⟨#[]⟩) (.string ⟨#[]⟩) (.string ⟨#[]⟩) (.string ⟨#[]⟩) (.string ⟨#[]⟩) (.int .i64 0) R1 _ rfl
  generalize (World.setCell (World.setCell (World.setCell (World.setCell (World.setCell (World.setCell (World.setCell (World.setCell (World.setCell (World.setCell (World.setCell w1 ⟨w.heap.size, 0, none⟩ (.int .i64 0)) ⟨w.heap.size, 1, none⟩ (.string ⟨#[]⟩)) ⟨w.heap.size, 2, none⟩ (.slice none 0 0)) ⟨w.heap.size, 3, none⟩ (.int .i64 0)) ⟨w.heap.size, 4, none⟩ (.int .i64 0)) ⟨w.heap.size, 5, none⟩ (.string ⟨#[]⟩)) ⟨w.heap.size, 6, none⟩ (.string ⟨#[]⟩)) ⟨w.heap.size, 7, none⟩ (.string ⟨#[]⟩)) ⟨w.heap.size, 8, none⟩ (.string ⟨#[]⟩)) ⟨w.heap.size, 9, none⟩ (.string ⟨#[]⟩)) ⟨w.heap.size, 10, none⟩ (.int .i64 0)) = X5 at *
  obtain ⟨RX5, GX5⟩ := T5
  (try simp only [Exit.inBlock, Exit.then])
  refine bodyPost_ret (run_cell3 rfl _ _ w.heap.size _ _ _ _ rfl RX5 Tryz.underlying41 rfl (by kernel_rfl)) rfl ?_
  exact ⟨hb1.grown GX5 hb1.size (fun j e => by cases e; exact Nat.le_refl _), rfl⟩

end Go.Proofs.YtahgfmobdfhaaaaGreatDoor
namespace Go.Proofs.YtahgfmobdfhaaaaGreatDoor
set_option maxRecDepth 100000
open Go.ChangeShapes Go.WideShapes Go.ChangeAt Go.RowKit
set_option maxHeartbeats 4000000 in
theorem parse_misfit (s : ByteArray) (n : Int) (ws : List (Nat × Tx)) (kd : Int) (nm : Tx) (l : List Tx) (rn rm : Int) (rf rt rb ra ri : Tx) (s' : St) (w : World) (hpos : 0 < ws.length) (hlen : ws.length ≤ 1099511627776) (hsz : ∀ j (h : j < ws.length), ws[j].2.length ≤ maxLen) (hcol : ∀ j (h : j < ws.length), ws[j].1 + ws[j].2.length ≤ 4611686018427387904)
    (hru : ∀ b g cap W, Rd W b g cap ws ⟨0, false⟩ → Calls Tryz.prog 61 #[.pointer (some ⟨b, 0, none⟩)] W (RuleTo b g cap ws (⟨kd, nm, l, rn, rm, rf, rt, rb, ra, ri⟩, s') W)) (hM : 0 < misP ws s') (hsp : ∀ W, Calls Tryz.prog 60 #[.string s] W (SplitTo ws 0 W)) :
    Calls Tryz.prog 25 #[.string s, .int .i64 n] w (ParseTo (PR.bad (misP ws s') 2) n w) := by
  have HSP := Lib.hid hsp
  clear hsp
  have HRU := Lib.hid hru
  clear hru
  go_enter Tryz.func25, Tryz.ntmps25
  go_upto_region 6 with (go_at_call 60; refine (HSP.out _).mono ?_; rintro e w1 ⟨v, rfl, hown, hb⟩; obtain ⟨g, c1, rfl, hg1, hg2, hcap, hcells⟩ := own_form hown hpos; have HCE := Lib.hid hcells; clear hcells hown)
  have hbw := (Below.refl w.heap.size w).alloc (Nat.le_refl _) (.cells zero11 41)
  have hb1 : Below w.heap.size w w1 := below_then hbw hb (by simp)
  have R1 : w1.heap[w.heap.size]? = some (.cells zero11 41 (0, 0)) := (hb.block _ (by simp)).trans (heap_alloc_new _ _)
  have hgw : w.heap.size < g := by simp at hg1; omega
  have hcap' : (ws.length : Int) ≤ c1 := by omega
  have s1 : w.heap.size < w1.heap.size := by omega
  clear hb hbw hg1
  go_upto_region 7 with fail
  have HR0 : Rd (w1.alloc (.cells #[.slice (some ⟨g, 0, none⟩) ws.length c1, .int .i64 0, .bool false] 117)) w1.heap.size g c1 ws ⟨0, false⟩ := rd_start hg2 hcap hlen hsz HCE.out
  go_upto_region 8 with (go_at_call 61; refine (HRU.out _ _ _ _ HR0).mono ?_; rintro e w2 ⟨L, rfl, h2, ho2, g2⟩; obtain ⟨A2, c2, rfl⟩ := own_slice ho2; dsimp only [ruV]; have R2 := row_step (row_alloc R1 (.cells #[.slice (some ⟨g, 0, none⟩) ws.length c1, .int .i64 0, .bool false] 117)) g2 s1; have q0 := row_q0 R2; have q1 := row_q1 R2; have q2 := row_q2 R2; have q3 := row_q3 R2; have q4 := row_q4 R2; have q5 := row_q5 R2; have q6 := row_q6 R2; have q7 := row_q7 R2; have q8 := row_q8 R2; have q9 := row_q9 R2; have q10 := row_q10 R2; have f0 := row_fz R2 0; have f1 := row_fz R2 1; have f2 := row_fz R2 2; have f3 := row_fz R2 3; have f4 := row_fz R2 4; have f5 := row_fz R2 5; have f6 := row_fz R2 6; have f7 := row_fz R2 7; have f8 := row_fz R2 8; have f9 := row_fz R2 9; have f10 := row_fz R2 10)
  clear q0 f0 q1 f1 q2 f2 q3 f3 q4 f4 q5 f5 q6 f6 q7 f7 q8 f8 q9 f9 q10 f10
  have T5 := row_tell (.int .i64 kd) (.string (bs nm)) (.slice A2 l.length c2) (.int .i64 rn) (.int .i64 rm) (.string (bs rf)) (.string (bs rt)) (.string (bs rb)) (.string (bs ra)) (.string (bs ri)) (.int .i64 0) R2 _ rfl
  generalize (World.setCell (World.setCell (World.setCell (World.setCell (World.setCell (World.setCell (World.setCell (World.setCell (World.setCell (World.setCell (World.setCell w2 ⟨w.heap.size, 0, none⟩ (.int .i64 kd)) ⟨w.heap.size, 1, none⟩ (.string (bs nm))) ⟨w.heap.size, 2, none⟩ (.slice A2 l.length c2)) ⟨w.heap.size, 3, none⟩ (.int .i64 rn)) ⟨w.heap.size, 4, none⟩ (.int .i64 rm)) ⟨w.heap.size, 5, none⟩ (.string (bs rf))) ⟨w.heap.size, 6, none⟩ (.string (bs rt))) ⟨w.heap.size, 7, none⟩ (.string (bs rb))) ⟨w.heap.size, 8, none⟩ (.string (bs ra))) ⟨w.heap.size, 9, none⟩ (.string (bs ri))) ⟨w.heap.size, 10, none⟩ (.int .i64 0)) = X3 at *
  obtain ⟨RX3, GX3⟩ := T5
  have B2 : Below w.heap.size w w2 := (hb1.alloc hb1.size _).grown g2 (by simp; omega) (fun j e => by cases e; omega)
  have B3 : Below w.heap.size w X3 := B2.grown GX3 B2.size (fun j e => by cases e; exact Nat.le_refl _)
  have h3 : Rd X3 w1.heap.size g c1 ws s' := h2.keptBut GX3 (by simp; omega) (by simp; omega)
  have own3 : OwnL X3 (w.heap.size + 1) (.slice A2 l.length c2) l := World.ownsRow.mono (World.ownsRow.kept ho2 GX3 (own_far2 ho2 (by simp; omega))) (by simp; omega)
  have WA3 : WAt X3 g 0 ws := h3.wat
  have gx3 := h3.lt
  have hk3 := h3.k
  clear HR0 h2 ho2 g2 GX3 R1 HCE
  go_upto_region 9 with (go_at_call 62; refine (mis_any _ _ _ ws s' _ h3 hpos hcol).mono ?_; rintro e w4 ⟨rfl, hb4⟩; have R4 := row_below RX3 hb4; have B4 := below_then B3 hb4 B3.size)
  generalize misP ws s' = M at *
  have g1 : decide ((0 : Int) < M) = true := by simp; omega
  go_upto_region 10 with fail
  have q0 := row_q0 R4; have q1 := row_q1 R4; have q2 := row_q2 R4; have q3 := row_q3 R4; have q4 := row_q4 R4; have q5 := row_q5 R4; have q6 := row_q6 R4; have q7 := row_q7 R4; have q8 := row_q8 R4; have q9 := row_q9 R4; have q10 := row_q10 R4
  have f0 := row_fz R4 0; have f1 := row_fz R4 1; have f2 := row_fz R4 2; have f3 := row_fz R4 3; have f4 := row_fz R4 4; have f5 := row_fz R4 5; have f6 := row_fz R4 6; have f7 := row_fz R4 7; have f8 := row_fz R4 8; have f9 := row_fz R4 9; have f10 := row_fz R4 10
  have qa0 := fun O => row_q0 (row_alloc R4 O); have qa1 := fun O => row_q1 (row_alloc R4 O); have qa2 := fun O => row_q2 (row_alloc R4 O); have qa3 := fun O => row_q3 (row_alloc R4 O); have qa4 := fun O => row_q4 (row_alloc R4 O); have qa5 := fun O => row_q5 (row_alloc R4 O); have qa6 := fun O => row_q6 (row_alloc R4 O); have qa7 := fun O => row_q7 (row_alloc R4 O); have qa8 := fun O => row_q8 (row_alloc R4 O); have qa9 := fun O => row_q9 (row_alloc R4 O); have qa10 := fun O => row_q10 (row_alloc R4 O)
  have fa0 := fun O => row_fz (row_alloc R4 O) 0; have fa1 := fun O => row_fz (row_alloc R4 O) 1; have fa2 := fun O => row_fz (row_alloc R4 O) 2; have fa3 := fun O => row_fz (row_alloc R4 O) 3; have fa4 := fun O => row_fz (row_alloc R4 O) 4; have fa5 := fun O => row_fz (row_alloc R4 O) 5; have fa6 := fun O => row_fz (row_alloc R4 O) 6; have fa7 := fun O => row_fz (row_alloc R4 O) 7; have fa8 := fun O => row_fz (row_alloc R4 O) 8; have fa9 := fun O => row_fz (row_alloc R4 O) 9; have fa10 := fun O => row_fz (row_alloc R4 O) 10
  go_wp2
  clear q0 f0 q1 f1 q2 f2 q3 f3 q4 f4 q5 f5 q6 f6 q7 f7 q8 f8 q9 f9 q10 f10 qa0 fa0 qa1 fa1 qa2 fa2 qa3 fa3 qa4 fa4 qa5 fa5 qa6 fa6 qa7 fa7 qa8 fa8 qa9 fa9 qa10 fa10
  have RA := row_alloc R4 (.cells #[.int .i64 n, .int .i64 M, .iface 45 (.int .i64 2)] 62)
  have FB : FaultAt (w4.alloc (.cells #[.int .i64 n, .int .i64 M, .iface 45 (.int .i64 2)] 62)) w4.heap.size n M 2 := ⟨new_cell w4 _ _ 0, new_cell w4 _ _ 1, new_cell w4 _ _ 2⟩
  have BA := (B4).alloc (B4).size (.cells #[.int .i64 n, .int .i64 M, .iface 45 (.int .i64 2)] 62)
  have SA : w4.heap.size < (w4.alloc (.cells #[.int .i64 n, .int .i64 M, .iface 45 (.int .i64 2)] 62)).heap.size := by simp
  have T5 := row_tell (.int .i64 0) (.string ⟨#[]⟩) (.slice none 0 0) (.int .i64 0) (.int .i64 0) (.string ⟨#[]⟩) (.string ⟨#[]⟩) (.string ⟨#[]⟩) (.string ⟨#[]⟩) (.string ⟨#[]⟩) (.int .i64 0) RA _ rfl
  generalize (World.setCell (World.setCell (World.setCell (World.setCell (World.setCell (World.setCell (World.setCell (World.setCell (World.setCell (World.setCell (World.setCell (w4.alloc (.cells #[.int .i64 n, .int .i64 M, .iface 45 (.int .i64 2)] 62)) ⟨w.heap.size, 0, none⟩ (.int .i64 0)) ⟨w.heap.size, 1, none⟩ (.string ⟨#[]⟩)) ⟨w.heap.size, 2, none⟩ (.slice none 0 0)) ⟨w.heap.size, 3, none⟩ (.int .i64 0)) ⟨w.heap.size, 4, none⟩ (.int .i64 0)) ⟨w.heap.size, 5, none⟩ (.string ⟨#[]⟩)) ⟨w.heap.size, 6, none⟩ (.string ⟨#[]⟩)) ⟨w.heap.size, 7, none⟩ (.string ⟨#[]⟩)) ⟨w.heap.size, 8, none⟩ (.string ⟨#[]⟩)) ⟨w.heap.size, 9, none⟩ (.string ⟨#[]⟩)) ⟨w.heap.size, 10, none⟩ (.int .i64 0)) = X5 at *
  obtain ⟨RX5, GX5⟩ := T5
  (try simp only [Exit.inBlock, Exit.then])
  refine bodyPost_ret (run_cell3 rfl _ _ w.heap.size _ _ _ _ rfl RX5 Tryz.underlying41 rfl (by kernel_rfl)) rfl ?_
  exact fault_end BA GX5 SA FB (B4).size (by have := (Array.getElem?_eq_some_iff.1 R4).1; omega)

end Go.Proofs.YtahgfmobdfhaaaaGreatDoor
namespace Go.Proofs.YtahgfmobdfhaaaaGreatDoor
set_option maxRecDepth 100000
open Go.ChangeShapes Go.WideShapes Go.ChangeAt Go.RowKit
set_option maxHeartbeats 4000000 in
theorem parse_wrong (s : ByteArray) (n : Int) (ws : List (Nat × Tx)) (kd : Int) (nm : Tx) (l : List Tx) (rn rm : Int) (rf rt rb ra ri : Tx) (s' : St) (w : World) (hpos : 0 < ws.length) (hlen : ws.length ≤ 1099511627776) (hsz : ∀ j (h : j < ws.length), ws[j].2.length ≤ maxLen) (hcol : ∀ j (h : j < ws.length), ws[j].1 + ws[j].2.length ≤ 4611686018427387904)
    (hru : ∀ b g cap W, Rd W b g cap ws ⟨0, false⟩ → Calls Tryz.prog 61 #[.pointer (some ⟨b, 0, none⟩)] W (RuleTo b g cap ws (⟨kd, nm, l, rn, rm, rf, rt, rb, ra, ri⟩, s') W)) (hM : misP ws s' = 0) (K : Nat) (hwr : s'.k ≤ ws.length → ∀ W g cap A c, WAt W g 0 ws → g < W.heap.size → ws.length ≤ cap → Calls Tryz.prog 63 #[(.agg #[.int .i64 kd, .string (bs nm), .slice A l.length c, .int .i64 rn, .int .i64 rm, .string (bs rf), .string (bs rt), .string (bs rb), .string (bs ra), .string (bs ri), .int .i64 0]), .slice (some ⟨g, 0, none⟩) ws.length cap] W (IntB K W)) (hK : 0 < K) (hsp : ∀ W, Calls Tryz.prog 60 #[.string s] W (SplitTo ws 0 W)) :
    Calls Tryz.prog 25 #[.string s, .int .i64 n] w (ParseTo (PR.bad K 1) n w) := by
  have HSP := Lib.hid hsp
  clear hsp
  have HRU := Lib.hid hru
  clear hru
  have HWR := Lib.hid hwr
  clear hwr
  go_enter Tryz.func25, Tryz.ntmps25
  go_upto_region 6 with (go_at_call 60; refine (HSP.out _).mono ?_; rintro e w1 ⟨v, rfl, hown, hb⟩; obtain ⟨g, c1, rfl, hg1, hg2, hcap, hcells⟩ := own_form hown hpos; have HCE := Lib.hid hcells; clear hcells hown)
  have hbw := (Below.refl w.heap.size w).alloc (Nat.le_refl _) (.cells zero11 41)
  have hb1 : Below w.heap.size w w1 := below_then hbw hb (by simp)
  have R1 : w1.heap[w.heap.size]? = some (.cells zero11 41 (0, 0)) := (hb.block _ (by simp)).trans (heap_alloc_new _ _)
  have hgw : w.heap.size < g := by simp at hg1; omega
  have hcap' : (ws.length : Int) ≤ c1 := by omega
  have s1 : w.heap.size < w1.heap.size := by omega
  clear hb hbw hg1
  go_upto_region 7 with fail
  have HR0 : Rd (w1.alloc (.cells #[.slice (some ⟨g, 0, none⟩) ws.length c1, .int .i64 0, .bool false] 117)) w1.heap.size g c1 ws ⟨0, false⟩ := rd_start hg2 hcap hlen hsz HCE.out
  go_upto_region 8 with (go_at_call 61; refine (HRU.out _ _ _ _ HR0).mono ?_; rintro e w2 ⟨L, rfl, h2, ho2, g2⟩; obtain ⟨A2, c2, rfl⟩ := own_slice ho2; dsimp only [ruV]; have R2 := row_step (row_alloc R1 (.cells #[.slice (some ⟨g, 0, none⟩) ws.length c1, .int .i64 0, .bool false] 117)) g2 s1; have q0 := row_q0 R2; have q1 := row_q1 R2; have q2 := row_q2 R2; have q3 := row_q3 R2; have q4 := row_q4 R2; have q5 := row_q5 R2; have q6 := row_q6 R2; have q7 := row_q7 R2; have q8 := row_q8 R2; have q9 := row_q9 R2; have q10 := row_q10 R2; have f0 := row_fz R2 0; have f1 := row_fz R2 1; have f2 := row_fz R2 2; have f3 := row_fz R2 3; have f4 := row_fz R2 4; have f5 := row_fz R2 5; have f6 := row_fz R2 6; have f7 := row_fz R2 7; have f8 := row_fz R2 8; have f9 := row_fz R2 9; have f10 := row_fz R2 10)
  clear q0 f0 q1 f1 q2 f2 q3 f3 q4 f4 q5 f5 q6 f6 q7 f7 q8 f8 q9 f9 q10 f10
  have T5 := row_tell (.int .i64 kd) (.string (bs nm)) (.slice A2 l.length c2) (.int .i64 rn) (.int .i64 rm) (.string (bs rf)) (.string (bs rt)) (.string (bs rb)) (.string (bs ra)) (.string (bs ri)) (.int .i64 0) R2 _ rfl
  generalize (World.setCell (World.setCell (World.setCell (World.setCell (World.setCell (World.setCell (World.setCell (World.setCell (World.setCell (World.setCell (World.setCell w2 ⟨w.heap.size, 0, none⟩ (.int .i64 kd)) ⟨w.heap.size, 1, none⟩ (.string (bs nm))) ⟨w.heap.size, 2, none⟩ (.slice A2 l.length c2)) ⟨w.heap.size, 3, none⟩ (.int .i64 rn)) ⟨w.heap.size, 4, none⟩ (.int .i64 rm)) ⟨w.heap.size, 5, none⟩ (.string (bs rf))) ⟨w.heap.size, 6, none⟩ (.string (bs rt))) ⟨w.heap.size, 7, none⟩ (.string (bs rb))) ⟨w.heap.size, 8, none⟩ (.string (bs ra))) ⟨w.heap.size, 9, none⟩ (.string (bs ri))) ⟨w.heap.size, 10, none⟩ (.int .i64 0)) = X3 at *
  obtain ⟨RX3, GX3⟩ := T5
  have B2 : Below w.heap.size w w2 := (hb1.alloc hb1.size _).grown g2 (by simp; omega) (fun j e => by cases e; omega)
  have B3 : Below w.heap.size w X3 := B2.grown GX3 B2.size (fun j e => by cases e; exact Nat.le_refl _)
  have h3 : Rd X3 w1.heap.size g c1 ws s' := h2.keptBut GX3 (by simp; omega) (by simp; omega)
  have own3 : OwnL X3 (w.heap.size + 1) (.slice A2 l.length c2) l := World.ownsRow.mono (World.ownsRow.kept ho2 GX3 (own_far2 ho2 (by simp; omega))) (by simp; omega)
  have WA3 : WAt X3 g 0 ws := h3.wat
  have gx3 := h3.lt
  have hk3 := h3.k
  clear HR0 h2 ho2 g2 GX3 R1 HCE
  go_upto_region 9 with (go_at_call 62; refine (mis_any _ _ _ ws s' _ h3 hpos hcol).mono ?_; rintro e w4 ⟨rfl, hb4⟩; have R4 := row_below RX3 hb4; have B4 := below_then B3 hb4 B3.size)
  try rw [hM]
  go_upto_region 11 with fail
  have q0 := row_q0 R4; have q1 := row_q1 R4; have q2 := row_q2 R4; have q3 := row_q3 R4; have q4 := row_q4 R4; have q5 := row_q5 R4; have q6 := row_q6 R4; have q7 := row_q7 R4; have q8 := row_q8 R4; have q9 := row_q9 R4; have q10 := row_q10 R4
  have f0 := row_fz R4 0; have f1 := row_fz R4 1; have f2 := row_fz R4 2; have f3 := row_fz R4 3; have f4 := row_fz R4 4; have f5 := row_fz R4 5; have f6 := row_fz R4 6; have f7 := row_fz R4 7; have f8 := row_fz R4 8; have f9 := row_fz R4 9; have f10 := row_fz R4 10
  have WA4 := WA3.below gx3 hb4
  have gx4 := Nat.lt_of_lt_of_le gx3 hb4.size
  go_upto_region 12 with (go_at_call 63; refine (HWR.out hk3 _ _ _ _ _ WA4 gx4 hcap).mono ?_; rintro e w5 ⟨rfl, hb5⟩; have R5 := row_below R4 hb5; have B5 := below_then B4 hb5 B4.size)
  clear q0 f0 q1 f1 q2 f2 q3 f3 q4 f4 q5 f5 q6 f6 q7 f7 q8 f8 q9 f9 q10 f10
  have g1 : decide ((0 : Int) < K) = true := by simp; omega
  go_upto_region 13 with fail
  have q0 := row_q0 R5; have q1 := row_q1 R5; have q2 := row_q2 R5; have q3 := row_q3 R5; have q4 := row_q4 R5; have q5 := row_q5 R5; have q6 := row_q6 R5; have q7 := row_q7 R5; have q8 := row_q8 R5; have q9 := row_q9 R5; have q10 := row_q10 R5
  have f0 := row_fz R5 0; have f1 := row_fz R5 1; have f2 := row_fz R5 2; have f3 := row_fz R5 3; have f4 := row_fz R5 4; have f5 := row_fz R5 5; have f6 := row_fz R5 6; have f7 := row_fz R5 7; have f8 := row_fz R5 8; have f9 := row_fz R5 9; have f10 := row_fz R5 10
  have qa0 := fun O => row_q0 (row_alloc R5 O); have qa1 := fun O => row_q1 (row_alloc R5 O); have qa2 := fun O => row_q2 (row_alloc R5 O); have qa3 := fun O => row_q3 (row_alloc R5 O); have qa4 := fun O => row_q4 (row_alloc R5 O); have qa5 := fun O => row_q5 (row_alloc R5 O); have qa6 := fun O => row_q6 (row_alloc R5 O); have qa7 := fun O => row_q7 (row_alloc R5 O); have qa8 := fun O => row_q8 (row_alloc R5 O); have qa9 := fun O => row_q9 (row_alloc R5 O); have qa10 := fun O => row_q10 (row_alloc R5 O)
  have fa0 := fun O => row_fz (row_alloc R5 O) 0; have fa1 := fun O => row_fz (row_alloc R5 O) 1; have fa2 := fun O => row_fz (row_alloc R5 O) 2; have fa3 := fun O => row_fz (row_alloc R5 O) 3; have fa4 := fun O => row_fz (row_alloc R5 O) 4; have fa5 := fun O => row_fz (row_alloc R5 O) 5; have fa6 := fun O => row_fz (row_alloc R5 O) 6; have fa7 := fun O => row_fz (row_alloc R5 O) 7; have fa8 := fun O => row_fz (row_alloc R5 O) 8; have fa9 := fun O => row_fz (row_alloc R5 O) 9; have fa10 := fun O => row_fz (row_alloc R5 O) 10
  go_wp2
  clear q0 f0 q1 f1 q2 f2 q3 f3 q4 f4 q5 f5 q6 f6 q7 f7 q8 f8 q9 f9 q10 f10 qa0 fa0 qa1 fa1 qa2 fa2 qa3 fa3 qa4 fa4 qa5 fa5 qa6 fa6 qa7 fa7 qa8 fa8 qa9 fa9 qa10 fa10
  have RA := row_alloc R5 (.cells #[.int .i64 n, .int .i64 K, .iface 45 (.int .i64 1)] 62)
  have FB : FaultAt (w5.alloc (.cells #[.int .i64 n, .int .i64 K, .iface 45 (.int .i64 1)] 62)) w5.heap.size n K 1 := ⟨new_cell w5 _ _ 0, new_cell w5 _ _ 1, new_cell w5 _ _ 2⟩
  have BA := (B5).alloc (B5).size (.cells #[.int .i64 n, .int .i64 K, .iface 45 (.int .i64 1)] 62)
  have SA : w5.heap.size < (w5.alloc (.cells #[.int .i64 n, .int .i64 K, .iface 45 (.int .i64 1)] 62)).heap.size := by simp
  have T5 := row_tell (.int .i64 0) (.string ⟨#[]⟩) (.slice none 0 0) (.int .i64 0) (.int .i64 0) (.string ⟨#[]⟩) (.string ⟨#[]⟩) (.string ⟨#[]⟩) (.string ⟨#[]⟩) (.string ⟨#[]⟩) (.int .i64 0) RA _ rfl
  generalize (World.setCell (World.setCell (World.setCell (World.setCell (World.setCell (World.setCell (World.setCell (World.setCell (World.setCell (World.setCell (World.setCell (w5.alloc (.cells #[.int .i64 n, .int .i64 K, .iface 45 (.int .i64 1)] 62)) ⟨w.heap.size, 0, none⟩ (.int .i64 0)) ⟨w.heap.size, 1, none⟩ (.string ⟨#[]⟩)) ⟨w.heap.size, 2, none⟩ (.slice none 0 0)) ⟨w.heap.size, 3, none⟩ (.int .i64 0)) ⟨w.heap.size, 4, none⟩ (.int .i64 0)) ⟨w.heap.size, 5, none⟩ (.string ⟨#[]⟩)) ⟨w.heap.size, 6, none⟩ (.string ⟨#[]⟩)) ⟨w.heap.size, 7, none⟩ (.string ⟨#[]⟩)) ⟨w.heap.size, 8, none⟩ (.string ⟨#[]⟩)) ⟨w.heap.size, 9, none⟩ (.string ⟨#[]⟩)) ⟨w.heap.size, 10, none⟩ (.int .i64 0)) = X5 at *
  obtain ⟨RX5, GX5⟩ := T5
  (try simp only [Exit.inBlock, Exit.then])
  refine bodyPost_ret (run_cell3 rfl _ _ w.heap.size _ _ _ _ rfl RX5 Tryz.underlying41 rfl (by kernel_rfl)) rfl ?_
  exact fault_end BA GX5 SA FB (B5).size (by have := (Array.getElem?_eq_some_iff.1 R5).1; omega)

end Go.Proofs.YtahgfmobdfhaaaaGreatDoor
namespace Go.Proofs.YtahgfmobdfhaaaaGreatDoor
set_option maxRecDepth 100000
open Go.ChangeShapes Go.WideShapes Go.ChangeAt Go.RowKit
set_option maxHeartbeats 4000000 in
theorem parse_ok (s : ByteArray) (n : Int) (ws : List (Nat × Tx)) (kd : Int) (nm : Tx) (l : List Tx) (rn rm : Int) (rf rt rb ra ri : Tx) (s' : St) (w : World) (hpos : 0 < ws.length) (hlen : ws.length ≤ 1099511627776) (hsz : ∀ j (h : j < ws.length), ws[j].2.length ≤ maxLen) (hcol : ∀ j (h : j < ws.length), ws[j].1 + ws[j].2.length ≤ 4611686018427387904)
    (hru : ∀ b g cap W, Rd W b g cap ws ⟨0, false⟩ → Calls Tryz.prog 61 #[.pointer (some ⟨b, 0, none⟩)] W (RuleTo b g cap ws (⟨kd, nm, l, rn, rm, rf, rt, rb, ra, ri⟩, s') W)) (hM : misP ws s' = 0)  (hwr : s'.k ≤ ws.length → ∀ W g cap A c, WAt W g 0 ws → g < W.heap.size → ws.length ≤ cap → Calls Tryz.prog 63 #[(.agg #[.int .i64 kd, .string (bs nm), .slice A l.length c, .int .i64 rn, .int .i64 rm, .string (bs rf), .string (bs rt), .string (bs rb), .string (bs ra), .string (bs ri), .int .i64 0]), .slice (some ⟨g, 0, none⟩) ws.length cap] W (IntB 0 W)) (hsp : ∀ W, Calls Tryz.prog 60 #[.string s] W (SplitTo ws 0 W)) :
    Calls Tryz.prog 25 #[.string s, .int .i64 n] w (ParseTo (PR.ok ⟨kd, nm, l, rn, rm, rf, rt, rb, ra, ri⟩) n w) := by
  have HSP := Lib.hid hsp
  clear hsp
  have HRU := Lib.hid hru
  clear hru
  have HWR := Lib.hid hwr
  clear hwr
  go_enter Tryz.func25, Tryz.ntmps25
  go_upto_region 6 with (go_at_call 60; refine (HSP.out _).mono ?_; rintro e w1 ⟨v, rfl, hown, hb⟩; obtain ⟨g, c1, rfl, hg1, hg2, hcap, hcells⟩ := own_form hown hpos; have HCE := Lib.hid hcells; clear hcells hown)
  have hbw := (Below.refl w.heap.size w).alloc (Nat.le_refl _) (.cells zero11 41)
  have hb1 : Below w.heap.size w w1 := below_then hbw hb (by simp)
  have R1 : w1.heap[w.heap.size]? = some (.cells zero11 41 (0, 0)) := (hb.block _ (by simp)).trans (heap_alloc_new _ _)
  have hgw : w.heap.size < g := by simp at hg1; omega
  have hcap' : (ws.length : Int) ≤ c1 := by omega
  have s1 : w.heap.size < w1.heap.size := by omega
  clear hb hbw hg1
  go_upto_region 7 with fail
  have HR0 : Rd (w1.alloc (.cells #[.slice (some ⟨g, 0, none⟩) ws.length c1, .int .i64 0, .bool false] 117)) w1.heap.size g c1 ws ⟨0, false⟩ := rd_start hg2 hcap hlen hsz HCE.out
  go_upto_region 8 with (go_at_call 61; refine (HRU.out _ _ _ _ HR0).mono ?_; rintro e w2 ⟨L, rfl, h2, ho2, g2⟩; obtain ⟨A2, c2, rfl⟩ := own_slice ho2; dsimp only [ruV]; have R2 := row_step (row_alloc R1 (.cells #[.slice (some ⟨g, 0, none⟩) ws.length c1, .int .i64 0, .bool false] 117)) g2 s1; have q0 := row_q0 R2; have q1 := row_q1 R2; have q2 := row_q2 R2; have q3 := row_q3 R2; have q4 := row_q4 R2; have q5 := row_q5 R2; have q6 := row_q6 R2; have q7 := row_q7 R2; have q8 := row_q8 R2; have q9 := row_q9 R2; have q10 := row_q10 R2; have f0 := row_fz R2 0; have f1 := row_fz R2 1; have f2 := row_fz R2 2; have f3 := row_fz R2 3; have f4 := row_fz R2 4; have f5 := row_fz R2 5; have f6 := row_fz R2 6; have f7 := row_fz R2 7; have f8 := row_fz R2 8; have f9 := row_fz R2 9; have f10 := row_fz R2 10)
  clear q0 f0 q1 f1 q2 f2 q3 f3 q4 f4 q5 f5 q6 f6 q7 f7 q8 f8 q9 f9 q10 f10
  have T5 := row_tell (.int .i64 kd) (.string (bs nm)) (.slice A2 l.length c2) (.int .i64 rn) (.int .i64 rm) (.string (bs rf)) (.string (bs rt)) (.string (bs rb)) (.string (bs ra)) (.string (bs ri)) (.int .i64 0) R2 _ rfl
  generalize (World.setCell (World.setCell (World.setCell (World.setCell (World.setCell (World.setCell (World.setCell (World.setCell (World.setCell (World.setCell (World.setCell w2 ⟨w.heap.size, 0, none⟩ (.int .i64 kd)) ⟨w.heap.size, 1, none⟩ (.string (bs nm))) ⟨w.heap.size, 2, none⟩ (.slice A2 l.length c2)) ⟨w.heap.size, 3, none⟩ (.int .i64 rn)) ⟨w.heap.size, 4, none⟩ (.int .i64 rm)) ⟨w.heap.size, 5, none⟩ (.string (bs rf))) ⟨w.heap.size, 6, none⟩ (.string (bs rt))) ⟨w.heap.size, 7, none⟩ (.string (bs rb))) ⟨w.heap.size, 8, none⟩ (.string (bs ra))) ⟨w.heap.size, 9, none⟩ (.string (bs ri))) ⟨w.heap.size, 10, none⟩ (.int .i64 0)) = X3 at *
  obtain ⟨RX3, GX3⟩ := T5
  have B2 : Below w.heap.size w w2 := (hb1.alloc hb1.size _).grown g2 (by simp; omega) (fun j e => by cases e; omega)
  have B3 : Below w.heap.size w X3 := B2.grown GX3 B2.size (fun j e => by cases e; exact Nat.le_refl _)
  have h3 : Rd X3 w1.heap.size g c1 ws s' := h2.keptBut GX3 (by simp; omega) (by simp; omega)
  have own3 : OwnL X3 (w.heap.size + 1) (.slice A2 l.length c2) l := World.ownsRow.mono (World.ownsRow.kept ho2 GX3 (own_far2 ho2 (by simp; omega))) (by simp; omega)
  have WA3 : WAt X3 g 0 ws := h3.wat
  have gx3 := h3.lt
  have hk3 := h3.k
  clear HR0 h2 ho2 g2 GX3 R1 HCE
  go_upto_region 9 with (go_at_call 62; refine (mis_any _ _ _ ws s' _ h3 hpos hcol).mono ?_; rintro e w4 ⟨rfl, hb4⟩; have R4 := row_below RX3 hb4; have B4 := below_then B3 hb4 B3.size)
  try rw [hM]
  go_upto_region 11 with fail
  have q0 := row_q0 R4; have q1 := row_q1 R4; have q2 := row_q2 R4; have q3 := row_q3 R4; have q4 := row_q4 R4; have q5 := row_q5 R4; have q6 := row_q6 R4; have q7 := row_q7 R4; have q8 := row_q8 R4; have q9 := row_q9 R4; have q10 := row_q10 R4
  have f0 := row_fz R4 0; have f1 := row_fz R4 1; have f2 := row_fz R4 2; have f3 := row_fz R4 3; have f4 := row_fz R4 4; have f5 := row_fz R4 5; have f6 := row_fz R4 6; have f7 := row_fz R4 7; have f8 := row_fz R4 8; have f9 := row_fz R4 9; have f10 := row_fz R4 10
  have WA4 := WA3.below gx3 hb4
  have gx4 := Nat.lt_of_lt_of_le gx3 hb4.size
  go_upto_region 12 with (go_at_call 63; refine (HWR.out hk3 _ _ _ _ _ WA4 gx4 hcap).mono ?_; rintro e w5 ⟨rfl, hb5⟩; have R5 := row_below R4 hb5; have B5 := below_then B4 hb5 B4.size)
  clear q0 f0 q1 f1 q2 f2 q3 f3 q4 f4 q5 f5 q6 f6 q7 f7 q8 f8 q9 f9 q10 f10
  go_upto_region 14 with fail
  have q0 := row_q0 R5; have q1 := row_q1 R5; have q2 := row_q2 R5; have q3 := row_q3 R5; have q4 := row_q4 R5; have q5 := row_q5 R5; have q6 := row_q6 R5; have q7 := row_q7 R5; have q8 := row_q8 R5; have q9 := row_q9 R5; have q10 := row_q10 R5
  have f0 := row_fz R5 0; have f1 := row_fz R5 1; have f2 := row_fz R5 2; have f3 := row_fz R5 3; have f4 := row_fz R5 4; have f5 := row_fz R5 5; have f6 := row_fz R5 6; have f7 := row_fz R5 7; have f8 := row_fz R5 8; have f9 := row_fz R5 9; have f10 := row_fz R5 10
  go_upto_region 15 with fail
  clear q0 f0 q1 f1 q2 f2 q3 f3 q4 f4 q5 f5 q6 f6 q7 f7 q8 f8 q9 f9 q10 f10
  have R6 := heap_set (j := 10) R5 (.int .i64 n)
  have G6 := grown_setCell w5 w.heap.size 10 (.int .i64 n)
  generalize w5.setCell ⟨w.heap.size, 10, none⟩ (.int .i64 n) = W6 at *
  simp only [List.setIfInBounds_toArray, List.set] at R6
  have q0 := row_q0 R6; have q1 := row_q1 R6; have q2 := row_q2 R6; have q3 := row_q3 R6; have q4 := row_q4 R6; have q5 := row_q5 R6; have q6 := row_q6 R6; have q7 := row_q7 R6; have q8 := row_q8 R6; have q9 := row_q9 R6; have q10 := row_q10 R6
  have f0 := row_fz R6 0; have f1 := row_fz R6 1; have f2 := row_fz R6 2; have f3 := row_fz R6 3; have f4 := row_fz R6 4; have f5 := row_fz R6 5; have f6 := row_fz R6 6; have f7 := row_fz R6 7; have f8 := row_fz R6 8; have f9 := row_fz R6 9; have f10 := row_fz R6 10
  go_wp2
  clear q0 f0 q1 f1 q2 f2 q3 f3 q4 f4 q5 f5 q6 f6 q7 f7 q8 f8 q9 f9 q10 f10
  have T5 := row_tell (.int .i64 kd) (.string (bs nm)) (.slice A2 l.length c2) (.int .i64 rn) (.int .i64 rm) (.string (bs rf)) (.string (bs rt)) (.string (bs rb)) (.string (bs ra)) (.string (bs ri)) (.int .i64 n) R6 _ rfl
  generalize (World.setCell (World.setCell (World.setCell (World.setCell (World.setCell (World.setCell (World.setCell (World.setCell (World.setCell (World.setCell (World.setCell W6 ⟨w.heap.size, 0, none⟩ (.int .i64 kd)) ⟨w.heap.size, 1, none⟩ (.string (bs nm))) ⟨w.heap.size, 2, none⟩ (.slice A2 l.length c2)) ⟨w.heap.size, 3, none⟩ (.int .i64 rn)) ⟨w.heap.size, 4, none⟩ (.int .i64 rm)) ⟨w.heap.size, 5, none⟩ (.string (bs rf))) ⟨w.heap.size, 6, none⟩ (.string (bs rt))) ⟨w.heap.size, 7, none⟩ (.string (bs rb))) ⟨w.heap.size, 8, none⟩ (.string (bs ra))) ⟨w.heap.size, 9, none⟩ (.string (bs ri))) ⟨w.heap.size, 10, none⟩ (.int .i64 n)) = X7 at *
  obtain ⟨RX7, GX7⟩ := T5
  have own7 : OwnL X7 (w.heap.size + 1) (.slice A2 l.length c2) l := World.ownsRow.kept (World.ownsRow.kept (own_below (own_below own3 hb4 (by have := (Array.getElem?_eq_some_iff.1 RX3).1; omega)) hb5 (by have := (Array.getElem?_eq_some_iff.1 R4).1; omega)) G6 (own_far2 (own_below (own_below own3 hb4 (by have := (Array.getElem?_eq_some_iff.1 RX3).1; omega)) hb5 (by have := (Array.getElem?_eq_some_iff.1 R4).1; omega)) (by omega))) GX7 (own_far2 (World.ownsRow.kept (own_below (own_below own3 hb4 (by have := (Array.getElem?_eq_some_iff.1 RX3).1; omega)) hb5 (by have := (Array.getElem?_eq_some_iff.1 R4).1; omega)) G6 (own_far2 (own_below (own_below own3 hb4 (by have := (Array.getElem?_eq_some_iff.1 RX3).1; omega)) hb5 (by have := (Array.getElem?_eq_some_iff.1 R4).1; omega)) (by omega))) (by omega))
  have B7 := (B5.grown G6 B5.size (fun j e => by cases e; exact Nat.le_refl _)).grown GX7 (by have := B5.size; have := G6.size; omega) (fun j e => by cases e; exact Nat.le_refl _)
  (try simp only [Exit.inBlock, Exit.then])
  refine bodyPost_ret (run_cell3 rfl _ _ w.heap.size _ _ _ _ rfl RX7 Tryz.underlying41 rfl (by kernel_rfl)) rfl ?_
  exact ⟨B7, _, rfl, World.ownsRow.mono own7 (by omega)⟩

end Go.Proofs.YtahgfmobdfhaaaaGreatDoor
namespace Go.Proofs.YtahgfmobdfhaaaaGreatDoor
set_option maxRecDepth 100000
open Go.ChangeShapes Go.WideShapes Go.ChangeAt Go.RowKit

theorem wrong_any (r : Ru) (ws : List (Nat × Tx)) (hF : Formed ws.length r) (hm : ws.length ≤ 1099511627776) (W : World) (g cap : Nat) (A : Option Addr) (c : Nat) (hWA : WAt W g 0 ws) (hg : g < W.heap.size) (hc : ws.length ≤ cap) :
    Calls Tryz.prog 63 #[ruV r (.slice A r.list.length c) 0, .slice (some ⟨g, 0, none⟩) ws.length cap] W (IntB (wrongP r ws) W) := by
  obtain ⟨kd, nm, l, n, m, f, t, by_, ta, in_⟩ := r
  obtain ⟨hl, hk, hn⟩ := hF
  simp only at hl hk hn
  have hn' : (bs nm).size ≤ maxLen := by rw [size_bs]; unfold maxLen; omega
  rcases hk with rfl | rfl | rfl | rfl | rfl | rfl | rfl | ⟨rfl | rfl | rfl, h2⟩ | ⟨rfl, h4⟩
  · exact wrong_1 nm l n m f t by_ ta in_ A c 0 g cap ws W hWA hg hm hc hl hn'
  · exact wrong_2 nm l n m f t by_ ta in_ A c 0 g cap ws W hWA hg hm hc hl
  · exact wrong_3 nm l n m f t by_ ta in_ A c 0 g cap ws W hWA hg hm hc hl
  · exact wrong_6 nm l n m f t by_ ta in_ A c 0 g cap ws W hWA hg hm hc hl
  · exact wrong_8 nm l n m f t by_ ta in_ A c 0 g cap ws W hWA hg hm hc hl
  · exact wrong_9 nm l n m f t by_ ta in_ A c 0 g cap ws W hWA hg hm hc hl
  · exact wrong_10 nm l n m f t by_ ta in_ A c 0 g cap ws W hWA hg hm hc hl
  · by_cases h1 : n < 2
    · have e : wrongP ⟨4, nm, l, n, m, f, t, by_, ta, in_⟩ ws = ws[1].1 := by simp [wrongP, h1, colAt_eq (show 1 < ws.length by omega)]
      rw [e]; exact wrong_4bad1 nm l n m f t by_ ta in_ A c 0 g cap ws W hWA hg hm hc hl h2 h1
    · by_cases h3 : (l.length : Int) < n
      · have e : wrongP ⟨4, nm, l, n, m, f, t, by_, ta, in_⟩ ws = ws[1].1 := by simp [wrongP, h3, colAt_eq (show 1 < ws.length by omega)]
        rw [e]; exact wrong_4bad2 nm l n m f t by_ ta in_ A c 0 g cap ws W hWA hg hm hc hl h2 h1 h3
      · have e : wrongP ⟨4, nm, l, n, m, f, t, by_, ta, in_⟩ ws = againP [] (ws.drop (ws.length - l.length)) := by simp [wrongP, h1, h3, listP]
        rw [e]; exact wrong_4good nm l n m f t by_ ta in_ A c 0 g cap ws W hWA hg hm hc hl h1 h3
  · by_cases h1 : n < 2
    · have e : wrongP ⟨5, nm, l, n, m, f, t, by_, ta, in_⟩ ws = ws[1].1 := by simp [wrongP, h1, colAt_eq (show 1 < ws.length by omega)]
      rw [e]; exact wrong_5bad1 nm l n m f t by_ ta in_ A c 0 g cap ws W hWA hg hm hc hl h2 h1
    · by_cases h3 : (l.length : Int) < n
      · have e : wrongP ⟨5, nm, l, n, m, f, t, by_, ta, in_⟩ ws = ws[1].1 := by simp [wrongP, h3, colAt_eq (show 1 < ws.length by omega)]
        rw [e]; exact wrong_5bad2 nm l n m f t by_ ta in_ A c 0 g cap ws W hWA hg hm hc hl h2 h1 h3
      · have e : wrongP ⟨5, nm, l, n, m, f, t, by_, ta, in_⟩ ws = againP [] (ws.drop (ws.length - l.length)) := by simp [wrongP, h1, h3, listP]
        rw [e]; exact wrong_5good nm l n m f t by_ ta in_ A c 0 g cap ws W hWA hg hm hc hl h1 h3
  · by_cases ht : timeP n = false
    · have e : wrongP ⟨11, nm, l, n, m, f, t, by_, ta, in_⟩ ws = ws[1].1 := by simp [wrongP, ht, colAt_eq (show 1 < ws.length by omega)]
      rw [e]; exact wrong_11a nm l n m f t by_ ta in_ A c 0 g cap ws W hWA hg hm hc hl h2 ht
    · have e : wrongP ⟨11, nm, l, n, m, f, t, by_, ta, in_⟩ ws = 0 := by simp [wrongP, ht]
      rw [e]; exact wrong_11b nm l n m f t by_ ta in_ A c 0 g cap ws W hWA hg hm hc hl (eq_true_of_ne_false ht)
  · by_cases h0 : n = 0
    · have e : wrongP ⟨7, nm, l, n, m, f, t, by_, ta, in_⟩ ws = ws[2].1 := by simp [wrongP, h0, colAt_eq (show 2 < ws.length by omega)]
      rw [e]; exact wrong_7a nm l n m f t by_ ta in_ A c 0 g cap ws W hWA hg hm hc hl h4 h0
    · by_cases ht : timeP m = false
      · have e : wrongP ⟨7, nm, l, n, m, f, t, by_, ta, in_⟩ ws = ws[3].1 := by simp [wrongP, h0, ht, colAt_eq (show 3 < ws.length by omega)]
        rw [e]; exact wrong_7b nm l n m f t by_ ta in_ A c 0 g cap ws W hWA hg hm hc hl h4 h0 ht
      · have e : wrongP ⟨7, nm, l, n, m, f, t, by_, ta, in_⟩ ws = 0 := by simp [wrongP, h0, ht]
        rw [e]; exact wrong_7c nm l n m f t by_ ta in_ A c 0 g cap ws W hWA hg hm hc hl h0 (eq_true_of_ne_false ht)

theorem mis_zero {ws : List (Nat × Tx)} {s : St} (hpos : ∀ x ∈ ws, 1 ≤ x.1) (h1 : 0 < ws.length) (h : misP ws s = 0) : ws.length ≤ s.k ∧ s.m = false := by
  unfold misP at h
  split at h
  · rename_i hk
    rw [colAt_eq hk] at h
    have := hpos ws[s.k] (List.getElem_mem _)
    omega
  · rename_i hk
    split at h
    · rename_i hm; exact ⟨by omega, hm⟩
    · unfold endP at h
      rw [colAt_eq (show ws.length - 1 < ws.length by omega)] at h
      have := hpos ws[ws.length - 1] (List.getElem_mem _)
      omega
theorem parseW_to (s : ByteArray) (n : Int) (ws : List (Nat × Tx)) (w : World) (hpos : 0 < ws.length) (hlen : ws.length ≤ 1099511627776) (hcol0 : ∀ x ∈ ws, 1 ≤ x.1) (hsz : ∀ j (h : j < ws.length), ws[j].2.length ≤ maxLen) (hcol : ∀ j (h : j < ws.length), ws[j].1 + ws[j].2.length ≤ 4611686018427387904)
    (hsp : ∀ W, Calls Tryz.prog 60 #[.string s] W (SplitTo ws 0 W)) :
    Calls Tryz.prog 25 #[.string s, .int .i64 n] w (ParseTo (parseW ws) n w) := by
  have hru := fun b g cap W h => rule_any b g cap ws W h
  have hF : (ruleP (tx ws)).2.m = false → (ruleP (tx ws)).2.k ≤ (tx ws).length → Formed (tx ws).length (ruleP (tx ws)).1 := formed
  rw [tx_len] at hF
  unfold parseW
  generalize ruleP (tx ws) = P at *
  obtain ⟨⟨kd, nm, l, rn, rm, rf, rt, rb, ra, ri⟩, s'⟩ := P
  simp only at hF ⊢
  by_cases hM : 0 < misP ws s'
  · rw [if_pos hM]
    exact parse_misfit s n ws kd nm l rn rm rf rt rb ra ri s' w hpos hlen hsz hcol hru hM hsp
  · rw [if_neg hM]
    have hM0 : misP ws s' = 0 := by omega
    obtain ⟨hk, hm⟩ := mis_zero hcol0 hpos hM0
    have hwr := fun (hk2 : s'.k ≤ ws.length) W g cap A c h1 h2 h3 => wrong_any ⟨kd, nm, l, rn, rm, rf, rt, rb, ra, ri⟩ ws (hF hm hk2) hlen W g cap A c h1 h2 h3
    by_cases hK : 0 < wrongP ⟨kd, nm, l, rn, rm, rf, rt, rb, ra, ri⟩ ws
    · rw [if_pos hK]
      exact parse_wrong s n ws kd nm l rn rm rf rt rb ra ri s' w hpos hlen hsz hcol hru hM0 _ hwr hK hsp
    · rw [if_neg hK]
      have h0 : wrongP ⟨kd, nm, l, rn, rm, rf, rt, rb, ra, ri⟩ ws = 0 := by omega
      rw [h0] at hwr
      exact parse_ok s n ws kd nm l rn rm rf rt rb ra ri s' w hpos hlen hsz hcol hru hM0 hwr hsp
theorem Parse_any (s : ByteArray) (n : Int) (w : World) (hs : s.size ≤ 1152921504606846976) (hb : badL s.data.toList = 0 → (partL s.data.toList).length ≤ 1099511627776) :
    Calls Tryz.prog 25 #[.string s, .int .i64 n] w (ParseTo (parseL s.data.toList) n w) := by
  have hsp := fun W => Split_any s W (by unfold maxLen; omega) hb
  have hbo := words_bounds s.data.toList
  have hct := words_count s.data.toList
  unfold parseL
  by_cases h0 : badL s.data.toList = 0
  · rw [if_neg (by omega)]
    have hb' := hb h0
    rw [h0] at hsp
    clear hb
    rw [size_list] at hbo
    generalize wordsL s.data.toList = ws at *
    cases ws with
    | nil => rw [if_pos rfl]; exact parse_empty s n w hsp
    | cons a r =>
      rw [if_neg (by simp)]
      refine parseW_to s n (a :: r) w (by simp) (by omega) (fun x hx => (hbo x hx).1) ?_ ?_ hsp
      · intro j h; have := hbo _ (List.getElem_mem h); unfold maxLen; omega
      · intro j h; have := hbo _ (List.getElem_mem h); omega
  · have hpos : 0 < badL s.data.toList := by omega
    rw [if_pos hpos]
    have hw : wordsL s.data.toList = [] := by simp [wordsL, h0]
    rw [hw] at hsp
    exact parse_bad s n _ w hpos hsp
end Go.Proofs.YtahgfmobdfhaaaaGreatDoor
