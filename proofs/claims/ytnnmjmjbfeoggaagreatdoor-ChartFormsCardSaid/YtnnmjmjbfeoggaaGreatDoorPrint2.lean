/-
  rule.Print: numbers and names: a rule's fields as arrays.
-/
import Derived.Test.YtnnmjmjbfeoggaaGreatDoorRuleEq
namespace Go.Proofs.YtnnmjmjbfeoggaaGreatDoor
set_option maxRecDepth 100000
open Go.ChangeShapes Go.WideShapes Go.ChangeAt Go.RowKit

/-- texts in the cells of a slice, wherever it lies -/
def LAt (w : World) (A : Option Addr) (c : Nat) (l : List Tx) : Prop := l.length ≤ c ∧ l.length ≤ 9223372036854775807 ∧ ∀ j (hj : j < l.length), ∃ g off, A = some ⟨g, off, none⟩ ∧ g < w.heap.size ∧ w.cell? ⟨g, off + j, none⟩ = some (.string (bs l[j]))
theorem LAt.below {w w' : World} {A : Option Addr} {c : Nat} {l : List Tx} (h : LAt w A c l) (hb : Below w.heap.size w w') : LAt w' A c l :=
  ⟨h.1, h.2.1, fun j hj => let ⟨g, off, e, hl, hc⟩ := h.2.2 j hj; ⟨g, off, e, Nat.lt_of_lt_of_le hl hb.size, (hb.cell hl).trans hc⟩⟩
theorem lAt_of {w : World} {A : Option Addr} {c : Nat} {l : List Tx} (h : ListAt w A c l) (hm : l.length ≤ 9223372036854775807) : LAt w A c l :=
  ⟨h.1, hm, fun j hj => let ⟨g, e, hl, hc⟩ := h.2 j hj; ⟨g, 0, e, hl, by rw [Nat.zero_add]; exact hc⟩⟩
/-- the word at a kind -/
def wordP (tbl : List Tx) (k : Int) : Tx := if k < 0 ∨ (tbl.length : Int) ≤ k then [] else tbl[k.toNat]?.getD []
theorem wordAt_any (t n c : Nat) (l : List Tx) (k : Int) (w : World) (h : StrAt w t l) (hn : n = l.length) (_hl : l.length ≤ 1000000) (_hc : l.length ≤ c) :
    Calls Tryz.prog 136 #[.slice (some ⟨t, 0, none⟩) n c, .int .i64 k] w fun e w' => e = .returned (.string (bs (wordP l k))) ∧ w = w' := by
  subst hn
  by_cases h1 : k < 0
  · have hv : wordP l k = [] := by unfold wordP; rw [if_pos (.inl h1)]
    rw [hv]
    go_enter Tryz.func136, Tryz.ntmps136
    go_wp2
    go_ret
    exact ⟨rfl, rfl⟩
  · obtain ⟨j, rfl⟩ : ∃ j : Nat, k = j := ⟨k.toNat, by omega⟩
    by_cases h2 : l.length ≤ j
    · have hv : wordP l j = [] := by unfold wordP; rw [if_pos (.inr (by omega))]
      rw [hv]
      go_enter Tryz.func136, Tryz.ntmps136
      go_wp2
      go_ret
      exact ⟨rfl, rfl⟩
    · have hj : j < l.length := by omega
      have hv : wordP l j = l[j] := by unfold wordP; rw [if_neg (by omega)]; simp [hj]
      have hx := h j hj
      rw [hv]
      generalize bs l[j] = X at *
      go_enter Tryz.func136, Tryz.ntmps136
      go_wp2
      go_ret
      exact ⟨rfl, rfl⟩
def optP (x y : Tx) : List Tx := if y = [] then [] else [x, y]
/-- what option answers: a list in memory of its own -/
def OptTo (l : List Tx) (w : World) (e : Ending) (w' : World) : Prop := ∃ A c, e = .returned (.slice A l.length c) ∧ ListAt w' A c l ∧ Below w.heap.size w w'
theorem optionW_any (x y : Tx) (w : World) : Calls Tryz.prog 140 #[.string (bs x), .string (bs y)] w (OptTo (optP x y) w) := by
  by_cases h : y = []
  · subst h
    have hv : optP x [] = [] := by simp [optP]
    have hb2 : (bs []).toList.isEmpty = true := by rw [Lib.toList_data, list_bs]; rfl
    rw [hv]
    go_enter Tryz.func140, Tryz.ntmps140
    go_wp2
    go_ret
    exact ⟨none, 0, rfl, ⟨Nat.le_refl _, fun j hj => by simp at hj⟩, Below.refl _ _⟩
  · have hv : optP x y = [x, y] := by simp [optP, h]
    have hb : ((bs y).toList == ([] : List UInt8)) = false := by rw [Lib.toList_data, list_bs]; simpa using h
    have hb2 : (bs y).toList.isEmpty = false := by rw [Lib.toList_data, list_bs]; simpa using h
    rw [hv]
    go_enter Tryz.func140, Tryz.ntmps140
    go_wp2
    go_ret
    refine ⟨_, _, rfl, ⟨Nat.le_refl _, fun j hj => ?_⟩, (Below.refl _ _).alloc (Nat.le_refl _) _⟩
    refine ⟨w.heap.size, rfl, by simp, ?_⟩
    rw [new_cell]
    match j, hj with
    | 0, _ => rfl
    | 1, _ => rfl
set_option maxHeartbeats 1000000 in
theorem Equal_any (la lb : List Tx) (A B : Option Addr) (ca cb : Nat) (w : World) (h1 : LAt w A ca la) (h2 : LAt w B cb lb) :
    Calls Tryz.prog 75 #[.slice A la.length ca, .slice B lb.length cb] w fun e w' => e = .returned (.bool (decide (la = lb))) ∧ Below w.heap.size w w' := by
  obtain ⟨c1, m1, H1⟩ := h1
  obtain ⟨c2, m2, H2⟩ := h2
  by_cases hl : la.length = lb.length
  · have HL := Lib.hid hl
    clear hl
    rw [← HL.out] at c2 m2 ⊢
    have H1' := Lib.hid H1
    have H2' := Lib.hid H2
    clear H1 H2
    go_enter Tryz.func75, Tryz.ntmps75
    go_wp2
    go_loopw [13] (fun i wr => ∃ k : Nat, k ≤ la.length ∧ i = .int .i64 k ∧ Hid (la.take k = lb.take k) ∧ ∃ n, wr = w.drewN n) (fun i _ => la.length - (intOf i).toNat)
    case atStart => exact ⟨0, Nat.zero_le _, rfl, rfl, 0, rfl⟩
    case round =>
      obtain ⟨k, hk, rfl, HT, n, rfl⟩ := hrel
      by_cases hlt : k < la.length
      · have hlt2 : k < lb.length := by have := HL.out; omega
        obtain ⟨g, off, rfl, _, x1⟩ := H1'.out k hlt
        obtain ⟨g', off', rfl, _, x2⟩ := H2'.out k hlt2
        by_cases he : la[k] = lb[k]
        · have hb : ((bs la[k]).toList != (bs lb[k]).toList) = false := by rw [Lib.toList_data, Lib.toList_data, list_bs, list_bs, he]; simp
          have hb' : ((bs la[k]).toList == (bs lb[k]).toList) = true := by rw [Lib.toList_data, Lib.toList_data, list_bs, list_bs, he]; simp
          have HN : Hid (la.take (k + 1) = lb.take (k + 1)) := by show _ = _; rw [List.take_succ_eq_append_getElem hlt, List.take_succ_eq_append_getElem hlt2, HT.out, he]
          clear he HT
          generalize bs la[k] = X at *
          generalize bs lb[k] = Y at *
          go_wp2
          go_quiet (fail)
          go_wp2
          go_roundw
          case rel => exact ⟨k + 1, by omega, by go_num, HN, _, rfl⟩
          case measure => simp [intOf]; omega
        · have hb : ((bs la[k]).toList != (bs lb[k]).toList) = true := by rw [Lib.toList_data, Lib.toList_data, list_bs, list_bs]; simpa using he
          have hb' : ((bs la[k]).toList == (bs lb[k]).toList) = false := by rw [Lib.toList_data, Lib.toList_data, list_bs, list_bs]; simpa using he
          have HF : Hid (decide (la = lb) = false) := by
            show _ = _
            rw [decide_eq_false_iff_not]
            intro e; apply he; subst e; rfl
          clear he HT
          generalize bs la[k] = X at *
          generalize bs lb[k] = Y at *
          go_wp2
          go_quiet (fail)
          go_wp2
          go_ret
          exact ⟨ret_bool HF.out.symm, below_drewN (below_drewN (Below.refl _ _) _) _⟩
      · have HE : Hid (decide (la = lb) = true) := by
          show _ = _
          rw [decide_eq_true_iff]
          have := HT.out
          rwa [List.take_of_length_le (by omega), List.take_of_length_le (by have := HL.out; omega)] at this
        go_wp2
        go_ret
        exact ⟨ret_bool HE.out.symm, below_drewN (Below.refl _ _) _⟩
  · have hd : decide (la = lb) = false := by rw [decide_eq_false_iff_not]; intro e; apply hl; rw [e]
    have hi : ((la.length : Int) != lb.length) = true := by simp; omega
    have hi2 : (la.length != lb.length) = true := by simpa using hl
    rw [hd]
    go_enter Tryz.func75, Tryz.ntmps75
    go_wp2
    go_ret
    exact ⟨rfl, Below.refl _ _⟩
end Go.Proofs.YtnnmjmjbfeoggaaGreatDoor
namespace Go.Proofs.YtnnmjmjbfeoggaaGreatDoor
set_option maxRecDepth 100000
open Go.ChangeShapes Go.WideShapes Go.ChangeAt Go.RowKit

def numbersV (r : Ru) : Value := .agg #[.int .i64 r.kind, .int .i64 r.n, .int .i64 r.m]
def namesV (r : Ru) : Value := .agg #[.string (bs r.name), .string (bs r.from_), .string (bs r.to_), .string (bs r.by_), .string (bs r.task), .string (bs r.in_)]
def ValB (v : Value) (w : World) (e : Ending) (w' : World) : Prop := e = .returned v ∧ Below w.heap.size w w'
theorem numbers_any (r : Ru) (L : Value) (hL : ∃ A n c, L = .slice A n c) (ln : Int) (w : World) : Calls Tryz.prog 145 #[ruV r L ln] w (ValB (numbersV r) w) := by
  obtain ⟨A, n, c, rfl⟩ := hL
  obtain ⟨kd, nm, l, rn, rm, rf, rt, rb, ra, ri⟩ := r
  dsimp only [ruV, numbersV]
  go_enter Tryz.func145, Tryz.ntmps145
  go_wp2
  (try simp only [Exit.inBlock, Exit.then])
  refine bodyPost_ret (results_cell_row rfl _ _ (w.heap.size + 1) _ _ _ _ rfl (alloc_at (by simp) _) Tryz.underlying199 rfl (by kernel_rfl)) rfl ?_
  exact ⟨rfl, ((Below.refl _ _).alloc (Nat.le_refl _) _).alloc (by simp) _⟩
theorem rnames_any (r : Ru) (L : Value) (hL : ∃ A n c, L = .slice A n c) (ln : Int) (w : World) : Calls Tryz.prog 146 #[ruV r L ln] w (ValB (namesV r) w) := by
  obtain ⟨A, n, c, rfl⟩ := hL
  obtain ⟨kd, nm, l, rn, rm, rf, rt, rb, ra, ri⟩ := r
  dsimp only [ruV, namesV]
  go_enter Tryz.func146, Tryz.ntmps146
  go_wp2
  (try simp only [Exit.inBlock, Exit.then])
  refine bodyPost_ret (results_cell_row rfl _ _ (w.heap.size + 1) _ _ _ _ rfl (alloc_at (by simp) _) Tryz.underlying201 rfl (by kernel_rfl)) rfl ?_
  exact ⟨rfl, ((Below.refl _ _).alloc (Nat.le_refl _) _).alloc (by simp) _⟩
end Go.Proofs.YtnnmjmjbfeoggaaGreatDoor
