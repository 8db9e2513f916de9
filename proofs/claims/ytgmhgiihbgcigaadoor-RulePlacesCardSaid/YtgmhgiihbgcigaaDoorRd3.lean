/-
  The reader's methods: fromTo, choice; the tables of words.
-/
import Derived.Test.YtgmhgiihbgcigaaDoorRd2
namespace Go.Proofs.YtgmhgiihbgcigaaDoor
set_option maxRecDepth 100000
open Go.ChangeShapes Go.WideShapes Go.ChangeAt Go.RowKit

def RdTo2 (b g cap : Nat) (ws : List (Nat × List UInt8)) (p : Tx × Tx × St) (w : World) (e : Ending) (w' : World) : Prop := RdTo b g cap ws p.2.2 (.tuple #[.string (bs p.1), .string (bs p.2.1)]) w e w'
set_option maxHeartbeats 1000000 in
theorem fromTo_any (b g cap : Nat) (ws : List (Nat × List UInt8)) (s : St) (w : World) (h : Rd w b g cap ws s) :
    Calls Tryd.prog 36 #[.pointer (some ⟨b, 0, none⟩)] w (RdTo2 b g cap ws (fromToP (tx ws) s) w) := by
  have tok1 : True := trivial
  have tok2 : True := trivial
  go_enter Tryd.func36, Tryd.ntmps36
  go_wp2_with (first
    | (have _t := tok1; go_at_call 60; refine (fixed_any b g cap ws s [102, 114, 111, 109] _ h (by simp)).mono ?_; rintro e w1 ⟨rfl, h1, g1⟩; clear tok1 _t)
    | (go_at_call 60; refine (fixed_any b g cap ws _ [116, 111] _ h2 (by simp)).mono ?_; rintro e w3 ⟨rfl, h3, g3⟩)
    | (have _t := tok2; go_at_call 30; refine (name_any b g cap ws _ _ h1).mono ?_; rintro e w2 ⟨rfl, h2, g2⟩; clear tok2 _t)
    | (go_at_call 30; refine (name_any b g cap ws _ _ h3).mono ?_; rintro e w4 ⟨rfl, h4, g4⟩))
  go_ret2
  exact rdTo_mk rfl rfl h4 (((g1.trans g2).trans g3).trans g4)

/-- texts in the cells of a block -/
def StrAt (w : World) (t : Nat) (l : List Tx) : Prop := ∀ j (h : j < l.length), w.cell? ⟨t, j, none⟩ = some (.string (bs l[j]))
theorem StrAt.kept {w w' : World} {t : Nat} {l : List Tx} {row : Option Nat} (h : StrAt w t l) (hg : w.grownBy w' row) (hne : some t ≠ row) : StrAt w' t l := fun j hj => hg.cell (h j hj) hne
theorem strAt_alloc (w : World) (l : List Tx) (e : TypeId) : StrAt (w.alloc (.cells (l.map fun t => Value.string (bs t)).toArray e)) w.heap.size l := by
  intro j hj
  rw [cell_of_row _ _ j _ e (0, 0) (heap_alloc_new w _)]
  simp [hj]
theorem idx_drop (tbl : List Tx) (x : Tx) (k : Nat) (h : k < tbl.length) (i : Int) : idx (tbl.drop k) x i = if tbl[k] = x then i else idx (tbl.drop (k + 1)) x (i + 1) := by
  rw [List.drop_eq_getElem_cons h, idx]
set_option maxHeartbeats 1000000 in
theorem Index_any (t n cap : Nat) (l : List Tx) (x : Tx) (w : World) (h : StrAt w t l) (hn : n = l.length) (hl : l.length ≤ 1000000) (hc : l.length ≤ cap) :
    Calls Tryd.prog 55 #[.slice (some ⟨t, 0, none⟩) n cap, .string (bs x)] w fun e w' => e = .returned (.int .i64 (idx l x 0)) ∧ w = w' := by
  subst hn
  go_enter Tryd.func55, Tryd.ntmps55
  go_wp2
  go_loop [5, 8] (fun _ i => ∃ k : Nat, k ≤ l.length ∧ i = .int .i64 k ∧ Hid (idx l x 0 = idx (l.drop k) x k)) (fun _ i => l.length - (intOf i).toNat)
  case atStart => exact ⟨0, Nat.zero_le _, rfl, rfl⟩
  case round =>
    obtain ⟨k, hk, rfl, HI⟩ := hrel
    by_cases hlt : k < l.length
    · have hx := h k hlt
      have hi := idx_drop l x k hlt k
      by_cases he : l[k] = x
      · have hb : ((bs x).toList == (bs l[k]).toList) = true := by rw [beq_bs]; simp [he]
        rw [if_pos he] at hi
        have HE : Hid (idx l x 0 = k) := HI.out.trans hi
        clear hi he
        go_wp2
        go_ret
        exact ⟨ret_int HE.out.symm, rfl⟩
      · have hb : ((bs x).toList == (bs l[k]).toList) = false := by rw [beq_bs]; simpa using fun e : x = l[k] => he e.symm
        rw [if_neg he] at hi
        have HE : Hid (idx l x 0 = idx (l.drop (k + 1)) x ((k : Int) + 1)) := HI.out.trans hi
        clear hi he
        go_wp2
        go_round
        case rel => exact ⟨k + 1, by omega, by go_num, HE.out⟩
        case measure => simp [intOf]; omega
    · have HE : Hid (idx l x 0 = -1) := by have := HI.out; rw [List.drop_of_length_le (by omega)] at this; exact this
      go_wp2
      go_ret
      exact ⟨ret_int HE.out.symm, rfl⟩
theorem kindWords_any (w : World) : Calls Tryd.prog 29 #[] w fun e w' => ∃ t, e = .returned (.slice (some ⟨t, 0, none⟩) 12 12) ∧ t = w.heap.size ∧ StrAt w' t kindT ∧ Below w.heap.size w w' := by
  go_enter Tryd.func29, Tryd.ntmps29
  go_wp2
  go_ret
  exact ⟨_, rfl, rfl, strAt_alloc w kindT _, (Below.refl _ _).alloc (Nat.le_refl _) _⟩
theorem stateWords_any (w : World) : Calls Tryd.prog 34 #[] w fun e w' => ∃ t, e = .returned (.slice (some ⟨t, 0, none⟩) 5 5) ∧ t = w.heap.size ∧ StrAt w' t stateT ∧ Below w.heap.size w w' := by
  go_enter Tryd.func34, Tryd.ntmps34
  go_wp2
  go_ret
  exact ⟨_, rfl, rfl, strAt_alloc w stateT _, (Below.refl _ _).alloc (Nat.le_refl _) _⟩
theorem idx_pos {l : List Tx} {x : Tx} (i : Int) (h0 : l.head? = some []) (h : 0 < idx l x 0) : x ≠ [] := by
  rintro rfl
  cases l with
  | nil => simp at h0
  | cons a r => simp at h0; subst h0; simp [idx] at h
set_option maxHeartbeats 1000000 in
theorem choice_any (b g cap : Nat) (ws : List (Nat × List UInt8)) (s : St) (t n c : Nat) (l : List Tx) (w : World) (h : Rd w b g cap ws s) (ht : StrAt w t l) (hn : n = l.length) (hl : l.length ≤ 1000000) (hc : l.length ≤ c) (hb : t ≠ b) (h0 : l.head? = some []) :
    Calls Tryd.prog 28 #[.pointer (some ⟨b, 0, none⟩), .slice (some ⟨t, 0, none⟩) n c] w (RdTo b g cap ws (choiceP (tx ws) l s).2 (.int .i64 (choiceP (tx ws) l s).1) w) := by
  subst hn
  have hb' : some t ≠ some b := by simpa using hb
  have hf : decide (0 < idx l (pk (tx ws) s) 0) = true → pk (tx ws) s ≠ [] := fun e => idx_pos 0 h0 (of_decide_eq_true e)
  have hI := fun W (hw : StrAt W t l) => Index_any t l.length c l (pk (tx ws) s) W hw rfl hl hc
  have hv : choiceP (tx ws) l s = (idx l (pk (tx ws) s) 0, tk (decide (0 < idx l (pk (tx ws) s) 0)) s) := rfl
  rw [hv]
  generalize idx l (pk (tx ws) s) 0 = I at *
  clear hv h0 hb
  go_enter Tryd.func28, Tryd.ntmps28
  go_wp2_with (first
    | (go_at_call 56; refine (peek_any b g cap ws s _ h).mono ?_; rintro e w1 ⟨rfl, h1, g1⟩)
    | (go_at_call 55; refine (hI _ (ht.kept g1 hb')).mono ?_; rintro e w2 ⟨rfl, rfl⟩)
    | (go_at_call 57; refine (take_any b g cap ws s _ _ h1 hf).mono ?_; rintro e w3 ⟨rfl, h3, g3⟩))
  go_ret
  exact rdTo_mk rfl rfl h3 (g1.trans g3)
end Go.Proofs.YtgmhgiihbgcigaaDoor
