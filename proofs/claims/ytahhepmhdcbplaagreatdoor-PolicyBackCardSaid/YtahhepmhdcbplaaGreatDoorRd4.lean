/-
  The reader's names: a list in new memory.
-/
import Derived.Test.YtahhepmhdcbplaaGreatDoorRd2
import Derived.Test.YtahhepmhdcbplaaGreatDoorOwn
import Derived.Deep.DeepMust
namespace Go.Proofs.YtahhepmhdcbplaaGreatDoor
set_option maxRecDepth 100000
open Go.ChangeShapes Go.WideShapes Go.ChangeAt Go.RowKit

def RdTo2 (b g cap : Nat) (ws : List (Nat × List UInt8)) (p : Tx × Tx × St) (w : World) (e : Ending) (w' : World) : Prop := RdTo b g cap ws p.2.2 (.tuple #[.string (bs p.1), .string (bs p.2.1)]) w e w'
set_option maxHeartbeats 1000000 in
theorem fromTo_any (b g cap : Nat) (ws : List (Nat × List UInt8)) (s : St) (w : World) (h : Rd w b g cap ws s) :
    Calls Tryz.prog 90 #[.pointer (some ⟨b, 0, none⟩)] w (RdTo2 b g cap ws (fromToP (tx ws) s) w) := by
  have tok1 : True := trivial
  have tok2 : True := trivial
  go_enter Tryz.func90, Tryz.ntmps90
  go_wp2_with (first
    | (have _t := tok1; go_at_call 110; refine (fixed_any b g cap ws s [102, 114, 111, 109] _ h (by simp)).mono ?_; rintro e w1 ⟨rfl, h1, g1⟩; clear tok1 _t)
    | (go_at_call 110; refine (fixed_any b g cap ws _ [116, 111] _ h2 (by simp)).mono ?_; rintro e w3 ⟨rfl, h3, g3⟩)
    | (have _t := tok2; go_at_call 85; refine (name_any b g cap ws _ _ h1).mono ?_; rintro e w2 ⟨rfl, h2, g2⟩; clear tok2 _t)
    | (go_at_call 85; refine (name_any b g cap ws _ _ h3).mono ?_; rintro e w4 ⟨rfl, h4, g4⟩))
  go_ret2
  exact rdTo_mk rfl rfl h4 (((g1.trans g2).trans g3).trans g4)

/-- texts in the cells of a block -/
def StrAt (w : World) (t : Nat) (l : List Tx) : Prop := ∀ j (h : j < l.length), w.cell? ⟨t, j, none⟩ = some (.string (bs l[j]))
theorem StrAt.kept {w w' : World} {t : Nat} {l : List Tx} {row : Option Nat} (h : StrAt w t l) (hg : w.grownBy w' row) (hne : some t ≠ row) : StrAt w' t l := fun j hj => hg.cell (h j hj) hne
theorem strAt_alloc (w : World) (l : List Tx) (e : TypeId) : StrAt (w.alloc (.cells (l.map fun t => Value.string (bs t)).toArray e)) w.heap.size l := by
  intro j hj
  rw [cell_of_row _ _ j _ e (0, 0) (heap_alloc_new w _)]
  simp [hj]
theorem idx_drop (tbl : List Tx) (x : Tx) (k : Nat) (h : k < tbl.length) (i : Int) : idx (tbl.drop k) x i = if tbl[k] = x then i else idx (tbl.drop (k + 1)) x (i + 1) := by
  rw [List.drop_eq_getElem_cons h, idx]
set_option maxHeartbeats 1000000 in
theorem Index_any (t n cap : Nat) (l : List Tx) (x : Tx) (w : World) (h : StrAt w t l) (hn : n = l.length) (hl : l.length ≤ 1000000) (_hc : l.length ≤ cap) :
    Calls Tryz.prog 105 #[.slice (some ⟨t, 0, none⟩) n cap, .string (bs x)] w fun e w' => e = .returned (.int .i64 (idx l x 0)) ∧ w = w' := by
  subst hn
  go_enter Tryz.func105, Tryz.ntmps105
  go_wp2
  go_loop [5, 8] (fun _ i => ∃ k : Nat, k ≤ l.length ∧ i = .int .i64 k ∧ Hid (idx l x 0 = idx (l.drop k) x k)) (fun _ i => l.length - (intOf i).toNat)
  case atStart => exact ⟨0, Nat.zero_le _, rfl, rfl⟩
  case round =>
    obtain ⟨k, hk, rfl, HI⟩ := hrel
    by_cases hlt : k < l.length
    · have hx := h k hlt
      have hi := idx_drop l x k hlt k
      by_cases he : l[k] = x
      · have hb : ((bs x).toList == (bs l[k]).toList) = true := by rw [beq_bs]; simp [he]
        rw [if_pos he] at hi
        have HE : Hid (idx l x 0 = k) := HI.out.trans hi
        clear hi he
        go_wp2
        go_ret
        exact ⟨ret_int HE.out.symm, rfl⟩
      · have hb : ((bs x).toList == (bs l[k]).toList) = false := by rw [beq_bs]; simpa using fun e : x = l[k] => he e.symm
        rw [if_neg he] at hi
        have HE : Hid (idx l x 0 = idx (l.drop (k + 1)) x ((k : Int) + 1)) := HI.out.trans hi
        clear hi he
        go_wp2
        go_round
        case rel => exact ⟨k + 1, by omega, by go_num, HE.out⟩
        case measure => simp [intOf]; omega
    · have HE : Hid (idx l x 0 = -1) := by have := HI.out; rw [List.drop_of_length_le (by omega)] at this; exact this
      go_wp2
      go_ret
      exact ⟨ret_int HE.out.symm, rfl⟩
theorem kindWords_any (w : World) : Calls Tryz.prog 47 #[] w fun e w' => ∃ t, e = .returned (.slice (some ⟨t, 0, none⟩) 12 12) ∧ t = w.heap.size ∧ StrAt w' t kindT ∧ Below w.heap.size w w' := by
  go_enter Tryz.func47, Tryz.ntmps47
  go_wp2
  go_ret
  exact ⟨_, rfl, rfl, strAt_alloc w kindT _, (Below.refl _ _).alloc (Nat.le_refl _) _⟩
theorem stateWords_any (w : World) : Calls Tryz.prog 49 #[] w fun e w' => ∃ t, e = .returned (.slice (some ⟨t, 0, none⟩) 5 5) ∧ t = w.heap.size ∧ StrAt w' t stateT ∧ Below w.heap.size w w' := by
  go_enter Tryz.func49, Tryz.ntmps49
  go_wp2
  go_ret
  exact ⟨_, rfl, rfl, strAt_alloc w stateT _, (Below.refl _ _).alloc (Nat.le_refl _) _⟩
theorem idx_pos {l : List Tx} {x : Tx} (_i : Int) (h0 : l.head? = some []) (h : 0 < idx l x 0) : x ≠ [] := by
  rintro rfl
  cases l with
  | nil => simp at h0
  | cons a r => simp at h0; subst h0; simp [idx] at h
set_option maxHeartbeats 1000000 in
theorem choice_any (b g cap : Nat) (ws : List (Nat × List UInt8)) (s : St) (t n c : Nat) (l : List Tx) (w : World) (h : Rd w b g cap ws s) (ht : StrAt w t l) (hn : n = l.length) (hl : l.length ≤ 1000000) (hc : l.length ≤ c) (hb : t ≠ b) (h0 : l.head? = some []) :
    Calls Tryz.prog 84 #[.pointer (some ⟨b, 0, none⟩), .slice (some ⟨t, 0, none⟩) n c] w (RdTo b g cap ws (choiceP (tx ws) l s).2 (.int .i64 (choiceP (tx ws) l s).1) w) := by
  subst hn
  have hb' : some t ≠ some b := by simpa using hb
  have hf : decide (0 < idx l (pk (tx ws) s) 0) = true → pk (tx ws) s ≠ [] := fun e => idx_pos 0 h0 (of_decide_eq_true e)
  have hI := fun W (hw : StrAt W t l) => Index_any t l.length c l (pk (tx ws) s) W hw rfl hl hc
  have hv : choiceP (tx ws) l s = (idx l (pk (tx ws) s) 0, tk (decide (0 < idx l (pk (tx ws) s) 0)) s) := rfl
  rw [hv]
  generalize idx l (pk (tx ws) s) 0 = I at *
  clear hv h0 hb
  go_enter Tryz.func84, Tryz.ntmps84
  go_wp2_with (first
    | (go_at_call 106; refine (peek_any b g cap ws s _ h).mono ?_; rintro e w1 ⟨rfl, h1, g1⟩)
    | (go_at_call 105; refine (hI _ (ht.kept g1 hb')).mono ?_; rintro e w2 ⟨rfl, rfl⟩)
    | (go_at_call 107; refine (take_any b g cap ws s _ _ h1 hf).mono ?_; rintro e w3 ⟨rfl, h3, g3⟩))
  go_ret
  exact rdTo_mk rfl rfl h3 (g1.trans g3)
end Go.Proofs.YtahhepmhdcbplaaGreatDoor
namespace Go.Proofs.YtahhepmhdcbplaaGreatDoor
set_option maxRecDepth 100000
open Go.ChangeShapes Go.WideShapes Go.ChangeAt Go.RowKit

def NamesTo (b g cap : Nat) (ws : List (Nat × List UInt8)) (p : List Tx × St) (w : World) (e : Ending) (w' : World) : Prop :=
  ∃ v, e = .returned v ∧ Rd w' b g cap ws p.2 ∧ OwnL w' w.heap.size v p.1 ∧ w.grownBy w' (some b)
theorem namesTo_mk {b g cap : Nat} {ws : List (Nat × List UInt8)} {p : List Tx × St} {l : List Tx} {s : St} {v : Value} {w w' : World} (he : p = (l, s)) (h : Rd w' b g cap ws s) (ho : OwnL w' w.heap.size v l) (hg : w.grownBy w' (some b)) : NamesTo b g cap ws p w (.returned v) w' := by
  subst he; exact ⟨v, rfl, h, ho, hg⟩
theorem namesP_stop {T : List Tx} {least : Nat} {acc : List Tx} {s : St} (h : ¬ (s.m = false ∧ (acc.length < least ∨ s.k < T.length))) (N : Nat) : namesP T least acc s N = (acc, s) := by
  cases N with
  | zero => rfl
  | succ n => rw [namesP, if_neg h]
theorem namesP_go {T : List Tx} {least : Nat} {acc : List Tx} {s : St} (h : s.m = false ∧ (acc.length < least ∨ s.k < T.length)) (N : Nat) : namesP T least acc s (N + 1) = namesP T least (acc ++ [(nameP T s).1]) (nameP T s).2 N := by
  rw [namesP, if_pos h]
theorem tk_cases (s : St) (f : Bool) (h : s.m = false) : tk f s = ⟨s.k + 1, false⟩ ∨ tk f s = ⟨s.k, true⟩ := by
  cases f
  · right; exact tk_false s
  · left; exact tk_true h

theorem own_far {w w1 : World} {base b n : Nat} {v : Value} {l : List Tx} (h : OwnL w base v l) (hb : b < base) (hg : (w.drewN n).grownBy w1 (some b)) : OwnL w1 base v l :=
  World.ownsRow.kept (w := w.drewN n) h hg (own_ne h hb)
set_option maxHeartbeats 2000000 in
theorem names_any (b g cap : Nat) (ws : List (Nat × List UInt8)) (s : St) (least : Nat) (w : World) (h : Rd w b g cap ws s) (_hle : least ≤ 10) :
    Calls Tryz.prog 87 #[.pointer (some ⟨b, 0, none⟩), .int .i64 least] w (NamesTo b g cap ws (namesP (tx ws) least [] s ((tx ws).length + 1)) w) := by
  rw [tx_len]
  obtain ⟨i0, hi, hz0, hz1, hz2⟩ := info_parts Tryz.infoString
  have hblt := h.blt
  have hln := h.len
  go_enter Tryz.func87, Tryz.ntmps87
  go_wp2_with fail
  go_loopw [4] (fun l wr => ∃ (acc : List Tx) (r : St) (N : Nat), Hid (namesP (tx ws) least [] s (ws.length + 1) = namesP (tx ws) least acc r N) ∧ Rd wr b g cap ws r ∧ OwnL wr w.heap.size l acc ∧ w.grownBy wr (some b) ∧
      acc.length ≤ r.k + 1 ∧ (r.m = false → acc.length ≤ r.k ∧ ws.length + 1 ≤ r.k + N)) (fun _ wr => match wr.cell? ⟨b, 1, none⟩, wr.cell? ⟨b, 2, none⟩ with | some (.int _ k), some (.bool m) => 2 * (ws.length - k.toNat) + (if m then 0 else 1) | _, _ => 0)
  case atStart => exact ⟨[], s, ws.length + 1, rfl, h, World.ownsRow_nil _ _ _ _, grown_drewN _ 0 _, by simp, by intro _; exact ⟨Nat.zero_le _, by omega⟩⟩
  case round =>
    obtain ⟨acc, r, N, HN, hr, hown, hg, hac, hm⟩ := hrel
    have h0 := hr.c0
    have h1 := hr.c1
    have h2 := hr.c2
    have hk := hr.k
    have hcp := hr.cp
    obtain ⟨A, cp, rfl⟩ := own_slice hown
    obtain ⟨k, m⟩ := r
    have hk : k ≤ ws.length := hk
    cases m with
    | true =>
      go_wp2
      go_quiet (fail)
      go_wp2
      go_ret
      exact namesTo_mk (HN.out.trans (namesP_stop (by simp) N)) (hr.kept (grown_drewN _ _ _)) hown (hg.trans (grown_drewN _ _ _))
    | false =>
      by_cases c : acc.length < least ∨ k < ws.length
      · obtain ⟨hm1, hm2⟩ := hm rfl
        obtain ⟨N, rfl⟩ : ∃ M, N = M + 1 := ⟨N - 1, by simp only at hm2; omega⟩
        have HN2 : Hid (namesP (tx ws) least [] s (ws.length + 1) = namesP (tx ws) least (acc ++ [(nameP (tx ws) ⟨k, false⟩).1]) (nameP (tx ws) ⟨k, false⟩).2 N) := HN.out.trans (namesP_go (by simpa [tx_len] using c) N)
        have hnx : (nameP (tx ws) ⟨k, false⟩).2 = ⟨k + 1, false⟩ ∨ (nameP (tx ws) ⟨k, false⟩).2 = ⟨k, true⟩ := tk_cases _ _ rfl
        have key : ∃ g1 g2, decide (acc.length < least) = g1 ∧ decide (k < ws.length) = g2 ∧ (g1 || g2) = true := ⟨_, _, rfl, rfl, by simpa using c⟩
        obtain ⟨q1, q2, e1, e2, e3⟩ := key
        have nm := fun W (hW : Rd W b g cap ws ⟨k, false⟩) => name_any b g cap ws ⟨k, false⟩ W hW
        generalize nameP (tx ws) ⟨k, false⟩ = P at *
        have NM := Lib.hid nm
        clear nm HN hm c
        cases q1 <;> cases q2
        · simp at e3
        all_goals
          clear e3
          go_wp2
          go_quiet (fail)
          go_wp2_with (first
            | (go_at_call 85; refine (NM.out _ (hr.kept (grown_drewN _ _ _))).mono ?_; rintro e w1 ⟨rfl, h1', g1'⟩; have hown1 := own_far hown hblt g1'; have hsz1 : wr.heap.size ≤ w1.heap.size := g1'.size)
            | (at_builtin; go_must (refine wpList_append_own _ rfl (.tmp 28) (.tmp 31) 22 rfl w.heap.size 9 i0 _ 1 16 Tryz.underlying22 hi hz0 hz1 hz2 rfl (by decide) _ _ _ rfl (hown1.alloc _) ⟨w1.heap.size, 0, none⟩ 1 1 [.string (bs P.1)] rfl rfl (cells_new _ _ _) (by intro u hu; simp at hu; subst hu; rfl) (by unfold maxLen; omega) (by omega) (by have := g1'.size; have := hg.size; simp; omega) ?_); intro v' w2 hown' hg' _))
          have hg2 : w1.grownBy w2 (Value.slice A acc.length cp).ownBlock := (World.grownBy_alloc _ _ _).trans (show (w1.alloc (.cells #[.string (bs P.1)] 9)).grownBy w2 (Value.slice A acc.length cp).ownBlock from hg')
          clear hg'
          have hlt2 : ∀ j, (Value.slice A acc.length cp).ownBlock = some j → w.heap.size ≤ j := fun j e => (hown1.lt j e).1
          have hr2 : Rd w2 b g cap ws P.2 := h1'.keptBut hg2 (fun e => by have := hlt2 _ e.symm; omega) (fun e => by have := hlt2 _ e.symm; have := h.lt; omega)
          have hgg : w.grownBy w2 (some b) := ((hg.trans (grown_drewN _ _ _)).trans g1').andThen hg2 (fun j e => .inl (hlt2 j e))
          have x1 := hr2.c1
          have x2 := hr2.c2
          have hk2 := hr2.k
          clear hlt2 hown hown1 hr h1' hg g1' hg2
          obtain ⟨p1, r2⟩ := P
          rcases hnx with rfl | rfl
          · go_roundw
            case rel =>
              refine ⟨acc ++ [p1], ⟨k + 1, false⟩, N, HN2, hr2, ?_, hgg, ?_, ?_⟩
              · unfold OwnL scells; rw [List.length_append, List.map_append]; exact hown'
              · simp; omega
              · intro _; simp at hm1 hm2 ⊢; omega
            case measure => simp [x1, x2, h1, h2]; simp at hk2; omega
          · go_roundw
            case rel =>
              refine ⟨acc ++ [p1], ⟨k, true⟩, N, HN2, hr2, ?_, hgg, ?_, ?_⟩
              · unfold OwnL scells; rw [List.length_append, List.map_append]; exact hown'
              · simp at hm1 ⊢; omega
              · intro e; cases e
            case measure => simp [x1, x2, h1, h2]
      · have g1 : decide (acc.length < least) = false := by simp; omega
        have g2 : decide (k < ws.length) = false := by simp; omega
        go_wp2
        go_quiet (fail)
        go_wp2
        go_ret
        exact namesTo_mk (HN.out.trans (namesP_stop (by simp [tx_len]; omega) N)) (hr.kept (grown_drewN _ _ _)) hown (hg.trans (grown_drewN _ _ _))
end Go.Proofs.YtahhepmhdcbplaaGreatDoor
