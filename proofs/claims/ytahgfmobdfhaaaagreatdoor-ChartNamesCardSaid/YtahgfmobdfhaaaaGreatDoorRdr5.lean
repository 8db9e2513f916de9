/-
  The reader of the document, its parts.
-/
import Derived.Test.YtahgfmobdfhaaaaGreatDoorPrint2
import Derived.Test.YtahgfmobdfhaaaaGreatDoorAs
import Derived.Test.YtahgfmobdfhaaaaGreatDoorMis
import Derived.OwnWalk
import Derived.Deep.DeepMust
namespace Go.Proofs.YtahgfmobdfhaaaaGreatDoor
set_option maxRecDepth 100000
open Go.ChangeShapes Go.WideShapes Go.ChangeAt Go.RowKit

/-- where the document's reader stands: its words, how many it has passed, whether it has failed -/
def RRd (w : World) (b g cap : Nat) (ws : List (Nat × Tx)) (k : Nat) (m : Bool) : Prop :=
  (∃ x y : Int, w.heap[b]? = some (.cells #[.slice (some ⟨g, 0, none⟩) ws.length cap, .int .i64 k, .int .i64 x, .int .i64 y, .int .i64 (if m then 2 else 0)] 94 (0, 0))) ∧ WAt w g 0 ws ∧ g < w.heap.size ∧ g ≠ b ∧ ws.length ≤ 1000000000 ∧ k ≤ ws.length + 1
def nx (T : List Tx) (k : Nat) (m : Bool) : Tx := if m then [] else T[k]?.getD []
set_option maxHeartbeats 2000000 in
theorem dnext_any (b g cap : Nat) (ws : List (Nat × Tx)) (k : Nat) (m : Bool) (w : World) (h : RRd w b g cap ws k m) :
    Calls Tryz.prog 45 #[.pointer (some ⟨b, 0, none⟩)] w fun e w' => e = .returned (.string (bs (nx (tx ws) k m))) ∧ w.grownBy w' none := by
  obtain ⟨⟨x, y, R⟩, hW, hg, hne, hl, hk⟩ := h
  have q0 : w.cell? ⟨b, 0, none⟩ = some (.slice (some ⟨g, 0, none⟩) ws.length cap) := by rw [cell_of_row _ _ _ _ _ _ R]; rfl
  have q1 : w.cell? ⟨b, 1, none⟩ = some (.int .i64 k) := by rw [cell_of_row _ _ _ _ _ _ R]; rfl
  have q4 : w.cell? ⟨b, 4, none⟩ = some (.int .i64 (if m then 2 else 0)) := by rw [cell_of_row _ _ _ _ _ _ R]; rfl
  clear R
  by_cases hlt : k < ws.length
  · obtain ⟨hx, -, -⟩ := hW k hlt
    have hd : decide ((ws.length : Int) ≤ k) = false := by simp; omega
    have hd2 : decide (ws.length ≤ k) = false := by simp; omega
    have hki : (k : Int) < ws.length := by omega
    have HN : Hid (nx (tx ws) k m = if m then [] else ws[k].2) := by
      show _ = _
      unfold nx
      simp [tx, hlt]
    generalize ws[k].2 = t at *
    simp only [Nat.zero_add] at hx
    clear hW hlt
    cases m
    · go_enter Tryz.func45, Tryz.ntmps45
      go_wp2
      go_quiet (fail)
      go_wp2
      go_quiet (fail)
      go_wp2
      go_ret
      exact ⟨by rw [HN.out]; rfl, (grown_drewN w _ none).trans (grown_drewN _ _ none)⟩
    · go_enter Tryz.func45, Tryz.ntmps45
      go_wp2
      go_quiet (fail)
      go_wp2
      go_ret
      exact ⟨by rw [HN.out]; rfl, grown_drewN w _ none⟩
  · have hd : decide ((ws.length : Int) ≤ k) = true := by simp; omega
    have hd2 : decide (ws.length ≤ k) = true := by simp; omega
    have HN : Hid (nx (tx ws) k m = []) := by
      show _ = _
      unfold nx
      simp [tx, hlt]
    clear hW hlt
    go_enter Tryz.func45, Tryz.ntmps45
    go_wp2
    go_quiet (fail)
    go_wp2
    go_ret
    exact ⟨by rw [HN.out]; rfl, grown_drewN w _ none⟩
theorem WAt.grown {w w' : World} {g : Nat} {ws : List (Nat × Tx)} {r : Option Nat} (h : WAt w g 0 ws) (hg : w.grownBy w' r) (hne : some g ≠ r) : WAt w' g 0 ws := fun j hj =>
  ⟨hg.cell (h j hj).1 (by simpa using hne), hg.cell (h j hj).2.1 (by simpa using hne), (h j hj).2.2⟩
theorem RRd.kept {w w' : World} {b g cap k : Nat} {ws : List (Nat × Tx)} {m : Bool} (h : RRd w b g cap ws k m) (hg : w.grownBy w' none) : RRd w' b g cap ws k m := by
  obtain ⟨⟨x, y, R⟩, hW, hgl, hne, hl, hk⟩ := h
  exact ⟨⟨x, y, (hg.block b (Array.getElem?_eq_some_iff.1 R).1 (by simp)).trans R⟩, hW.grown hg (by simp), Nat.lt_of_lt_of_le hgl hg.size, hne, hl, hk⟩
theorem below_none {w w' : World} (h : Below w.heap.size w w') : w.grownBy w' none := ⟨h.os, h.tape, h.output, h.size, fun g hg _ => h.block g hg⟩
theorem grown_more {w w' : World} {r : Option Nat} (h : w.grownBy w' none) : w.grownBy w' r := ⟨h.os, h.tape, h.output, h.size, fun g hg _ => h.block g hg (by simp)⟩
/-- one on -/
theorem RRd.step {w : World} {b g cap k : Nat} {ws : List (Nat × Tx)} {m : Bool} (h : RRd w b g cap ws k m) (hk : k ≤ ws.length) : RRd (w.setCell ⟨b, 1, none⟩ (.int .i64 ((k : Int) + 1))) b g cap ws (k + 1) m := by
  obtain ⟨⟨x, y, R⟩, hW, hgl, hne, hl, _⟩ := h
  refine ⟨⟨x, y, ?_⟩, hW.grown (grown_setCell w b 1 _) (by simpa using hne), by simpa using hgl, hne, hl, by omega⟩
  simpa using heap_set (j := 1) R (.int .i64 ((k : Int) + 1))
def IntSome (w : World) (e : Ending) (w' : World) : Prop := ∃ c : Int, e = .returned (.int .i64 c) ∧ Below w.heap.size w w'
set_option maxHeartbeats 2000000 in
theorem dplace_any (b g cap : Nat) (ws : List (Nat × Tx)) (k : Nat) (m : Bool) (w : World) (h : RRd w b g cap ws k m) (hpos : 0 < ws.length) :
    Calls Tryz.prog 80 #[.pointer (some ⟨b, 0, none⟩)] w (IntSome w) := by
  obtain ⟨⟨x, y, R⟩, hW, hg, hne, hl, hk⟩ := h
  have q0 : w.cell? ⟨b, 0, none⟩ = some (.slice (some ⟨g, 0, none⟩) ws.length cap) := by rw [cell_of_row _ _ _ _ _ _ R]; rfl
  have q1 : w.cell? ⟨b, 1, none⟩ = some (.int .i64 k) := by rw [cell_of_row _ _ _ _ _ _ R]; rfl
  clear R
  by_cases hlt : k < ws.length
  · obtain ⟨-, hx, -⟩ := hW k hlt
    have hd2 : decide (k < ws.length) = true := by simp; omega
    have hki : (k : Int) < ws.length := by omega
    simp only [Nat.zero_add] at hx
    generalize ws[k].1 = c at *
    clear hW
    go_enter Tryz.func80, Tryz.ntmps80
    go_wp2
    go_quiet (fail)
    go_wp2
    go_quiet (fail)
    go_wp2
    go_ret
    exact ⟨_, rfl, below_drewN (below_drewN (Below.refl _ _) _) _⟩
  · obtain ⟨hx, hy, hz⟩ := hW (ws.length - 1) (by omega)
    have hd2 : decide (k < ws.length) = false := by simp; omega
    have hki : ¬ (k : Int) < ws.length := by omega
    have el : IntKind.i64.wrap ((ws.length : Int) - 1) = ((ws.length - 1 : Nat) : Int) := by rw [IntKind.wrap_i64]; omega
    have hli : ((ws.length - 1 : Nat) : Int) < ws.length := by omega
    simp only [Nat.zero_add] at hx hy
    generalize ws[ws.length - 1].1 = c at *
    generalize ws[ws.length - 1].2 = t at *
    generalize ws.length - 1 = n1 at *
    clear hW
    go_enter Tryz.func80, Tryz.ntmps80
    go_wp2
    go_quiet (fail)
    have hbl := World.block_lt_of_cell? w _ q0
    have y0 : ∀ n O, ((w.drewN n).alloc O).cell? ⟨b, 0, none⟩ = some (.slice (some ⟨g, 0, none⟩) ws.length cap) := fun n O => (World.cell?_alloc_lt _ _ _ hbl).trans q0
    have y1 : ∀ n O, ((w.drewN n).alloc O).cell? ⟨g, n1 * 2, none⟩ = some (.string (bs t)) := fun n O => (World.cell?_alloc_lt _ _ _ hg).trans hx
    have y2 : ∀ n O, ((w.drewN n).alloc O).cell? ⟨g, n1 * 2 + 1, none⟩ = some (.int .i64 c) := fun n O => (World.cell?_alloc_lt _ _ _ hg).trans hy
    have y3 : ∀ n, ((w.drewN n).alloc (.cells #[.string ⟨#[]⟩, .int .i64 0] 97)).frozen? ⟨w.heap.size, 0, none⟩ = false := fun n => new_fz (w.drewN n) _ _ _
    have y5 : ∀ n, ((w.drewN n).alloc (.cells #[.string ⟨#[]⟩, .int .i64 0] 97)).cell? ⟨w.heap.size, 0, none⟩ = some (.string ⟨#[]⟩) := fun n => new_cell (w.drewN n) _ _ _
    have y4 : ∀ n, ((w.drewN n).alloc (.cells #[.string ⟨#[]⟩, .int .i64 0] 97)).frozen? ⟨w.heap.size, 1, none⟩ = false := fun n => new_fz (w.drewN n) _ _ _
    have y6 : ∀ n, ((w.drewN n).alloc (.cells #[.string ⟨#[]⟩, .int .i64 0] 97)).cell? ⟨w.heap.size, 1, none⟩ = some (.int .i64 0) := fun n => new_cell (w.drewN n) _ _ _
    go_wp2
    go_region
    all_goals
      go_wp2
      go_ret
      exact ⟨_, rfl, (((below_drewN (Below.refl _ _) _).alloc (Nat.le_refl _) _).setCell (Nat.le_refl _) _).setCell (Nat.le_refl _) _⟩
def FailTo (b g cap : Nat) (ws : List (Nat × Tx)) (k : Nat) (w : World) (e : Ending) (w' : World) : Prop := e = .returned (.tuple #[]) ∧ RRd w' b g cap ws k true ∧ w.grownBy w' (some b)
set_option maxHeartbeats 2000000 in
theorem dfail_any (b g cap : Nat) (ws : List (Nat × Tx)) (k : Nat) (m : Bool) (w : World) (h : RRd w b g cap ws k m) (hpos : 0 < ws.length) :
    Calls Tryz.prog 43 #[.pointer (some ⟨b, 0, none⟩)] w (FailTo b g cap ws k w) := by
  have HP := Lib.hid (dplace_any b g cap ws k m w h hpos)
  have HH := Lib.hid h
  obtain ⟨⟨x, y, R⟩, hW, hg, hne, hl, hk⟩ := h
  have hbl := (Array.getElem?_eq_some_iff.1 R).1
  have q4 : w.cell? ⟨b, 4, none⟩ = some (.int .i64 (if m then 2 else 0)) := by rw [cell_of_row _ _ _ _ _ _ R]; rfl
  cases m
  · go_enter Tryz.func43, Tryz.ntmps43
    go_wp2_with (go_at_call 80; refine HP.out.mono ?_; rintro e w1 ⟨c, rfl, hb1⟩; have R1 := (hb1.block b hbl).trans R; have p2 : w1.cell? ⟨b, 2, none⟩ = some (.int .i64 x) := (by rw [cell_of_row _ _ _ _ _ _ R1]; rfl); have p3 : w1.cell? ⟨b, 3, none⟩ = some (.int .i64 y) := (by rw [cell_of_row _ _ _ _ _ _ R1]; rfl); have p4 : w1.cell? ⟨b, 4, none⟩ = some (.int .i64 0) := (by rw [cell_of_row _ _ _ _ _ _ R1]; rfl); have f2 : w1.frozen? ⟨b, 2, none⟩ = false := (by simp [World.frozen?, R1]); have f3 : w1.frozen? ⟨b, 3, none⟩ = false := (by simp [World.frozen?, R1]); have f4 : w1.frozen? ⟨b, 4, none⟩ = false := (by simp [World.frozen?, R1]))
    go_end0
    have e4 : ((w1.setCell ⟨b, 2, none⟩ (.int .i64 0)).setCell ⟨b, 3, none⟩ (.int .i64 c)).setCell ⟨b, 4, none⟩ (.int .i64 2) = ((w1.setCell ⟨b, 2, none⟩ (.int .i64 0)).setCell ⟨b, 3, none⟩ (.int .i64 c)).setCell ⟨b, 4, none⟩ (.int .i64 2) := rfl
    have g1 : w1.grownBy (((w1.setCell ⟨b, 2, none⟩ (.int .i64 0)).setCell ⟨b, 3, none⟩ (.int .i64 c)).setCell ⟨b, 4, none⟩ (.int .i64 2)) (some b) := ((grown_setCell _ _ _ _).trans (grown_setCell _ _ _ _)).trans (grown_setCell _ _ _ _)
    have g0 : w.grownBy w1 (some b) := grown_more (below_none hb1)
    refine ⟨rfl, ⟨⟨0, c, ?_⟩, hW.grown (g0.trans g1) (by simpa using hne), Nat.lt_of_lt_of_le hg (g0.trans g1).size, hne, hl, hk⟩, g0.trans g1⟩
    have h4 := heap_set (j := 4) (heap_set (j := 3) (heap_set (j := 2) R1 (.int .i64 0)) (.int .i64 c)) (.int .i64 2)
    simpa using h4
  · go_enter Tryz.func43, Tryz.ntmps43
    go_wp2
    go_end0
    exact ⟨rfl, HH.out, grown_more (World.grownBy.refl _ _)⟩
end Go.Proofs.YtahgfmobdfhaaaaGreatDoor
namespace Go.Proofs.YtahgfmobdfhaaaaGreatDoor
set_option maxRecDepth 100000
open Go.ChangeShapes Go.WideShapes Go.ChangeAt Go.RowKit

section
variable {w : World} {b g cap k : Nat} {ws : List (Nat × Tx)} {m : Bool}
theorem RRd.q1 (h : RRd w b g cap ws k m) : w.cell? ⟨b, 1, none⟩ = some (.int .i64 k) := by obtain ⟨⟨x, y, R⟩, _⟩ := h; rw [cell_of_row _ _ _ _ _ _ R]; rfl
theorem RRd.f1 (h : RRd w b g cap ws k m) : w.frozen? ⟨b, 1, none⟩ = false := by obtain ⟨⟨x, y, R⟩, _⟩ := h; simp [World.frozen?, R]
end
theorem nx_len {T : List Tx} {k : Nat} {m : Bool} (h : nx T k m ≠ []) : k < T.length := by
  unfold nx at h
  split at h
  · exact absurd rfl h
  · by_cases hk : k < T.length
    · exact hk
    · rw [List.getElem?_eq_none (by omega)] at h; exact absurd rfl h
theorem nx_size {w : World} {b g cap k : Nat} {ws : List (Nat × Tx)} {m : Bool} (h : RRd w b g cap ws k m) : (nx (tx ws) k m).length ≤ maxLen := by
  obtain ⟨_, hW, _⟩ := h
  unfold nx
  split
  · simp
  · by_cases hk : k < ws.length
    · have := (hW k hk).2.2
      simpa [tx, hk] using this
    · rw [List.getElem?_eq_none (by simp [tx]; omega)]; simp
def wordR (T : List Tx) (x : Tx) (s : Nat × Bool) : Nat × Bool := if nx T s.1 s.2 = x then (s.1 + 1, s.2) else (s.1, true)
def nameR (T : List Tx) (s : Nat × Bool) : Tx × Nat × Bool := if nameL (nx T s.1 s.2) = true then (nx T s.1 s.2, s.1 + 1, s.2) else ([], s.1, true)
def numberR (T : List Tx) (s : Nat × Bool) : Int × Nat × Bool := if isNum (nx T s.1 s.2) = true then ((valL (nx T s.1 s.2) : Int), s.1 + 1, s.2) else (0, s.1, true)
def ROut (b g cap : Nat) (ws : List (Nat × Tx)) (s : Nat × Bool) (v : Value) (w : World) (e : Ending) (w' : World) : Prop := e = .returned v ∧ RRd w' b g cap ws s.1 s.2 ∧ w.grownBy w' (some b)
theorem rOut_mk {b g cap : Nat} {ws : List (Nat × Tx)} {s : Nat × Bool} {v v' : Value} {w w' : World} (hv : v' = v) (h : RRd w' b g cap ws s.1 s.2) (hg : w.grownBy w' (some b)) : ROut b g cap ws s v w (.returned v') w' := by
  subst hv; exact ⟨rfl, h, hg⟩
set_option maxHeartbeats 2000000 in
theorem dword_any (b g cap : Nat) (ws : List (Nat × Tx)) (k : Nat) (m : Bool) (x : Tx) (hx : x ≠ []) (w : World) (h : RRd w b g cap ws k m) (hpos : 0 < ws.length) :
    Calls Tryz.prog 49 #[.pointer (some ⟨b, 0, none⟩), .string (bs x)] w (ROut b g cap ws (wordR (tx ws) x (k, m)) (.tuple #[]) w) := by
  have HN := Lib.hid (dnext_any b g cap ws k m w h)
  have HF := Lib.hid (fun W (h : RRd W b g cap ws k m) => dfail_any b g cap ws k m W h hpos)
  have HH := Lib.hid h
  have hlen : nx (tx ws) k m = x → k ≤ ws.length := fun e => by have := nx_len (T := tx ws) (k := k) (m := m) (by rw [e]; exact hx); rw [tx_len] at this; omega
  have ek : IntKind.i64.wrap ((k : Int) + 1) = (k : Int) + 1 := by obtain ⟨_, _, _, _, h5, h6⟩ := h; rw [IntKind.wrap_i64]; omega
  clear h
  by_cases he : nx (tx ws) k m = x
  · have hE : Hid (wordR (tx ws) x (k, m) = (k + 1, m)) := by show _ = _; unfold wordR; rw [if_pos he]
    have hb : ((bs (nx (tx ws) k m)).toList != (bs x).toList) = false := by rw [he]; simp
    have hb2 : ((bs (nx (tx ws) k m)).toList == (bs x).toList) = true := by rw [he]; simp
    have hkl := hlen he
    clear he hlen
    generalize nx (tx ws) k m = t at *
    go_enter Tryz.func49, Tryz.ntmps49
    go_wp2_with (go_at_call 45; refine HN.out.mono ?_; rintro e w1 ⟨rfl, hg1⟩; have hr1 := Lib.hid (HH.out.kept hg1); have p1 := hr1.out.q1; have f1 := hr1.out.f1)
    go_end0
    rw [hE.out]
    exact rOut_mk rfl (hr1.out.step hkl) ((grown_more hg1).trans (grown_setCell _ _ _ _))
  · have hE : Hid (wordR (tx ws) x (k, m) = (k, true)) := by show _ = _; unfold wordR; rw [if_neg he]
    have hb : ((bs (nx (tx ws) k m)).toList != (bs x).toList) = true := by simp only [bne, beq_bs]; simpa using he
    have hb2 : ((bs (nx (tx ws) k m)).toList == (bs x).toList) = false := by rw [beq_bs]; simpa using he
    clear he hlen ek
    generalize nx (tx ws) k m = t at *
    go_enter Tryz.func49, Tryz.ntmps49
    go_wp2_with (first
      | (go_at_call 45; refine HN.out.mono ?_; rintro e w1 ⟨rfl, hg1⟩; have hr1 := Lib.hid (HH.out.kept hg1))
      | (go_at_call 43; refine (HF.out _ hr1.out).mono ?_; rintro e w2 ⟨rfl, hr2, hg2⟩))
    go_end0
    rw [hE.out]
    exact rOut_mk rfl hr2 ((grown_more hg1).trans hg2)
set_option maxHeartbeats 2000000 in
theorem dname_any (b g cap : Nat) (ws : List (Nat × Tx)) (k : Nat) (m : Bool) (w : World) (h : RRd w b g cap ws k m) (hpos : 0 < ws.length) :
    Calls Tryz.prog 44 #[.pointer (some ⟨b, 0, none⟩)] w (ROut b g cap ws (nameR (tx ws) (k, m)).2 (.string (bs (nameR (tx ws) (k, m)).1)) w) := by
  have HN := Lib.hid (dnext_any b g cap ws k m w h)
  have HF := Lib.hid (fun W (h : RRd W b g cap ws k m) => dfail_any b g cap ws k m W h hpos)
  have HH := Lib.hid h
  have hsz := nx_size h
  have hlen : nameL (nx (tx ws) k m) = true → k ≤ ws.length := fun e => by have := nx_len (T := tx ws) (k := k) (m := m) (nameL_ne e); rw [tx_len] at this; omega
  have ek : IntKind.i64.wrap ((k : Int) + 1) = (k : Int) + 1 := by obtain ⟨_, _, _, _, h5, h6⟩ := h; rw [IntKind.wrap_i64]; omega
  have HNM := Lib.hid (fun W => RName_any (bs (nx (tx ws) k m)) W (by rw [size_bs]; exact hsz))
  clear h
  rcases bor_cases (a := nameL (nx (tx ws) k m)) with he | he
  · have hE : Hid (nameR (tx ws) (k, m) = (nx (tx ws) k m, k + 1, m)) := by show _ = _; unfold nameR; rw [if_pos he]
    have HNM2 : Hid (∀ W, Calls Tryz.prog 81 #[.string (bs (nx (tx ws) k m))] W fun e w' => e = .returned (.bool true) ∧ W = w') := fun W => (HNM.out W).mono fun _ _ h => ⟨by rw [h.1, list_bs, he], h.2⟩
    have hkl := hlen he
    clear he hlen HNM
    generalize nx (tx ws) k m = t at *
    go_enter Tryz.func44, Tryz.ntmps44
    go_wp2_with (first
      | (go_at_call 45; refine HN.out.mono ?_; rintro e w1 ⟨rfl, hg1⟩; have hr1 := Lib.hid (HH.out.kept hg1); have p1 := hr1.out.q1; have f1 := hr1.out.f1)
      | (go_at_call 81; refine (HNM2.out _).mono ?_; rintro e w2 ⟨rfl, rfl⟩))
    go_ret
    rw [hE.out]
    exact rOut_mk rfl (hr1.out.step hkl) ((grown_more hg1).trans (grown_setCell _ _ _ _))
  · have hE : Hid (nameR (tx ws) (k, m) = ([], k, true)) := by show _ = _; unfold nameR; rw [if_neg (by rw [he]; simp)]
    have HNM2 : Hid (∀ W, Calls Tryz.prog 81 #[.string (bs (nx (tx ws) k m))] W fun e w' => e = .returned (.bool false) ∧ W = w') := fun W => (HNM.out W).mono fun _ _ h => ⟨by rw [h.1, list_bs, he], h.2⟩
    clear he hlen HNM ek
    generalize nx (tx ws) k m = t at *
    go_enter Tryz.func44, Tryz.ntmps44
    go_wp2_with (first
      | (go_at_call 45; refine HN.out.mono ?_; rintro e w1 ⟨rfl, hg1⟩; have hr1 := Lib.hid (HH.out.kept hg1))
      | (go_at_call 81; refine (HNM2.out _).mono ?_; rintro e w2 ⟨rfl, rfl⟩)
      | (go_at_call 43; refine (HF.out _ hr1.out).mono ?_; rintro e w2 ⟨rfl, hr2, hg2⟩))
    go_ret
    rw [hE.out]
    exact rOut_mk rfl hr2 ((grown_more hg1).trans hg2)
set_option maxHeartbeats 2000000 in
theorem dnumber_any (b g cap : Nat) (ws : List (Nat × Tx)) (k : Nat) (m : Bool) (w : World) (h : RRd w b g cap ws k m) (hpos : 0 < ws.length) :
    Calls Tryz.prog 47 #[.pointer (some ⟨b, 0, none⟩)] w (ROut b g cap ws (numberR (tx ws) (k, m)).2 (.int .i64 (numberR (tx ws) (k, m)).1) w) := by
  have HN := Lib.hid (dnext_any b g cap ws k m w h)
  have HF := Lib.hid (fun W (h : RRd W b g cap ws k m) => dfail_any b g cap ws k m W h hpos)
  have HH := Lib.hid h
  have hsz := nx_size h
  have hlen : isNum (nx (tx ws) k m) = true → k ≤ ws.length := fun e => by have := nx_len (T := tx ws) (k := k) (m := m) (isNum_ne e); rw [tx_len] at this; omega
  have ek : IntKind.i64.wrap ((k : Int) + 1) = (k : Int) + 1 := by obtain ⟨_, _, _, _, h5, h6⟩ := h; rw [IntKind.wrap_i64]; omega
  clear h
  rcases bor_cases (a := isNum (nx (tx ws) k m)) with he | he
  · have hE : Hid (numberR (tx ws) (k, m) = ((valL (nx (tx ws) k m) : Int), k + 1, m)) := by show _ = _; unfold numberR; rw [if_pos he]
    have HNM2 := Lib.hid (fun W => RNumber_yes (bs (nx (tx ws) k m)) (valL (nx (tx ws) k m)) W (by rw [size_bs]; exact hsz) he rfl)
    have hkl := hlen he
    clear he hlen
    generalize nx (tx ws) k m = t at *
    generalize valL t = n at *
    go_enter Tryz.func47, Tryz.ntmps47
    go_wp2_with (first
      | (go_at_call 45; refine HN.out.mono ?_; rintro e w1 ⟨rfl, hg1⟩; have hr1 := Lib.hid (HH.out.kept hg1); have p1 := hr1.out.q1; have f1 := hr1.out.f1)
      | (go_at_call 82; refine (HNM2.out _).mono ?_; rintro e w2 ⟨rfl, rfl⟩))
    go_ret
    rw [hE.out]
    exact rOut_mk rfl (hr1.out.step hkl) ((grown_more hg1).trans (grown_setCell _ _ _ _))
  · have hE : Hid (numberR (tx ws) (k, m) = (0, k, true)) := by show _ = _; unfold numberR; rw [if_neg (by rw [he]; simp)]
    have HNM2 := Lib.hid (fun W => RNumber_no (bs (nx (tx ws) k m)) W (by rw [size_bs]; exact hsz) he)
    clear he hlen ek
    generalize nx (tx ws) k m = t at *
    go_enter Tryz.func47, Tryz.ntmps47
    go_wp2_with (first
      | (go_at_call 45; refine HN.out.mono ?_; rintro e w1 ⟨rfl, hg1⟩; have hr1 := Lib.hid (HH.out.kept hg1))
      | (go_at_call 82; refine (HNM2.out _).mono ?_; rintro e w2 ⟨rfl, rfl⟩)
      | (go_at_call 43; refine (HF.out _ hr1.out).mono ?_; rintro e w2 ⟨rfl, hr2, hg2⟩))
    go_ret
    rw [hE.out]
    exact rOut_mk rfl hr2 ((grown_more hg1).trans hg2)
end Go.Proofs.YtahgfmobdfhaaaaGreatDoor
namespace Go.Proofs.YtahgfmobdfhaaaaGreatDoor
set_option maxRecDepth 100000
open Go.ChangeShapes Go.WideShapes Go.ChangeAt Go.RowKit

/-- the place of a word in a table, from 1 on; 0: there is none -/
def posR : List Tx → Tx → Nat → Int
  | [], _, _ => 0
  | a :: r, x, i => if a = x then (i : Int) + 1 else posR r x (i + 1)
theorem posR_drop (tbl : List Tx) (x : Tx) (k : Nat) (h : k < tbl.length) (i : Nat) : posR (tbl.drop k) x i = if tbl[k] = x then (i : Int) + 1 else posR (tbl.drop (k + 1)) x (i + 1) := by
  rw [List.drop_eq_getElem_cons h, posR]
def IntBel (i : Int) (w : World) (e : Ending) (w' : World) : Prop := e = .returned (.int .i64 i) ∧ Below w.heap.size w w'
theorem intBel_mk {i j : Int} {w w' : World} (h : j = i) (hb : Below w.heap.size w w') : IntBel i w (.returned (.int .i64 j)) w' := by subst h; exact ⟨rfl, hb⟩
def kindR : List Tx := kindT.drop 1
def stateR : List Tx := stateT.drop 1
set_option maxHeartbeats 2000000 in
theorem RKind_any (x : Tx) (w : World) : Calls Tryz.prog 42 #[.string (bs x)] w (IntBel (posR kindR x 0) w) := by
  have hS := strAt_alloc w kindR 9
  have HS := Lib.hid hS
  have hl : kindR.length = 11 := rfl
  have HB : Hid (Below w.heap.size w (w.alloc (.cells (kindR.map fun t => Value.string (bs t)).toArray 9))) := (Below.refl _ _).alloc (Nat.le_refl _) _
  have HP0 : Hid (posR kindR x 0 = posR (kindR.drop 0) x 0) := rfl
  clear hS
  go_enter Tryz.func42, Tryz.ntmps42
  go_upto_region 3 with fail
  have e0 : w.alloc (.cells #[.string ⟨#[114, 111, 108, 101]⟩, .string ⟨#[117, 115, 101, 114]⟩, .string ⟨#[112, 101, 114, 109]⟩, .string ⟨#[115, 115, 100]⟩, .string ⟨#[100, 115, 100]⟩, .string ⟨#[101, 120, 99, 108, 117, 115, 105, 118, 101]⟩, .string ⟨#[108, 101, 110, 100]⟩, .string ⟨#[115, 116, 97, 116, 101]⟩, .string ⟨#[111, 110]⟩, .string ⟨#[97, 117, 116, 111]⟩, .string ⟨#[97, 102, 116, 101, 114]⟩] 9) = w.alloc (.cells (kindR.map fun t => Value.string (bs t)).toArray 9) := rfl
  rw [e0]
  generalize w.alloc (.cells (kindR.map fun t => Value.string (bs t)).toArray 9) = w1 at *
  generalize kindR = tbl at *
  clear e0
  go_loop [4, 8] (fun _ i => ∃ k : Nat, k ≤ 11 ∧ i = .int .i64 k ∧ Hid (posR tbl x 0 = posR (tbl.drop k) x k)) (fun _ i => 11 - (intOf i).toNat)
  case atStart => exact ⟨0, Nat.zero_le _, rfl, HP0⟩
  case round =>
    obtain ⟨k, hk, rfl, HP⟩ := hrel
    by_cases hlt : k < 11
    · have hkl : k < tbl.length := by omega
      have hx := HS.out k hkl
      have hi := posR_drop tbl x k hkl k
      by_cases he : tbl[k] = x
      · have hb : ((bs tbl[k]).toList == (bs x).toList) = true := by rw [beq_bs]; simp [he]
        rw [if_pos he] at hi
        have HE : Hid (posR tbl x 0 = (k : Int) + 1) := HP.out.trans hi
        generalize tbl[k] = t at *
        clear hi he HP hl hkl
        go_wp2
        go_ret
        exact intBel_mk HE.out.symm HB.out
      · have hb : ((bs tbl[k]).toList == (bs x).toList) = false := by rw [beq_bs]; simpa using he
        rw [if_neg he] at hi
        have HE : Hid (posR tbl x 0 = posR (tbl.drop (k + 1)) x (k + 1)) := HP.out.trans hi
        generalize tbl[k] = t at *
        clear hi he HP hl hkl
        go_wp2
        go_round
        case rel => exact ⟨k + 1, by omega, by go_num, HE.out⟩
        case measure => simp [intOf]; omega
    · have HE : Hid (posR tbl x 0 = 0) := by have := HP.out; rw [List.drop_of_length_le (by omega)] at this; exact this
      clear hl
      go_wp2
      go_ret
      exact intBel_mk HE.out.symm HB.out
set_option maxHeartbeats 2000000 in
theorem RState_any (x : Tx) (w : World) : Calls Tryz.prog 48 #[.string (bs x)] w (IntBel (posR stateR x 0) w) := by
  have hS := strAt_alloc w stateR 9
  have HS := Lib.hid hS
  have hl : stateR.length = 4 := rfl
  have HB : Hid (Below w.heap.size w (w.alloc (.cells (stateR.map fun t => Value.string (bs t)).toArray 9))) := (Below.refl _ _).alloc (Nat.le_refl _) _
  have HP0 : Hid (posR stateR x 0 = posR (stateR.drop 0) x 0) := rfl
  clear hS
  go_enter Tryz.func48, Tryz.ntmps48
  go_upto_region 3 with fail
  have e0 : w.alloc (.cells #[.string ⟨#[112, 108, 97, 105, 110]⟩, .string ⟨#[97, 108, 108]⟩, .string ⟨#[112, 97, 115, 116]⟩, .string ⟨#[100, 101, 101, 112]⟩] 9) = w.alloc (.cells (stateR.map fun t => Value.string (bs t)).toArray 9) := rfl
  rw [e0]
  generalize w.alloc (.cells (stateR.map fun t => Value.string (bs t)).toArray 9) = w1 at *
  generalize stateR = tbl at *
  clear e0
  go_loop [4, 8] (fun _ i => ∃ k : Nat, k ≤ 4 ∧ i = .int .i64 k ∧ Hid (posR tbl x 0 = posR (tbl.drop k) x k)) (fun _ i => 4 - (intOf i).toNat)
  case atStart => exact ⟨0, Nat.zero_le _, rfl, HP0⟩
  case round =>
    obtain ⟨k, hk, rfl, HP⟩ := hrel
    by_cases hlt : k < 4
    · have hkl : k < tbl.length := by omega
      have hx := HS.out k hkl
      have hi := posR_drop tbl x k hkl k
      by_cases he : tbl[k] = x
      · have hb : ((bs tbl[k]).toList == (bs x).toList) = true := by rw [beq_bs]; simp [he]
        rw [if_pos he] at hi
        have HE : Hid (posR tbl x 0 = (k : Int) + 1) := HP.out.trans hi
        generalize tbl[k] = t at *
        clear hi he HP hl hkl
        go_wp2
        go_ret
        exact intBel_mk HE.out.symm HB.out
      · have hb : ((bs tbl[k]).toList == (bs x).toList) = false := by rw [beq_bs]; simpa using he
        rw [if_neg he] at hi
        have HE : Hid (posR tbl x 0 = posR (tbl.drop (k + 1)) x (k + 1)) := HP.out.trans hi
        generalize tbl[k] = t at *
        clear hi he HP hl hkl
        go_wp2
        go_round
        case rel => exact ⟨k + 1, by omega, by go_num, HE.out⟩
        case measure => simp [intOf]; omega
    · have HE : Hid (posR tbl x 0 = 0) := by have := HP.out; rw [List.drop_of_length_le (by omega)] at this; exact this
      clear hl
      go_wp2
      go_ret
      exact intBel_mk HE.out.symm HB.out
/-- names to the end, so many at least -/
def namesR (T : List Tx) (least : Nat) : Nat → List Tx → Nat × Bool → List Tx × Nat × Bool
  | 0, acc, s => (acc, s)
  | N + 1, acc, s => if s.2 = false ∧ (s.1 < T.length ∨ acc.length < least) then namesR T least N (acc ++ [(nameR T s).1]) (nameR T s).2 else (acc, s)
theorem namesR_stop {T : List Tx} {least N : Nat} {acc : List Tx} {s : Nat × Bool} (h : ¬ (s.2 = false ∧ (s.1 < T.length ∨ acc.length < least))) : namesR T least N acc s = (acc, s) := by
  cases N with
  | zero => rfl
  | succ N => rw [namesR, if_neg h]
theorem namesR_go {T : List Tx} {least N : Nat} {acc : List Tx} {s : Nat × Bool} (h : s.2 = false ∧ (s.1 < T.length ∨ acc.length < least)) : namesR T least (N + 1) acc s = namesR T least N (acc ++ [(nameR T s).1]) (nameR T s).2 := by
  rw [namesR, if_pos h]
theorem nameR_cases (T : List Tx) (s : Nat × Bool) : ((nameR T s).2 = (s.1 + 1, s.2) ∧ s.1 < T.length) ∨ (nameR T s).2 = (s.1, true) := by
  unfold nameR
  split
  · rename_i h; exact .inl ⟨rfl, nx_len (nameL_ne h)⟩
  · exact .inr rfl
def RNamesTo (b g cap : Nat) (ws : List (Nat × Tx)) (p : List Tx × Nat × Bool) (w : World) (e : Ending) (w' : World) : Prop := ∃ v, e = .returned v ∧ RRd w' b g cap ws p.2.1 p.2.2 ∧ OwnL w' w.heap.size v p.1 ∧ w.grownBy w' (some b)
theorem rNames_mk {b g cap : Nat} {ws : List (Nat × Tx)} {p : List Tx × Nat × Bool} {acc : List Tx} {k : Nat} {m : Bool} {v : Value} {w w' : World} (hp : p = (acc, k, m)) (h : RRd w' b g cap ws k m) (ho : OwnL w' w.heap.size v acc) (hg : w.grownBy w' (some b)) : RNamesTo b g cap ws p w (.returned v) w' := by
  subst hp; exact ⟨v, rfl, h, ho, hg⟩
end Go.Proofs.YtahgfmobdfhaaaaGreatDoor
namespace Go.Proofs.YtahgfmobdfhaaaaGreatDoor
set_option maxRecDepth 100000
open Go.ChangeShapes Go.WideShapes Go.ChangeAt Go.RowKit

section
variable {w w' : World} {b g cap k : Nat} {ws : List (Nat × Tx)} {m : Bool}
theorem RRd.q0 (h : RRd w b g cap ws k m) : w.cell? ⟨b, 0, none⟩ = some (.slice (some ⟨g, 0, none⟩) ws.length cap) := by obtain ⟨⟨x, y, R⟩, _⟩ := h; rw [cell_of_row _ _ _ _ _ _ R]; rfl
theorem RRd.q4 (h : RRd w b g cap ws k m) : w.cell? ⟨b, 4, none⟩ = some (.int .i64 (if m then 2 else 0)) := by obtain ⟨⟨x, y, R⟩, _⟩ := h; rw [cell_of_row _ _ _ _ _ _ R]; rfl
theorem RRd.blt (h : RRd w b g cap ws k m) : b < w.heap.size := by obtain ⟨⟨x, y, R⟩, _⟩ := h; exact (Array.getElem?_eq_some_iff.1 R).1
theorem RRd.keptBut {r : Option Nat} (h : RRd w b g cap ws k m) (hg : w.grownBy w' r) (h1 : some b ≠ r) (h2 : some g ≠ r) : RRd w' b g cap ws k m := by
  obtain ⟨⟨x, y, R⟩, hW, hgl, hne, hl, hk⟩ := h
  exact ⟨⟨x, y, (hg.block b (Array.getElem?_eq_some_iff.1 R).1 h1).trans R⟩, hW.grown hg h2, Nat.lt_of_lt_of_le hgl hg.size, hne, hl, hk⟩
end
set_option maxHeartbeats 4000000 in
theorem dnames_any (b g cap : Nat) (ws : List (Nat × Tx)) (k0 : Nat) (m0 : Bool) (least : Nat) (w : World) (h : RRd w b g cap ws k0 m0) (hpos : 0 < ws.length) (_hle : least ≤ 10) :
    Calls Tryz.prog 46 #[.pointer (some ⟨b, 0, none⟩), .int .i64 least] w (RNamesTo b g cap ws (namesR (tx ws) least (ws.length + 3) [] (k0, m0)) w) := by
  obtain ⟨i0, hi, hz0, hz1, hz2⟩ := info_parts Tryz.infoString
  have hblt := h.blt
  have hglt : g < w.heap.size := h.2.2.1
  have hln : ws.length ≤ 1000000000 := h.2.2.2.2.1
  have nm0 := fun k W (hW : RRd W b g cap ws k false) => dname_any b g cap ws k false W hW hpos
  have NM0 := Lib.hid nm0
  clear nm0
  go_enter Tryz.func46, Tryz.ntmps46
  go_upto_region 2 with fail
  go_loopw [5] (fun l wr => ∃ (acc : List Tx) (k : Nat) (m : Bool) (N : Nat), Hid (namesR (tx ws) least (ws.length + 3) [] (k0, m0) = namesR (tx ws) least N acc (k, m)) ∧ RRd wr b g cap ws k m ∧ OwnL wr w.heap.size l acc ∧ w.grownBy wr (some b) ∧
      acc.length ≤ k + 1 ∧ (m = false → acc.length ≤ k ∧ ws.length + 2 ≤ k + N)) (fun _ wr => match wr.cell? ⟨b, 1, none⟩, wr.cell? ⟨b, 4, none⟩ with | some (.int _ k), some (.int _ z) => 2 * (ws.length + 1 - k.toNat) + (if z = 0 then 1 else 0) | _, _ => 0)
  case atStart => exact ⟨[], k0, m0, ws.length + 3, rfl, h, World.ownsRow_nil _ _ _ _, grown_more (World.grownBy.refl _ _), by simp, by intro _; exact ⟨Nat.zero_le _, by omega⟩⟩
  case round =>
    obtain ⟨acc, k, m, N, HN, hr, hown, hg, hac, hm⟩ := hrel
    have h0 := hr.q0
    have h1 := hr.q1
    have h4 := hr.q4
    have hk : k ≤ ws.length + 1 := hr.2.2.2.2.2
    obtain ⟨A, cp, rfl⟩ := own_slice hown
    cases m with
    | true =>
      go_wp2
      go_quiet (fail)
      go_wp2
      go_ret
      exact rNames_mk (HN.out.trans (namesR_stop (by simp))) (hr.kept (grown_drewN _ _ _)) hown (hg.trans (grown_drewN _ _ _))
    | false =>
      by_cases c : k < ws.length ∨ acc.length < least
      · obtain ⟨hm1, hm2⟩ := hm rfl
        obtain ⟨N, rfl⟩ : ∃ M, N = M + 1 := ⟨N - 1, by omega⟩
        have HN2 : Hid (namesR (tx ws) least (ws.length + 3) [] (k0, m0) = namesR (tx ws) least N (acc ++ [(nameR (tx ws) (k, false)).1]) (nameR (tx ws) (k, false)).2) := HN.out.trans (namesR_go ⟨rfl, by simpa [tx_len] using c⟩)
        have hnx : ((nameR (tx ws) (k, false)).2 = (k + 1, false) ∧ k < (tx ws).length) ∨ (nameR (tx ws) (k, false)).2 = (k, true) := nameR_cases _ _
        rw [tx_len] at hnx
        have key : ∃ g1 g2, decide (k < ws.length) = g1 ∧ decide (acc.length < least) = g2 ∧ (g1 || g2) = true := ⟨_, _, rfl, rfl, by simpa using c⟩
        obtain ⟨q1, q2, e1, e2, e3⟩ := key
        have NM := Lib.hid (NM0.out k)
        generalize nameR (tx ws) (k, false) = P at *
        obtain ⟨p1, kk, mm⟩ := P
        clear HN hm c NM0
        cases q1 <;> cases q2
        · simp at e3
        all_goals
          clear e3
          go_wp2
          go_quiet (fail)
          go_wp2_with (first
            | (go_at_call 44; refine (NM.out _ (hr.kept (grown_drewN _ _ _))).mono ?_; rintro e w1 ⟨rfl, h1', g1'⟩; have hown1 := own_far hown hblt g1'; have hsz1 : wr.heap.size ≤ w1.heap.size := g1'.size)
            | (at_builtin; go_must (refine wpList_append_own _ rfl (.tmp 30) (.tmp 33) 28 rfl w.heap.size 9 i0 _ 1 16 Tryz.underlying28 hi hz0 hz1 hz2 rfl (by decide) _ _ _ rfl (hown1.alloc _) ⟨w1.heap.size, 0, none⟩ 1 1 [.string (bs p1)] rfl rfl (cells_new _ _ _) (by intro u hu; simp at hu; subst hu; rfl) (by unfold maxLen; omega) (by omega) (by have := g1'.size; have := hg.size; simp; omega) ?_); intro v' w2 hown' hg' _))
          have hg2 : w1.grownBy w2 (Value.slice A acc.length cp).ownBlock := (World.grownBy_alloc _ _ _).trans (show (w1.alloc (.cells #[.string (bs p1)] 9)).grownBy w2 (Value.slice A acc.length cp).ownBlock from hg')
          clear hg'
          have hlt2 : ∀ j, (Value.slice A acc.length cp).ownBlock = some j → w.heap.size ≤ j := fun j e => (hown1.lt j e).1
          have hr2 : RRd w2 b g cap ws kk mm := h1'.keptBut hg2 (fun e => by have := hlt2 _ e.symm; omega) (fun e => by have := hlt2 _ e.symm; omega)
          have hgg : w.grownBy w2 (some b) := ((hg.trans (grown_drewN _ _ _)).trans g1').andThen hg2 (fun j e => .inl (hlt2 j e))
          have x1 := hr2.q1
          have x4 := hr2.q4
          clear hlt2 hown hown1 hr h1' hg g1' hg2
          rcases hnx with ⟨e5, e6⟩ | e5
          · obtain ⟨rfl, rfl⟩ := Prod.mk.inj e5
            go_roundw
            case rel =>
              refine ⟨acc ++ [p1], k + 1, false, N, HN2, hr2, ?_, hgg, ?_, ?_⟩
              · unfold OwnL scells; rw [List.length_append, List.map_append]; exact hown'
              · simp; omega
              · intro _; simp; omega
            case measure => simp [x1, x4, h1, h4]; omega
          · obtain ⟨rfl, rfl⟩ := Prod.mk.inj e5
            go_roundw
            case rel =>
              refine ⟨acc ++ [p1], kk, true, N, HN2, hr2, ?_, hgg, ?_, ?_⟩
              · unfold OwnL scells; rw [List.length_append, List.map_append]; exact hown'
              · simp; omega
              · intro e; cases e
            case measure => simp [x1, x4, h1, h4]
      · have g1 : decide (acc.length < least) = false := by simp; omega
        have g2 : decide (k < ws.length) = false := by simp; omega
        go_wp2
        go_quiet (fail)
        go_wp2
        go_ret
        exact rNames_mk (HN.out.trans (namesR_stop (by simp [tx_len]; omega))) (hr.kept (grown_drewN _ _ _)) hown (hg.trans (grown_drewN _ _ _))
end Go.Proofs.YtahgfmobdfhaaaaGreatDoor
namespace Go.Proofs.YtahgfmobdfhaaaaGreatDoor
set_option maxRecDepth 100000
open Go.ChangeShapes Go.WideShapes Go.ChangeAt Go.RowKit

end Go.Proofs.YtahgfmobdfhaaaaGreatDoor
