/-
  wrong; misfits.
-/
import Derived.Test.YtahgfmobdfhaaaaGreatDoorAs
import Derived.Test.YtahgfmobdfhaaaaGreatDoorRuleAny
import Derived.StillTailTactics
namespace Go.Proofs.YtahgfmobdfhaaaaGreatDoor
set_option maxRecDepth 100000
open Go.ChangeShapes Go.WideShapes Go.ChangeAt Go.RowKit

def colAt (ws : List (Nat × Tx)) (j : Nat) : Nat := (ws[j]?.map (·.1)).getD 0
theorem colAt_eq {ws : List (Nat × Tx)} {j : Nat} (h : j < ws.length) : colAt ws j = ws[j].1 := by simp [colAt, h]
def timeP (n : Int) : Bool := decide (0 < n) && decide (n ≤ 1073741824)
def listP (r : Ru) (ws : List (Nat × Tx)) : List (Nat × Tx) := ws.drop (ws.length - r.list.length)
def wrongP (r : Ru) (ws : List (Nat × Tx)) : Nat :=
  if r.kind = 1 then againP [r.name] (listP r ws)
  else if r.kind = 2 ∨ r.kind = 3 ∨ r.kind = 6 then againP [] (listP r ws)
  else if r.kind = 4 ∨ r.kind = 5 then (if r.n < 2 ∨ (r.list.length : Int) < r.n then colAt ws 1 else againP [] (listP r ws))
  else if r.kind = 7 then (if r.n = 0 then colAt ws 2 else if timeP r.m = false then colAt ws 3 else 0)
  else if r.kind = 11 then (if timeP r.n = false then colAt ws 1 else 0)
  else 0
/-- the list of a rule is the end of its line: the cut of the words, as it comes out -/
def FitAt (n m cap o n' c' : Nat) : Prop := n' = n - (n - m) ∧ ((o = (n - m) * 2 ∧ c' = cap - (n - m)) ∨ (o = 0 ∧ c' = 0 ∧ m = 0))
theorem fitA (n m cap : Nat) : FitAt n m cap ((n - m) * 2) (n - (n - m)) (cap - (n - m)) := ⟨rfl, .inl ⟨rfl, rfl⟩⟩
theorem fitB {n m cap : Nat} (h : m = 0) : FitAt n m cap 0 (n - (n - m)) 0 := ⟨rfl, .inr ⟨rfl, rfl, h⟩⟩
theorem again_fit {g cap m o n' c' : Nat} {ws : List (Nat × Tx)} {w W : World} (h : WAt w g 0 ws) (hg : g < w.heap.size) (hm : ws.length ≤ 1099511627776) (hc : ws.length ≤ cap) (hl : m ≤ ws.length) (hW : Below w.heap.size w W) (hf : FitAt ws.length m cap o n' c') :
    Calls Tryz.prog 96 #[.slice (some ⟨g, o, none⟩) n' c', .slice none 0 0] W (IntB (againP [] (ws.drop (ws.length - m))) W) ∧
    ∀ x y, x < W.heap.size → W.cell? ⟨x, 0, none⟩ = some (.string (bs y)) → (bs y).size ≤ maxLen → Calls Tryz.prog 96 #[.slice (some ⟨g, o, none⟩) n' c', .slice (some ⟨x, 0, none⟩) 1 1] W (IntB (againP [y] (ws.drop (ws.length - m))) W) := by
  obtain ⟨rfl, hf⟩ := hf
  have hlen : (ws.drop (ws.length - m)).length = ws.length - (ws.length - m) := List.length_drop
  have hW2 : g < W.heap.size := Nat.lt_of_lt_of_le hg hW.size
  have hat : WAt W g o (ws.drop (ws.length - m)) := by
    intro j hj
    rw [hlen] at hj
    obtain ⟨x1, x2, x3⟩ := h.below hg hW (ws.length - m + j) (by omega)
    rw [List.getElem_drop]
    rcases hf with ⟨rfl, _⟩ | ⟨_, _, rfl⟩
    · refine ⟨?_, ?_, x3⟩
      · rw [← x1]; congr 2; omega
      · rw [← x2]; congr 2; omega
    · omega
  have hcc : (ws.drop (ws.length - m)).length ≤ c' := by
    rw [hlen]; rcases hf with ⟨_, rfl⟩ | ⟨_, rfl, rfl⟩ <;> omega
  rw [← hlen]
  exact ⟨again_none g o c' _ W hat hW2 (by omega) hcc, fun x y hx hy hs => again_one g o c' _ W hat hW2 (by omega) hcc x y hx hy hs⟩
theorem ag0A {g cap m : Nat} {ws : List (Nat × Tx)} {w : World} (h : WAt w g 0 ws) (hg : g < w.heap.size) (hm : ws.length ≤ 1099511627776) (hc : ws.length ≤ cap) (hl : m ≤ ws.length) (W : World) (hW : Below w.heap.size w W) :
    Calls Tryz.prog 96 #[.slice (some ⟨g, (ws.length - m) * 2, none⟩) (ws.length - (ws.length - m)) (cap - (ws.length - m)), .slice none 0 0] W (IntB (againP [] (ws.drop (ws.length - m))) W) :=
  (again_fit h hg hm hc hl hW (fitA _ _ _)).1
theorem ag0B {g cap m : Nat} {ws : List (Nat × Tx)} {w : World} (h : WAt w g 0 ws) (hg : g < w.heap.size) (hm : ws.length ≤ 1099511627776) (hc : ws.length ≤ cap) (hl : m ≤ ws.length) (W : World) (hW : Below w.heap.size w W) (h0 : m = 0) :
    Calls Tryz.prog 96 #[.slice (some ⟨g, 0, none⟩) (ws.length - (ws.length - m)) 0, .slice none 0 0] W (IntB (againP [] (ws.drop (ws.length - m))) W) :=
  (again_fit h hg hm hc hl hW (fitB (cap := cap) h0)).1
theorem ag1A {g cap m : Nat} {ws : List (Nat × Tx)} {w : World} (h : WAt w g 0 ws) (hg : g < w.heap.size) (hm : ws.length ≤ 1099511627776) (hc : ws.length ≤ cap) (hl : m ≤ ws.length) (W : World) (hW : Below w.heap.size w W) (x : Nat) (y : Tx) (h1 : x < W.heap.size) (h2 : W.cell? ⟨x, 0, none⟩ = some (.string (bs y))) (h3 : (bs y).size ≤ maxLen) :
    Calls Tryz.prog 96 #[.slice (some ⟨g, (ws.length - m) * 2, none⟩) (ws.length - (ws.length - m)) (cap - (ws.length - m)), .slice (some ⟨x, 0, none⟩) 1 1] W (IntB (againP [y] (ws.drop (ws.length - m))) W) :=
  (again_fit h hg hm hc hl hW (fitA _ _ _)).2 x y h1 h2 h3
theorem ag1B {g cap m : Nat} {ws : List (Nat × Tx)} {w : World} (h : WAt w g 0 ws) (hg : g < w.heap.size) (hm : ws.length ≤ 1099511627776) (hc : ws.length ≤ cap) (hl : m ≤ ws.length) (W : World) (hW : Below w.heap.size w W) (h0 : m = 0) (x : Nat) (y : Tx) (h1 : x < W.heap.size) (h2 : W.cell? ⟨x, 0, none⟩ = some (.string (bs y))) (h3 : (bs y).size ≤ maxLen) :
    Calls Tryz.prog 96 #[.slice (some ⟨g, 0, none⟩) (ws.length - (ws.length - m)) 0, .slice (some ⟨x, 0, none⟩) 1 1] W (IntB (againP [y] (ws.drop (ws.length - m))) W) :=
  (again_fit h hg hm hc hl hW (fitB (cap := cap) h0)).2 x y h1 h2 h3

set_option maxHeartbeats 2000000 in
theorem wrong_1 (nm : Tx) (l : List Tx) (n m : Int) (f t by_ ta in_ : Tx) (A : Option Addr) (c : Nat) (ln : Int) (g cap : Nat) (ws : List (Nat × Tx)) (w : World) (hWA : WAt w g 0 ws) (hg : g < w.heap.size) (hm : ws.length ≤ 1099511627776) (hc : ws.length ≤ cap) (hl : l.length ≤ ws.length) (hn : (bs nm).size ≤ maxLen) :
    Calls Tryz.prog 63 #[ruV ⟨1, nm, l, n, m, f, t, by_, ta, in_⟩ (.slice A l.length c) ln, .slice (some ⟨g, 0, none⟩) ws.length cap] w (IntB (againP [nm] (ws.drop (ws.length - l.length))) w) := by
  unfold ruV
  simp only
  generalize hm0 : l.length = m0 at *
  clear hm0
  have e1 : IntKind.i64.wrap ((ws.length : Int) - m0) = ((ws.length - m0 : Nat) : Int) := by rw [IntKind.wrap_i64]; omega
  go_enter Tryz.func63, Tryz.ntmps63
  go_wp2_with fail
  · refine (ag1B hWA hg hm hc hl _ (((Below.refl _ _).alloc (Nat.le_refl _) _).alloc (by simp) _) (by omega) _ nm (by simp) (by simp) hn).mono ?_
    rintro e w1 ⟨rfl, hb⟩
    go_wp2
    go_ret
    exact intB_mk rfl (below_then (((Below.refl _ _).alloc (Nat.le_refl _) _).alloc (by simp) _) hb (by simp; omega))
  · refine (ag1A hWA hg hm hc hl _ (((Below.refl _ _).alloc (Nat.le_refl _) _).alloc (by simp) _) _ nm (by simp) (by simp) hn).mono ?_
    rintro e w1 ⟨rfl, hb⟩
    go_wp2
    go_ret
    exact intB_mk rfl (below_then (((Below.refl _ _).alloc (Nat.le_refl _) _).alloc (by simp) _) hb (by simp; omega))

set_option maxHeartbeats 2000000 in
theorem wrong_2 (nm : Tx) (l : List Tx) (n m : Int) (f t by_ ta in_ : Tx) (A : Option Addr) (c : Nat) (ln : Int) (g cap : Nat) (ws : List (Nat × Tx)) (w : World) (hWA : WAt w g 0 ws) (hg : g < w.heap.size) (hm : ws.length ≤ 1099511627776) (hc : ws.length ≤ cap) (hl : l.length ≤ ws.length) :
    Calls Tryz.prog 63 #[ruV ⟨2, nm, l, n, m, f, t, by_, ta, in_⟩ (.slice A l.length c) ln, .slice (some ⟨g, 0, none⟩) ws.length cap] w (IntB (againP [] (ws.drop (ws.length - l.length))) w) := by
  unfold ruV
  simp only
  generalize hm0 : l.length = m0 at *
  clear hm0
  have e1 : IntKind.i64.wrap ((ws.length : Int) - m0) = ((ws.length - m0 : Nat) : Int) := by rw [IntKind.wrap_i64]; omega
  go_enter Tryz.func63, Tryz.ntmps63
  go_wp2_with fail
  · refine (ag0B hWA hg hm hc hl _ ((Below.refl _ _).alloc (Nat.le_refl _) _) (by omega)).mono ?_
    rintro e w1 ⟨rfl, hb⟩
    go_wp2
    go_ret
    exact intB_mk rfl (below_then ((Below.refl _ _).alloc (Nat.le_refl _) _) hb (by simp))
  · refine (ag0A hWA hg hm hc hl _ ((Below.refl _ _).alloc (Nat.le_refl _) _)).mono ?_
    rintro e w1 ⟨rfl, hb⟩
    go_wp2
    go_ret
    exact intB_mk rfl (below_then ((Below.refl _ _).alloc (Nat.le_refl _) _) hb (by simp))

set_option maxHeartbeats 2000000 in
theorem wrong_3 (nm : Tx) (l : List Tx) (n m : Int) (f t by_ ta in_ : Tx) (A : Option Addr) (c : Nat) (ln : Int) (g cap : Nat) (ws : List (Nat × Tx)) (w : World) (hWA : WAt w g 0 ws) (hg : g < w.heap.size) (hm : ws.length ≤ 1099511627776) (hc : ws.length ≤ cap) (hl : l.length ≤ ws.length) :
    Calls Tryz.prog 63 #[ruV ⟨3, nm, l, n, m, f, t, by_, ta, in_⟩ (.slice A l.length c) ln, .slice (some ⟨g, 0, none⟩) ws.length cap] w (IntB (againP [] (ws.drop (ws.length - l.length))) w) := by
  unfold ruV
  simp only
  generalize hm0 : l.length = m0 at *
  clear hm0
  have e1 : IntKind.i64.wrap ((ws.length : Int) - m0) = ((ws.length - m0 : Nat) : Int) := by rw [IntKind.wrap_i64]; omega
  go_enter Tryz.func63, Tryz.ntmps63
  go_wp2_with fail
  · refine (ag0B hWA hg hm hc hl _ ((Below.refl _ _).alloc (Nat.le_refl _) _) (by omega)).mono ?_
    rintro e w1 ⟨rfl, hb⟩
    go_wp2
    go_ret
    exact intB_mk rfl (below_then ((Below.refl _ _).alloc (Nat.le_refl _) _) hb (by simp))
  · refine (ag0A hWA hg hm hc hl _ ((Below.refl _ _).alloc (Nat.le_refl _) _)).mono ?_
    rintro e w1 ⟨rfl, hb⟩
    go_wp2
    go_ret
    exact intB_mk rfl (below_then ((Below.refl _ _).alloc (Nat.le_refl _) _) hb (by simp))

set_option maxHeartbeats 2000000 in
theorem wrong_6 (nm : Tx) (l : List Tx) (n m : Int) (f t by_ ta in_ : Tx) (A : Option Addr) (c : Nat) (ln : Int) (g cap : Nat) (ws : List (Nat × Tx)) (w : World) (hWA : WAt w g 0 ws) (hg : g < w.heap.size) (hm : ws.length ≤ 1099511627776) (hc : ws.length ≤ cap) (hl : l.length ≤ ws.length) :
    Calls Tryz.prog 63 #[ruV ⟨6, nm, l, n, m, f, t, by_, ta, in_⟩ (.slice A l.length c) ln, .slice (some ⟨g, 0, none⟩) ws.length cap] w (IntB (againP [] (ws.drop (ws.length - l.length))) w) := by
  unfold ruV
  simp only
  generalize hm0 : l.length = m0 at *
  clear hm0
  have e1 : IntKind.i64.wrap ((ws.length : Int) - m0) = ((ws.length - m0 : Nat) : Int) := by rw [IntKind.wrap_i64]; omega
  go_enter Tryz.func63, Tryz.ntmps63
  go_wp2_with fail
  · refine (ag0B hWA hg hm hc hl _ ((Below.refl _ _).alloc (Nat.le_refl _) _) (by omega)).mono ?_
    rintro e w1 ⟨rfl, hb⟩
    go_wp2
    go_ret
    exact intB_mk rfl (below_then ((Below.refl _ _).alloc (Nat.le_refl _) _) hb (by simp))
  · refine (ag0A hWA hg hm hc hl _ ((Below.refl _ _).alloc (Nat.le_refl _) _)).mono ?_
    rintro e w1 ⟨rfl, hb⟩
    go_wp2
    go_ret
    exact intB_mk rfl (below_then ((Below.refl _ _).alloc (Nat.le_refl _) _) hb (by simp))

set_option maxHeartbeats 2000000 in
theorem wrong_4bad1 (nm : Tx) (l : List Tx) (n m : Int) (f t by_ ta in_ : Tx) (A : Option Addr) (c : Nat) (ln : Int) (g cap : Nat) (ws : List (Nat × Tx)) (w : World) (hWA : WAt w g 0 ws) (hg : g < w.heap.size) (hm : ws.length ≤ 1099511627776) (_hc : ws.length ≤ cap) (hl : l.length ≤ ws.length) (h2 : 2 ≤ ws.length) (hb : n < 2) :
    Calls Tryz.prog 63 #[ruV ⟨4, nm, l, n, m, f, t, by_, ta, in_⟩ (.slice A l.length c) ln, .slice (some ⟨g, 0, none⟩) ws.length cap] w (IntB (ws[1].1) w) := by
  unfold ruV
  simp only
  generalize hm0 : l.length = m0 at *
  clear hm0
  have e1 : IntKind.i64.wrap ((ws.length : Int) - m0) = ((ws.length - m0 : Nat) : Int) := by rw [IntKind.wrap_i64]; omega
  obtain ⟨x1, x2, x3⟩ := hWA 1 (by omega)
  go_enter Tryz.func63, Tryz.ntmps63
  go_wp2_with fail
  all_goals
    go_ret
    exact intB_mk rfl ((Below.refl _ _).alloc (Nat.le_refl _) _)

set_option maxHeartbeats 2000000 in
theorem wrong_4bad2 (nm : Tx) (l : List Tx) (n m : Int) (f t by_ ta in_ : Tx) (A : Option Addr) (c : Nat) (ln : Int) (g cap : Nat) (ws : List (Nat × Tx)) (w : World) (hWA : WAt w g 0 ws) (hg : g < w.heap.size) (hm : ws.length ≤ 1099511627776) (_hc : ws.length ≤ cap) (hl : l.length ≤ ws.length) (h2 : 2 ≤ ws.length) (hb1 : ¬ n < 2) (hb2 : (l.length : Int) < n) :
    Calls Tryz.prog 63 #[ruV ⟨4, nm, l, n, m, f, t, by_, ta, in_⟩ (.slice A l.length c) ln, .slice (some ⟨g, 0, none⟩) ws.length cap] w (IntB (ws[1].1) w) := by
  unfold ruV
  simp only
  generalize hm0 : l.length = m0 at *
  clear hm0
  have e1 : IntKind.i64.wrap ((ws.length : Int) - m0) = ((ws.length - m0 : Nat) : Int) := by rw [IntKind.wrap_i64]; omega
  obtain ⟨x1, x2, x3⟩ := hWA 1 (by omega)
  go_enter Tryz.func63, Tryz.ntmps63
  go_wp2_with fail
  all_goals
    go_ret
    exact intB_mk rfl ((Below.refl _ _).alloc (Nat.le_refl _) _)

set_option maxHeartbeats 2000000 in
theorem wrong_4good (nm : Tx) (l : List Tx) (n m : Int) (f t by_ ta in_ : Tx) (A : Option Addr) (c : Nat) (ln : Int) (g cap : Nat) (ws : List (Nat × Tx)) (w : World) (hWA : WAt w g 0 ws) (hg : g < w.heap.size) (hm : ws.length ≤ 1099511627776) (hc : ws.length ≤ cap) (hl : l.length ≤ ws.length) (hb1 : ¬ n < 2) (hb2 : ¬ (l.length : Int) < n) :
    Calls Tryz.prog 63 #[ruV ⟨4, nm, l, n, m, f, t, by_, ta, in_⟩ (.slice A l.length c) ln, .slice (some ⟨g, 0, none⟩) ws.length cap] w (IntB (againP [] (ws.drop (ws.length - l.length))) w) := by
  unfold ruV
  simp only
  generalize hm0 : l.length = m0 at *
  clear hm0
  have e1 : IntKind.i64.wrap ((ws.length : Int) - m0) = ((ws.length - m0 : Nat) : Int) := by rw [IntKind.wrap_i64]; omega
  go_enter Tryz.func63, Tryz.ntmps63
  go_wp2_with fail
  · refine (ag0A hWA hg hm hc hl _ ((Below.refl _ _).alloc (Nat.le_refl _) _)).mono ?_
    rintro e w1 ⟨rfl, hb⟩
    go_wp2
    go_ret
    exact intB_mk rfl (below_then ((Below.refl _ _).alloc (Nat.le_refl _) _) hb (by simp))

set_option maxHeartbeats 2000000 in
theorem wrong_5bad1 (nm : Tx) (l : List Tx) (n m : Int) (f t by_ ta in_ : Tx) (A : Option Addr) (c : Nat) (ln : Int) (g cap : Nat) (ws : List (Nat × Tx)) (w : World) (hWA : WAt w g 0 ws) (hg : g < w.heap.size) (hm : ws.length ≤ 1099511627776) (_hc : ws.length ≤ cap) (hl : l.length ≤ ws.length) (h2 : 2 ≤ ws.length) (hb : n < 2) :
    Calls Tryz.prog 63 #[ruV ⟨5, nm, l, n, m, f, t, by_, ta, in_⟩ (.slice A l.length c) ln, .slice (some ⟨g, 0, none⟩) ws.length cap] w (IntB (ws[1].1) w) := by
  unfold ruV
  simp only
  generalize hm0 : l.length = m0 at *
  clear hm0
  have e1 : IntKind.i64.wrap ((ws.length : Int) - m0) = ((ws.length - m0 : Nat) : Int) := by rw [IntKind.wrap_i64]; omega
  obtain ⟨x1, x2, x3⟩ := hWA 1 (by omega)
  go_enter Tryz.func63, Tryz.ntmps63
  go_wp2_with fail
  all_goals
    go_ret
    exact intB_mk rfl ((Below.refl _ _).alloc (Nat.le_refl _) _)

set_option maxHeartbeats 2000000 in
theorem wrong_5bad2 (nm : Tx) (l : List Tx) (n m : Int) (f t by_ ta in_ : Tx) (A : Option Addr) (c : Nat) (ln : Int) (g cap : Nat) (ws : List (Nat × Tx)) (w : World) (hWA : WAt w g 0 ws) (hg : g < w.heap.size) (hm : ws.length ≤ 1099511627776) (_hc : ws.length ≤ cap) (hl : l.length ≤ ws.length) (h2 : 2 ≤ ws.length) (hb1 : ¬ n < 2) (hb2 : (l.length : Int) < n) :
    Calls Tryz.prog 63 #[ruV ⟨5, nm, l, n, m, f, t, by_, ta, in_⟩ (.slice A l.length c) ln, .slice (some ⟨g, 0, none⟩) ws.length cap] w (IntB (ws[1].1) w) := by
  unfold ruV
  simp only
  generalize hm0 : l.length = m0 at *
  clear hm0
  have e1 : IntKind.i64.wrap ((ws.length : Int) - m0) = ((ws.length - m0 : Nat) : Int) := by rw [IntKind.wrap_i64]; omega
  obtain ⟨x1, x2, x3⟩ := hWA 1 (by omega)
  go_enter Tryz.func63, Tryz.ntmps63
  go_wp2_with fail
  all_goals
    go_ret
    exact intB_mk rfl ((Below.refl _ _).alloc (Nat.le_refl _) _)

set_option maxHeartbeats 2000000 in
theorem wrong_5good (nm : Tx) (l : List Tx) (n m : Int) (f t by_ ta in_ : Tx) (A : Option Addr) (c : Nat) (ln : Int) (g cap : Nat) (ws : List (Nat × Tx)) (w : World) (hWA : WAt w g 0 ws) (hg : g < w.heap.size) (hm : ws.length ≤ 1099511627776) (hc : ws.length ≤ cap) (hl : l.length ≤ ws.length) (hb1 : ¬ n < 2) (hb2 : ¬ (l.length : Int) < n) :
    Calls Tryz.prog 63 #[ruV ⟨5, nm, l, n, m, f, t, by_, ta, in_⟩ (.slice A l.length c) ln, .slice (some ⟨g, 0, none⟩) ws.length cap] w (IntB (againP [] (ws.drop (ws.length - l.length))) w) := by
  unfold ruV
  simp only
  generalize hm0 : l.length = m0 at *
  clear hm0
  have e1 : IntKind.i64.wrap ((ws.length : Int) - m0) = ((ws.length - m0 : Nat) : Int) := by rw [IntKind.wrap_i64]; omega
  go_enter Tryz.func63, Tryz.ntmps63
  go_wp2_with fail
  · refine (ag0A hWA hg hm hc hl _ ((Below.refl _ _).alloc (Nat.le_refl _) _)).mono ?_
    rintro e w1 ⟨rfl, hb⟩
    go_wp2
    go_ret
    exact intB_mk rfl (below_then ((Below.refl _ _).alloc (Nat.le_refl _) _) hb (by simp))

set_option maxHeartbeats 2000000 in
theorem wrong_7a (nm : Tx) (l : List Tx) (n m : Int) (f t by_ ta in_ : Tx) (A : Option Addr) (c : Nat) (ln : Int) (g cap : Nat) (ws : List (Nat × Tx)) (w : World) (hWA : WAt w g 0 ws) (hg : g < w.heap.size) (hm : ws.length ≤ 1099511627776) (_hc : ws.length ≤ cap) (hl : l.length ≤ ws.length) (h4 : 4 ≤ ws.length) (hz : n = 0) :
    Calls Tryz.prog 63 #[ruV ⟨7, nm, l, n, m, f, t, by_, ta, in_⟩ (.slice A l.length c) ln, .slice (some ⟨g, 0, none⟩) ws.length cap] w (IntB (ws[2].1) w) := by
  unfold ruV
  simp only
  generalize hm0 : l.length = m0 at *
  clear hm0
  have e1 : IntKind.i64.wrap ((ws.length : Int) - m0) = ((ws.length - m0 : Nat) : Int) := by rw [IntKind.wrap_i64]; omega
  obtain ⟨x1, x2, x3⟩ := hWA 2 (by omega)
  subst hz
  go_enter Tryz.func63, Tryz.ntmps63
  go_wp2_with fail
  all_goals
    go_ret
    exact intB_mk rfl ((Below.refl _ _).alloc (Nat.le_refl _) _)

set_option maxHeartbeats 2000000 in
theorem wrong_7b (nm : Tx) (l : List Tx) (n m : Int) (f t by_ ta in_ : Tx) (A : Option Addr) (c : Nat) (ln : Int) (g cap : Nat) (ws : List (Nat × Tx)) (w : World) (hWA : WAt w g 0 ws) (hg : g < w.heap.size) (hm : ws.length ≤ 1099511627776) (_hc : ws.length ≤ cap) (hl : l.length ≤ ws.length) (h4 : 4 ≤ ws.length) (hz : ¬ n = 0) (ht : (decide (0 < m) && decide (m ≤ 1073741824)) = false) :
    Calls Tryz.prog 63 #[ruV ⟨7, nm, l, n, m, f, t, by_, ta, in_⟩ (.slice A l.length c) ln, .slice (some ⟨g, 0, none⟩) ws.length cap] w (IntB (ws[3].1) w) := by
  unfold ruV
  simp only
  generalize hm0 : l.length = m0 at *
  clear hm0
  have e1 : IntKind.i64.wrap ((ws.length : Int) - m0) = ((ws.length - m0 : Nat) : Int) := by rw [IntKind.wrap_i64]; omega
  obtain ⟨x1, x2, x3⟩ := hWA 3 (by omega)
  have hz' : (n == 0) = false := by simpa using hz
  go_enter Tryz.func63, Tryz.ntmps63
  go_wp2_with (go_at_call 97; refine (isTime_any _ _).mono ?_; rintro e w1 ⟨rfl, rfl⟩; rw [ht])
  all_goals
    go_ret
    exact intB_mk rfl ((Below.refl _ _).alloc (Nat.le_refl _) _)

set_option maxHeartbeats 2000000 in
theorem wrong_7c (nm : Tx) (l : List Tx) (n m : Int) (f t by_ ta in_ : Tx) (A : Option Addr) (c : Nat) (ln : Int) (g cap : Nat) (ws : List (Nat × Tx)) (w : World) (_hWA : WAt w g 0 ws) (_hg : g < w.heap.size) (hm : ws.length ≤ 1099511627776) (_hc : ws.length ≤ cap) (hl : l.length ≤ ws.length) (hz : ¬ n = 0) (ht : (decide (0 < m) && decide (m ≤ 1073741824)) = true) :
    Calls Tryz.prog 63 #[ruV ⟨7, nm, l, n, m, f, t, by_, ta, in_⟩ (.slice A l.length c) ln, .slice (some ⟨g, 0, none⟩) ws.length cap] w (IntB (0) w) := by
  unfold ruV
  simp only
  generalize hm0 : l.length = m0 at *
  clear hm0
  have e1 : IntKind.i64.wrap ((ws.length : Int) - m0) = ((ws.length - m0 : Nat) : Int) := by rw [IntKind.wrap_i64]; omega
  have hz' : (n == 0) = false := by simpa using hz
  go_enter Tryz.func63, Tryz.ntmps63
  go_wp2_with (go_at_call 97; refine (isTime_any _ _).mono ?_; rintro e w1 ⟨rfl, rfl⟩; rw [ht])
  all_goals
    go_ret
    exact intB_mk rfl ((Below.refl _ _).alloc (Nat.le_refl _) _)

set_option maxHeartbeats 2000000 in
theorem wrong_11a (nm : Tx) (l : List Tx) (n m : Int) (f t by_ ta in_ : Tx) (A : Option Addr) (c : Nat) (ln : Int) (g cap : Nat) (ws : List (Nat × Tx)) (w : World) (hWA : WAt w g 0 ws) (hg : g < w.heap.size) (hm : ws.length ≤ 1099511627776) (_hc : ws.length ≤ cap) (hl : l.length ≤ ws.length) (h4 : 2 ≤ ws.length) (ht : (decide (0 < n) && decide (n ≤ 1073741824)) = false) :
    Calls Tryz.prog 63 #[ruV ⟨11, nm, l, n, m, f, t, by_, ta, in_⟩ (.slice A l.length c) ln, .slice (some ⟨g, 0, none⟩) ws.length cap] w (IntB (ws[1].1) w) := by
  unfold ruV
  simp only
  generalize hm0 : l.length = m0 at *
  clear hm0
  have e1 : IntKind.i64.wrap ((ws.length : Int) - m0) = ((ws.length - m0 : Nat) : Int) := by rw [IntKind.wrap_i64]; omega
  obtain ⟨x1, x2, x3⟩ := hWA 1 (by omega)
  go_enter Tryz.func63, Tryz.ntmps63
  go_wp2_with (go_at_call 97; refine (isTime_any _ _).mono ?_; rintro e w1 ⟨rfl, rfl⟩; rw [ht])
  all_goals
    go_ret
    exact intB_mk rfl ((Below.refl _ _).alloc (Nat.le_refl _) _)

set_option maxHeartbeats 2000000 in
theorem wrong_11b (nm : Tx) (l : List Tx) (n m : Int) (f t by_ ta in_ : Tx) (A : Option Addr) (c : Nat) (ln : Int) (g cap : Nat) (ws : List (Nat × Tx)) (w : World) (_hWA : WAt w g 0 ws) (_hg : g < w.heap.size) (hm : ws.length ≤ 1099511627776) (_hc : ws.length ≤ cap) (hl : l.length ≤ ws.length) (ht : (decide (0 < n) && decide (n ≤ 1073741824)) = true) :
    Calls Tryz.prog 63 #[ruV ⟨11, nm, l, n, m, f, t, by_, ta, in_⟩ (.slice A l.length c) ln, .slice (some ⟨g, 0, none⟩) ws.length cap] w (IntB (0) w) := by
  unfold ruV
  simp only
  generalize hm0 : l.length = m0 at *
  clear hm0
  have e1 : IntKind.i64.wrap ((ws.length : Int) - m0) = ((ws.length - m0 : Nat) : Int) := by rw [IntKind.wrap_i64]; omega
  go_enter Tryz.func63, Tryz.ntmps63
  go_wp2_with (go_at_call 97; refine (isTime_any _ _).mono ?_; rintro e w1 ⟨rfl, rfl⟩; rw [ht])
  all_goals
    go_ret
    exact intB_mk rfl ((Below.refl _ _).alloc (Nat.le_refl _) _)

set_option maxHeartbeats 2000000 in
theorem wrong_8 (nm : Tx) (l : List Tx) (n m : Int) (f t by_ ta in_ : Tx) (A : Option Addr) (c : Nat) (ln : Int) (g cap : Nat) (ws : List (Nat × Tx)) (w : World) (_hWA : WAt w g 0 ws) (_hg : g < w.heap.size) (hm : ws.length ≤ 1099511627776) (_hc : ws.length ≤ cap) (hl : l.length ≤ ws.length) :
    Calls Tryz.prog 63 #[ruV ⟨8, nm, l, n, m, f, t, by_, ta, in_⟩ (.slice A l.length c) ln, .slice (some ⟨g, 0, none⟩) ws.length cap] w (IntB (0) w) := by
  unfold ruV
  simp only
  generalize hm0 : l.length = m0 at *
  clear hm0
  have e1 : IntKind.i64.wrap ((ws.length : Int) - m0) = ((ws.length - m0 : Nat) : Int) := by rw [IntKind.wrap_i64]; omega
  go_enter Tryz.func63, Tryz.ntmps63
  go_wp2_with fail
  all_goals
    go_ret
    exact intB_mk rfl ((Below.refl _ _).alloc (Nat.le_refl _) _)

set_option maxHeartbeats 2000000 in
theorem wrong_9 (nm : Tx) (l : List Tx) (n m : Int) (f t by_ ta in_ : Tx) (A : Option Addr) (c : Nat) (ln : Int) (g cap : Nat) (ws : List (Nat × Tx)) (w : World) (_hWA : WAt w g 0 ws) (_hg : g < w.heap.size) (hm : ws.length ≤ 1099511627776) (_hc : ws.length ≤ cap) (hl : l.length ≤ ws.length) :
    Calls Tryz.prog 63 #[ruV ⟨9, nm, l, n, m, f, t, by_, ta, in_⟩ (.slice A l.length c) ln, .slice (some ⟨g, 0, none⟩) ws.length cap] w (IntB (0) w) := by
  unfold ruV
  simp only
  generalize hm0 : l.length = m0 at *
  clear hm0
  have e1 : IntKind.i64.wrap ((ws.length : Int) - m0) = ((ws.length - m0 : Nat) : Int) := by rw [IntKind.wrap_i64]; omega
  go_enter Tryz.func63, Tryz.ntmps63
  go_wp2_with fail
  all_goals
    go_ret
    exact intB_mk rfl ((Below.refl _ _).alloc (Nat.le_refl _) _)

set_option maxHeartbeats 2000000 in
theorem wrong_10 (nm : Tx) (l : List Tx) (n m : Int) (f t by_ ta in_ : Tx) (A : Option Addr) (c : Nat) (ln : Int) (g cap : Nat) (ws : List (Nat × Tx)) (w : World) (_hWA : WAt w g 0 ws) (_hg : g < w.heap.size) (hm : ws.length ≤ 1099511627776) (_hc : ws.length ≤ cap) (hl : l.length ≤ ws.length) :
    Calls Tryz.prog 63 #[ruV ⟨10, nm, l, n, m, f, t, by_, ta, in_⟩ (.slice A l.length c) ln, .slice (some ⟨g, 0, none⟩) ws.length cap] w (IntB (0) w) := by
  unfold ruV
  simp only
  generalize hm0 : l.length = m0 at *
  clear hm0
  have e1 : IntKind.i64.wrap ((ws.length : Int) - m0) = ((ws.length - m0 : Nat) : Int) := by rw [IntKind.wrap_i64]; omega
  go_enter Tryz.func63, Tryz.ntmps63
  go_wp2_with fail
  all_goals
    go_ret
    exact intB_mk rfl ((Below.refl _ _).alloc (Nat.le_refl _) _)

end Go.Proofs.YtahgfmobdfhaaaaGreatDoor
namespace Go.Proofs.YtahgfmobdfhaaaaGreatDoor
set_option maxRecDepth 100000
open Go.ChangeShapes Go.WideShapes Go.ChangeAt Go.RowKit

/-- the column behind the last word -/
def endP (ws : List (Nat × Tx)) : Nat := colAt ws (ws.length - 1) + (ws[ws.length - 1]?.map (·.2.length)).getD 0
def misP (ws : List (Nat × Tx)) (s : St) : Nat := if s.k < ws.length then colAt ws s.k else if s.m = false then 0 else endP ws
theorem new_fz (W : World) (cs : Array Value) (T : TypeId) (j : Nat) : (W.alloc (.cells cs T)).frozen? ⟨W.heap.size, j, none⟩ = false := by simp
theorem new_cell (W : World) (cs : Array Value) (T : TypeId) (j : Nat) : (W.alloc (.cells cs T)).cell? ⟨W.heap.size, j, none⟩ = cs[j]? := by rw [cell_of_row _ _ j cs T (0, 0) (heap_alloc_new W _)]
set_option maxHeartbeats 2000000 in
theorem mis_any (b g cap : Nat) (ws : List (Nat × List UInt8)) (s : St) (w : World) (h : Rd w b g cap ws s) (h1 : 1 ≤ ws.length) (hc : ∀ j (hj : j < ws.length), ws[j].1 + ws[j].2.length ≤ 4611686018427387904) :
    Calls Tryz.prog 62 #[.pointer (some ⟨b, 0, none⟩)] w (IntB (misP ws s) w) := by
  have c0 := h.c0
  have c1 := h.c1
  have c2 := h.c2
  have hk := h.k
  have hn := h.len
  have hcp := h.cp
  by_cases hlt : s.k < ws.length
  · have ht := h.col s.k hlt
    have hv : misP ws s = ws[s.k].1 := by unfold misP; rw [if_pos hlt, colAt_eq hlt]
    rw [hv]
    have g1 : decide (s.k < ws.length) = true := by simp [hlt]
    generalize ws[s.k].1 = C at *
    go_enter Tryz.func62, Tryz.ntmps62
    go_wp2
    go_quiet (fail)
    go_wp2
    go_quiet (fail)
    go_wp2
    go_ret
    exact intB_mk rfl (below_drewN (below_drewN (Below.refl _ _) _) _)
  · have g1 : decide (s.k < ws.length) = false := by simp [hlt]
    obtain ⟨k, m⟩ := s
    cases m with
    | false =>
      have hv : misP ws ⟨k, false⟩ = 0 := by unfold misP; rw [if_neg hlt]; rfl
      rw [hv]
      go_enter Tryz.func62, Tryz.ntmps62
      go_wp2
      go_quiet (fail)
      go_wp2
      go_ret
      exact intB_mk rfl (below_drewN (Below.refl _ _) _)
    | true =>
      have hl : ws.length - 1 < ws.length := by omega
      have x1 := h.text _ hl
      have x2 := h.col _ hl
      have hx := hc _ hl
      have y0 : ∀ n O, ((w.drewN n).alloc O).cell? ⟨b, 0, none⟩ = some (.slice (some ⟨g, 0, none⟩) ws.length cap) := fun n O => (World.cell?_alloc_lt _ _ _ h.blt).trans c0
      have y1 : ∀ n O, ((w.drewN n).alloc O).cell? ⟨g, (ws.length - 1) * 2, none⟩ = some (.string (bs ws[ws.length - 1].2)) := fun n O => (World.cell?_alloc_lt _ _ _ h.lt).trans x1
      have y2 : ∀ n O, ((w.drewN n).alloc O).cell? ⟨g, (ws.length - 1) * 2 + 1, none⟩ = some (.int .i64 ws[ws.length - 1].1) := fun n O => (World.cell?_alloc_lt _ _ _ h.lt).trans x2
      have y3 : ∀ n, ((w.drewN n).alloc (.cells #[.string ⟨#[]⟩, .int .i64 0] 149)).frozen? ⟨w.heap.size, 0, none⟩ = false := fun n => new_fz (w.drewN n) _ _ _
      have y5 : ∀ n, ((w.drewN n).alloc (.cells #[.string ⟨#[]⟩, .int .i64 0] 149)).cell? ⟨w.heap.size, 0, none⟩ = some (.string ⟨#[]⟩) := fun n => new_cell (w.drewN n) _ _ _
      have y4 : ∀ n, ((w.drewN n).alloc (.cells #[.string ⟨#[]⟩, .int .i64 0] 149)).frozen? ⟨w.heap.size, 1, none⟩ = false := fun n => new_fz (w.drewN n) _ _ _
      have y6 : ∀ n, ((w.drewN n).alloc (.cells #[.string ⟨#[]⟩, .int .i64 0] 149)).cell? ⟨w.heap.size, 1, none⟩ = some (.int .i64 0) := fun n => new_cell (w.drewN n) _ _ _
      have hv : misP ws ⟨k, true⟩ = ws[ws.length - 1].1 + ws[ws.length - 1].2.length := by
        unfold misP endP; rw [if_neg hlt, colAt_eq hl]; simp [hl]
      rw [hv]
      generalize ws[ws.length - 1] = W at *
      obtain ⟨wc, wt⟩ := W
      simp only at *
      have e1 : IntKind.i64.wrap ((ws.length : Int) - 1) = ((ws.length - 1 : Nat) : Int) := by rw [IntKind.wrap_i64]; omega
      have e2 : IntKind.i64.wrap ((wc : Int) + (bs wt).size) = ((wc + wt.length : Nat) : Int) := by rw [IntKind.wrap_i64, size_bs]; omega
      go_enter Tryz.func62, Tryz.ntmps62
      go_wp2
      go_quiet (fail)
      go_wp2
      go_region
      all_goals
        go_wp2
        go_ret
        exact intB_mk rfl ((((below_drewN (Below.refl _ _) _).alloc (Nat.le_refl _) _).setCell (Nat.le_refl _) _).setCell (Nat.le_refl _) _)
end Go.Proofs.YtahgfmobdfhaaaaGreatDoor
