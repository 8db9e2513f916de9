/-
  The reader's methods that build on its two steps.
-/
import Derived.Test.YtahhepmhdcbplaaGreatDoorSplit
import Derived.Test.YtahhepmhdcbplaaGreatDoorPlain03
import Derived.Deep.RegionWith
namespace Go.Proofs.YtahhepmhdcbplaaGreatDoor
set_option maxRecDepth 100000
open Go.ChangeShapes Go.WideShapes Go.ChangeAt Go.RowKit

/-- a reader at b: its words in the block g -/
structure Rd (w : World) (b g cap : Nat) (ws : List (Nat × List UInt8)) (s : St) : Prop where
  row : w.heap[b]? = some (.cells #[.slice (some ⟨g, 0, none⟩) ws.length cap, .int .i64 s.k, .bool s.m] 96 (0, 0))
  ne : g ≠ b
  lt : g < w.heap.size
  text : ∀ j (h : j < ws.length), w.cell? ⟨g, j * 2, none⟩ = some (.string (bs ws[j].2))
  col : ∀ j (h : j < ws.length), w.cell? ⟨g, j * 2 + 1, none⟩ = some (.int .i64 ws[j].1)
  len : ws.length ≤ 1099511627776
  cp : ws.length ≤ cap
  size : ∀ j (h : j < ws.length), ws[j].2.length ≤ maxLen
  k : s.k ≤ ws.length
def tx (ws : List (Nat × List UInt8)) : List Tx := ws.map (·.2)
theorem tx_len (ws : List (Nat × List UInt8)) : (tx ws).length = ws.length := by simp [tx]
theorem pk_tx {ws : List (Nat × List UInt8)} {s : St} (h : s.k < ws.length) : pk (tx ws) s = ws[s.k].2 := by
  rw [pk_at (by rw [tx_len]; exact h)]; simp [tx]
theorem Rd.c0 {w : World} {b g cap : Nat} {ws : List (Nat × List UInt8)} {s : St} (h : Rd w b g cap ws s) : w.cell? ⟨b, 0, none⟩ = some (.slice (some ⟨g, 0, none⟩) ws.length cap) := by rw [cell_of_row _ _ _ _ _ _ h.row]; rfl
theorem Rd.c1 {w : World} {b g cap : Nat} {ws : List (Nat × List UInt8)} {s : St} (h : Rd w b g cap ws s) : w.cell? ⟨b, 1, none⟩ = some (.int .i64 s.k) := by rw [cell_of_row _ _ _ _ _ _ h.row]; rfl
theorem Rd.c2 {w : World} {b g cap : Nat} {ws : List (Nat × List UInt8)} {s : St} (h : Rd w b g cap ws s) : w.cell? ⟨b, 2, none⟩ = some (.bool s.m) := by rw [cell_of_row _ _ _ _ _ _ h.row]; rfl
theorem Rd.fz {w : World} {b g cap : Nat} {ws : List (Nat × List UInt8)} {s : St} (h : Rd w b g cap ws s) (j : Nat) : w.frozen? ⟨b, j, none⟩ = false := by simp [World.frozen?, h.row]
theorem Rd.blt {w : World} {b g cap : Nat} {ws : List (Nat × List UInt8)} {s : St} (h : Rd w b g cap ws s) : b < w.heap.size := (Array.getElem?_eq_some_iff.1 h.row).1
theorem Rd.kept {w w' : World} {b g cap : Nat} {ws : List (Nat × List UInt8)} {s : St} (h : Rd w b g cap ws s) (hg : w.grownBy w' none) : Rd w' b g cap ws s :=
  ⟨by rw [hg.block b h.blt (by simp)]; exact h.row, h.ne, Nat.lt_of_lt_of_le h.lt hg.size, fun j hj => hg.cell (h.text j hj) (by simp), fun j hj => hg.cell (h.col j hj) (by simp), h.len, h.cp, h.size, h.k⟩
theorem Rd.keptBut {w w' : World} {b g cap : Nat} {row : Option Nat} {ws : List (Nat × List UInt8)} {s : St} (h : Rd w b g cap ws s) (hg : w.grownBy w' row) (h1 : some b ≠ row) (h2 : some g ≠ row) : Rd w' b g cap ws s :=
  ⟨by rw [hg.block b h.blt h1]; exact h.row, h.ne, Nat.lt_of_lt_of_le h.lt hg.size, fun j hj => hg.cell (h.text j hj) h2, fun j hj => hg.cell (h.col j hj) h2, h.len, h.cp, h.size, h.k⟩
/-- what a method answers: a value; the reader has turned, nothing else that was there -/
def RdTo (b g cap : Nat) (ws : List (Nat × List UInt8)) (s : St) (v : Value) (w : World) (e : Ending) (w' : World) : Prop := e = .returned v ∧ Rd w' b g cap ws s ∧ w.grownBy w' (some b)
set_option maxHeartbeats 1000000 in
theorem peek_any (b g cap : Nat) (ws : List (Nat × List UInt8)) (s : St) (w : World) (h : Rd w b g cap ws s) :
    Calls Tryz.prog 106 #[.pointer (some ⟨b, 0, none⟩)] w (RdTo b g cap ws s (.string (bs (pk (tx ws) s))) w) := by
  have h0 := h.c0
  have h1 := h.c1
  have hk := h.k
  have hn := h.len
  have hcp := h.cp
  by_cases hlt : s.k < ws.length
  · have ht := h.text s.k hlt
    rw [← pk_tx hlt] at ht
    have g1 : decide ((ws.length : Int) ≤ s.k) = false := by simp; omega
    have g2 : (0 : Int) ≤ s.k := by omega
    have g3 : (s.k : Int) < ws.length := by omega
    go_enter Tryz.func106, Tryz.ntmps106
    go_wp2
    go_quiet (fail)
    go_wp2
    go_quiet (fail)
    go_wp2
    go_ret
    exact ⟨rfl, h.kept ⟨rfl, rfl, rfl, Nat.le_refl _, fun _ _ _ => rfl⟩, ⟨rfl, rfl, rfl, Nat.le_refl _, fun _ _ _ => rfl⟩⟩
  · have g1 : decide ((ws.length : Int) ≤ s.k) = true := by simp; omega
    have hp : pk (tx ws) s = [] := pk_end (by rw [tx_len]; omega)
    rw [hp]
    go_enter Tryz.func106, Tryz.ntmps106
    go_wp2
    go_quiet (fail)
    go_wp2
    go_ret
    exact ⟨rfl, h.kept ⟨rfl, rfl, rfl, Nat.le_refl _, fun _ _ _ => rfl⟩, ⟨rfl, rfl, rfl, Nat.le_refl _, fun _ _ _ => rfl⟩⟩
theorem Rd.set {w : World} {b g cap j : Nat} {ws : List (Nat × List UInt8)} {s s' : St} {v : Value} (h : Rd w b g cap ws s) (hk : s'.k ≤ ws.length)
    (hv : (#[.slice (some ⟨g, 0, none⟩) ws.length cap, .int .i64 s.k, .bool s.m] : Array Value).setIfInBounds j v = #[.slice (some ⟨g, 0, none⟩) ws.length cap, .int .i64 s'.k, .bool s'.m]) : Rd (w.setCell ⟨b, j, none⟩ v) b g cap ws s' :=
  ⟨by rw [heap_set h.row, hv], h.ne, Nat.lt_of_lt_of_le h.lt (grown_setCell w b j v).size, fun i hi => (grown_setCell w b j v).cell (h.text i hi) (by simpa using h.ne), fun i hi => (grown_setCell w b j v).cell (h.col i hi) (by simpa using h.ne), h.len, h.cp, h.size, hk⟩
set_option maxHeartbeats 1000000 in
theorem take_any (b g cap : Nat) (ws : List (Nat × List UInt8)) (s : St) (f : Bool) (w : World) (h : Rd w b g cap ws s) (hf : f = true → pk (tx ws) s ≠ []) :
    Calls Tryz.prog 107 #[.pointer (some ⟨b, 0, none⟩), .bool f] w (RdTo b g cap ws (tk f s) (.tuple #[]) w) := by
  have h1 := h.c1
  have h2 := h.c2
  have f1 := h.fz 1
  have f2 := h.fz 2
  have hk := h.k
  have hn := h.len
  have hkk := tk_le (f := f) (T := tx ws) (by rw [tx_len]; exact h.k) hf
  rw [tx_len] at hkk
  have hk2 : IntKind.i64.wrap ((s.k : Int) + 1) = (s.k : Int) + 1 := by rw [IntKind.wrap_i64]; omega
  cases f with
  | false =>
    rw [tk_false] at hkk ⊢
    have h2' : (w.setCell ⟨b, 2, none⟩ (.bool true)).cell? ⟨b, 2, none⟩ = some (.bool true) := (h.set (s' := ⟨s.k, true⟩) hkk rfl).c2
    go_enter Tryz.func107, Tryz.ntmps107
    go_wp2
    go_end0
    exact ⟨rfl, h.set hkk rfl, grown_setCell _ _ _ _⟩
  | true =>
    obtain ⟨k, m⟩ := s
    cases m with
    | false =>
      rw [tk_true rfl] at hkk ⊢
      go_enter Tryz.func107, Tryz.ntmps107
      go_wp2
      go_end0
      exact ⟨rfl, h.set hkk rfl, grown_setCell _ _ _ _⟩
    | true =>
      rw [tk_bad rfl]
      go_enter Tryz.func107, Tryz.ntmps107
      go_wp2
      go_end0
      exact ⟨rfl, h.kept ⟨rfl, rfl, rfl, Nat.le_refl _, fun _ _ _ => rfl⟩, ⟨rfl, rfl, rfl, Nat.le_refl _, fun _ _ _ => rfl⟩⟩
end Go.Proofs.YtahhepmhdcbplaaGreatDoor
namespace Go.Proofs.YtahhepmhdcbplaaGreatDoor
set_option maxRecDepth 100000
open Go.ChangeShapes Go.WideShapes Go.ChangeAt Go.RowKit

theorem rdTo_mk {b g cap : Nat} {ws : List (Nat × List UInt8)} {s s' : St} {v v' : Value} {w w' : World} (hv : v = v') (hs : s = s') (h : Rd w' b g cap ws s) (hg : w.grownBy w' (some b)) : RdTo b g cap ws s' v' w (.returned v) w' := by
  subst hv; subst hs; exact ⟨rfl, h, hg⟩
theorem beq_bs (a c : Tx) : ((bs a).toList == (bs c).toList) = (a == c) := by rw [Lib.toList_data, Lib.toList_data, list_bs, list_bs]
theorem pk_size {w : World} {b g cap : Nat} {ws : List (Nat × List UInt8)} {s : St} (h : Rd w b g cap ws s) : (bs (pk (tx ws) s)).size ≤ maxLen := by
  rw [size_bs]
  by_cases hlt : s.k < ws.length
  · rw [pk_tx hlt]; exact h.size _ hlt
  · rw [pk_end (by rw [tx_len]; omega)]; exact Nat.zero_le _

set_option maxHeartbeats 1000000 in
theorem fixed_any (b g cap : Nat) (ws : List (Nat × List UInt8)) (s : St) (x : Tx) (w : World) (h : Rd w b g cap ws s) (hx : x ≠ []) :
    Calls Tryz.prog 110 #[.pointer (some ⟨b, 0, none⟩), .string (bs x)] w (RdTo b g cap ws (fixedP (tx ws) x s) (.tuple #[]) w) := by
  go_enter Tryz.func110, Tryz.ntmps110
  go_wp2_with (first
    | (go_at_call 106; refine (peek_any b g cap ws s _ h).mono ?_; rintro e w1 ⟨rfl, h1, g1⟩)
    | (go_at_call 107; rw [beq_bs]; refine (take_any b g cap ws s _ _ h1 (by intro e; rw [beq_iff_eq] at e; rw [e]; exact hx)).mono ?_; rintro e w2 ⟨rfl, h2, g2⟩))
  go_end0
  exact rdTo_mk rfl rfl h2 (g1.trans g2)
set_option maxHeartbeats 1000000 in
theorem name_any (b g cap : Nat) (ws : List (Nat × List UInt8)) (s : St) (w : World) (h : Rd w b g cap ws s) :
    Calls Tryz.prog 85 #[.pointer (some ⟨b, 0, none⟩)] w (RdTo b g cap ws (nameP (tx ws) s).2 (.string (bs (nameP (tx ws) s).1)) w) := by
  have hsz := pk_size h
  go_enter Tryz.func85, Tryz.ntmps85
  go_wp2_with (first
    | (go_at_call 106; refine (peek_any b g cap ws s _ h).mono ?_; rintro e w1 ⟨rfl, h1, g1⟩)
    | (go_at_call 108; refine (Name_any _ _ hsz).mono ?_; rintro e w2 ⟨rfl, rfl⟩)
    | (go_at_call 107; rw [list_bs]; refine (take_any b g cap ws s _ _ h1 (fun e => nameL_ne e)).mono ?_; rintro e w3 ⟨rfl, h3, g3⟩))
  go_ret
  exact rdTo_mk rfl rfl h3 (g1.trans g3)
set_option maxHeartbeats 1000000 in
theorem number_any (b g cap : Nat) (ws : List (Nat × List UInt8)) (s : St) (w : World) (h : Rd w b g cap ws s) :
    Calls Tryz.prog 88 #[.pointer (some ⟨b, 0, none⟩)] w (RdTo b g cap ws (numberP (tx ws) s).2 (.int .i64 (numberP (tx ws) s).1) w) := by
  have hsz := pk_size h
  have hn := fun W => Number_any (bs (pk (tx ws) s)) W hsz
  rw [list_bs] at hn
  by_cases hp : isNum (pk (tx ws) s) = true
  · simp only [numRes, hp, if_true] at hn
    have hv : numberP (tx ws) s = ((valL (pk (tx ws) s) : Int), tk true s) := by simp [numberP, numV, hp]
    rw [hv]
    go_enter Tryz.func88, Tryz.ntmps88
    go_wp2_with (first
      | (go_at_call 106; refine (peek_any b g cap ws s _ h).mono ?_; rintro e w1 ⟨rfl, h1, g1⟩)
      | (go_at_call 109; refine (hn _).mono ?_; rintro e w2 ⟨rfl, rfl⟩)
      | (go_at_call 107; refine (take_any b g cap ws s _ _ h1 (fun e => isNum_ne hp)).mono ?_; rintro e w3 ⟨rfl, h3, g3⟩))
    go_ret
    exact rdTo_mk rfl rfl h3 (g1.trans g3)
  · have hp' : isNum (pk (tx ws) s) = false := by simpa using hp
    simp only [numRes, hp'] at hn
    have hv : numberP (tx ws) s = (0, tk false s) := by simp [numberP, numV, hp']
    rw [hv]
    go_enter Tryz.func88, Tryz.ntmps88
    go_wp2_with (first
      | (go_at_call 106; refine (peek_any b g cap ws s _ h).mono ?_; rintro e w1 ⟨rfl, h1, g1⟩)
      | (go_at_call 109; refine (hn _).mono ?_; rintro e w2 ⟨rfl, rfl⟩)
      | (go_at_call 107; refine (take_any b g cap ws s _ _ h1 (fun e => by simp at e)).mono ?_; rintro e w3 ⟨rfl, h3, g3⟩))
    go_ret
    exact rdTo_mk rfl rfl h3 (g1.trans g3)
set_option maxHeartbeats 1000000 in
theorem skip_any (b g cap : Nat) (ws : List (Nat × List UInt8)) (s : St) (x : Tx) (w : World) (h : Rd w b g cap ws s) (hx : x ≠ []) :
    Calls Tryz.prog 86 #[.pointer (some ⟨b, 0, none⟩), .string (bs x)] w (RdTo b g cap ws (skipP (tx ws) x s).2 (.bool (skipP (tx ws) x s).1) w) := by
  by_cases hp : pk (tx ws) s = x
  · have hv : skipP (tx ws) x s = (true, tk true s) := by simp [skipP, hp]
    rw [hv]
    have hb : ((bs (pk (tx ws) s)).toList == (bs x).toList) = true := by rw [beq_bs]; simpa using hp
    have hb2 : ((bs (pk (tx ws) s)).toList != (bs x).toList) = false := by simp [bne, hb]
    go_enter Tryz.func86, Tryz.ntmps86
    go_wp2_with (first
      | (go_at_call 106; refine (peek_any b g cap ws s _ h).mono ?_; rintro e w1 ⟨rfl, h1, g1⟩)
      | (go_at_call 107; refine (take_any b g cap ws s _ _ h1 (fun e => by rw [hp]; exact hx)).mono ?_; rintro e w3 ⟨rfl, h3, g3⟩))
    go_ret
    exact rdTo_mk rfl rfl h3 (g1.trans g3)
  · have hv : skipP (tx ws) x s = (false, s) := by simp [skipP, hp]
    rw [hv]
    have hb : ((bs (pk (tx ws) s)).toList == (bs x).toList) = false := by rw [beq_bs]; simpa using hp
    have hb2 : ((bs (pk (tx ws) s)).toList != (bs x).toList) = true := by simp [bne, hb]
    go_enter Tryz.func86, Tryz.ntmps86
    go_wp2_with (first
      | (go_at_call 106; refine (peek_any b g cap ws s _ h).mono ?_; rintro e w1 ⟨rfl, h1, g1⟩))
    go_ret
    exact rdTo_mk rfl rfl h1 g1
set_option maxHeartbeats 1000000 in
theorem option_any (b g cap : Nat) (ws : List (Nat × List UInt8)) (s : St) (x : Tx) (w : World) (h : Rd w b g cap ws s) (hx : x ≠ []) :
    Calls Tryz.prog 89 #[.pointer (some ⟨b, 0, none⟩), .string (bs x)] w (RdTo b g cap ws (optionP (tx ws) x s).2 (.string (bs (optionP (tx ws) x s).1)) w) := by
  by_cases hp : pk (tx ws) s = x
  · have hv : optionP (tx ws) x s = nameP (tx ws) (tk true s) := by simp [optionP, hp]
    have hs : skipP (tx ws) x s = (true, tk true s) := by simp [skipP, hp]
    rw [hv]
    have c := fun W => skip_any b g cap ws s x W
    rw [hs] at c
    go_enter Tryz.func89, Tryz.ntmps89
    go_wp2_with (first
      | (go_at_call 86; refine (c _ h hx).mono ?_; rintro e w1 ⟨rfl, h1, g1⟩)
      | (go_at_call 85; refine (name_any b g cap ws _ _ h1).mono ?_; rintro e w3 ⟨rfl, h3, g3⟩))
    go_ret
    exact rdTo_mk rfl rfl h3 (g1.trans g3)
  · have hv : optionP (tx ws) x s = ([], s) := by simp [optionP, hp]
    have hs : skipP (tx ws) x s = (false, s) := by simp [skipP, hp]
    rw [hv]
    have c := fun W => skip_any b g cap ws s x W
    rw [hs] at c
    go_enter Tryz.func89, Tryz.ntmps89
    go_wp2_with (first
      | (go_at_call 86; refine (c _ h hx).mono ?_; rintro e w1 ⟨rfl, h1, g1⟩))
    go_ret
    exact rdTo_mk rfl rfl h1 g1
end Go.Proofs.YtahhepmhdcbplaaGreatDoor
