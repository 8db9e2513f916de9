/-
  Lines read.
-/
import Derived.Test.YtahgfmobdfhaaaaGreatDoorSameL
import Derived.Test.YtahgfmobdfhaaaaGreatDoorOwn
import Derived.Deep.RegionWith
import Derived.Deep.DeepMust
namespace Go.Proofs.YtahgfmobdfhaaaaGreatDoor
set_option maxRecDepth 100000
open Go.ChangeShapes Go.WideShapes Go.ChangeAt Go.RowKit

/-- a reader at b: its words in the block g -/
structure Rd (w : World) (b g cap : Nat) (ws : List (Nat × List UInt8)) (s : St) : Prop where
  row : w.heap[b]? = some (.cells #[.slice (some ⟨g, 0, none⟩) ws.length cap, .int .i64 s.k, .bool s.m] 117 (0, 0))
  ne : g ≠ b
  lt : g < w.heap.size
  text : ∀ j (h : j < ws.length), w.cell? ⟨g, j * 2, none⟩ = some (.string (bs ws[j].2))
  col : ∀ j (h : j < ws.length), w.cell? ⟨g, j * 2 + 1, none⟩ = some (.int .i64 ws[j].1)
  len : ws.length ≤ 1099511627776
  cp : ws.length ≤ cap
  size : ∀ j (h : j < ws.length), ws[j].2.length ≤ maxLen
  k : s.k ≤ ws.length
def tx (ws : List (Nat × List UInt8)) : List Tx := ws.map (·.2)
theorem tx_len (ws : List (Nat × List UInt8)) : (tx ws).length = ws.length := by simp [tx]
theorem pk_tx {ws : List (Nat × List UInt8)} {s : St} (h : s.k < ws.length) : pk (tx ws) s = ws[s.k].2 := by
  rw [pk_at (by rw [tx_len]; exact h)]; simp [tx]
theorem Rd.c0 {w : World} {b g cap : Nat} {ws : List (Nat × List UInt8)} {s : St} (h : Rd w b g cap ws s) : w.cell? ⟨b, 0, none⟩ = some (.slice (some ⟨g, 0, none⟩) ws.length cap) := by rw [cell_of_row _ _ _ _ _ _ h.row]; rfl
theorem Rd.c1 {w : World} {b g cap : Nat} {ws : List (Nat × List UInt8)} {s : St} (h : Rd w b g cap ws s) : w.cell? ⟨b, 1, none⟩ = some (.int .i64 s.k) := by rw [cell_of_row _ _ _ _ _ _ h.row]; rfl
theorem Rd.c2 {w : World} {b g cap : Nat} {ws : List (Nat × List UInt8)} {s : St} (h : Rd w b g cap ws s) : w.cell? ⟨b, 2, none⟩ = some (.bool s.m) := by rw [cell_of_row _ _ _ _ _ _ h.row]; rfl
theorem Rd.fz {w : World} {b g cap : Nat} {ws : List (Nat × List UInt8)} {s : St} (h : Rd w b g cap ws s) (j : Nat) : w.frozen? ⟨b, j, none⟩ = false := by simp [World.frozen?, h.row]
theorem Rd.blt {w : World} {b g cap : Nat} {ws : List (Nat × List UInt8)} {s : St} (h : Rd w b g cap ws s) : b < w.heap.size := (Array.getElem?_eq_some_iff.1 h.row).1
theorem Rd.kept {w w' : World} {b g cap : Nat} {ws : List (Nat × List UInt8)} {s : St} (h : Rd w b g cap ws s) (hg : w.grownBy w' none) : Rd w' b g cap ws s :=
  ⟨by rw [hg.block b h.blt (by simp)]; exact h.row, h.ne, Nat.lt_of_lt_of_le h.lt hg.size, fun j hj => hg.cell (h.text j hj) (by simp), fun j hj => hg.cell (h.col j hj) (by simp), h.len, h.cp, h.size, h.k⟩
theorem Rd.keptBut {w w' : World} {b g cap : Nat} {row : Option Nat} {ws : List (Nat × List UInt8)} {s : St} (h : Rd w b g cap ws s) (hg : w.grownBy w' row) (h1 : some b ≠ row) (h2 : some g ≠ row) : Rd w' b g cap ws s :=
  ⟨by rw [hg.block b h.blt h1]; exact h.row, h.ne, Nat.lt_of_lt_of_le h.lt hg.size, fun j hj => hg.cell (h.text j hj) h2, fun j hj => hg.cell (h.col j hj) h2, h.len, h.cp, h.size, h.k⟩
/-- what a method answers: a value; the reader has turned, nothing else that was there -/
def RdTo (b g cap : Nat) (ws : List (Nat × List UInt8)) (s : St) (v : Value) (w : World) (e : Ending) (w' : World) : Prop := e = .returned v ∧ Rd w' b g cap ws s ∧ w.grownBy w' (some b)
set_option maxHeartbeats 1000000 in
theorem peek_any (b g cap : Nat) (ws : List (Nat × List UInt8)) (s : St) (w : World) (h : Rd w b g cap ws s) :
    Calls Tryz.prog 107 #[.pointer (some ⟨b, 0, none⟩)] w (RdTo b g cap ws s (.string (bs (pk (tx ws) s))) w) := by
  have h0 := h.c0
  have h1 := h.c1
  have hk := h.k
  have hn := h.len
  have hcp := h.cp
  by_cases hlt : s.k < ws.length
  · have ht := h.text s.k hlt
    rw [← pk_tx hlt] at ht
    have g1 : decide ((ws.length : Int) ≤ s.k) = false := by simp; omega
    have g2 : (0 : Int) ≤ s.k := by omega
    have g3 : (s.k : Int) < ws.length := by omega
    go_enter Tryz.func107, Tryz.ntmps107
    go_wp2
    go_quiet (fail)
    go_wp2
    go_quiet (fail)
    go_wp2
    go_ret
    exact ⟨rfl, h.kept ⟨rfl, rfl, rfl, Nat.le_refl _, fun _ _ _ => rfl⟩, ⟨rfl, rfl, rfl, Nat.le_refl _, fun _ _ _ => rfl⟩⟩
  · have g1 : decide ((ws.length : Int) ≤ s.k) = true := by simp; omega
    have hp : pk (tx ws) s = [] := pk_end (by rw [tx_len]; omega)
    rw [hp]
    go_enter Tryz.func107, Tryz.ntmps107
    go_wp2
    go_quiet (fail)
    go_wp2
    go_ret
    exact ⟨rfl, h.kept ⟨rfl, rfl, rfl, Nat.le_refl _, fun _ _ _ => rfl⟩, ⟨rfl, rfl, rfl, Nat.le_refl _, fun _ _ _ => rfl⟩⟩
theorem Rd.set {w : World} {b g cap j : Nat} {ws : List (Nat × List UInt8)} {s s' : St} {v : Value} (h : Rd w b g cap ws s) (hk : s'.k ≤ ws.length)
    (hv : (#[.slice (some ⟨g, 0, none⟩) ws.length cap, .int .i64 s.k, .bool s.m] : Array Value).setIfInBounds j v = #[.slice (some ⟨g, 0, none⟩) ws.length cap, .int .i64 s'.k, .bool s'.m]) : Rd (w.setCell ⟨b, j, none⟩ v) b g cap ws s' :=
  ⟨by rw [heap_set h.row, hv], h.ne, Nat.lt_of_lt_of_le h.lt (grown_setCell w b j v).size, fun i hi => (grown_setCell w b j v).cell (h.text i hi) (by simpa using h.ne), fun i hi => (grown_setCell w b j v).cell (h.col i hi) (by simpa using h.ne), h.len, h.cp, h.size, hk⟩
set_option maxHeartbeats 1000000 in
theorem take_any (b g cap : Nat) (ws : List (Nat × List UInt8)) (s : St) (f : Bool) (w : World) (h : Rd w b g cap ws s) (hf : f = true → pk (tx ws) s ≠ []) :
    Calls Tryz.prog 108 #[.pointer (some ⟨b, 0, none⟩), .bool f] w (RdTo b g cap ws (tk f s) (.tuple #[]) w) := by
  have h1 := h.c1
  have h2 := h.c2
  have f1 := h.fz 1
  have f2 := h.fz 2
  have hk := h.k
  have hn := h.len
  have hkk := tk_le (f := f) (T := tx ws) (by rw [tx_len]; exact h.k) hf
  rw [tx_len] at hkk
  have hk2 : IntKind.i64.wrap ((s.k : Int) + 1) = (s.k : Int) + 1 := by rw [IntKind.wrap_i64]; omega
  cases f with
  | false =>
    rw [tk_false] at hkk ⊢
    have h2' : (w.setCell ⟨b, 2, none⟩ (.bool true)).cell? ⟨b, 2, none⟩ = some (.bool true) := (h.set (s' := ⟨s.k, true⟩) hkk rfl).c2
    go_enter Tryz.func108, Tryz.ntmps108
    go_wp2
    go_end0
    exact ⟨rfl, h.set hkk rfl, grown_setCell _ _ _ _⟩
  | true =>
    obtain ⟨k, m⟩ := s
    cases m with
    | false =>
      rw [tk_true rfl] at hkk ⊢
      go_enter Tryz.func108, Tryz.ntmps108
      go_wp2
      go_end0
      exact ⟨rfl, h.set hkk rfl, grown_setCell _ _ _ _⟩
    | true =>
      rw [tk_bad rfl]
      go_enter Tryz.func108, Tryz.ntmps108
      go_wp2
      go_end0
      exact ⟨rfl, h.kept ⟨rfl, rfl, rfl, Nat.le_refl _, fun _ _ _ => rfl⟩, ⟨rfl, rfl, rfl, Nat.le_refl _, fun _ _ _ => rfl⟩⟩
end Go.Proofs.YtahgfmobdfhaaaaGreatDoor
namespace Go.Proofs.YtahgfmobdfhaaaaGreatDoor
set_option maxRecDepth 100000
open Go.ChangeShapes Go.WideShapes Go.ChangeAt Go.RowKit

theorem rdTo_mk {b g cap : Nat} {ws : List (Nat × List UInt8)} {s s' : St} {v v' : Value} {w w' : World} (hv : v = v') (hs : s = s') (h : Rd w' b g cap ws s) (hg : w.grownBy w' (some b)) : RdTo b g cap ws s' v' w (.returned v) w' := by
  subst hv; subst hs; exact ⟨rfl, h, hg⟩
theorem beq_bs (a c : Tx) : ((bs a).toList == (bs c).toList) = (a == c) := by rw [Lib.toList_data, Lib.toList_data, list_bs, list_bs]
theorem pk_size {w : World} {b g cap : Nat} {ws : List (Nat × List UInt8)} {s : St} (h : Rd w b g cap ws s) : (bs (pk (tx ws) s)).size ≤ maxLen := by
  rw [size_bs]
  by_cases hlt : s.k < ws.length
  · rw [pk_tx hlt]; exact h.size _ hlt
  · rw [pk_end (by rw [tx_len]; omega)]; exact Nat.zero_le _

set_option maxHeartbeats 1000000 in
theorem fixed_any (b g cap : Nat) (ws : List (Nat × List UInt8)) (s : St) (x : Tx) (w : World) (h : Rd w b g cap ws s) (hx : x ≠ []) :
    Calls Tryz.prog 110 #[.pointer (some ⟨b, 0, none⟩), .string (bs x)] w (RdTo b g cap ws (fixedP (tx ws) x s) (.tuple #[]) w) := by
  go_enter Tryz.func110, Tryz.ntmps110
  go_wp2_with (first
    | (go_at_call 107; refine (peek_any b g cap ws s _ h).mono ?_; rintro e w1 ⟨rfl, h1, g1⟩)
    | (go_at_call 108; rw [beq_bs]; refine (take_any b g cap ws s _ _ h1 (by intro e; rw [beq_iff_eq] at e; rw [e]; exact hx)).mono ?_; rintro e w2 ⟨rfl, h2, g2⟩))
  go_end0
  exact rdTo_mk rfl rfl h2 (g1.trans g2)
set_option maxHeartbeats 1000000 in
theorem name_any (b g cap : Nat) (ws : List (Nat × List UInt8)) (s : St) (w : World) (h : Rd w b g cap ws s) :
    Calls Tryz.prog 90 #[.pointer (some ⟨b, 0, none⟩)] w (RdTo b g cap ws (nameP (tx ws) s).2 (.string (bs (nameP (tx ws) s).1)) w) := by
  have hsz := pk_size h
  go_enter Tryz.func90, Tryz.ntmps90
  go_wp2_with (first
    | (go_at_call 107; refine (peek_any b g cap ws s _ h).mono ?_; rintro e w1 ⟨rfl, h1, g1⟩)
    | (go_at_call 36; refine (Name_any _ _ hsz).mono ?_; rintro e w2 ⟨rfl, rfl⟩)
    | (go_at_call 108; rw [list_bs]; refine (take_any b g cap ws s _ _ h1 (fun e => nameL_ne e)).mono ?_; rintro e w3 ⟨rfl, h3, g3⟩))
  go_ret
  exact rdTo_mk rfl rfl h3 (g1.trans g3)
set_option maxHeartbeats 1000000 in
theorem number_any (b g cap : Nat) (ws : List (Nat × List UInt8)) (s : St) (w : World) (h : Rd w b g cap ws s) :
    Calls Tryz.prog 93 #[.pointer (some ⟨b, 0, none⟩)] w (RdTo b g cap ws (numberP (tx ws) s).2 (.int .i64 (numberP (tx ws) s).1) w) := by
  have hsz := pk_size h
  have hn := fun W => Number_any (bs (pk (tx ws) s)) W hsz
  rw [list_bs] at hn
  by_cases hp : isNum (pk (tx ws) s) = true
  · simp only [numRes, hp, if_true] at hn
    have hv : numberP (tx ws) s = ((valL (pk (tx ws) s) : Int), tk true s) := by simp [numberP, numV, hp]
    rw [hv]
    go_enter Tryz.func93, Tryz.ntmps93
    go_wp2_with (first
      | (go_at_call 107; refine (peek_any b g cap ws s _ h).mono ?_; rintro e w1 ⟨rfl, h1, g1⟩)
      | (go_at_call 109; refine (hn _).mono ?_; rintro e w2 ⟨rfl, rfl⟩)
      | (go_at_call 108; refine (take_any b g cap ws s _ _ h1 (fun e => isNum_ne hp)).mono ?_; rintro e w3 ⟨rfl, h3, g3⟩))
    go_ret
    exact rdTo_mk rfl rfl h3 (g1.trans g3)
  · have hp' : isNum (pk (tx ws) s) = false := by simpa using hp
    simp only [numRes, hp'] at hn
    have hv : numberP (tx ws) s = (0, tk false s) := by simp [numberP, numV, hp']
    rw [hv]
    go_enter Tryz.func93, Tryz.ntmps93
    go_wp2_with (first
      | (go_at_call 107; refine (peek_any b g cap ws s _ h).mono ?_; rintro e w1 ⟨rfl, h1, g1⟩)
      | (go_at_call 109; refine (hn _).mono ?_; rintro e w2 ⟨rfl, rfl⟩)
      | (go_at_call 108; refine (take_any b g cap ws s _ _ h1 (fun e => by simp at e)).mono ?_; rintro e w3 ⟨rfl, h3, g3⟩))
    go_ret
    exact rdTo_mk rfl rfl h3 (g1.trans g3)
set_option maxHeartbeats 1000000 in
theorem skip_any (b g cap : Nat) (ws : List (Nat × List UInt8)) (s : St) (x : Tx) (w : World) (h : Rd w b g cap ws s) (hx : x ≠ []) :
    Calls Tryz.prog 91 #[.pointer (some ⟨b, 0, none⟩), .string (bs x)] w (RdTo b g cap ws (skipP (tx ws) x s).2 (.bool (skipP (tx ws) x s).1) w) := by
  by_cases hp : pk (tx ws) s = x
  · have hv : skipP (tx ws) x s = (true, tk true s) := by simp [skipP, hp]
    rw [hv]
    have hb : ((bs (pk (tx ws) s)).toList == (bs x).toList) = true := by rw [beq_bs]; simpa using hp
    have hb2 : ((bs (pk (tx ws) s)).toList != (bs x).toList) = false := by simp [bne, hb]
    go_enter Tryz.func91, Tryz.ntmps91
    go_wp2_with (first
      | (go_at_call 107; refine (peek_any b g cap ws s _ h).mono ?_; rintro e w1 ⟨rfl, h1, g1⟩)
      | (go_at_call 108; refine (take_any b g cap ws s _ _ h1 (fun e => by rw [hp]; exact hx)).mono ?_; rintro e w3 ⟨rfl, h3, g3⟩))
    go_ret
    exact rdTo_mk rfl rfl h3 (g1.trans g3)
  · have hv : skipP (tx ws) x s = (false, s) := by simp [skipP, hp]
    rw [hv]
    have hb : ((bs (pk (tx ws) s)).toList == (bs x).toList) = false := by rw [beq_bs]; simpa using hp
    have hb2 : ((bs (pk (tx ws) s)).toList != (bs x).toList) = true := by simp [bne, hb]
    go_enter Tryz.func91, Tryz.ntmps91
    go_wp2_with (first
      | (go_at_call 107; refine (peek_any b g cap ws s _ h).mono ?_; rintro e w1 ⟨rfl, h1, g1⟩))
    go_ret
    exact rdTo_mk rfl rfl h1 g1
set_option maxHeartbeats 1000000 in
theorem option_any (b g cap : Nat) (ws : List (Nat × List UInt8)) (s : St) (x : Tx) (w : World) (h : Rd w b g cap ws s) (hx : x ≠ []) :
    Calls Tryz.prog 94 #[.pointer (some ⟨b, 0, none⟩), .string (bs x)] w (RdTo b g cap ws (optionP (tx ws) x s).2 (.string (bs (optionP (tx ws) x s).1)) w) := by
  by_cases hp : pk (tx ws) s = x
  · have hv : optionP (tx ws) x s = nameP (tx ws) (tk true s) := by simp [optionP, hp]
    have hs : skipP (tx ws) x s = (true, tk true s) := by simp [skipP, hp]
    rw [hv]
    have c := fun W => skip_any b g cap ws s x W
    rw [hs] at c
    go_enter Tryz.func94, Tryz.ntmps94
    go_wp2_with (first
      | (go_at_call 91; refine (c _ h hx).mono ?_; rintro e w1 ⟨rfl, h1, g1⟩)
      | (go_at_call 90; refine (name_any b g cap ws _ _ h1).mono ?_; rintro e w3 ⟨rfl, h3, g3⟩))
    go_ret
    exact rdTo_mk rfl rfl h3 (g1.trans g3)
  · have hv : optionP (tx ws) x s = ([], s) := by simp [optionP, hp]
    have hs : skipP (tx ws) x s = (false, s) := by simp [skipP, hp]
    rw [hv]
    have c := fun W => skip_any b g cap ws s x W
    rw [hs] at c
    go_enter Tryz.func94, Tryz.ntmps94
    go_wp2_with (first
      | (go_at_call 91; refine (c _ h hx).mono ?_; rintro e w1 ⟨rfl, h1, g1⟩))
    go_ret
    exact rdTo_mk rfl rfl h1 g1
end Go.Proofs.YtahgfmobdfhaaaaGreatDoor
namespace Go.Proofs.YtahgfmobdfhaaaaGreatDoor
set_option maxRecDepth 100000
open Go.ChangeShapes Go.WideShapes Go.ChangeAt Go.RowKit

def RdTo2 (b g cap : Nat) (ws : List (Nat × List UInt8)) (p : Tx × Tx × St) (w : World) (e : Ending) (w' : World) : Prop := RdTo b g cap ws p.2.2 (.tuple #[.string (bs p.1), .string (bs p.2.1)]) w e w'
set_option maxHeartbeats 1000000 in
theorem fromTo_any (b g cap : Nat) (ws : List (Nat × List UInt8)) (s : St) (w : World) (h : Rd w b g cap ws s) :
    Calls Tryz.prog 95 #[.pointer (some ⟨b, 0, none⟩)] w (RdTo2 b g cap ws (fromToP (tx ws) s) w) := by
  have tok1 : True := trivial
  have tok2 : True := trivial
  go_enter Tryz.func95, Tryz.ntmps95
  go_wp2_with (first
    | (have _t := tok1; go_at_call 110; refine (fixed_any b g cap ws s [102, 114, 111, 109] _ h (by simp)).mono ?_; rintro e w1 ⟨rfl, h1, g1⟩; clear tok1 _t)
    | (go_at_call 110; refine (fixed_any b g cap ws _ [116, 111] _ h2 (by simp)).mono ?_; rintro e w3 ⟨rfl, h3, g3⟩)
    | (have _t := tok2; go_at_call 90; refine (name_any b g cap ws _ _ h1).mono ?_; rintro e w2 ⟨rfl, h2, g2⟩; clear tok2 _t)
    | (go_at_call 90; refine (name_any b g cap ws _ _ h3).mono ?_; rintro e w4 ⟨rfl, h4, g4⟩))
  go_ret2
  exact rdTo_mk rfl rfl h4 (((g1.trans g2).trans g3).trans g4)

/-- texts in the cells of a block -/
def StrAt (w : World) (t : Nat) (l : List Tx) : Prop := ∀ j (h : j < l.length), w.cell? ⟨t, j, none⟩ = some (.string (bs l[j]))
theorem StrAt.kept {w w' : World} {t : Nat} {l : List Tx} {row : Option Nat} (h : StrAt w t l) (hg : w.grownBy w' row) (hne : some t ≠ row) : StrAt w' t l := fun j hj => hg.cell (h j hj) hne
theorem strAt_alloc (w : World) (l : List Tx) (e : TypeId) : StrAt (w.alloc (.cells (l.map fun t => Value.string (bs t)).toArray e)) w.heap.size l := by
  intro j hj
  rw [cell_of_row _ _ j _ e (0, 0) (heap_alloc_new w _)]
  simp [hj]
theorem idx_drop (tbl : List Tx) (x : Tx) (k : Nat) (h : k < tbl.length) (i : Int) : idx (tbl.drop k) x i = if tbl[k] = x then i else idx (tbl.drop (k + 1)) x (i + 1) := by
  rw [List.drop_eq_getElem_cons h, idx]
set_option maxHeartbeats 1000000 in
theorem Index_any (t n cap : Nat) (l : List Tx) (x : Tx) (w : World) (h : StrAt w t l) (hn : n = l.length) (hl : l.length ≤ 1000000) (_hc : l.length ≤ cap) :
    Calls Tryz.prog 72 #[.slice (some ⟨t, 0, none⟩) n cap, .string (bs x)] w fun e w' => e = .returned (.int .i64 (idx l x 0)) ∧ w = w' := by
  subst hn
  go_enter Tryz.func72, Tryz.ntmps72
  go_wp2
  go_loop [5, 8] (fun _ i => ∃ k : Nat, k ≤ l.length ∧ i = .int .i64 k ∧ Hid (idx l x 0 = idx (l.drop k) x k)) (fun _ i => l.length - (intOf i).toNat)
  case atStart => exact ⟨0, Nat.zero_le _, rfl, rfl⟩
  case round =>
    obtain ⟨k, hk, rfl, HI⟩ := hrel
    by_cases hlt : k < l.length
    · have hx := h k hlt
      have hi := idx_drop l x k hlt k
      by_cases he : l[k] = x
      · have hb : ((bs x).toList == (bs l[k]).toList) = true := by rw [beq_bs]; simp [he]
        rw [if_pos he] at hi
        have HE : Hid (idx l x 0 = k) := HI.out.trans hi
        clear hi he
        go_wp2
        go_ret
        exact ⟨ret_int HE.out.symm, rfl⟩
      · have hb : ((bs x).toList == (bs l[k]).toList) = false := by rw [beq_bs]; simpa using fun e : x = l[k] => he e.symm
        rw [if_neg he] at hi
        have HE : Hid (idx l x 0 = idx (l.drop (k + 1)) x ((k : Int) + 1)) := HI.out.trans hi
        clear hi he
        go_wp2
        go_round
        case rel => exact ⟨k + 1, by omega, by go_num, HE.out⟩
        case measure => simp [intOf]; omega
    · have HE : Hid (idx l x 0 = -1) := by have := HI.out; rw [List.drop_of_length_le (by omega)] at this; exact this
      go_wp2
      go_ret
      exact ⟨ret_int HE.out.symm, rfl⟩
theorem kindWords_any (w : World) : Calls Tryz.prog 56 #[] w fun e w' => ∃ t, e = .returned (.slice (some ⟨t, 0, none⟩) 12 12) ∧ t = w.heap.size ∧ StrAt w' t kindT ∧ Below w.heap.size w w' := by
  go_enter Tryz.func56, Tryz.ntmps56
  go_wp2
  go_ret
  exact ⟨_, rfl, rfl, strAt_alloc w kindT _, (Below.refl _ _).alloc (Nat.le_refl _) _⟩
theorem stateWords_any (w : World) : Calls Tryz.prog 58 #[] w fun e w' => ∃ t, e = .returned (.slice (some ⟨t, 0, none⟩) 5 5) ∧ t = w.heap.size ∧ StrAt w' t stateT ∧ Below w.heap.size w w' := by
  go_enter Tryz.func58, Tryz.ntmps58
  go_wp2
  go_ret
  exact ⟨_, rfl, rfl, strAt_alloc w stateT _, (Below.refl _ _).alloc (Nat.le_refl _) _⟩
theorem idx_pos {l : List Tx} {x : Tx} (_i : Int) (h0 : l.head? = some []) (h : 0 < idx l x 0) : x ≠ [] := by
  rintro rfl
  cases l with
  | nil => simp at h0
  | cons a r => simp at h0; subst h0; simp [idx] at h
set_option maxHeartbeats 1000000 in
theorem choice_any (b g cap : Nat) (ws : List (Nat × List UInt8)) (s : St) (t n c : Nat) (l : List Tx) (w : World) (h : Rd w b g cap ws s) (ht : StrAt w t l) (hn : n = l.length) (hl : l.length ≤ 1000000) (hc : l.length ≤ c) (hb : t ≠ b) (h0 : l.head? = some []) :
    Calls Tryz.prog 89 #[.pointer (some ⟨b, 0, none⟩), .slice (some ⟨t, 0, none⟩) n c] w (RdTo b g cap ws (choiceP (tx ws) l s).2 (.int .i64 (choiceP (tx ws) l s).1) w) := by
  subst hn
  have hb' : some t ≠ some b := by simpa using hb
  have hf : decide (0 < idx l (pk (tx ws) s) 0) = true → pk (tx ws) s ≠ [] := fun e => idx_pos 0 h0 (of_decide_eq_true e)
  have hI := fun W (hw : StrAt W t l) => Index_any t l.length c l (pk (tx ws) s) W hw rfl hl hc
  have hv : choiceP (tx ws) l s = (idx l (pk (tx ws) s) 0, tk (decide (0 < idx l (pk (tx ws) s) 0)) s) := rfl
  rw [hv]
  generalize idx l (pk (tx ws) s) 0 = I at *
  clear hv h0 hb
  go_enter Tryz.func89, Tryz.ntmps89
  go_wp2_with (first
    | (go_at_call 107; refine (peek_any b g cap ws s _ h).mono ?_; rintro e w1 ⟨rfl, h1, g1⟩)
    | (go_at_call 72; refine (hI _ (ht.kept g1 hb')).mono ?_; rintro e w2 ⟨rfl, rfl⟩)
    | (go_at_call 108; refine (take_any b g cap ws s _ _ h1 hf).mono ?_; rintro e w3 ⟨rfl, h3, g3⟩))
  go_ret
  exact rdTo_mk rfl rfl h3 (g1.trans g3)
end Go.Proofs.YtahgfmobdfhaaaaGreatDoor
namespace Go.Proofs.YtahgfmobdfhaaaaGreatDoor
set_option maxRecDepth 100000
open Go.ChangeShapes Go.WideShapes Go.ChangeAt Go.RowKit

def NamesTo (b g cap : Nat) (ws : List (Nat × List UInt8)) (p : List Tx × St) (w : World) (e : Ending) (w' : World) : Prop :=
  ∃ v, e = .returned v ∧ Rd w' b g cap ws p.2 ∧ OwnL w' w.heap.size v p.1 ∧ w.grownBy w' (some b)
theorem namesTo_mk {b g cap : Nat} {ws : List (Nat × List UInt8)} {p : List Tx × St} {l : List Tx} {s : St} {v : Value} {w w' : World} (he : p = (l, s)) (h : Rd w' b g cap ws s) (ho : OwnL w' w.heap.size v l) (hg : w.grownBy w' (some b)) : NamesTo b g cap ws p w (.returned v) w' := by
  subst he; exact ⟨v, rfl, h, ho, hg⟩
theorem namesP_stop {T : List Tx} {least : Nat} {acc : List Tx} {s : St} (h : ¬ (s.m = false ∧ (acc.length < least ∨ s.k < T.length))) (N : Nat) : namesP T least acc s N = (acc, s) := by
  cases N with
  | zero => rfl
  | succ n => rw [namesP, if_neg h]
theorem namesP_go {T : List Tx} {least : Nat} {acc : List Tx} {s : St} (h : s.m = false ∧ (acc.length < least ∨ s.k < T.length)) (N : Nat) : namesP T least acc s (N + 1) = namesP T least (acc ++ [(nameP T s).1]) (nameP T s).2 N := by
  rw [namesP, if_pos h]
theorem tk_cases (s : St) (f : Bool) (h : s.m = false) : tk f s = ⟨s.k + 1, false⟩ ∨ tk f s = ⟨s.k, true⟩ := by
  cases f
  · right; exact tk_false s
  · left; exact tk_true h

theorem own_far {w w1 : World} {base b n : Nat} {v : Value} {l : List Tx} (h : OwnL w base v l) (hb : b < base) (hg : (w.drewN n).grownBy w1 (some b)) : OwnL w1 base v l :=
  World.ownsRow.kept (w := w.drewN n) h hg (own_ne h hb)
set_option maxHeartbeats 2000000 in
theorem names_any (b g cap : Nat) (ws : List (Nat × List UInt8)) (s : St) (least : Nat) (w : World) (h : Rd w b g cap ws s) (_hle : least ≤ 10) :
    Calls Tryz.prog 92 #[.pointer (some ⟨b, 0, none⟩), .int .i64 least] w (NamesTo b g cap ws (namesP (tx ws) least [] s ((tx ws).length + 1)) w) := by
  rw [tx_len]
  obtain ⟨i0, hi, hz0, hz1, hz2⟩ := info_parts Tryz.infoString
  have hblt := h.blt
  have hln := h.len
  go_enter Tryz.func92, Tryz.ntmps92
  go_wp2_with fail
  go_loopw [4] (fun l wr => ∃ (acc : List Tx) (r : St) (N : Nat), Hid (namesP (tx ws) least [] s (ws.length + 1) = namesP (tx ws) least acc r N) ∧ Rd wr b g cap ws r ∧ OwnL wr w.heap.size l acc ∧ w.grownBy wr (some b) ∧
      acc.length ≤ r.k + 1 ∧ (r.m = false → acc.length ≤ r.k ∧ ws.length + 1 ≤ r.k + N)) (fun _ wr => match wr.cell? ⟨b, 1, none⟩, wr.cell? ⟨b, 2, none⟩ with | some (.int _ k), some (.bool m) => 2 * (ws.length - k.toNat) + (if m then 0 else 1) | _, _ => 0)
  case atStart => exact ⟨[], s, ws.length + 1, rfl, h, World.ownsRow_nil _ _ _ _, grown_drewN _ 0 _, by simp, by intro _; exact ⟨Nat.zero_le _, by omega⟩⟩
  case round =>
    obtain ⟨acc, r, N, HN, hr, hown, hg, hac, hm⟩ := hrel
    have h0 := hr.c0
    have h1 := hr.c1
    have h2 := hr.c2
    have hk := hr.k
    have hcp := hr.cp
    obtain ⟨A, cp, rfl⟩ := own_slice hown
    obtain ⟨k, m⟩ := r
    have hk : k ≤ ws.length := hk
    cases m with
    | true =>
      go_wp2
      go_quiet (fail)
      go_wp2
      go_ret
      exact namesTo_mk (HN.out.trans (namesP_stop (by simp) N)) (hr.kept (grown_drewN _ _ _)) hown (hg.trans (grown_drewN _ _ _))
    | false =>
      by_cases c : acc.length < least ∨ k < ws.length
      · obtain ⟨hm1, hm2⟩ := hm rfl
        obtain ⟨N, rfl⟩ : ∃ M, N = M + 1 := ⟨N - 1, by simp only at hm2; omega⟩
        have HN2 : Hid (namesP (tx ws) least [] s (ws.length + 1) = namesP (tx ws) least (acc ++ [(nameP (tx ws) ⟨k, false⟩).1]) (nameP (tx ws) ⟨k, false⟩).2 N) := HN.out.trans (namesP_go (by simpa [tx_len] using c) N)
        have hnx : (nameP (tx ws) ⟨k, false⟩).2 = ⟨k + 1, false⟩ ∨ (nameP (tx ws) ⟨k, false⟩).2 = ⟨k, true⟩ := tk_cases _ _ rfl
        have key : ∃ g1 g2, decide (acc.length < least) = g1 ∧ decide (k < ws.length) = g2 ∧ (g1 || g2) = true := ⟨_, _, rfl, rfl, by simpa using c⟩
        obtain ⟨q1, q2, e1, e2, e3⟩ := key
        have nm := fun W (hW : Rd W b g cap ws ⟨k, false⟩) => name_any b g cap ws ⟨k, false⟩ W hW
        generalize nameP (tx ws) ⟨k, false⟩ = P at *
        have NM := Lib.hid nm
        clear nm HN hm c
        cases q1 <;> cases q2
        · simp at e3
        all_goals
          clear e3
          go_wp2
          go_quiet (fail)
          go_wp2_with (first
            | (go_at_call 90; refine (NM.out _ (hr.kept (grown_drewN _ _ _))).mono ?_; rintro e w1 ⟨rfl, h1', g1'⟩; have hown1 := own_far hown hblt g1'; have hsz1 : wr.heap.size ≤ w1.heap.size := g1'.size)
            | (at_builtin; go_must (refine wpList_append_own _ rfl (.tmp 28) (.tmp 31) 28 rfl w.heap.size 9 i0 _ 1 16 Tryz.underlying28 hi hz0 hz1 hz2 rfl (by decide) _ _ _ rfl (hown1.alloc _) ⟨w1.heap.size, 0, none⟩ 1 1 [.string (bs P.1)] rfl rfl (cells_new _ _ _) (by intro u hu; simp at hu; subst hu; rfl) (by unfold maxLen; omega) (by omega) (by have := g1'.size; have := hg.size; simp; omega) ?_); intro v' w2 hown' hg' _))
          have hg2 : w1.grownBy w2 (Value.slice A acc.length cp).ownBlock := (World.grownBy_alloc _ _ _).trans (show (w1.alloc (.cells #[.string (bs P.1)] 9)).grownBy w2 (Value.slice A acc.length cp).ownBlock from hg')
          clear hg'
          have hlt2 : ∀ j, (Value.slice A acc.length cp).ownBlock = some j → w.heap.size ≤ j := fun j e => (hown1.lt j e).1
          have hr2 : Rd w2 b g cap ws P.2 := h1'.keptBut hg2 (fun e => by have := hlt2 _ e.symm; omega) (fun e => by have := hlt2 _ e.symm; have := h.lt; omega)
          have hgg : w.grownBy w2 (some b) := ((hg.trans (grown_drewN _ _ _)).trans g1').andThen hg2 (fun j e => .inl (hlt2 j e))
          have x1 := hr2.c1
          have x2 := hr2.c2
          have hk2 := hr2.k
          clear hlt2 hown hown1 hr h1' hg g1' hg2
          obtain ⟨p1, r2⟩ := P
          rcases hnx with rfl | rfl
          · go_roundw
            case rel =>
              refine ⟨acc ++ [p1], ⟨k + 1, false⟩, N, HN2, hr2, ?_, hgg, ?_, ?_⟩
              · unfold OwnL scells; rw [List.length_append, List.map_append]; exact hown'
              · simp; omega
              · intro _; simp at hm1 hm2 ⊢; omega
            case measure => simp [x1, x2, h1, h2]; simp at hk2; omega
          · go_roundw
            case rel =>
              refine ⟨acc ++ [p1], ⟨k, true⟩, N, HN2, hr2, ?_, hgg, ?_, ?_⟩
              · unfold OwnL scells; rw [List.length_append, List.map_append]; exact hown'
              · simp at hm1 ⊢; omega
              · intro e; cases e
            case measure => simp [x1, x2, h1, h2]
      · have g1 : decide (acc.length < least) = false := by simp; omega
        have g2 : decide (k < ws.length) = false := by simp; omega
        go_wp2
        go_quiet (fail)
        go_wp2
        go_ret
        exact namesTo_mk (HN.out.trans (namesP_stop (by simp [tx_len]; omega) N)) (hr.kept (grown_drewN _ _ _)) hown (hg.trans (grown_drewN _ _ _))
end Go.Proofs.YtahgfmobdfhaaaaGreatDoor
