/-
  The reader's methods that build on its two steps.
-/
import Derived.Test.YtgmhgiihbgcigaaDoorRd
import Derived.Test.YtgmhgiihbgcigaaDoorWords
import Derived.Deep.RegionWith
namespace Go.Proofs.YtgmhgiihbgcigaaDoor
set_option maxRecDepth 100000
open Go.ChangeShapes Go.WideShapes Go.ChangeAt Go.RowKit

theorem rdTo_mk {b g cap : Nat} {ws : List (Nat × List UInt8)} {s s' : St} {v v' : Value} {w w' : World} (hv : v = v') (hs : s = s') (h : Rd w' b g cap ws s) (hg : w.grownBy w' (some b)) : RdTo b g cap ws s' v' w (.returned v) w' := by
  subst hv; subst hs; exact ⟨rfl, h, hg⟩
theorem beq_bs (a c : Tx) : ((bs a).toList == (bs c).toList) = (a == c) := by rw [Lib.toList_data, Lib.toList_data, list_bs, list_bs]
theorem pk_size {w : World} {b g cap : Nat} {ws : List (Nat × List UInt8)} {s : St} (h : Rd w b g cap ws s) : (bs (pk (tx ws) s)).size ≤ maxLen := by
  rw [size_bs]
  by_cases hlt : s.k < ws.length
  · rw [pk_tx hlt]; exact h.size _ hlt
  · rw [pk_end (by rw [tx_len]; omega)]; exact Nat.zero_le _

set_option maxHeartbeats 1000000 in
theorem fixed_any (b g cap : Nat) (ws : List (Nat × List UInt8)) (s : St) (x : Tx) (w : World) (h : Rd w b g cap ws s) (hx : x ≠ []) :
    Calls Tryd.prog 60 #[.pointer (some ⟨b, 0, none⟩), .string (bs x)] w (RdTo b g cap ws (fixedP (tx ws) x s) (.tuple #[]) w) := by
  go_enter Tryd.func60, Tryd.ntmps60
  go_wp2_with (first
    | (go_at_call 56; refine (peek_any b g cap ws s _ h).mono ?_; rintro e w1 ⟨rfl, h1, g1⟩)
    | (go_at_call 57; rw [beq_bs]; refine (take_any b g cap ws s _ _ h1 (by intro e; rw [beq_iff_eq] at e; rw [e]; exact hx)).mono ?_; rintro e w2 ⟨rfl, h2, g2⟩))
  go_end0
  exact rdTo_mk rfl rfl h2 (g1.trans g2)
set_option maxHeartbeats 1000000 in
theorem name_any (b g cap : Nat) (ws : List (Nat × List UInt8)) (s : St) (w : World) (h : Rd w b g cap ws s) :
    Calls Tryd.prog 30 #[.pointer (some ⟨b, 0, none⟩)] w (RdTo b g cap ws (nameP (tx ws) s).2 (.string (bs (nameP (tx ws) s).1)) w) := by
  have hsz := pk_size h
  go_enter Tryd.func30, Tryd.ntmps30
  go_wp2_with (first
    | (go_at_call 56; refine (peek_any b g cap ws s _ h).mono ?_; rintro e w1 ⟨rfl, h1, g1⟩)
    | (go_at_call 58; refine (Name_any _ _ hsz).mono ?_; rintro e w2 ⟨rfl, rfl⟩)
    | (go_at_call 57; rw [list_bs]; refine (take_any b g cap ws s _ _ h1 (fun e => nameL_ne e)).mono ?_; rintro e w3 ⟨rfl, h3, g3⟩))
  go_ret
  exact rdTo_mk rfl rfl h3 (g1.trans g3)
set_option maxHeartbeats 1000000 in
theorem number_any (b g cap : Nat) (ws : List (Nat × List UInt8)) (s : St) (w : World) (h : Rd w b g cap ws s) :
    Calls Tryd.prog 33 #[.pointer (some ⟨b, 0, none⟩)] w (RdTo b g cap ws (numberP (tx ws) s).2 (.int .i64 (numberP (tx ws) s).1) w) := by
  have hsz := pk_size h
  have hn := fun W => Number_any (bs (pk (tx ws) s)) W hsz
  rw [list_bs] at hn
  by_cases hp : isNum (pk (tx ws) s) = true
  · simp only [numRes, hp, if_true] at hn
    have hv : numberP (tx ws) s = ((valL (pk (tx ws) s) : Int), tk true s) := by simp [numberP, numV, hp]
    rw [hv]
    go_enter Tryd.func33, Tryd.ntmps33
    go_wp2_with (first
      | (go_at_call 56; refine (peek_any b g cap ws s _ h).mono ?_; rintro e w1 ⟨rfl, h1, g1⟩)
      | (go_at_call 59; refine (hn _).mono ?_; rintro e w2 ⟨rfl, rfl⟩)
      | (go_at_call 57; refine (take_any b g cap ws s _ _ h1 (fun e => isNum_ne hp)).mono ?_; rintro e w3 ⟨rfl, h3, g3⟩))
    go_ret
    exact rdTo_mk rfl rfl h3 (g1.trans g3)
  · have hp' : isNum (pk (tx ws) s) = false := by simpa using hp
    simp only [numRes, hp'] at hn
    have hv : numberP (tx ws) s = (0, tk false s) := by simp [numberP, numV, hp']
    rw [hv]
    go_enter Tryd.func33, Tryd.ntmps33
    go_wp2_with (first
      | (go_at_call 56; refine (peek_any b g cap ws s _ h).mono ?_; rintro e w1 ⟨rfl, h1, g1⟩)
      | (go_at_call 59; refine (hn _).mono ?_; rintro e w2 ⟨rfl, rfl⟩)
      | (go_at_call 57; refine (take_any b g cap ws s _ _ h1 (fun e => by simp at e)).mono ?_; rintro e w3 ⟨rfl, h3, g3⟩))
    go_ret
    exact rdTo_mk rfl rfl h3 (g1.trans g3)
set_option maxHeartbeats 1000000 in
theorem skip_any (b g cap : Nat) (ws : List (Nat × List UInt8)) (s : St) (x : Tx) (w : World) (h : Rd w b g cap ws s) (hx : x ≠ []) :
    Calls Tryd.prog 31 #[.pointer (some ⟨b, 0, none⟩), .string (bs x)] w (RdTo b g cap ws (skipP (tx ws) x s).2 (.bool (skipP (tx ws) x s).1) w) := by
  by_cases hp : pk (tx ws) s = x
  · have hv : skipP (tx ws) x s = (true, tk true s) := by simp [skipP, hp]
    rw [hv]
    have hb : ((bs (pk (tx ws) s)).toList == (bs x).toList) = true := by rw [beq_bs]; simpa using hp
    have hb2 : ((bs (pk (tx ws) s)).toList != (bs x).toList) = false := by simp [bne, hb]
    go_enter Tryd.func31, Tryd.ntmps31
    go_wp2_with (first
      | (go_at_call 56; refine (peek_any b g cap ws s _ h).mono ?_; rintro e w1 ⟨rfl, h1, g1⟩)
      | (go_at_call 57; refine (take_any b g cap ws s _ _ h1 (fun e => by rw [hp]; exact hx)).mono ?_; rintro e w3 ⟨rfl, h3, g3⟩))
    go_ret
    exact rdTo_mk rfl rfl h3 (g1.trans g3)
  · have hv : skipP (tx ws) x s = (false, s) := by simp [skipP, hp]
    rw [hv]
    have hb : ((bs (pk (tx ws) s)).toList == (bs x).toList) = false := by rw [beq_bs]; simpa using hp
    have hb2 : ((bs (pk (tx ws) s)).toList != (bs x).toList) = true := by simp [bne, hb]
    go_enter Tryd.func31, Tryd.ntmps31
    go_wp2_with (first
      | (go_at_call 56; refine (peek_any b g cap ws s _ h).mono ?_; rintro e w1 ⟨rfl, h1, g1⟩))
    go_ret
    exact rdTo_mk rfl rfl h1 g1
set_option maxHeartbeats 1000000 in
theorem option_any (b g cap : Nat) (ws : List (Nat × List UInt8)) (s : St) (x : Tx) (w : World) (h : Rd w b g cap ws s) (hx : x ≠ []) :
    Calls Tryd.prog 35 #[.pointer (some ⟨b, 0, none⟩), .string (bs x)] w (RdTo b g cap ws (optionP (tx ws) x s).2 (.string (bs (optionP (tx ws) x s).1)) w) := by
  by_cases hp : pk (tx ws) s = x
  · have hv : optionP (tx ws) x s = nameP (tx ws) (tk true s) := by simp [optionP, hp]
    have hs : skipP (tx ws) x s = (true, tk true s) := by simp [skipP, hp]
    rw [hv]
    have c := fun W => skip_any b g cap ws s x W
    rw [hs] at c
    go_enter Tryd.func35, Tryd.ntmps35
    go_wp2_with (first
      | (go_at_call 31; refine (c _ h hx).mono ?_; rintro e w1 ⟨rfl, h1, g1⟩)
      | (go_at_call 30; refine (name_any b g cap ws _ _ h1).mono ?_; rintro e w3 ⟨rfl, h3, g3⟩))
    go_ret
    exact rdTo_mk rfl rfl h3 (g1.trans g3)
  · have hv : optionP (tx ws) x s = ([], s) := by simp [optionP, hp]
    have hs : skipP (tx ws) x s = (false, s) := by simp [skipP, hp]
    rw [hv]
    have c := fun W => skip_any b g cap ws s x W
    rw [hs] at c
    go_enter Tryd.func35, Tryd.ntmps35
    go_wp2_with (first
      | (go_at_call 31; refine (c _ h hx).mono ?_; rintro e w1 ⟨rfl, h1, g1⟩))
    go_ret
    exact rdTo_mk rfl rfl h1 g1
end Go.Proofs.YtgmhgiihbgcigaaDoor
