import Derived.Test.YtgffbgmieppckaaGreatDoorSplit
import Derived.Test.YtgffbgmieppckaaGreatDoorDT0
import Derived.Lib.Tables
import Derived.Test.YtgffbgmieppckaaGreatDoorOwn
import Derived.Test.YtgffbgmieppckaaGreatDoorAgain
import Derived.Deep.Onto
import Derived.Deep.DeepCutAuto
namespace Go.Proofs.YtgffbgmieppckaaGreatDoor
set_option maxRecDepth 100000
open Go.ChangeShapes Go.WideShapes Go.ChangeAt Go.RowKit
theorem tab_fold : (⟨((List.append (List.append ([0, 1, 1, 2, 1, 2, 2, 3, 1, 2, 2, 3, 2, 3, 3, 4, 1, 2, 2, 3, 2, 3, 3, 4, 2, 3, 3, 4, 3, 4, 4, 5, 1, 2, 2, 3, 2, 3, 3, 4, 2, 3, 3, 4, 3, 4, 4, 5, 2, 3, 3, 4, 3, 4, 4, 5, 3, 4, 4, 5, 4, 5, 5, 6] : List UInt8) [1, 2, 2, 3, 2, 3, 3, 4, 2, 3, 3, 4, 3, 4, 4, 5, 2, 3, 3, 4, 3, 4, 4, 5, 3, 4, 4, 5, 4, 5, 5, 6, 2, 3, 3, 4, 3, 4, 4, 5, 3, 4, 4, 5, 4, 5, 5, 6, 3, 4, 4, 5, 4, 5, 5, 6, 4, 5, 5, 6, 5, 6, 6, 7]) (List.append [1, 2, 2, 3, 2, 3, 3, 4, 2, 3, 3, 4, 3, 4, 4, 5, 2, 3, 3, 4, 3, 4, 4, 5, 3, 4, 4, 5, 4, 5, 5, 6, 2, 3, 3, 4, 3, 4, 4, 5, 3, 4, 4, 5, 4, 5, 5, 6, 3, 4, 4, 5, 4, 5, 5, 6, 4, 5, 5, 6, 5, 6, 6, 7] [2, 3, 3, 4, 3, 4, 4, 5, 3, 4, 4, 5, 4, 5, 5, 6, 3, 4, 4, 5, 4, 5, 5, 6, 4, 5, 5, 6, 5, 6, 6, 7, 3, 4, 4, 5, 4, 5, 5, 6, 4, 5, 5, 6, 5, 6, 6, 7, 4, 5, 5, 6, 5, 6, 6, 7, 5, 6, 6, 7, 6, 7, 7, 8]))).toArray⟩ : ByteArray) = Lib.pop8tab := by kernel_rfl
theorem pop_nat (n : Nat) (h : n < 256) : Lib.pop8 (n : Int) = (cntTo n 8 : Int) := cnt8 ⟨n, h⟩
set_option maxHeartbeats 1000000 in
theorem Ones_any (s : Nat) (w : World) (hs : s < 4294967296) : Calls Tryz.prog 202 #[.int .u32 s] w fun e w' => e = .returned (.int .i64 (cnt s : Nat)) ∧ ∃ n, w' = w.drewN n := by
 have a1 := u32_and_nat (s / 65536) 255 (by omega) (by omega)
 have a2 := u32_and_nat (s / 256) 255 (by omega) (by omega)
 have a3 := u32_and_nat s 255 hs (by omega)
 rw [show (255 : Nat) = 2 ^ 8 - 1 by rfl, Nat.and_two_pow_sub_one_eq_mod] at a1 a2 a3
 have a1 : bits .and .u32 ((s : Int) / 65536) 255 = (s : Int) / 65536 % 256 := by simpa using a1
 have a2 : bits .and .u32 ((s : Int) / 256) 255 = (s : Int) / 256 % 256 := by simpa using a2
 have a3 : bits .and .u32 (s : Int) 255 = (s : Int) % 256 := by simpa using a3
 have b0 : (0 : Int) ≤ (s : Int) / 16777216 := by omega
 have b1 : (s : Int) / 16777216 ≤ 255 := by omega
 have b2 : (0 : Int) ≤ (s : Int) / 65536 % 256 := by omega
 have b3 : (s : Int) / 65536 % 256 ≤ 255 := by omega
 have b4 : (0 : Int) ≤ (s : Int) / 256 % 256 := by omega
 have b5 : (s : Int) / 256 % 256 ≤ 255 := by omega
 have b6 : (0 : Int) ≤ (s : Int) % 256 := by omega
 have b7 : (s : Int) % 256 ≤ 255 := by omega
 go_enter Tryz.func202, Tryz.ntmps202
 go_wp2
 simp only [tab_fold]
 go_quiet (fail)
 go_wp2
 go_ret
 refine ⟨ret_int ?_, nq, rfl⟩
 have e1 : Lib.pop8 ((s : Int) / 16777216) = _ := pop_nat (s / 16777216) (by omega)
 have e2 : Lib.pop8 ((s : Int) / 65536 % 256) = _ := pop_nat (s / 65536 % 256) (by omega)
 have e3 : Lib.pop8 ((s : Int) / 256 % 256) = _ := pop_nat (s / 256 % 256) (by omega)
 have e4 : Lib.pop8 ((s : Int) % 256) = _ := pop_nat (s % 256) (by omega)
 rw [e1, e2, e3, e4]
 have hc := cnt_bytes s
 have hle := cnt_le s
 have e0 : s / 2 ^ 24 % 2 ^ 8 = s / 16777216 := by omega
 rw [e0] at hc
 have e5 : s / 2 ^ 16 % 2 ^ 8 = s / 65536 % 256 := by omega
 have e6 : s / 2 ^ 8 % 2 ^ 8 = s / 256 % 256 := by omega
 have e7 : s % 2 ^ 8 = s % 256 := by omega
 rw [e5, e6, e7] at hc
 omega
def StAt (w : World) (A : Option Addr) (c : Nat) (l : List (Int × Nat)) : Prop := l.length ≤ c ∧ ∀ j (hj : j < l.length), ∃ g, A = some ⟨g, 0, none⟩ ∧ g < w.heap.size ∧ w.cell? ⟨g, j * 2, none⟩ = some (.int .i64 l[j].1) ∧ w.cell? ⟨g, j * 2 + 1, none⟩ = some (.int .u32 (l[j].2 : Nat)) ∧ l[j].2 < 4294967296
theorem StAt.below {w w' : World} {A : Option Addr} {c : Nat} {l : List (Int × Nat)} (h : StAt w A c l) (hb : Below w.heap.size w w') : StAt w' A c l :=
 ⟨h.1, fun j hj => let ⟨g, e, hl, hc, hd, hlt⟩ := h.2 j hj; ⟨g, e, Nat.lt_of_lt_of_le hl hb.size, (hb.cell (p := ⟨g, j * 2, none⟩) hl).trans hc, (hb.cell (p := ⟨g, j * 2 + 1, none⟩) hl).trans hd, hlt⟩⟩
theorem StAt.take {w : World} {A : Option Addr} {c : Nat} {l : List (Int × Nat)} (h : StAt w A c l) (k : Nat) : StAt w A c (l.take k) :=
 ⟨by rw [List.length_take]; have := h.1; omega, fun j hj => by
  have hj' : j < l.length := by rw [List.length_take] at hj; omega
  have := h.2 j hj'
  simpa using this⟩
theorem Count_any (s : Nat) (w : World) (hs : s < 4294967296) : Calls Tryz.prog 163 #[.int .u32 s] w fun e w' => e = .returned (.int .i64 (cnt s : Nat)) ∧ ∃ n, w' = w.drewN n := by
 have O := Lib.hid (Ones_any s w hs)
 go_enter Tryz.func163, Tryz.ntmps163
 go_wp2_with (go_at_call 202; refine O.out.mono ?_; rintro e w1 ⟨rfl, n, rfl⟩)
 go_ret
 exact ⟨rfl, n, rfl⟩
theorem clo_any (s : Nat) (a : Int × Nat) (b : Nat) (w : World) (hs : s < 4294967296) (ha : a.2 < 4294967296) (hb : b < w.heap.size) (hc : w.cell? ⟨b, 0, none⟩ = some (.int .u32 s)) :
  Calls Tryz.prog 162 #[.agg #[.int .i64 a.1, .int .u32 a.2], .pointer (some ⟨b, 0, none⟩)] w fun e w' => e = .returned (.bool (brk s a)) ∧ Below w.heap.size w w' := by
 obtain ⟨n, r⟩ := a
 simp only at ha ⊢
 have HB := Lib.hid (show decide (n ≤ (cnt (s &&& r) : Int)) = brk s (n, r) from rfl)
 have han := u32_and_nat s r hs ha
 have hlt : s &&& r < 4294967296 := Nat.and_lt_two_pow (n := 32) s ha
 have CN := Lib.hid (fun W => Count_any (s &&& r) W hlt)
 have R := heap_alloc_new w (.cells #[.int .i64 n, .int .u32 r] 171)
 have x0 : (w.alloc (.cells #[.int .i64 n, .int .u32 r] 171)).cell? ⟨b, 0, none⟩ = some (.int .u32 s) := (World.cell?_alloc_lt _ _ _ hb).trans hc
 have x1 : (w.alloc (.cells #[.int .i64 n, .int .u32 r] 171)).cell? ⟨w.heap.size, 0, none⟩ = some (.int .i64 n) := by rw [cell_of_row _ _ _ _ _ _ R]; rfl
 have x2 : (w.alloc (.cells #[.int .i64 n, .int .u32 r] 171)).cell? ⟨w.heap.size, 1, none⟩ = some (.int .u32 r) := by rw [cell_of_row _ _ _ _ _ _ R]; rfl
 have hbz : Below w.heap.size w (w.alloc (.cells #[.int .i64 n, .int .u32 r] 171)) := (Below.refl _ _).alloc (Nat.le_refl _) _
 have HZ := Lib.hid hbz
 clear R hc hlt ha hbz
 generalize s &&& r = q at *
 go_enter Tryz.func162, Tryz.ntmps162
 go_wp2
 generalize w.alloc (.cells #[.int .i64 n, .int .u32 r] 171) = w1 at *
 go_quiet ((go_at_call 163; exact Calls.quiet_of (CN.out _)))
 go_wp2
 go_ret
 exact ⟨ret_bool HB.out, below_drewN HZ.out _⟩
section
variable (s : Nat) (l : List (Int × Nat)) (A : Option Addr) (c : Nat) (w : World)
set_option maxHeartbeats 1000000 in
theorem IdxSet_any (b : Nat) (hs : s < 4294967296) (h : StAt w A c l) (hl : l.length ≤ 1000000) (hb : b < w.heap.size) (hc : w.cell? ⟨b, 0, none⟩ = some (.int .u32 s)) :
  Calls Tryz.prog 161 #[.slice A l.length c, .func (.func 162) #[] #[.pointer (some ⟨b, 0, none⟩)]] w fun e w' => e = .returned (.int .i64 (fstI s l)) ∧ Below w.heap.size w w' := by
 have HS := Lib.hid h
 have hcc := h.1
 clear h
 go_enter Tryz.func161, Tryz.ntmps161
 go_wp2
 go_loopw [5, 8] (fun _ i wr => ∃ k : Nat, k ≤ l.length ∧ i = .int .i64 k ∧ Hid (Below w.heap.size w wr) ∧ Hid (∀ j (_ : j < k) (h : j < l.length), brk s l[j] = false)) (fun _ i _ => l.length - (intOf i).toNat)
 case atStart => exact ⟨0, Nat.zero_le _, rfl, Below.refl _ _, fun j hj _ => by omega⟩
 case round =>
  obtain ⟨k, hk, rfl, HB, HI⟩ := hrel
  by_cases hlt : k < l.length
  ·obtain ⟨g, rfl, hgl, x1, x2, hr⟩ := (HS.out.below HB.out).2 k hlt
   have hb2 : b < wr.heap.size := Nat.lt_of_lt_of_le hb HB.out.size
   have hc2 := (HB.out.cell (p := ⟨b, 0, none⟩) hb).trans hc
   have CL := Lib.hid (clo_any s l[k] b wr hs hr hb2 hc2)
   have HH : Hid (brk s l[k] = true → fstI s l = k) := fun hb => fst_hit hlt hb fun j hj => HI.out j hj (by omega)
   have HT : Hid (brk s l[k] = false → ∀ j (_ : j < k + 1) (h : j < l.length), brk s l[j] = false) := fun hb j hj h => by
    by_cases e : j = k
    ·subst e; exact hb
    ·exact HI.out j (by omega) h
   clear hc2 hb2 hr
   generalize l[k] = a at *
   cases hq : brk s a
   ·have HT2 := Lib.hid (HT.out hq)
    rw [hq] at CL
    clear hq HH HT HI
    go_wp2_with (go_at_call 162; refine CL.out.mono ?_; rintro e w2 ⟨rfl, hb2⟩)
    have HB2 := Lib.hid (below_then HB.out hb2 HB.out.size)
    go_roundw
    case rel => exact ⟨k + 1, by omega, by go_num, HB2, HT2⟩
    case measure => simp [intOf]; omega
   ·have HE := Lib.hid (HH.out hq)
    rw [hq] at CL
    clear hq HH HT HI
    go_wp2_with (go_at_call 162; refine CL.out.mono ?_; rintro e w2 ⟨rfl, hb2⟩)
    go_ret
    exact ⟨ret_int HE.out.symm, below_then HB.out hb2 HB.out.size⟩
  ·have HE : Hid (fstI s l = -1) := fst_miss fun j hj => HI.out j (by omega) hj
   clear HI
   go_wp2
   go_ret
   exact ⟨ret_int HE.out.symm, HB.out⟩
theorem First_any (hs : s < 4294967296) (h : StAt w A c l) (hl : l.length ≤ 1000000) :
  Calls Tryz.prog 108 #[.int .u32 s, .slice A l.length c] w fun e w' => e = .returned (.int .i64 (fstI s l)) ∧ Below w.heap.size w w' := by
 have R := heap_alloc_new w (.cells #[.int .u32 s] 74)
 have hbz : Below w.heap.size w (w.alloc (.cells #[.int .u32 s] 74)) := (Below.refl _ _).alloc (Nat.le_refl _) _
 have IX := Lib.hid (IdxSet_any s l A c (w.alloc (.cells #[.int .u32 s] 74)) w.heap.size hs (h.below hbz) hl (by simp) (by rw [cell_of_row _ _ _ _ _ _ R]; rfl))
 have HB := Lib.hid hbz
 have hmf : ∀ (fn : Fn) (first cap : Array Value) (w : World), (Instr.makeFunc fn first cap).run Tryz.prog w = .ok (.func fn first cap) w := fun _ _ _ _ => rfl
 clear h R hbz
 go_enter Tryz.func108, Tryz.ntmps108
 go_wp2_with (go_at_call 161; refine IX.out.mono ?_; rintro e w2 ⟨rfl, hb2⟩)
 go_ret
 exact ⟨rfl, below_then HB.out hb2 HB.out.size⟩
theorem Apart_any (hs : s < 4294967296) (h : StAt w A c l) (hl : l.length ≤ 1000000) :
  Calls Tryz.prog 37 #[.int .u32 s, .slice A l.length c] w fun e w' => e = .returned (.bool (decide (fstI s l < 0))) ∧ Below w.heap.size w w' := by
 have F := Lib.hid (First_any s l A c w hs h hl)
 clear h
 generalize fstI s l = r at *
 go_enter Tryz.func37, Tryz.ntmps37
 go_wp2_with (go_at_call 108; refine F.out.mono ?_; rintro e w2 ⟨rfl, hb2⟩)
 go_ret
 exact ⟨rfl, hb2⟩
end
theorem beq_tx (a c : Tx) : ((bs a).toList == (bs c).toList) = (a == c) := by rw [Lib.toList_data, Lib.toList_data, list_bs, list_bs]
def idxI (l : List Tx) (x : Tx) : Int := if x ∈ l then (l.idxOf x : Int) else -1
theorem idxOf_at {l : List Tx} {x : Tx} {k : Nat} (h : k < l.length) (e : x = l[k]) (hn : x ∉ l.take k) : l.idxOf x = k := by
 have hs : l = l.take k ++ l[k] :: l.drop (k + 1) := by rw [← List.drop_eq_getElem_cons h, List.take_append_drop]
 rw [hs, List.idxOf_append, if_neg hn, ← e, List.idxOf_cons_self, List.length_take]
 omega
set_option maxHeartbeats 1000000 in
theorem IndexX_any (l : List Tx) (x : Tx) (A : Option Addr) (c : Nat) (w : World) (h : ListAt w A c l) (hl : l.length ≤ 1000000) :
  Calls Tryz.prog 154 #[.slice A l.length c, .string (bs x)] w fun e w' => e = .returned (.int .i64 (idxI l x)) ∧ w = w' := by
 have hc := h.1
 have h := h.2
 go_enter Tryz.func154, Tryz.ntmps154
 go_wp2
 go_loop [5, 8] (fun _ i => ∃ k : Nat, k ≤ l.length ∧ i = .int .i64 k ∧ Hid (x ∉ l.take k)) (fun _ i => l.length - (intOf i).toNat)
 case atStart => exact ⟨0, Nat.zero_le _, rfl, by show ¬ _; simp⟩
 case round =>
  obtain ⟨k, hk, rfl, HI⟩ := hrel
  by_cases hlt : k < l.length
  ·obtain ⟨b, rfl, _, hx⟩ := h k hlt
   have hsn : l.take (k + 1) = l.take k ++ [l[k]] := by rw [List.take_succ_eq_append_getElem hlt]
   have hme : l[k] ∈ l := List.getElem_mem hlt
   clear h
   by_cases he : x = l[k]
   ·have HM : Hid (idxI l x = k) := by show _ = _; unfold idxI; rw [if_pos (by rw [he]; exact hme), idxOf_at hlt he HI.out]
    have hb : ((bs x).toList == (bs l[k]).toList) = true := by rw [beq_tx]; simp [he]
    clear he hme hsn
    generalize bs l[k] = y at *
    go_wp2
    go_ret
    exact ⟨ret_int HM.out.symm, rfl⟩
   ·have HT : Hid (x ∉ l.take (k + 1)) := by
     show ¬ _
     rw [hsn, List.mem_append]
     exact fun hh => hh.elim HI.out (fun h => he (List.mem_singleton.1 h))
    have hb : ((bs x).toList == (bs l[k]).toList) = false := by rw [beq_tx]; simp [he]
    clear he hme hsn
    generalize bs l[k] = y at *
    go_wp2
    go_round
    case rel => exact ⟨k + 1, by omega, by go_num, HT⟩
    case measure => simp [intOf]; omega
  ·have HT : Hid (idxI l x = -1) := by have := HI.out; rw [List.take_of_length_le (by omega)] at this; show _ = _; unfold idxI; rw [if_neg this]
   clear h
   go_wp2
   go_ret
   exact ⟨ret_int HT.out.symm, rfl⟩
theorem idxI_ge (l : List Tx) (x : Tx) : decide (0 ≤ idxI l x) = decide (x ∈ l) := by
 unfold idxI; split
 ·rename_i h; simp [h]
 ·rename_i h; simp [h]
theorem Contains_str (l : List Tx) (x : Tx) (A : Option Addr) (c : Nat) (w : World) (h : ListAt w A c l) (hl : l.length ≤ 1000000) :
  Calls Tryz.prog 117 #[.slice A l.length c, .string (bs x)] w fun e w' => e = .returned (.bool (decide (x ∈ l))) ∧ w = w' := by
 have HI := Lib.hid (IndexX_any l x A c w h hl)
 have HG := Lib.hid (idxI_ge l x)
 clear h
 go_enter Tryz.func117, Tryz.ntmps117
 go_wp2_with (go_at_call 154; refine HI.out.mono ?_; rintro e w1 ⟨rfl, rfl⟩)
 go_ret
 exact ⟨ret_bool HG.out, rfl⟩
end Go.Proofs.YtgffbgmieppckaaGreatDoor
namespace Go.Proofs.YtgffbgmieppckaaGreatDoor
set_option maxRecDepth 100000
open Go.ChangeShapes Go.WideShapes Go.ChangeAt Go.RowKit Go.Maps Go.WideMaps Go.ChangeMaps
def LLAt (w : World) (A : Option Addr) (c : Nat) (L : List (List Tx)) : Prop := L.length ≤ c ∧ ∀ j (hj : j < L.length), ∃ g B d, A = some ⟨g, 0, none⟩ ∧ g < w.heap.size ∧ w.cell? ⟨g, j, none⟩ = some (.slice B L[j].length d) ∧ ListAt w B d L[j]
theorem LLAt.below {w w' : World} {A : Option Addr} {c : Nat} {L : List (List Tx)} (h : LLAt w A c L) (hb : Below w.heap.size w w') : LLAt w' A c L :=
 ⟨h.1, fun j hj => let ⟨g, B, d, e, hl, hc, hL⟩ := h.2 j hj; ⟨g, B, d, e, Nat.lt_of_lt_of_le hl hb.size, (hb.cell (p := ⟨g, j, none⟩) hl).trans hc, hL.below hb⟩⟩
def SetAt (w : World) (b n : Nat) (O : List Tx) : Prop := w.ownsMap Tryz.prog 9 unitElem b n (setL O)
theorem SetAt.lt {w : World} {b n : Nat} {O : List Tx} (h : SetAt w b n O) : b < w.heap.size := by
 obtain ⟨es, clock, h1, _⟩ := h
 exact (Array.getElem?_eq_some_iff.1 h1).1
theorem SetAt.below {w w' : World} {b n : Nat} {O : List Tx} (h : SetAt w b n O) (hb : Below w.heap.size w w') : SetAt w' b n O := by
 have hl := h.lt
 obtain ⟨es, clock, h1, r⟩ := h
 exact ⟨es, clock, (hb.block _ hl).trans h1, r⟩
theorem SetAt.le {w : World} {b n m : Nat} {O : List Tx} (h : SetAt w b n O) (hn : n ≤ m) : SetAt w b m O := by
 obtain ⟨es, clock, h1, h2, h3, h4⟩ := h
 exact ⟨es, clock, h1, h2, Nat.le_trans h3 hn, h4⟩
end Go.Proofs.YtgffbgmieppckaaGreatDoor
namespace Go.Proofs.YtgffbgmieppckaaGreatDoor
set_option maxRecDepth 100000
open Go.ChangeShapes Go.WideShapes Go.ChangeAt Go.RowKit
theorem kindChoice (b g cap : Nat) (ws : List (Nat × List UInt8)) (s : St) (t : Nat) (w : World) (h : Rd w b g cap ws s) (ht : StrAt w t kindT) (hb : t ≠ b) (C : Int × St) (hC : choiceP (tx ws) kindT s = C) :
  Calls Tryz.prog 216 #[.pointer (some ⟨b, 0, none⟩), .slice (some ⟨t, 0, none⟩) 12 12] w (RdTo b g cap ws C.2 (.int .i64 C.1) w) := by
 subst hC; exact choice_any b g cap ws s t 12 12 kindT w h ht rfl (by decide) (by decide) hb rfl
theorem stateChoice (b g cap : Nat) (ws : List (Nat × List UInt8)) (s : St) (t : Nat) (w : World) (h : Rd w b g cap ws s) (ht : StrAt w t stateT) (hb : t ≠ b) :
  Calls Tryz.prog 216 #[.pointer (some ⟨b, 0, none⟩), .slice (some ⟨t, 0, none⟩) 5 5] w (RdTo b g cap ws (choiceP (tx ws) stateT s).2 (.int .i64 (choiceP (tx ws) stateT s).1) w) :=
 choice_any b g cap ws s t 5 5 stateT w h ht rfl (by decide) (by decide) hb rfl
theorem grown_of_below {w w' : World} (h : Below w.heap.size w w') (row : Option Nat) : w.grownBy w' row := ⟨h.os, h.tape, h.output, h.size, fun k hk _ => h.block k hk⟩
theorem Rd.below2 {w w' : World} {o : Obj} {b g cap : Nat} {ws : List (Nat × List UInt8)} {s : St} (h : Rd w b g cap ws s) (hb : Below (w.alloc o).heap.size (w.alloc o) w') : Rd w' b g cap ws s :=
 h.kept ((World.grownBy_alloc w o none).trans (grown_of_below hb none))
def zero11 : Array Value := #[.int .i64 0, .string ⟨#[]⟩, .slice none 0 0, .int .i64 0, .int .i64 0, .string ⟨#[]⟩, .string ⟨#[]⟩, .string ⟨#[]⟩, .string ⟨#[]⟩, .string ⟨#[]⟩, .int .i64 0]
structure RS (W0 W : World) (b g cap : Nat) (ws : List (Nat × List UInt8)) (t r : Nat) (s : St) (cs : Array Value) : Prop where
 rd : Rd W b g cap ws s
 row : W.heap[r]? = some (.cells cs 31 (0, 0))
 told : W.heap[t]? = some (.cells zero11 31 (0, 0))
 grown : W0.grownBy W (some b)
 b0 : b < W0.heap.size
 g0 : g < W0.heap.size
 t0 : W0.heap.size ≤ t
 tr : t < r
section
variable {W0 W W' : World} {b g cap t r : Nat} {ws : List (Nat × List UInt8)} {s s' : St} {cs : Array Value} {a0 a1 a2 a3 a4 a5 a6 a7 a8 a9 a10 : Value}
theorem RS.call (R : RS W0 W b g cap ws t r s cs) (h : Rd W' b g cap ws s') (hg : W.grownBy W' (some b)) : RS W0 W' b g cap ws t r s' cs :=
 have hr : r < W.heap.size := (Array.getElem?_eq_some_iff.1 R.row).1
 ⟨h, by rw [hg.block r hr (by simp; have := R.b0; have := R.t0; have := R.tr; omega)]; exact R.row, by rw [hg.block t (by have := R.tr; omega) (by simp; have := R.b0; have := R.t0; omega)]; exact R.told, R.grown.trans hg, R.b0, R.g0, R.t0, R.tr⟩
theorem RS.store (R : RS W0 W b g cap ws t r s cs) (j : Nat) (v : Value) : RS W0 (W.setCell ⟨r, j, none⟩ v) b g cap ws t r s (cs.setIfInBounds j v) :=
 have hg := grown_setCell W r j v
 have h1 : b ≠ r := by have := R.b0; have := R.t0; have := R.tr; omega
 have h2 : g ≠ r := by have := R.g0; have := R.t0; have := R.tr; omega
 ⟨R.rd.keptBut hg (by simpa using h1) (by simpa using h2), heap_set R.row v, by rw [hg.block t (Array.getElem?_eq_some_iff.1 R.told).1 (by simp; have := R.tr; omega)]; exact R.told,
  R.grown.andThen hg (fun j e => .inl (by simp at e; have := R.t0; have := R.tr; omega)), R.b0, R.g0, R.t0, R.tr⟩
theorem RS.fz (R : RS W0 W b g cap ws t r s cs) (j : Nat) : W.frozen? ⟨r, j, none⟩ = false := by simp [World.frozen?, R.row]
theorem RS.fzt (R : RS W0 W b g cap ws t r s cs) (j : Nat) : W.frozen? ⟨t, j, none⟩ = false := by simp [World.frozen?, R.told]
theorem RS.drewN (R : RS W0 W b g cap ws t r s cs) (n : Nat) : RS W0 (W.drewN n) b g cap ws t r s cs := ⟨R.rd.kept (grown_drewN _ _ _), R.row, R.told, R.grown.trans (grown_drewN _ _ _), R.b0, R.g0, R.t0, R.tr⟩
theorem RS.q0 (R : RS W0 W b g cap ws t r s #[a0, a1, a2, a3, a4, a5, a6, a7, a8, a9, a10]) : W.cell? ⟨r, 0, none⟩ = some a0 := by rw [cell_of_row _ _ _ _ _ _ R.row]; rfl
theorem RS.q1 (R : RS W0 W b g cap ws t r s #[a0, a1, a2, a3, a4, a5, a6, a7, a8, a9, a10]) : W.cell? ⟨r, 1, none⟩ = some a1 := by rw [cell_of_row _ _ _ _ _ _ R.row]; rfl
theorem RS.q2 (R : RS W0 W b g cap ws t r s #[a0, a1, a2, a3, a4, a5, a6, a7, a8, a9, a10]) : W.cell? ⟨r, 2, none⟩ = some a2 := by rw [cell_of_row _ _ _ _ _ _ R.row]; rfl
theorem RS.q3 (R : RS W0 W b g cap ws t r s #[a0, a1, a2, a3, a4, a5, a6, a7, a8, a9, a10]) : W.cell? ⟨r, 3, none⟩ = some a3 := by rw [cell_of_row _ _ _ _ _ _ R.row]; rfl
theorem RS.q4 (R : RS W0 W b g cap ws t r s #[a0, a1, a2, a3, a4, a5, a6, a7, a8, a9, a10]) : W.cell? ⟨r, 4, none⟩ = some a4 := by rw [cell_of_row _ _ _ _ _ _ R.row]; rfl
theorem RS.q5 (R : RS W0 W b g cap ws t r s #[a0, a1, a2, a3, a4, a5, a6, a7, a8, a9, a10]) : W.cell? ⟨r, 5, none⟩ = some a5 := by rw [cell_of_row _ _ _ _ _ _ R.row]; rfl
theorem RS.q6 (R : RS W0 W b g cap ws t r s #[a0, a1, a2, a3, a4, a5, a6, a7, a8, a9, a10]) : W.cell? ⟨r, 6, none⟩ = some a6 := by rw [cell_of_row _ _ _ _ _ _ R.row]; rfl
theorem RS.q7 (R : RS W0 W b g cap ws t r s #[a0, a1, a2, a3, a4, a5, a6, a7, a8, a9, a10]) : W.cell? ⟨r, 7, none⟩ = some a7 := by rw [cell_of_row _ _ _ _ _ _ R.row]; rfl
theorem RS.q8 (R : RS W0 W b g cap ws t r s #[a0, a1, a2, a3, a4, a5, a6, a7, a8, a9, a10]) : W.cell? ⟨r, 8, none⟩ = some a8 := by rw [cell_of_row _ _ _ _ _ _ R.row]; rfl
theorem RS.q9 (R : RS W0 W b g cap ws t r s #[a0, a1, a2, a3, a4, a5, a6, a7, a8, a9, a10]) : W.cell? ⟨r, 9, none⟩ = some a9 := by rw [cell_of_row _ _ _ _ _ _ R.row]; rfl
theorem RS.q10 (R : RS W0 W b g cap ws t r s #[a0, a1, a2, a3, a4, a5, a6, a7, a8, a9, a10]) : W.cell? ⟨r, 10, none⟩ = some a10 := by rw [cell_of_row _ _ _ _ _ _ R.row]; rfl
theorem RS.z0 (R : RS W0 W b g cap ws t r s cs) : W.cell? ⟨t, 0, none⟩ = some (.int .i64 0) := by rw [cell_of_row _ _ _ _ _ _ R.told]; rfl
theorem RS.z1 (R : RS W0 W b g cap ws t r s cs) : W.cell? ⟨t, 1, none⟩ = some (.string ⟨#[]⟩) := by rw [cell_of_row _ _ _ _ _ _ R.told]; rfl
theorem RS.z2 (R : RS W0 W b g cap ws t r s cs) : W.cell? ⟨t, 2, none⟩ = some (.slice none 0 0) := by rw [cell_of_row _ _ _ _ _ _ R.told]; rfl
theorem RS.z3 (R : RS W0 W b g cap ws t r s cs) : W.cell? ⟨t, 3, none⟩ = some (.int .i64 0) := by rw [cell_of_row _ _ _ _ _ _ R.told]; rfl
theorem RS.z4 (R : RS W0 W b g cap ws t r s cs) : W.cell? ⟨t, 4, none⟩ = some (.int .i64 0) := by rw [cell_of_row _ _ _ _ _ _ R.told]; rfl
theorem RS.z5 (R : RS W0 W b g cap ws t r s cs) : W.cell? ⟨t, 5, none⟩ = some (.string ⟨#[]⟩) := by rw [cell_of_row _ _ _ _ _ _ R.told]; rfl
theorem RS.z6 (R : RS W0 W b g cap ws t r s cs) : W.cell? ⟨t, 6, none⟩ = some (.string ⟨#[]⟩) := by rw [cell_of_row _ _ _ _ _ _ R.told]; rfl
theorem RS.z7 (R : RS W0 W b g cap ws t r s cs) : W.cell? ⟨t, 7, none⟩ = some (.string ⟨#[]⟩) := by rw [cell_of_row _ _ _ _ _ _ R.told]; rfl
theorem RS.z8 (R : RS W0 W b g cap ws t r s cs) : W.cell? ⟨t, 8, none⟩ = some (.string ⟨#[]⟩) := by rw [cell_of_row _ _ _ _ _ _ R.told]; rfl
theorem RS.z9 (R : RS W0 W b g cap ws t r s cs) : W.cell? ⟨t, 9, none⟩ = some (.string ⟨#[]⟩) := by rw [cell_of_row _ _ _ _ _ _ R.told]; rfl
theorem RS.z10 (R : RS W0 W b g cap ws t r s cs) : W.cell? ⟨t, 10, none⟩ = some (.int .i64 0) := by rw [cell_of_row _ _ _ _ _ _ R.told]; rfl
theorem RS.start {w w1 w2 : World} {s0 : St} (h : Rd w b g cap ws s) (hb1 : Below (w.alloc (.cells zero11 31)).heap.size (w.alloc (.cells zero11 31)) w1) (h2 : Rd w2 b g cap ws s0) (g2 : w1.grownBy w2 (some b)) (v : Value) :
  RS w (w2.alloc (.cells #[v, .string ⟨#[]⟩, .slice none 0 0, .int .i64 0, .int .i64 0, .string ⟨#[]⟩, .string ⟨#[]⟩, .string ⟨#[]⟩, .string ⟨#[]⟩, .string ⟨#[]⟩, .int .i64 0] 31)) b g cap ws w.heap.size w2.heap.size s0 #[v, .string ⟨#[]⟩, .slice none 0 0, .int .i64 0, .int .i64 0, .string ⟨#[]⟩, .string ⟨#[]⟩, .string ⟨#[]⟩, .string ⟨#[]⟩, .string ⟨#[]⟩, .int .i64 0] := by
 have hs1 : w.heap.size < w1.heap.size := by have := hb1.size; simp at this; omega
 have hs2 := g2.size
 have hbl := h.blt
 have ht : w2.heap[w.heap.size]? = some (.cells zero11 31 (0, 0)) := by
  rw [g2.block _ hs1 (by simp; omega), hb1.block _ (by simp)]; exact heap_alloc_new _ _
 refine ⟨h2.kept (World.grownBy_alloc _ _ _), heap_alloc_new _ _, ?_, ?_, h.blt, h.lt, Nat.le_refl _, by omega⟩
 ·rw [heap_alloc_old _ _ (by omega)]; exact ht
 ·exact (((World.grownBy_alloc w _ _).trans (grown_of_below hb1 _)).trans g2).trans (World.grownBy_alloc _ _ _)
theorem RS.tell (R : RS W0 W b g cap ws t r s #[a0, a1, a2, a3, a4, a5, a6, a7, a8, a9, a10]) : ∀ X, ((((((((((W.setCell ⟨t, 0, none⟩ a0).setCell ⟨t, 1, none⟩ a1).setCell ⟨t, 2, none⟩ a2).setCell ⟨t, 3, none⟩ a3).setCell ⟨t, 4, none⟩ a4).setCell ⟨t, 5, none⟩ a5).setCell ⟨t, 6, none⟩ a6).setCell ⟨t, 7, none⟩ a7).setCell ⟨t, 8, none⟩ a8).setCell ⟨t, 9, none⟩ a9).setCell ⟨t, 10, none⟩ a10 = X → Rd X b g cap ws s ∧ X.heap[t]? = some (.cells #[a0, a1, a2, a3, a4, a5, a6, a7, a8, a9, a10] 31 (0, 0)) ∧ W0.grownBy X (some b) ∧ W.grownBy X (some t) := by
 rintro X rfl
 have hg : W.grownBy (((((((((((W.setCell ⟨t, 0, none⟩ a0).setCell ⟨t, 1, none⟩ a1).setCell ⟨t, 2, none⟩ a2).setCell ⟨t, 3, none⟩ a3).setCell ⟨t, 4, none⟩ a4).setCell ⟨t, 5, none⟩ a5).setCell ⟨t, 6, none⟩ a6).setCell ⟨t, 7, none⟩ a7).setCell ⟨t, 8, none⟩ a8).setCell ⟨t, 9, none⟩ a9).setCell ⟨t, 10, none⟩ a10) (some t) := (World.grownBy.trans (World.grownBy.trans (World.grownBy.trans (World.grownBy.trans (World.grownBy.trans (World.grownBy.trans (World.grownBy.trans (World.grownBy.trans (World.grownBy.trans (World.grownBy.trans (grown_setCell _ _ _ _) (grown_setCell _ _ _ _)) (grown_setCell _ _ _ _)) (grown_setCell _ _ _ _)) (grown_setCell _ _ _ _)) (grown_setCell _ _ _ _)) (grown_setCell _ _ _ _)) (grown_setCell _ _ _ _)) (grown_setCell _ _ _ _)) (grown_setCell _ _ _ _)) (grown_setCell _ _ _ _))
 have h1 : b ≠ t := by have := R.b0; have := R.t0; omega
 have h2 : g ≠ t := by have := R.g0; have := R.t0; omega
 refine ⟨R.rd.keptBut hg (by simpa using h1) (by simpa using h2), ?_, R.grown.andThen hg (fun j e => .inl (by simp at e; have := R.t0; omega)), hg⟩
 have e := (heap_set (j := 10) (heap_set (j := 9) (heap_set (j := 8) (heap_set (j := 7) (heap_set (j := 6) (heap_set (j := 5) (heap_set (j := 4) (heap_set (j := 3) (heap_set (j := 2) (heap_set (j := 1) (heap_set (j := 0) R.told a0) a1) a2) a3) a4) a5) a6) a7) a8) a9) a10)
 simpa [zero11] using e
theorem RS.below (R : RS W0 W b g cap ws t r s cs) (hb : Below W.heap.size W W') : RS W0 W' b g cap ws t r s cs :=
 R.call (R.rd.kept (grown_of_below hb none)) (grown_of_below hb _)
theorem RS.own {v : Value} {l : List Tx} (R : RS W0 W b g cap ws t r s cs) (_hg : W.grownBy W' (some b)) (ho : OwnL W' W.heap.size v l) : ∀ X, (W'.setCell ⟨r, 2, none⟩ v).grownBy X (some t) → OwnL X W0.heap.size v l := by
 intro X hX
 have hr : r < W.heap.size := (Array.getElem?_eq_some_iff.1 R.row).1
 have h1 := World.ownsRow.kept ho (grown_setCell W' r 2 v) (.inr (fun e => by have := (ho.lt r e).1; omega))
 have h2 := World.ownsRow.kept h1 hX (.inr (fun e => by have := (ho.lt t e).1; have := R.tr; omega))
 exact World.ownsRow.mono h2 R.grown.size
end
def ruV (r : Ru) (L : Value) (line : Int) : Value := .agg #[.int .i64 r.kind, .string (bs r.name), L, .int .i64 r.n, .int .i64 r.m, .string (bs r.from_), .string (bs r.to_), .string (bs r.by_), .string (bs r.task), .string (bs r.in_), .int .i64 line]
def RuleTo (b g cap : Nat) (ws : List (Nat × List UInt8)) (p : Ru × St) (w : World) (e : Ending) (w' : World) : Prop :=
 ∃ L, e = .returned (ruV p.1 L 0) ∧ Rd w' b g cap ws p.2 ∧ OwnL w' w.heap.size L p.1.list ∧ w.grownBy w' (some b)
theorem ownL_nil (w : World) (base : Nat) : OwnL w base (.slice none 0 0) [] := World.ownsRow_nil _ _ _ _
theorem ruleTo_mk {b g cap : Nat} {ws : List (Nat × List UInt8)} {p : Ru × St} {l : List Tx} {s : St} {v L : Value} {w w' : World} (hv : v = ruV p.1 L 0) (h : Rd w' b g cap ws s) (ho : OwnL w' w.heap.size L l) (hg : w.grownBy w' (some b)) (he : (l, s) = (p.1.list, p.2)) : RuleTo b g cap ws p w (.returned v) w' := by
 subst hv; cases he; exact ⟨L, rfl, h, ho, hg⟩
end Go.Proofs.YtgffbgmieppckaaGreatDoor
