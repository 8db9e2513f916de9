import Derived.Test.YtaoinedndnleoaaGreatRdrB0
import Derived.Test.YtaoinedndnleoaaGreatRdrV
import Derived.Test.YtaoinedndnleoaaGreatSm0
import Derived.Deep.RegionHeld3
import Derived.Test.YtaoinedndnleoaaGreatOwnSome
import Derived.OwnWalk
import Derived.Deep.DeepMust
import Derived.Deep.CutBlock
import Derived.Deep.DeepCutAuto
import Derived.WalkSpells
import Derived.Laws.DeepStrings4
namespace Go.Proofs.YtaoinedndnleoaaGreat
set_option maxRecDepth 100000
open Go.ChangeShapes Go.WideShapes Go.ChangeAt Go.RowKit
def DPTo (L : Tx) (number : Int) (w : World) (e : Ending) (w' : World) : Prop := Below w.heap.size w w' ∧ match parseL L with
 | .ok r => ∃ v, e = .returned (.tuple #[ruV r v number, .bool false, fltV 0 0 0]) ∧ OwnL w' w.heap.size v r.list
 | .empty => e = .returned (.tuple #[zeroV, .bool true, fltV 0 0 0])
 | .bad _ _ => ∃ c k : Int, k ≠ 0 ∧ e = .returned (.tuple #[zeroV, .bool false, fltV number c k])
set_option maxHeartbeats 4000000 in
theorem rparBad_any (s : ByteArray) (number : Int) (w : World) (hs : s.size ≤ 1000000000) (hbad : 0 < badL s.data.toList) :
  Calls Tryz.prog 90 #[.string s, .int .i64 number] w fun e w' => Below w.heap.size w w' ∧ ∃ c : Int, e = .returned (.tuple #[zeroV, .bool false, fltV number c 2]) := by
 have SP := Lib.hid (fun W => RSplit_any s W hs)
 generalize badL s.data.toList = bad at *
 generalize wordsL s.data.toList = ws at *
 have hbi : (0 : Int) < bad := by omega
 go_enter Tryz.func90, Tryz.ntmps90
 go_upto_region 1 with (fail)
 have ht : ((w.alloc (.cells #[.int .i64 0, .string ⟨#[]⟩, .slice none 0 0, .int .i64 0, .int .i64 0, .string ⟨#[]⟩, .string ⟨#[]⟩, .string ⟨#[]⟩, .string ⟨#[]⟩, .string ⟨#[]⟩, .int .i64 0] 92)).alloc (.cells #[.int .i64 0, .int .i64 0, .int .i64 0] 85)).heap[w.heap.size]? = some (.cells #[.int .i64 0, .string ⟨#[]⟩, .slice none 0 0, .int .i64 0, .int .i64 0, .string ⟨#[]⟩, .string ⟨#[]⟩, .string ⟨#[]⟩, .string ⟨#[]⟩, .string ⟨#[]⟩, .int .i64 0] 92 (0, 0)) := by rw [heap_alloc_old _ _ (by simp)]; exact heap_alloc_new _ _
 have hu : ((w.alloc (.cells #[.int .i64 0, .string ⟨#[]⟩, .slice none 0 0, .int .i64 0, .int .i64 0, .string ⟨#[]⟩, .string ⟨#[]⟩, .string ⟨#[]⟩, .string ⟨#[]⟩, .string ⟨#[]⟩, .int .i64 0] 92)).alloc (.cells #[.int .i64 0, .int .i64 0, .int .i64 0] 85)).heap[w.heap.size + 1]? = some (.cells #[.int .i64 0, .int .i64 0, .int .i64 0] 85 (0, 0)) := by
  have := heap_alloc_new (w.alloc (.cells #[.int .i64 0, .string ⟨#[]⟩, .slice none 0 0, .int .i64 0, .int .i64 0, .string ⟨#[]⟩, .string ⟨#[]⟩, .string ⟨#[]⟩, .string ⟨#[]⟩, .string ⟨#[]⟩, .int .i64 0] 92)) (.cells #[.int .i64 0, .int .i64 0, .int .i64 0] 85)
  simpa using this
 have hb0 : Below w.heap.size w ((w.alloc (.cells #[.int .i64 0, .string ⟨#[]⟩, .slice none 0 0, .int .i64 0, .int .i64 0, .string ⟨#[]⟩, .string ⟨#[]⟩, .string ⟨#[]⟩, .string ⟨#[]⟩, .string ⟨#[]⟩, .int .i64 0] 92)).alloc (.cells #[.int .i64 0, .int .i64 0, .int .i64 0] 85)) := ((Below.refl _ _).alloc (Nat.le_refl _) _).alloc (by simp) _
 have HT := Lib.hid ht
 have HU := Lib.hid hu
 have HB0 := Lib.hid hb0
 clear ht hu hb0
 generalize (w.alloc (.cells #[.int .i64 0, .string ⟨#[]⟩, .slice none 0 0, .int .i64 0, .int .i64 0, .string ⟨#[]⟩, .string ⟨#[]⟩, .string ⟨#[]⟩, .string ⟨#[]⟩, .string ⟨#[]⟩, .int .i64 0] 92)).alloc (.cells #[.int .i64 0, .int .i64 0, .int .i64 0] 85) = w1 at *
 go_wp2_with (go_at_call 120; refine (SP.out _).mono ?_; rintro e w2 ⟨v2, rfl, _, hb2⟩; have HB2 := Lib.hid hb2; clear hb2; have r4 := (HB2.out.block _ (Array.getElem?_eq_some_iff.1 HT.out).1).trans HT.out; have r6 := (HB2.out.block _ (Array.getElem?_eq_some_iff.1 HU.out).1).trans HU.out; have s0 := row_q0 r4; have s1 := row_q1 r4; have s2 := row_q2 r4; have s3 := row_q3 r4; have s4 := row_q4 r4; have s5 := row_q5 r4; have s6 := row_q6 r4; have s7 := row_q7 r4; have s8 := row_q8 r4; have s9 := row_q9 r4; have s10 := row_q10 r4; have f0 := row_fz r4 0; have f1 := row_fz r4 1; have f2 := row_fz r4 2; have f3 := row_fz r4 3; have f4 := row_fz r4 4; have f5 := row_fz r4 5; have f6 := row_fz r4 6; have f7 := row_fz r4 7; have f8 := row_fz r4 8; have f9 := row_fz r4 9; have f10 := row_fz r4 10; have k0 := flt_q0 r6; have k1 := flt_q1 r6; have k2 := flt_q2 r6; have e0 := flt_fz r6 0; have e1 := flt_fz r6 1; have e2 := flt_fz r6 2; have HR4 := Lib.hid r4; have HR6 := Lib.hid r6; clear r4 r6)
 obtain ⟨h8, h10, hbl⟩ := two_rows (.int .i64 0) (.string ⟨#[]⟩) (.slice none 0 0) (.int .i64 0) (.int .i64 0) (.string ⟨#[]⟩) (.string ⟨#[]⟩) (.string ⟨#[]⟩) (.string ⟨#[]⟩) (.string ⟨#[]⟩) (.int .i64 0) (.int .i64 number) (.int .i64 bad) (.int .i64 2) HR4.out HR6.out (by omega) _ rfl
 (try simp only [Exit.inBlock, Exit.then])
 refine bodyPost_ret (run_cell212 rfl _ _ w.heap.size (w.heap.size + 1) _ _ _ _ _ _ _ _ rfl rfl h8 h10 Tryz.underlying92 rfl (by kernel_rfl) Tryz.underlying85 rfl (by kernel_rfl)) rfl ?_
 have hbz : Below w.heap.size w w2 := below_then HB0.out HB2.out HB0.out.size
 exact ⟨hbl _ _ hbz hbz.size (Nat.le_refl _) (by omega), _, rfl⟩
set_option maxHeartbeats 4000000 in
theorem rparEmpty_any (s : ByteArray) (number : Int) (w : World) (hs : s.size ≤ 1000000000) (hbad : badL s.data.toList = 0) (hws : wordsL s.data.toList = []) :
  Calls Tryz.prog 90 #[.string s, .int .i64 number] w fun e w' => Below w.heap.size w w' ∧ e = .returned (.tuple #[zeroV, .bool true, fltV 0 0 0]) := by
 have SP := Lib.hid (fun W => RSplit_any s W hs)
 rw [hws, hbad] at SP
 clear hws hbad
 go_enter Tryz.func90, Tryz.ntmps90
 go_upto_region 1 with (fail)
 have ht : ((w.alloc (.cells #[.int .i64 0, .string ⟨#[]⟩, .slice none 0 0, .int .i64 0, .int .i64 0, .string ⟨#[]⟩, .string ⟨#[]⟩, .string ⟨#[]⟩, .string ⟨#[]⟩, .string ⟨#[]⟩, .int .i64 0] 92)).alloc (.cells #[.int .i64 0, .int .i64 0, .int .i64 0] 85)).heap[w.heap.size]? = some (.cells #[.int .i64 0, .string ⟨#[]⟩, .slice none 0 0, .int .i64 0, .int .i64 0, .string ⟨#[]⟩, .string ⟨#[]⟩, .string ⟨#[]⟩, .string ⟨#[]⟩, .string ⟨#[]⟩, .int .i64 0] 92 (0, 0)) := by rw [heap_alloc_old _ _ (by simp)]; exact heap_alloc_new _ _
 have hu : ((w.alloc (.cells #[.int .i64 0, .string ⟨#[]⟩, .slice none 0 0, .int .i64 0, .int .i64 0, .string ⟨#[]⟩, .string ⟨#[]⟩, .string ⟨#[]⟩, .string ⟨#[]⟩, .string ⟨#[]⟩, .int .i64 0] 92)).alloc (.cells #[.int .i64 0, .int .i64 0, .int .i64 0] 85)).heap[w.heap.size + 1]? = some (.cells #[.int .i64 0, .int .i64 0, .int .i64 0] 85 (0, 0)) := by
  have := heap_alloc_new (w.alloc (.cells #[.int .i64 0, .string ⟨#[]⟩, .slice none 0 0, .int .i64 0, .int .i64 0, .string ⟨#[]⟩, .string ⟨#[]⟩, .string ⟨#[]⟩, .string ⟨#[]⟩, .string ⟨#[]⟩, .int .i64 0] 92)) (.cells #[.int .i64 0, .int .i64 0, .int .i64 0] 85)
  simpa using this
 have hb0 : Below w.heap.size w ((w.alloc (.cells #[.int .i64 0, .string ⟨#[]⟩, .slice none 0 0, .int .i64 0, .int .i64 0, .string ⟨#[]⟩, .string ⟨#[]⟩, .string ⟨#[]⟩, .string ⟨#[]⟩, .string ⟨#[]⟩, .int .i64 0] 92)).alloc (.cells #[.int .i64 0, .int .i64 0, .int .i64 0] 85)) := ((Below.refl _ _).alloc (Nat.le_refl _) _).alloc (by simp) _
 have HT := Lib.hid ht
 have HU := Lib.hid hu
 have HB0 := Lib.hid hb0
 clear ht hu hb0
 generalize (w.alloc (.cells #[.int .i64 0, .string ⟨#[]⟩, .slice none 0 0, .int .i64 0, .int .i64 0, .string ⟨#[]⟩, .string ⟨#[]⟩, .string ⟨#[]⟩, .string ⟨#[]⟩, .string ⟨#[]⟩, .int .i64 0] 92)).alloc (.cells #[.int .i64 0, .int .i64 0, .int .i64 0] 85) = w1 at *
 go_wp2_with (go_at_call 120; refine (SP.out _).mono ?_; rintro e w2 ⟨v2, rfl, ho2, hb2⟩; obtain ⟨A2, c2, rfl⟩ := own_slice ho2; have HB2 := Lib.hid hb2; clear hb2 ho2; have r4 := (HB2.out.block _ (Array.getElem?_eq_some_iff.1 HT.out).1).trans HT.out; have r6 := (HB2.out.block _ (Array.getElem?_eq_some_iff.1 HU.out).1).trans HU.out; have s0 := row_q0 r4; have s1 := row_q1 r4; have s2 := row_q2 r4; have s3 := row_q3 r4; have s4 := row_q4 r4; have s5 := row_q5 r4; have s6 := row_q6 r4; have s7 := row_q7 r4; have s8 := row_q8 r4; have s9 := row_q9 r4; have s10 := row_q10 r4; have f0 := row_fz r4 0; have f1 := row_fz r4 1; have f2 := row_fz r4 2; have f3 := row_fz r4 3; have f4 := row_fz r4 4; have f5 := row_fz r4 5; have f6 := row_fz r4 6; have f7 := row_fz r4 7; have f8 := row_fz r4 8; have f9 := row_fz r4 9; have f10 := row_fz r4 10; have k0 := flt_q0 r6; have k1 := flt_q1 r6; have k2 := flt_q2 r6; have e0 := flt_fz r6 0; have e1 := flt_fz r6 1; have e2 := flt_fz r6 2; have HR4 := Lib.hid r4; have HR6 := Lib.hid r6; clear r4 r6)
 obtain ⟨h8, h10, hbl⟩ := two_rows (.int .i64 0) (.string ⟨#[]⟩) (.slice none 0 0) (.int .i64 0) (.int .i64 0) (.string ⟨#[]⟩) (.string ⟨#[]⟩) (.string ⟨#[]⟩) (.string ⟨#[]⟩) (.string ⟨#[]⟩) (.int .i64 0) (.int .i64 0) (.int .i64 0) (.int .i64 0) HR4.out HR6.out (by omega) _ rfl
 (try simp only [Exit.inBlock, Exit.then])
 refine bodyPost_ret (run_cell212 rfl _ _ w.heap.size (w.heap.size + 1) _ _ _ _ _ _ _ _ rfl rfl h8 h10 Tryz.underlying92 rfl (by kernel_rfl) Tryz.underlying85 rfl (by kernel_rfl)) rfl ?_
 have hbz : Below w.heap.size w w2 := below_then HB0.out HB2.out HB0.out.size
 exact ⟨hbl _ _ hbz hbz.size (Nat.le_refl _) (by omega), rfl⟩
theorem dp_of {L : Tx} {number : Int} {w w' : World} {e : Ending} (hb : badL L = 0) (hw : wordsL L ≠ []) (h : RPTo (wordsL L) number w e w') : DPTo L number w e w' := by
 refine ⟨h.1, ?_⟩
 have hp : parseL L = parseW (wordsL L) := by unfold parseL; rw [if_neg (by omega), if_neg hw]
 have h0 : 0 < (wordsL L).length := List.length_pos_iff.2 hw
 obtain ⟨a1, a2⟩ := parseW_at (fun x hx => (words_bounds L x hx).1) h0
 rw [hp]
 rcases h.2 with ⟨ha, v, he, ho⟩ | ⟨ha, c, k, hk, he⟩
 ·rw [a1 ha]; exact ⟨v, he, ho⟩
 ·obtain ⟨c1, k1, e1⟩ := a2 ha
  rw [e1]; exact ⟨c, k, hk, he⟩
theorem RParse_any (s : ByteArray) (number : Int) (w : World) (hs : s.size ≤ 1000000000) :
  Calls Tryz.prog 90 #[.string s, .int .i64 number] w (DPTo s.data.toList number w) := by
 have hsl : s.data.toList.length = s.size := Array.length_toList
 by_cases hb : badL s.data.toList = 0
 ·by_cases hw : wordsL s.data.toList = []
  ·refine (rparEmpty_any s number w hs hb hw).mono fun e w' h => ⟨h.1, ?_⟩
   have : parseL s.data.toList = .empty := by unfold parseL; rw [if_neg (by omega), if_pos hw]
   rw [this]; exact h.2
  ·have h0 : 0 < (wordsL s.data.toList).length := List.length_pos_iff.2 hw
   have hpl : (wordsL s.data.toList).length ≤ 1000000000 := by
    have h1 := words_count s.data.toList
    have h2 := partL_le s.data.toList
    omega
   have hsz : ∀ j (hj : j < (wordsL s.data.toList).length), (wordsL s.data.toList)[j].2.length ≤ 1000000000 := fun j hj => by
    have h1 := words_bounds s.data.toList _ (List.getElem_mem hj)
    omega
   have hk : kdR (tx (wordsL s.data.toList)) = 0 ∨ (1 ≤ kdR (tx (wordsL s.data.toList)) ∧ kdR (tx (wordsL s.data.toList)) ≤ 11) := by
    rcases kd_at (tx (wordsL s.data.toList)) with ⟨h, _⟩ | ⟨h1, h2, _⟩ <;> omega
   have D : ∀ e w', RPTo (wordsL s.data.toList) number w e w' → DPTo s.data.toList number w e w' := fun e w' h => dp_of hb hw h
   rcases hk with h | ⟨h, h9⟩
   ·exact (rpar0_any s number _ w hs rfl hb h0 hpl hsz h).mono D
   ·exact (rparV_any s number _ w hs rfl hb h0 hpl hsz h h9).mono D
 ·refine (rparBad_any s number w hs (by omega)).mono fun e w' h => ⟨h.1, ?_⟩
  have : parseL s.data.toList = .bad (badL s.data.toList) 2 := by unfold parseL; rw [if_pos (by omega)]
  obtain ⟨c, he⟩ := h.2
  rw [this]; exact ⟨c, 2, by decide, he⟩
def nS (n : Int) : Tx := if 0 ≤ n then digs n.toNat else [120]
def stW (n : Int) : Tx := stateR.getD (n - 1).toNat []
def docS (r : Ru) : Tx :=
 if r.kind = 1 then [114, 111, 108, 101, 32] ++ r.name ++ (if r.list = [] then [] else [32, 62] ++ allP r.list)
 else if r.kind = 2 then [117, 115, 101, 114, 32] ++ r.name ++ allP r.list
 else if r.kind = 3 then [112, 101, 114, 109, 32] ++ r.name ++ allP r.list
 else if r.kind = 4 then [115, 115, 100, 32] ++ nS r.n ++ allP r.list
 else if r.kind = 5 then [100, 115, 100, 32] ++ nS r.n ++ allP r.list
 else if r.kind = 6 then [101, 120, 99, 108, 117, 115, 105, 118, 101] ++ allP r.list
 else if r.kind = 7 then [108, 101, 110, 100, 32] ++ r.name ++ [32] ++ nS r.n ++ [32] ++ nS r.m
 else if r.kind = 8 then [115, 116, 97, 116, 101, 32] ++ r.name ++ [32] ++ stW r.n ++ (if r.in_ = [] then [] else [32, 105, 110, 32] ++ r.in_)
 else if r.kind = 9 then [111, 110, 32] ++ r.name ++ [32, 102, 114, 111, 109, 32] ++ r.from_ ++ [32, 116, 111, 32] ++ r.to_ ++ (if r.by_ = [] then [] else [32, 98, 121, 32] ++ r.by_) ++ (if r.task = [] then [] else [32, 116, 97, 115, 107, 32] ++ r.task)
 else if r.kind = 10 then [97, 117, 116, 111, 32, 102, 114, 111, 109, 32] ++ r.from_ ++ [32, 116, 111, 32] ++ r.to_
 else if r.kind = 11 then [97, 102, 116, 101, 114, 32] ++ nS r.n ++ [32, 102, 114, 111, 109, 32] ++ r.from_ ++ [32, 116, 111, 32] ++ r.to_
 else []
def PrTo (r : Ru) (w : World) (e : Ending) (w' : World) : Prop := Below w.heap.size w w' ∧ ((parseL (docS r) = .ok r ∧ e = .returned (.tuple #[.string (bs (docS r)), .bool true])) ∨ (parseL (docS r) ≠ .ok r ∧ e = .returned (.tuple #[.string ⟨#[]⟩, .bool false])))
def Short (r : Ru) : Prop := r.name.length ≤ 10000000 ∧ (allP r.list).length ≤ 10000000 ∧ r.from_.length ≤ 10000000 ∧ r.to_.length ≤ 10000000 ∧ r.by_.length ≤ 10000000 ∧ r.task.length ≤ 10000000 ∧ r.in_.length ≤ 10000000 ∧ (nS r.n).length ≤ 10000000 ∧ (nS r.m).length ≤ 10000000
theorem ite_le {p : Prop} [Decidable p] {a b : Tx} {n : Nat} (ha : a.length ≤ n) (hb : b.length ≤ n) : (if p then a else b).length ≤ n := by split <;> assumption
theorem doc_short {r : Ru} (h : Short r) : (docS r).length ≤ 1000000000 := by
 obtain ⟨h1, h2, h3, h4, h5, h6, h7, h8, h9⟩ := h
 have h10 : (stW r.n).length ≤ 100 := by
  unfold stW
  have : ∀ t ∈ stateR, t.length ≤ 100 := by decide
  rw [List.getD_eq_getElem?_getD]
  cases e : stateR[(r.n - 1).toNat]? with
  | none => simp
  | some t => exact this t (List.mem_of_getElem? e)
 have i1 : (if r.list = [] then [] else [32, 62] ++ allP r.list : Tx).length ≤ 10000010 := ite_le (by simp) (by simp only [List.length_append, List.length_cons, List.length_nil]; omega)
 have i2 : (if r.in_ = [] then [] else [32, 105, 110, 32] ++ r.in_ : Tx).length ≤ 10000010 := ite_le (by simp) (by simp only [List.length_append, List.length_cons, List.length_nil]; omega)
 have i3 : (if r.by_ = [] then [] else [32, 98, 121, 32] ++ r.by_ : Tx).length ≤ 10000010 := ite_le (by simp) (by simp only [List.length_append, List.length_cons, List.length_nil]; omega)
 have i4 : (if r.task = [] then [] else [32, 116, 97, 115, 107, 32] ++ r.task : Tx).length ≤ 10000010 := ite_le (by simp) (by simp only [List.length_append, List.length_cons, List.length_nil]; omega)
 unfold docS
 refine ite_le ?_ (ite_le ?_ (ite_le ?_ (ite_le ?_ (ite_le ?_ (ite_le ?_ (ite_le ?_ (ite_le ?_ (ite_le ?_ (ite_le ?_ (ite_le ?_ (by simp)))))))))))
 all_goals (simp only [List.length_append, List.length_cons, List.length_nil] at *; omega)
theorem own_len {w : World} {B : Nat} {v : Value} {l : List Tx} (h : OwnL w B v l) : l.length ≤ 9223372036854775807 := by
 rcases h.2 with ⟨_, h0⟩ | ⟨g, cap, cur, _, _, _, hnc, hcm, _⟩
 ·omega
 ·unfold maxLen at hcm; omega
theorem polL_last (t : Tx) (k : Nat) (acc : List (Ru × Nat)) : polL [t] k acc = polL (t :: linesL []) k acc := by
 show polL [t] k acc = polL [t, []] k acc
 simp only [polL, parse_nil]
theorem lines_cut : ∀ (u : Tx) (j : Nat), j ≤ u.length → (∀ b ∈ u.take j, b ≠ 10) → (∀ h : j < u.length, u[j] = 10) → linesL u = u.take j :: (if j < u.length then linesL (u.drop (j + 1)) else [])
 | [], j, hj, _, _ => by
  obtain rfl : j = 0 := by simpa using hj
  rfl
 | c :: r, 0, _, _, h => by
  have hc := h (by simp)
  simp only [List.getElem_cons_zero] at hc
  subst hc
  rw [lines_end]; simp
 | c :: r, j + 1, hj, h1, h2 => by
  have hc : c ≠ 10 := h1 c (by simp)
  have ih := lines_cut r j (by simpa using hj) (fun b hb => h1 b (by simp [hb])) (fun h => by have := h2 (by simpa using h); simpa using this)
  rw [lines_cons hc ih]
  simp
theorem doc_step {u : Tx} {j : Nat} (hj : j ≤ u.length) (h1 : ∀ b ∈ u.take j, b ≠ 10) (h2 : ∀ h : j < u.length, u[j] = 10) (k : Nat) (acc : List (Ru × Nat)) :
  polL (linesL u) k acc = polL (u.take j :: linesL (u.drop (min (j + 1) u.length))) k acc := by
 rw [lines_cut u j hj h1 h2]
 by_cases h : j < u.length
 ·rw [if_pos h, Nat.min_eq_left (by omega)]
 ·rw [if_neg h, Nat.min_eq_right (by omega), List.drop_length]; exact polL_last _ _ _
def RefTo (p : PolR) (w : World) (e : Ending) (w' : World) : Prop := Below w.heap.size w w' ∧ match p with
 | .ok l => ∃ v acc, e = .returned (.tuple #[v, fltV 0 0 0]) ∧ acc.map er = l ∧ RowsAt w' w.heap.size v acc
 | _ => ∃ n c k : Int, k ≠ 0 ∧ e = .returned (.tuple #[.slice none 0 0, fltV n c k])
theorem refTo_no {p : PolR} {w w' : World} {n c k : Int} (hp : ∀ l, p ≠ .ok l) (hb : Below w.heap.size w w') (hk : k ≠ 0) : RefTo p w (.returned (.tuple #[.slice none 0 0, fltV n c k])) w' := by
 refine ⟨hb, ?_⟩
 cases p with
 | limit => exact ⟨n, c, k, hk, rfl⟩
 | bad a b d => exact ⟨n, c, k, hk, rfl⟩
 | ok l => exact (hp l rfl).elim
theorem refTo_ok {p : PolR} {w w' : World} {v : Value} {acc : List RL} (hp : p = .ok (acc.map er)) (hb : Below w.heap.size w w') (h : RowsAt w' w.heap.size v acc) : RefTo p w (.returned (.tuple #[v, fltV 0 0 0])) w' := by
 subst hp
 exact ⟨hb, v, acc, rfl, rfl, h⟩
theorem run_cellUI {P : Program} {fn : Func} {p u : Tmp} {ty : TypeId} (h : fn.results = #[.tmp u, .cell p ty]) (tmps : Array Value) (w : World) (g : Nat) (t : TypeId) (cs : Array Value) (fr : Nat × Nat) (d : TypeDesc)
  (hp : tmps.getD p undef = .pointer (some ⟨g, 0, none⟩)) (hg : w.heap[g]? = some (.cells cs t fr))
  (hu : P.underlying ty = some d) (hd : (match d with | .struct _ | .array _ _ => true | _ => false) = true) (hi : (P.info? ty).map (·.size) = some cs.size) :
  (results fn tmps).run P w = .ok (.tuple #[tmps.getD u undef, .agg cs]) w := by
 have hp' : tmps[p]?.getD undef = .pointer (some ⟨g, 0, none⟩) := by simpa using hp
 simp [results, h, hp', asAddr, run_loadVar_row w g t ty cs fr d hg hu hd hi]
theorem polT_long {s : Tx} (h : 4096 < s.length) : ∀ l, polT s ≠ .ok l := by
 intro l; unfold polT; rw [if_pos h]; simp
theorem cut_rest (u : ByteArray) (j : Nat) : u.extract (if (u.size : Int) < (j : Int) + 1 then (u.size : Int) else (j : Int) + 1).toNat u.size = bs (u.data.toList.drop (min (j + 1) u.size)) := by
 have h : (if (u.size : Int) < (j : Int) + 1 then (u.size : Int) else (j : Int) + 1).toNat = min (j + 1) u.size := by split <;> omega
 rw [h, extract_bs, List.take_of_length_le (by simp)]
theorem cut_rest2 (u : ByteArray) (j : Nat) : u.extract (min ((j : Int) + 1) (u.size : Int)).toNat u.size = bs (u.data.toList.drop (min (j + 1) u.size)) := by
 rw [← cut_rest]
 congr 2
 split <;> omega
theorem rows_low {w w' : World} {base t : Nat} {v : Value} {acc : List RL} (h : RowsAt w base v acc) (hg : w.grownBy w' (some t)) (ht : t < base) : RowsAt w' base v acc := by
 have key : ∀ {e size n : Nat} {v : Value} {xs : List Value}, w.ownsRow base e size v n xs → v.ownBlock = none ∨ v.ownBlock ≠ some t := by
  intro e size n v xs h
  cases hv : v.ownBlock with
  | none => exact .inl rfl
  | some g => right; intro he; cases he; have := (h.lt _ hv).1; omega
 exact ⟨h.1.kept hg (key h.1), fun x hx => (h.2 x hx).kept hg (key (h.2 x hx))⟩
set_option maxHeartbeats 4000000 in
theorem RefParse_long (s : ByteArray) (w : World) (hs : 4096 < s.size) : Calls Tryz.prog 62 #[.string s] w (RefTo (polT s.data.toList) w) := by
 have h : (4096 : Int) < s.size := by omega
 have HP := Lib.hid (polT_long (s := s.data.toList) hs)
 clear hs
 go_enter Tryz.func62, Tryz.ntmps62
 go_wp2
 (try simp only [Exit.inBlock, Exit.then])
 refine bodyPost_ret (run_cellUI rfl _ _ w.heap.size _ _ _ _ rfl (heap_alloc_new _ _) Tryz.underlying85 rfl (by kernel_rfl)) rfl ?_
 exact refTo_no HP.out ((Below.refl _ _).alloc (Nat.le_refl _) _) (by decide)
set_option maxHeartbeats 4000000 in
theorem RefParse_lines (s : ByteArray) (w : World) (hs : ¬ 4096 < s.size) : Calls Tryz.prog 62 #[.string s] w (RefTo (polL (linesL s.data.toList) 1 []) w) := by
 have hs' : ¬ (4096 : Int) < s.size := by omega
 obtain ⟨i0, hi, hz0, hz1, hz2⟩ := info_parts Tryz.infoRule
 generalize hP : polL (linesL s.data.toList) 1 [] = P
 have HP0 := Lib.hid hP
 clear hP
 go_enter Tryz.func62, Tryz.ntmps62
 go_upto_region 5 with fail
 have R3 : Hid ((w.alloc (.cells #[.int .i64 0, .int .i64 0, .int .i64 0] 85)).heap[w.heap.size]? = some (.cells #[.int .i64 0, .int .i64 0, .int .i64 0] 85 (0, 0))) := heap_alloc_new _ _
 have HB1 : Hid (Below w.heap.size w (w.alloc (.cells #[.int .i64 0, .int .i64 0, .int .i64 0] 85))) := (Below.refl _ _).alloc (Nat.le_refl _) _
 have hz1' : (w.alloc (.cells #[.int .i64 0, .int .i64 0, .int .i64 0] 85)).heap.size = w.heap.size + 1 := by simp
 generalize hw1 : w.alloc (.cells #[.int .i64 0, .int .i64 0, .int .i64 0] 85) = w1 at *
 clear hw1
 go_loopw [0, 4, 5] (fun t l i wr => ∃ (u : ByteArray) (k : Nat) (acc : List RL), t = .string u ∧ i = .int .i64 k ∧ u.size + k ≤ s.size + 1 ∧ acc.length ≤ 160 ∧ Hid (polL (linesL u.data.toList) k (acc.map er) = P) ∧ Hid (RowsAt wr w1.heap.size l acc) ∧ Hid (Below w1.heap.size w1 wr)) (fun t _ _ _ => match t with | .string u => u.size | _ => 0)
 case atStart => exact ⟨s, 1, [], rfl, rfl, by omega, Nat.zero_le _, HP0, rows_nil _ _, Below.refl _ _⟩
 case round =>
  obtain ⟨u, k, acc, rfl, rfl, huk, ha, HP, HR, HB⟩ := hrel
  by_cases hu : 0 < u.size
  ·have hui : (0 : Int) < u.size := by omega
   go_upto_region 6 with fail
   go_upto_block 2 with fail
   go_cut [6] (fun n wx => wx = wr ∧ ∃ j : Nat, n = .int .i64 j ∧ j ≤ u.size ∧ Hid (∀ b ∈ u.data.toList.take j, b ≠ 10) ∧ Hid (∀ h : j < u.size, u[j] = 10))
   case first =>
    go_wp2_with fail
    go_loop [6] (fun n => ∃ j : Nat, n = .int .i64 j ∧ j ≤ u.size ∧ Hid (∀ b ∈ u.data.toList.take j, b ≠ 10)) (fun n => u.size - (intOf n).toNat)
    case atStart => exact ⟨0, rfl, Nat.zero_le _, fun _ h => by simp at h⟩
    case round =>
     obtain ⟨j, rfl, hj, HN⟩ := hrel
     by_cases hlt : j < u.size
     ·have hji : (j : Int) < u.size := by omega
      by_cases h10 : (u[j].toNat : Int) = 10
      ·have g10 : ((u[j].toNat : Int) != 10) = false := by rw [bne_eq_false_iff_eq]; exact h10
       have HE : Hid (u[j] = 10) := UInt8.toNat_inj.1 (show u[j].toNat = 10 by omega)
       go_wp2
       go_meet
       exact ⟨rfl, j, rfl, hj, HN, fun _ => HE.out⟩
      ·have g10 : ((u[j].toNat : Int) != 10) = true := by rw [bne_iff_ne]; exact h10
       have HE : Hid (∀ b ∈ u.data.toList.take (j + 1), b ≠ 10) := by
        intro b hb
        rw [take_snoc u j hlt] at hb
        rcases List.mem_append.1 hb with hb | hb
        ·exact HN.out b hb
        ·rw [List.mem_singleton.1 hb]; intro e; exact h10 (by rw [e]; rfl)
       clear h10
       go_wp2
       go_round
       case rel => exact ⟨j + 1, by go_num, by omega, HE⟩
       case measure => simp [intOf]; omega
     ·go_wp2
      go_meet
      exact ⟨rfl, j, rfl, hj, HN, fun h => (hlt h).elim⟩
   case rest =>
    obtain ⟨hw9, j, rfl, hj, HN, HE⟩ := hcut
    subst hw9
    obtain ⟨wr, rfl⟩ : ∃ w1 : World, w1 = wc := ⟨_, rfl⟩
    have hpar : ∀ W, Calls Tryz.prog 90 #[.string (u.extract 0 j), .int .i64 k] W (DPTo (u.data.toList.take j) k W) := by
     intro W
     have h := RParse_any (u.extract 0 j) k W (by rw [extract_bs, size_bs, List.length_take]; simp; omega)
     rwa [extract_bs, list_bs, List.drop_zero, Nat.sub_zero, ← List.drop_zero (l := u.data.toList), ← Nat.sub_zero j, ← extract_bs, List.drop_zero] at h
    have HPs : Hid (polL (u.data.toList.take j :: linesL (u.data.toList.drop (min (j + 1) u.size))) k (acc.map er) = P) := by
     show _ = _
     rw [← HP.out]
     exact (doc_step (u := u.data.toList) (by simpa using hj) HN.out (fun h => HE.out (by simpa using h)) k _).symm
    clear HP HN HE
    generalize u.data.toList.take j = t at hpar HPs
    have hji : (j : Int) ≤ u.size := by omega
    cases hp : parseL t with
    | bad c d =>
     have HPB : Hid (∀ l, P ≠ .ok l) := by
      intro l
      rw [← HPs.out, polL, hp]; simp
     have HPAR : Hid (∀ W, Calls Tryz.prog 90 #[.string (u.extract 0 j), .int .i64 k] W fun e w' => Below W.heap.size W w' ∧ ∃ c d : Int, d ≠ 0 ∧ e = .returned (.tuple #[zeroV, .bool false, fltV k c d])) := by
      intro W
      refine (hpar W).mono fun e w' h => ?_
      unfold DPTo at h
      rw [hp] at h
      exact h
     clear hpar HPs hp
     go_upto_region 10 with (go_at_call 90; refine (HPAR.out _).mono ?_; rintro e w2 ⟨hb2, c1, d1, hd1, rfl⟩; dsimp only [zeroV, zero11, fltV])
     have hs2 := hb2.size
     have hbz := HB.out.size
     have r9 : ((w2.alloc (.cells #[.int .i64 0, .string ⟨#[]⟩, .slice none 0 0, .int .i64 0, .int .i64 0, .string ⟨#[]⟩, .string ⟨#[]⟩, .string ⟨#[]⟩, .string ⟨#[]⟩, .string ⟨#[]⟩, .int .i64 0] 92)).alloc (.cells #[.int .i64 k, .int .i64 c1, .int .i64 d1] 85)).heap[w2.heap.size + 1]? = some (.cells #[.int .i64 k, .int .i64 c1, .int .i64 d1] 85 (0, 0)) := by
      have := heap_alloc_new (w2.alloc (.cells #[.int .i64 0, .string ⟨#[]⟩, .slice none 0 0, .int .i64 0, .int .i64 0, .string ⟨#[]⟩, .string ⟨#[]⟩, .string ⟨#[]⟩, .string ⟨#[]⟩, .string ⟨#[]⟩, .int .i64 0] 92)) (.cells #[.int .i64 k, .int .i64 c1, .int .i64 d1] 85)
      simpa using this
     have hbw : Below w1.heap.size w1 ((w2.alloc (.cells #[.int .i64 0, .string ⟨#[]⟩, .slice none 0 0, .int .i64 0, .int .i64 0, .string ⟨#[]⟩, .string ⟨#[]⟩, .string ⟨#[]⟩, .string ⟨#[]⟩, .string ⟨#[]⟩, .int .i64 0] 92)).alloc (.cells #[.int .i64 k, .int .i64 c1, .int .i64 d1] 85)) := ((below_then HB.out hb2 hbz).alloc (by omega) _).alloc (by simp; omega) _
     have HBW := Lib.hid hbw
     clear hbw
     generalize (w2.alloc (.cells #[.int .i64 0, .string ⟨#[]⟩, .slice none 0 0, .int .i64 0, .int .i64 0, .string ⟨#[]⟩, .string ⟨#[]⟩, .string ⟨#[]⟩, .string ⟨#[]⟩, .string ⟨#[]⟩, .int .i64 0] 92)).alloc (.cells #[.int .i64 k, .int .i64 c1, .int .i64 d1] 85) = w3 at *
     have r3 : w3.heap[w.heap.size]? = some (.cells #[.int .i64 0, .int .i64 0, .int .i64 0] 85 (0, 0)) := (HBW.out.block _ (by omega)).trans R3.out
     have k0 := flt_q0 r3; have k1 := flt_q1 r3; have k2 := flt_q2 r3; have e0 := flt_fz r3 0; have e1 := flt_fz r3 1; have e2 := flt_fz r3 2
     have q0 := flt_q0 r9; have q1 := flt_q1 r9; have q2 := flt_q2 r9
     have HR3 := Lib.hid r3
     have hdb : (d1 != 0) = true := by rw [bne_iff_ne]; exact hd1
     clear r3 r9 hb2
     go_upto_region 11 with fail
     go_region
     go_wp2
     obtain ⟨h8, g8⟩ := flt_row (.int .i64 k) (.int .i64 c1) (.int .i64 d1) HR3.out _ rfl
     (try simp only [Exit.inBlock, Exit.then])
     refine bodyPost_ret (run_cellUI rfl _ _ w.heap.size _ _ _ _ rfl h8 Tryz.underlying85 rfl (by kernel_rfl)) rfl ?_
     have hbb := below_then HB1.out HBW.out (by omega)
     exact refTo_no HPB.out (below_drew (hbb.grown g8 hbb.size (fun g hg => by cases hg; exact Nat.le_refl _))) hd1
    | empty =>
     have HE : Hid (polL (linesL (u.data.toList.drop (min (j + 1) u.size))) (k + 1) (acc.map er) = P) := by
      show _ = _
      rw [← HPs.out, polL, hp]
     have HPAR : Hid (∀ W, Calls Tryz.prog 90 #[.string (u.extract 0 j), .int .i64 k] W fun e w' => Below W.heap.size W w' ∧ e = .returned (.tuple #[zeroV, .bool true, fltV 0 0 0])) := by
      intro W
      refine (hpar W).mono fun e w' h => ?_
      unfold DPTo at h
      rw [hp] at h
      exact h
     clear hpar HPs hp
     go_upto_region 16 with (go_at_call 90; refine (HPAR.out _).mono ?_; rintro e w2 ⟨hb2, rfl⟩; dsimp only [zeroV, zero11, fltV])
     have hs2 := hb2.size
     have hbz := HB.out.size
     go_wp2
     go_roundw
     case rel => exact ⟨bs (u.data.toList.drop (min (j + 1) u.size)), k + 1, acc, by first | rw [cut_rest] | rw [cut_rest2], by go_num, by rw [size_bs, List.length_drop, size_list]; omega, ha, by rw [list_bs]; exact HE.out, HR.out.below ((hb2.alloc hs2 _).alloc (by simp; omega) _) hbz, ((below_then HB.out hb2 hbz).alloc (by omega) _).alloc (by simp; omega) _⟩
     case measure => (first | rw [cut_rest] | rw [cut_rest2]); simp [size_bs]; omega
    | ok r =>
     obtain ⟨kd, nm, l, rn, rm, rf, rt, rb, ra, ri⟩ := r
     have HPAR : Hid (∀ W, Calls Tryz.prog 90 #[.string (u.extract 0 j), .int .i64 k] W fun e w' => Below W.heap.size W w' ∧ ∃ v, e = .returned (.tuple #[ruV ⟨kd, nm, l, rn, rm, rf, rt, rb, ra, ri⟩ v k, .bool false, fltV 0 0 0]) ∧ OwnL w' W.heap.size v l) := by
      intro W
      refine (hpar W).mono fun e w' h => ?_
      unfold DPTo at h
      rw [hp] at h
      exact h
     clear hpar
     obtain ⟨A, cap, rfl⟩ := own_slice HR.out.1
     go_upto_region 12 with (go_at_call 90; refine (HPAR.out _).mono ?_; rintro e w2 ⟨hb2, L1, rfl, ho1⟩; obtain ⟨A1, c1, rfl⟩ := own_slice ho1; dsimp only [ruV, fltV])
     have hs2 := hb2.size
     have hbz := HB.out.size
     have RA : ((w2.alloc (.cells #[.int .i64 kd, .string (bs nm), .slice A1 l.length c1, .int .i64 rn, .int .i64 rm, .string (bs rf), .string (bs rt), .string (bs rb), .string (bs ra), .string (bs ri), .int .i64 k] 92)).alloc (.cells #[.int .i64 0, .int .i64 0, .int .i64 0] 85)).heap[w2.heap.size]? = some (.cells #[.int .i64 kd, .string (bs nm), .slice A1 l.length c1, .int .i64 rn, .int .i64 rm, .string (bs rf), .string (bs rt), .string (bs rb), .string (bs ra), .string (bs ri), .int .i64 k] 92 (0, 0)) := by rw [heap_alloc_old _ _ (by simp)]; exact heap_alloc_new _ _
     have hbw : Below w2.heap.size w2 ((w2.alloc (.cells #[.int .i64 kd, .string (bs nm), .slice A1 l.length c1, .int .i64 rn, .int .i64 rm, .string (bs rf), .string (bs rt), .string (bs rb), .string (bs ra), .string (bs ri), .int .i64 k] 92)).alloc (.cells #[.int .i64 0, .int .i64 0, .int .i64 0] 85)) := ((Below.refl _ _).alloc (Nat.le_refl _) _).alloc (by simp) _
     have hs3 : w2.heap.size < ((w2.alloc (.cells #[.int .i64 kd, .string (bs nm), .slice A1 l.length c1, .int .i64 rn, .int .i64 rm, .string (bs rf), .string (bs rt), .string (bs rb), .string (bs ra), .string (bs ri), .int .i64 k] 92)).alloc (.cells #[.int .i64 0, .int .i64 0, .int .i64 0] 85)).heap.size := by simp; omega
     generalize (w2.alloc (.cells #[.int .i64 kd, .string (bs nm), .slice A1 l.length c1, .int .i64 rn, .int .i64 rm, .string (bs rf), .string (bs rt), .string (bs rb), .string (bs ra), .string (bs ri), .int .i64 k] 92)).alloc (.cells #[.int .i64 0, .int .i64 0, .int .i64 0] 85) = w3 at *
     have HL : Hid (OwnL w3 w1.heap.size (.slice A1 l.length c1) l) := own_base (own_below ho1 hbw hs2) hbz
     have HR3 : Hid (RowsAt w3 w1.heap.size (.slice A acc.length cap) acc) := (HR.out.below hb2 hbz).below hbw (by omega)
     have HB3 : Hid (Below w1.heap.size w1 w3) := below_then (below_then HB.out hb2 hbz) hbw (by omega)
     have r3 : w3.heap[w.heap.size]? = some (.cells #[.int .i64 0, .int .i64 0, .int .i64 0] 85 (0, 0)) := (HB3.out.block _ (by omega)).trans R3.out
     clear ho1 HR HPAR hb2 hbw
     by_cases hfull : acc.length = 160
     ·have HE : Hid (∀ l, P ≠ .ok l) := by
       intro l
       rw [← HPs.out, polL, hp]; simp [hfull]
      clear HPs hp HR3 HL RA
      have k0 := flt_q0 r3; have k1 := flt_q1 r3; have k2 := flt_q2 r3; have e0 := flt_fz r3 0; have e1 := flt_fz r3 1; have e2 := flt_fz r3 2
      have R33 := Lib.hid r3
      clear r3
      rw [hfull]
      go_wp2
      obtain ⟨h8, g8⟩ := flt_row (.int .i64 k) (.int .i64 1) (.int .i64 5) R33.out _ rfl
      (try simp only [Exit.inBlock, Exit.then])
      refine bodyPost_ret (run_cellUI rfl _ _ w.heap.size _ _ _ _ rfl h8 Tryz.underlying85 rfl (by kernel_rfl)) rfl ?_
      have hbb := below_then HB1.out HB3.out (by omega)
      exact refTo_no HE.out (hbb.grown g8 hbb.size (fun g hg => by cases hg; exact Nat.le_refl _)) (by decide)
     ·have HE : Hid (polL (linesL (u.data.toList.drop (min (j + 1) u.size))) (k + 1) ((acc ++ [((⟨kd, nm, l, rn, rm, rf, rt, rb, ra, ri⟩ : Ru), k, Value.slice A1 l.length c1)]).map er) = P) := by
       show _ = _
       rw [List.map_append, ← HPs.out, polL, hp]
       dsimp only
       rw [if_neg (by simpa using hfull)]
       rfl
      clear HPs hp r3
      have hfi : (acc.length : Int) < 160 := by omega
      have p0 := row_q0 RA; have p1 := row_q1 RA; have p2 := row_q2 RA; have p3 := row_q3 RA; have p4 := row_q4 RA; have p5 := row_q5 RA; have p6 := row_q6 RA; have p7 := row_q7 RA; have p8 := row_q8 RA; have p9 := row_q9 RA; have p10 := row_q10 RA
      clear RA
      have hb3 := HB3.out
      go_wp2_with (at_builtin; go_must (refine wpList_append_own _ rfl (.tmp 49) (.tmp 51) 88 rfl w1.heap.size 92 i0 _ 11 152 Tryz.underlying88 hi hz0 hz1 hz2 rfl (by decide) _ _ _ rfl (HR3.out.1.alloc _) ⟨w3.heap.size, 0, none⟩ 1 1 [.int .i64 kd, .string (bs nm), .slice A1 l.length c1, .int .i64 rn, .int .i64 rm, .string (bs rf), .string (bs rt), .string (bs rb), .string (bs ra), .string (bs ri), .int .i64 k] rfl rfl (cells_new _ _ _) (by intro u hu; simp at hu; rcases hu with rfl | rfl | rfl | rfl | rfl | rfl | rfl | rfl | rfl | rfl | rfl <;> rfl) (by unfold maxLen; omega) (by omega) (by have := hb3.size; simp; omega) ?_); intro v' w4 hown' hg' _)
      have hg2 : (w3.alloc (.cells #[.int .i64 kd, .string (bs nm), .slice A1 l.length c1, .int .i64 rn, .int .i64 rm, .string (bs rf), .string (bs rt), .string (bs rb), .string (bs ra), .string (bs ri), .int .i64 k] 92)).grownBy w4 (Value.slice A acc.length cap).ownBlock := hg'
      have hb4 : Below w1.heap.size w1 w4 := (hb3.alloc (by have := hb3.size; omega) _).grown hg2 (by have := hb3.size; simp; omega) (fun g hg => (HR3.out.1.lt g hg).1)
      clear hg'
      have HN2 : Hid (RowsAt w4 w1.heap.size v' (acc ++ [((⟨kd, nm, l, rn, rm, rf, rt, rb, ra, ri⟩ : Ru), k, Value.slice A1 l.length c1)])) := by
       have hB : Below w3.heap.size w3 (w3.alloc (.cells #[.int .i64 kd, .string (bs nm), .slice A1 l.length c1, .int .i64 rn, .int .i64 rm, .string (bs rf), .string (bs rt), .string (bs rb), .string (bs ra), .string (bs ri), .int .i64 k] 92)) := (Below.refl _ _).alloc (Nat.le_refl _) _
       have hba := hb3.size
       have hO := own_below HR3.out.1 hB hba
       refine ⟨?_, fun x hx => ?_⟩
       ·rw [rcells_snoc, List.length_append]
        exact hown'
       ·have hxo : OwnL w3 w1.heap.size x.2.2 x.1.list := by
         rcases List.mem_append.1 hx with hx | hx
         ·exact HR3.out.2 x hx
         ·rw [List.mem_singleton.1 hx]; exact HL.out
        exact (own_below hxo hB hba).kept hg2 (own_apart (own_below hxo hB hba) hO)
      clear hown' HR3 HL
      go_roundw
      case rel => exact ⟨bs (u.data.toList.drop (min (j + 1) u.size)), k + 1, _, by first | rw [cut_rest] | rw [cut_rest2], by go_num, by rw [size_bs, List.length_drop, size_list]; omega, by simp; omega, by rw [list_bs]; exact HE.out, HN2.out, hb4⟩
      case measure => (first | rw [cut_rest] | rw [cut_rest2]); simp [size_bs]; omega
  ·have HF : Hid (P = .ok (acc.map er)) := by
    show _ = _
    rw [← HP.out]
    have : u.data.toList = [] := List.eq_nil_of_length_eq_zero (by rw [size_list]; omega)
    rw [this]; simp [linesL, polL, parse_nil]
   have r3 : wr.heap[w.heap.size]? = some (.cells #[.int .i64 0, .int .i64 0, .int .i64 0] 85 (0, 0)) := (HB.out.block _ (by omega)).trans R3.out
   have k0 := flt_q0 r3; have k1 := flt_q1 r3; have k2 := flt_q2 r3; have e0 := flt_fz r3 0; have e1 := flt_fz r3 1; have e2 := flt_fz r3 2
   have HR3 := Lib.hid r3
   clear r3
   go_wp2
   obtain ⟨h8, g8⟩ := flt_row (.int .i64 0) (.int .i64 0) (.int .i64 0) HR3.out _ rfl
   (try simp only [Exit.inBlock, Exit.then])
   refine bodyPost_ret (run_cellUI rfl _ _ w.heap.size _ _ _ _ rfl h8 Tryz.underlying85 rfl (by kernel_rfl)) rfl ?_
   have hbz := (below_then HB1.out HB.out (by omega)).size
   refine refTo_ok HF.out ((below_then HB1.out HB.out (by omega)).grown g8 hbz (fun g hg => by cases hg; exact Nat.le_refl _)) ?_
   exact (rows_low HR.out g8 (by omega)).base (by omega)
theorem RefParse_any (s : ByteArray) (w : World) : Calls Tryz.prog 62 #[.string s] w (RefTo (polT s.data.toList) w) := by
 by_cases h : 4096 < s.size
 ·exact RefParse_long s w h
 ·have e : polT s.data.toList = polL (linesL s.data.toList) 1 [] := by unfold polT; rw [if_neg (by rw [size_list]; exact h)]
  rw [e]; exact RefParse_lines s w h
def PolR.l : PolR → List (Ru × Nat)
 | .ok l => l
 | _ => []
def RulTo (l : List (Ru × Nat)) (w : World) (e : Ending) (w' : World) : Prop := Below w.heap.size w w' ∧ ∃ v acc, e = .returned v ∧ acc.map er = l ∧ RowsAt w' w.heap.size v acc
theorem rul_of {p : PolR} {w w' : World} {e : Ending} (h : RefTo p w e w') : Below w.heap.size w w' ∧ ∃ v acc, (∃ a b c : Int, e = .returned (.tuple #[v, fltV a b c])) ∧ acc.map er = p.l ∧ RowsAt w' w.heap.size v acc := by
 obtain ⟨hb, h⟩ := h
 refine ⟨hb, ?_⟩
 cases p with
 | limit => obtain ⟨n, c, k, _, rfl⟩ := h; exact ⟨_, [], ⟨_, _, _, rfl⟩, rfl, rows_nil _ _⟩
 | bad a b d => obtain ⟨n, c, k, _, rfl⟩ := h; exact ⟨_, [], ⟨_, _, _, rfl⟩, rfl, rows_nil _ _⟩
 | ok l => obtain ⟨v, acc, rfl, ha, hr⟩ := h; exact ⟨_, acc, ⟨_, _, _, rfl⟩, ha, hr⟩
theorem PlayRules_any (s : ByteArray) (w : World) : Calls Tryz.prog 31 #[.string s] w (RulTo (polT s.data.toList).l w) := by
 have HP := Lib.hid ((RefParse_any s w).mono fun e w' h => rul_of h)
 generalize (polT s.data.toList).l = l at HP
 go_enter Tryz.func31, Tryz.ntmps31
 go_wp2_with (go_at_call 62; refine HP.out.mono ?_; rintro e w1 ⟨hb, v, acc, ⟨a, b, c, rfl⟩, ha, hr⟩; dsimp only [fltV]; have HA := Lib.hid ha; clear ha)
 go_ret
 have hs := hb.size
 exact ⟨hb.alloc hs _, v, acc, rfl, HA.out, hr.below ((Below.refl _ _).alloc (Nat.le_refl _) _) hs⟩
end Go.Proofs.YtaoinedndnleoaaGreat
