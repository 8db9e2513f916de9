/-
  The document reads as the plain one; the line that PrintRule writes.
-/
import Derived.Test.YtahgfmobdfhaaaaGreatDoorRdrB0
import Derived.Test.YtahgfmobdfhaaaaGreatDoorRdrV
import Derived.Test.YtahgfmobdfhaaaaGreatDoorRuleSt
import Derived.Deep.RegionHeld3
namespace Go.Proofs.YtahgfmobdfhaaaaGreatDoor
set_option maxRecDepth 100000
open Go.ChangeShapes Go.WideShapes Go.ChangeAt Go.RowKit

/-- what the document's ParseRule tells of a line -/
def DPTo (L : Tx) (number : Int) (w : World) (e : Ending) (w' : World) : Prop := Below w.heap.size w w' ∧ match parseL L with
  | .ok r => ∃ v, e = .returned (.tuple #[ruV r v number, .bool false, fltV 0 0 0]) ∧ OwnL w' w.heap.size v r.list
  | .empty => e = .returned (.tuple #[zeroV, .bool true, fltV 0 0 0])
  | .bad _ _ => ∃ c k : Int, k ≠ 0 ∧ e = .returned (.tuple #[zeroV, .bool false, fltV number c k])
set_option maxHeartbeats 4000000 in
theorem rparBad_any (s : ByteArray) (number : Int) (w : World) (hs : s.size ≤ 1000000000) (hbad : 0 < badL s.data.toList) :
    Calls Tryz.prog 19 #[.string s, .int .i64 number] w fun e w' => Below w.heap.size w w' ∧ ∃ c : Int, e = .returned (.tuple #[zeroV, .bool false, fltV number c 2]) := by
  have SP := Lib.hid (fun W => RSplit_any s W hs)
  generalize badL s.data.toList = bad at *
  generalize wordsL s.data.toList = ws at *
  have hbi : (0 : Int) < bad := by omega
  go_enter Tryz.func19, Tryz.ntmps19
  go_upto_region 1 with (fail)
  have ht : ((w.alloc (.cells #[.int .i64 0, .string ⟨#[]⟩, .slice none 0 0, .int .i64 0, .int .i64 0, .string ⟨#[]⟩, .string ⟨#[]⟩, .string ⟨#[]⟩, .string ⟨#[]⟩, .string ⟨#[]⟩, .int .i64 0] 41)).alloc (.cells #[.int .i64 0, .int .i64 0, .int .i64 0] 47)).heap[w.heap.size]? = some (.cells #[.int .i64 0, .string ⟨#[]⟩, .slice none 0 0, .int .i64 0, .int .i64 0, .string ⟨#[]⟩, .string ⟨#[]⟩, .string ⟨#[]⟩, .string ⟨#[]⟩, .string ⟨#[]⟩, .int .i64 0] 41 (0, 0)) := by rw [heap_alloc_old _ _ (by simp)]; exact heap_alloc_new _ _
  have hu : ((w.alloc (.cells #[.int .i64 0, .string ⟨#[]⟩, .slice none 0 0, .int .i64 0, .int .i64 0, .string ⟨#[]⟩, .string ⟨#[]⟩, .string ⟨#[]⟩, .string ⟨#[]⟩, .string ⟨#[]⟩, .int .i64 0] 41)).alloc (.cells #[.int .i64 0, .int .i64 0, .int .i64 0] 47)).heap[w.heap.size + 1]? = some (.cells #[.int .i64 0, .int .i64 0, .int .i64 0] 47 (0, 0)) := by
    have := heap_alloc_new (w.alloc (.cells #[.int .i64 0, .string ⟨#[]⟩, .slice none 0 0, .int .i64 0, .int .i64 0, .string ⟨#[]⟩, .string ⟨#[]⟩, .string ⟨#[]⟩, .string ⟨#[]⟩, .string ⟨#[]⟩, .int .i64 0] 41)) (.cells #[.int .i64 0, .int .i64 0, .int .i64 0] 47)
    simpa using this
  have hb0 : Below w.heap.size w ((w.alloc (.cells #[.int .i64 0, .string ⟨#[]⟩, .slice none 0 0, .int .i64 0, .int .i64 0, .string ⟨#[]⟩, .string ⟨#[]⟩, .string ⟨#[]⟩, .string ⟨#[]⟩, .string ⟨#[]⟩, .int .i64 0] 41)).alloc (.cells #[.int .i64 0, .int .i64 0, .int .i64 0] 47)) := ((Below.refl _ _).alloc (Nat.le_refl _) _).alloc (by simp) _
  have HT := Lib.hid ht
  have HU := Lib.hid hu
  have HB0 := Lib.hid hb0
  clear ht hu hb0
  generalize (w.alloc (.cells #[.int .i64 0, .string ⟨#[]⟩, .slice none 0 0, .int .i64 0, .int .i64 0, .string ⟨#[]⟩, .string ⟨#[]⟩, .string ⟨#[]⟩, .string ⟨#[]⟩, .string ⟨#[]⟩, .int .i64 0] 41)).alloc (.cells #[.int .i64 0, .int .i64 0, .int .i64 0] 47) = w1 at *
  go_wp2_with (go_at_call 41; refine (SP.out _).mono ?_; rintro e w2 ⟨v2, rfl, _, hb2⟩; have HB2 := Lib.hid hb2; clear hb2; have r4 := (HB2.out.block _ (Array.getElem?_eq_some_iff.1 HT.out).1).trans HT.out; have r6 := (HB2.out.block _ (Array.getElem?_eq_some_iff.1 HU.out).1).trans HU.out; have s0 := row_q0 r4; have s1 := row_q1 r4; have s2 := row_q2 r4; have s3 := row_q3 r4; have s4 := row_q4 r4; have s5 := row_q5 r4; have s6 := row_q6 r4; have s7 := row_q7 r4; have s8 := row_q8 r4; have s9 := row_q9 r4; have s10 := row_q10 r4; have f0 := row_fz r4 0; have f1 := row_fz r4 1; have f2 := row_fz r4 2; have f3 := row_fz r4 3; have f4 := row_fz r4 4; have f5 := row_fz r4 5; have f6 := row_fz r4 6; have f7 := row_fz r4 7; have f8 := row_fz r4 8; have f9 := row_fz r4 9; have f10 := row_fz r4 10; have k0 := flt_q0 r6; have k1 := flt_q1 r6; have k2 := flt_q2 r6; have e0 := flt_fz r6 0; have e1 := flt_fz r6 1; have e2 := flt_fz r6 2; have HR4 := Lib.hid r4; have HR6 := Lib.hid r6; clear r4 r6)
  obtain ⟨h8, h10, hbl⟩ := two_rows (.int .i64 0) (.string ⟨#[]⟩) (.slice none 0 0) (.int .i64 0) (.int .i64 0) (.string ⟨#[]⟩) (.string ⟨#[]⟩) (.string ⟨#[]⟩) (.string ⟨#[]⟩) (.string ⟨#[]⟩) (.int .i64 0) (.int .i64 number) (.int .i64 bad) (.int .i64 2) HR4.out HR6.out (by omega) _ rfl
  (try simp only [Exit.inBlock, Exit.then])
  refine bodyPost_ret (run_cell212 rfl _ _ w.heap.size (w.heap.size + 1) _ _ _ _ _ _ _ _ rfl rfl h8 h10 Tryz.underlying41 rfl (by kernel_rfl) Tryz.underlying47 rfl (by kernel_rfl)) rfl ?_
  have hbz : Below w.heap.size w w2 := below_then HB0.out HB2.out HB0.out.size
  exact ⟨hbl _ _ hbz hbz.size (Nat.le_refl _) (by omega), _, rfl⟩
set_option maxHeartbeats 4000000 in
theorem rparEmpty_any (s : ByteArray) (number : Int) (w : World) (hs : s.size ≤ 1000000000) (hbad : badL s.data.toList = 0) (hws : wordsL s.data.toList = []) :
    Calls Tryz.prog 19 #[.string s, .int .i64 number] w fun e w' => Below w.heap.size w w' ∧ e = .returned (.tuple #[zeroV, .bool true, fltV 0 0 0]) := by
  have SP := Lib.hid (fun W => RSplit_any s W hs)
  rw [hws, hbad] at SP
  clear hws hbad
  go_enter Tryz.func19, Tryz.ntmps19
  go_upto_region 1 with (fail)
  have ht : ((w.alloc (.cells #[.int .i64 0, .string ⟨#[]⟩, .slice none 0 0, .int .i64 0, .int .i64 0, .string ⟨#[]⟩, .string ⟨#[]⟩, .string ⟨#[]⟩, .string ⟨#[]⟩, .string ⟨#[]⟩, .int .i64 0] 41)).alloc (.cells #[.int .i64 0, .int .i64 0, .int .i64 0] 47)).heap[w.heap.size]? = some (.cells #[.int .i64 0, .string ⟨#[]⟩, .slice none 0 0, .int .i64 0, .int .i64 0, .string ⟨#[]⟩, .string ⟨#[]⟩, .string ⟨#[]⟩, .string ⟨#[]⟩, .string ⟨#[]⟩, .int .i64 0] 41 (0, 0)) := by rw [heap_alloc_old _ _ (by simp)]; exact heap_alloc_new _ _
  have hu : ((w.alloc (.cells #[.int .i64 0, .string ⟨#[]⟩, .slice none 0 0, .int .i64 0, .int .i64 0, .string ⟨#[]⟩, .string ⟨#[]⟩, .string ⟨#[]⟩, .string ⟨#[]⟩, .string ⟨#[]⟩, .int .i64 0] 41)).alloc (.cells #[.int .i64 0, .int .i64 0, .int .i64 0] 47)).heap[w.heap.size + 1]? = some (.cells #[.int .i64 0, .int .i64 0, .int .i64 0] 47 (0, 0)) := by
    have := heap_alloc_new (w.alloc (.cells #[.int .i64 0, .string ⟨#[]⟩, .slice none 0 0, .int .i64 0, .int .i64 0, .string ⟨#[]⟩, .string ⟨#[]⟩, .string ⟨#[]⟩, .string ⟨#[]⟩, .string ⟨#[]⟩, .int .i64 0] 41)) (.cells #[.int .i64 0, .int .i64 0, .int .i64 0] 47)
    simpa using this
  have hb0 : Below w.heap.size w ((w.alloc (.cells #[.int .i64 0, .string ⟨#[]⟩, .slice none 0 0, .int .i64 0, .int .i64 0, .string ⟨#[]⟩, .string ⟨#[]⟩, .string ⟨#[]⟩, .string ⟨#[]⟩, .string ⟨#[]⟩, .int .i64 0] 41)).alloc (.cells #[.int .i64 0, .int .i64 0, .int .i64 0] 47)) := ((Below.refl _ _).alloc (Nat.le_refl _) _).alloc (by simp) _
  have HT := Lib.hid ht
  have HU := Lib.hid hu
  have HB0 := Lib.hid hb0
  clear ht hu hb0
  generalize (w.alloc (.cells #[.int .i64 0, .string ⟨#[]⟩, .slice none 0 0, .int .i64 0, .int .i64 0, .string ⟨#[]⟩, .string ⟨#[]⟩, .string ⟨#[]⟩, .string ⟨#[]⟩, .string ⟨#[]⟩, .int .i64 0] 41)).alloc (.cells #[.int .i64 0, .int .i64 0, .int .i64 0] 47) = w1 at *
  go_wp2_with (go_at_call 41; refine (SP.out _).mono ?_; rintro e w2 ⟨v2, rfl, ho2, hb2⟩; obtain ⟨A2, c2, rfl⟩ := own_slice ho2; have HB2 := Lib.hid hb2; clear hb2 ho2; have r4 := (HB2.out.block _ (Array.getElem?_eq_some_iff.1 HT.out).1).trans HT.out; have r6 := (HB2.out.block _ (Array.getElem?_eq_some_iff.1 HU.out).1).trans HU.out; have s0 := row_q0 r4; have s1 := row_q1 r4; have s2 := row_q2 r4; have s3 := row_q3 r4; have s4 := row_q4 r4; have s5 := row_q5 r4; have s6 := row_q6 r4; have s7 := row_q7 r4; have s8 := row_q8 r4; have s9 := row_q9 r4; have s10 := row_q10 r4; have f0 := row_fz r4 0; have f1 := row_fz r4 1; have f2 := row_fz r4 2; have f3 := row_fz r4 3; have f4 := row_fz r4 4; have f5 := row_fz r4 5; have f6 := row_fz r4 6; have f7 := row_fz r4 7; have f8 := row_fz r4 8; have f9 := row_fz r4 9; have f10 := row_fz r4 10; have k0 := flt_q0 r6; have k1 := flt_q1 r6; have k2 := flt_q2 r6; have e0 := flt_fz r6 0; have e1 := flt_fz r6 1; have e2 := flt_fz r6 2; have HR4 := Lib.hid r4; have HR6 := Lib.hid r6; clear r4 r6)
  obtain ⟨h8, h10, hbl⟩ := two_rows (.int .i64 0) (.string ⟨#[]⟩) (.slice none 0 0) (.int .i64 0) (.int .i64 0) (.string ⟨#[]⟩) (.string ⟨#[]⟩) (.string ⟨#[]⟩) (.string ⟨#[]⟩) (.string ⟨#[]⟩) (.int .i64 0) (.int .i64 0) (.int .i64 0) (.int .i64 0) HR4.out HR6.out (by omega) _ rfl
  (try simp only [Exit.inBlock, Exit.then])
  refine bodyPost_ret (run_cell212 rfl _ _ w.heap.size (w.heap.size + 1) _ _ _ _ _ _ _ _ rfl rfl h8 h10 Tryz.underlying41 rfl (by kernel_rfl) Tryz.underlying47 rfl (by kernel_rfl)) rfl ?_
  have hbz : Below w.heap.size w w2 := below_then HB0.out HB2.out HB0.out.size
  exact ⟨hbl _ _ hbz hbz.size (Nat.le_refl _) (by omega), rfl⟩
theorem dp_of {L : Tx} {number : Int} {w w' : World} {e : Ending} (hb : badL L = 0) (hw : wordsL L ≠ []) (h : RPTo (wordsL L) number w e w') : DPTo L number w e w' := by
  refine ⟨h.1, ?_⟩
  have hp : parseL L = parseW (wordsL L) := by unfold parseL; rw [if_neg (by omega), if_neg hw]
  have h0 : 0 < (wordsL L).length := List.length_pos_iff.2 hw
  obtain ⟨a1, a2⟩ := parseW_at (fun x hx => (words_bounds L x hx).1) h0
  rw [hp]
  rcases h.2 with ⟨ha, v, he, ho⟩ | ⟨ha, c, k, hk, he⟩
  · rw [a1 ha]; exact ⟨v, he, ho⟩
  · obtain ⟨c1, k1, e1⟩ := a2 ha
    rw [e1]; exact ⟨c, k, hk, he⟩
theorem RParse_any (s : ByteArray) (number : Int) (w : World) (hs : s.size ≤ 1000000000) :
    Calls Tryz.prog 19 #[.string s, .int .i64 number] w (DPTo s.data.toList number w) := by
  have hsl : s.data.toList.length = s.size := Array.length_toList
  by_cases hb : badL s.data.toList = 0
  · by_cases hw : wordsL s.data.toList = []
    · refine (rparEmpty_any s number w hs hb hw).mono fun e w' h => ⟨h.1, ?_⟩
      have : parseL s.data.toList = .empty := by unfold parseL; rw [if_neg (by omega), if_pos hw]
      rw [this]; exact h.2
    · have h0 : 0 < (wordsL s.data.toList).length := List.length_pos_iff.2 hw
      have hpl : (wordsL s.data.toList).length ≤ 1000000000 := by
        have h1 := words_count s.data.toList
        have h2 := partL_le s.data.toList
        omega
      have hsz : ∀ j (hj : j < (wordsL s.data.toList).length), (wordsL s.data.toList)[j].2.length ≤ 1000000000 := fun j hj => by
        have h1 := words_bounds s.data.toList _ (List.getElem_mem hj)
        omega
      have hk : kdR (tx (wordsL s.data.toList)) = 0 ∨ (1 ≤ kdR (tx (wordsL s.data.toList)) ∧ kdR (tx (wordsL s.data.toList)) ≤ 11) := by
        rcases kd_at (tx (wordsL s.data.toList)) with ⟨h, _⟩ | ⟨h1, h2, _⟩ <;> omega
      have D : ∀ e w', RPTo (wordsL s.data.toList) number w e w' → DPTo s.data.toList number w e w' := fun e w' h => dp_of hb hw h
      rcases hk with h | ⟨h, h9⟩
      · exact (rpar0_any s number _ w hs rfl hb h0 hpl hsz h).mono D
      · exact (rparV_any s number _ w hs rfl hb h0 hpl hsz h h9).mono D
  · refine (rparBad_any s number w hs (by omega)).mono fun e w' h => ⟨h.1, ?_⟩
    have : parseL s.data.toList = .bad (badL s.data.toList) 2 := by unfold parseL; rw [if_pos (by omega)]
    obtain ⟨c, he⟩ := h.2
    rw [this]; exact ⟨c, 2, by decide, he⟩
end Go.Proofs.YtahgfmobdfhaaaaGreatDoor
namespace Go.Proofs.YtahgfmobdfhaaaaGreatDoor
set_option maxRecDepth 100000
open Go.ChangeShapes Go.WideShapes Go.ChangeAt Go.RowKit

/-- a number as the document's PrintRule writes it -/
def nS (n : Int) : Tx := if 0 ≤ n then digs n.toNat else [120]
end Go.Proofs.YtahgfmobdfhaaaaGreatDoor
