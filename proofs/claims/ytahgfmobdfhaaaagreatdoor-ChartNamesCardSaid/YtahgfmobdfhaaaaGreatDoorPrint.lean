/-
  rule.same.
-/
import Derived.Test.YtahgfmobdfhaaaaGreatDoorPrint2
import Derived.Deep.RegionHeld3
import Derived.Deep.DeepCutAuto
import Derived.Laws.StructEq
import Derived.ChangeKeysEq
import Derived.Test.YtahgfmobdfhaaaaGreatDoorLw1
import Derived.Test.YtahgfmobdfhaaaaGreatDoorShelf
import Derived.Test.YtahgfmobdfhaaaaGreatDoorOkP
import Derived.Test.YtahgfmobdfhaaaaGreatDoorAs
namespace Go.Proofs.YtahgfmobdfhaaaaGreatDoor
set_option maxRecDepth 100000
open Go.ChangeShapes Go.WideShapes Go.ChangeAt Go.RowKit

theorem cells22 {a0 a3 a4 a10 : Int} {a1 a5 a6 a7 a8 a9 : ByteArray} {A : Option Addr} {na ca : Nat} {b0 b3 b4 b10 : Int} {b1 b5 b6 b7 b8 b9 : ByteArray} {B : Option Addr} {nb cb : Nat} {w W : World} (RA : W.heap[w.heap.size]? = some (.cells #[.int .i64 a0, .string a1, .slice A na ca, .int .i64 a3, .int .i64 a4, .string a5, .string a6, .string a7, .string a8, .string a9, .int .i64 a10] 41 (0, 0))) (RB : W.heap[w.heap.size + 1]? = some (.cells #[.int .i64 b0, .string b1, .slice B nb cb, .int .i64 b3, .int .i64 b4, .string b5, .string b6, .string b7, .string b8, .string b9, .int .i64 b10] 41 (0, 0))) : W.cell? ⟨w.heap.size, 0, none⟩ = some (.int .i64 a0) ∧ W.cell? ⟨w.heap.size, 1, none⟩ = some (.string a1) ∧ W.cell? ⟨w.heap.size, 2, none⟩ = some (.slice A na ca) ∧ W.cell? ⟨w.heap.size, 3, none⟩ = some (.int .i64 a3) ∧ W.cell? ⟨w.heap.size, 4, none⟩ = some (.int .i64 a4) ∧ W.cell? ⟨w.heap.size, 5, none⟩ = some (.string a5) ∧ W.cell? ⟨w.heap.size, 6, none⟩ = some (.string a6) ∧ W.cell? ⟨w.heap.size, 7, none⟩ = some (.string a7) ∧ W.cell? ⟨w.heap.size, 8, none⟩ = some (.string a8) ∧ W.cell? ⟨w.heap.size, 9, none⟩ = some (.string a9) ∧ W.cell? ⟨w.heap.size, 10, none⟩ = some (.int .i64 a10) ∧ W.cell? ⟨w.heap.size + 1, 0, none⟩ = some (.int .i64 b0) ∧ W.cell? ⟨w.heap.size + 1, 1, none⟩ = some (.string b1) ∧ W.cell? ⟨w.heap.size + 1, 2, none⟩ = some (.slice B nb cb) ∧ W.cell? ⟨w.heap.size + 1, 3, none⟩ = some (.int .i64 b3) ∧ W.cell? ⟨w.heap.size + 1, 4, none⟩ = some (.int .i64 b4) ∧ W.cell? ⟨w.heap.size + 1, 5, none⟩ = some (.string b5) ∧ W.cell? ⟨w.heap.size + 1, 6, none⟩ = some (.string b6) ∧ W.cell? ⟨w.heap.size + 1, 7, none⟩ = some (.string b7) ∧ W.cell? ⟨w.heap.size + 1, 8, none⟩ = some (.string b8) ∧ W.cell? ⟨w.heap.size + 1, 9, none⟩ = some (.string b9) ∧ W.cell? ⟨w.heap.size + 1, 10, none⟩ = some (.int .i64 b10) := ⟨row_q0 RA, row_q1 RA, row_q2 RA, row_q3 RA, row_q4 RA, row_q5 RA, row_q6 RA, row_q7 RA, row_q8 RA, row_q9 RA, row_q10 RA, row_q0 RB, row_q1 RB, row_q2 RB, row_q3 RB, row_q4 RB, row_q5 RB, row_q6 RB, row_q7 RB, row_q8 RB, row_q9 RB, row_q10 RB⟩

theorem numbers_lit (a0 a3 a4 a10 : Int) (a1 a5 a6 a7 a8 a9 : ByteArray) (A : Option Addr) (na ca : Nat) (w : World) : Calls Tryz.prog 68 #[.agg #[.int .i64 a0, .string a1, .slice A na ca, .int .i64 a3, .int .i64 a4, .string a5, .string a6, .string a7, .string a8, .string a9, .int .i64 a10]] w (ValB (.agg #[.int .i64 a0, .int .i64 a3, .int .i64 a4]) w) := by
  go_enter Tryz.func68, Tryz.ntmps68
  go_wp2
  (try simp only [Exit.inBlock, Exit.then])
  refine bodyPost_ret (results_cell_row rfl _ _ (w.heap.size + 1) _ _ _ _ rfl (alloc_at (by simp) _) Tryz.underlying132 rfl (by kernel_rfl)) rfl ?_
  exact ⟨rfl, ((Below.refl _ _).alloc (Nat.le_refl _) _).alloc (by simp) _⟩

theorem rnames_lit (a0 a3 a4 a10 : Int) (a1 a5 a6 a7 a8 a9 : ByteArray) (A : Option Addr) (na ca : Nat) (w : World) : Calls Tryz.prog 69 #[.agg #[.int .i64 a0, .string a1, .slice A na ca, .int .i64 a3, .int .i64 a4, .string a5, .string a6, .string a7, .string a8, .string a9, .int .i64 a10]] w (ValB (.agg #[.string a1, .string a5, .string a6, .string a7, .string a8, .string a9]) w) := by
  go_enter Tryz.func69, Tryz.ntmps69
  go_wp2
  (try simp only [Exit.inBlock, Exit.then])
  refine bodyPost_ret (results_cell_row rfl _ _ (w.heap.size + 1) _ _ _ _ rfl (alloc_at (by simp) _) Tryz.underlying134 rfl (by kernel_rfl)) rfl ?_
  exact ⟨rfl, ((Below.refl _ _).alloc (Nat.le_refl _) _).alloc (by simp) _⟩

set_option maxHeartbeats 4000000 in
theorem same_lists (a0 a3 a4 a10 : Int) (a1 a5 a6 a7 a8 a9 : ByteArray) (A : Option Addr) (na ca : Nat) (b0 b3 b4 b10 : Int) (b1 b5 b6 b7 b8 b9 : ByteArray) (B : Option Addr) (nb cb : Nat) (w : World) (h1 : (∀ W, (binOp .eql 132 (.agg #[.int .i64 a0, .int .i64 a3, .int .i64 a4]) (.agg #[.int .i64 b0, .int .i64 b3, .int .i64 b4])).run Tryz.prog W = .ok (.bool true) W)) (h2 : (∀ W, (binOp .eql 134 (.agg #[.string a1, .string a5, .string a6, .string a7, .string a8, .string a9]) (.agg #[.string b1, .string b5, .string b6, .string b7, .string b8, .string b9])).run Tryz.prog W = .ok (.bool true) W)) (r : Bool) (heq : ∀ W, Below w.heap.size w W → Calls Tryz.prog 70 #[.slice A na ca, .slice B nb cb] W (ValB (.bool r) W)) :
    Calls Tryz.prog 27 #[.agg #[.int .i64 a0, .string a1, .slice A na ca, .int .i64 a3, .int .i64 a4, .string a5, .string a6, .string a7, .string a8, .string a9, .int .i64 a10], .agg #[.int .i64 b0, .string b1, .slice B nb cb, .int .i64 b3, .int .i64 b4, .string b5, .string b6, .string b7, .string b8, .string b9, .int .i64 b10]] w (ValB (.bool r) w) := by
  have RA : ((w.alloc (.cells #[.int .i64 a0, .string a1, .slice A na ca, .int .i64 a3, .int .i64 a4, .string a5, .string a6, .string a7, .string a8, .string a9, .int .i64 a10] 41)).alloc (.cells #[.int .i64 b0, .string b1, .slice B nb cb, .int .i64 b3, .int .i64 b4, .string b5, .string b6, .string b7, .string b8, .string b9, .int .i64 b10] 41)).drew.heap[w.heap.size]? = some (.cells #[.int .i64 a0, .string a1, .slice A na ca, .int .i64 a3, .int .i64 a4, .string a5, .string a6, .string a7, .string a8, .string a9, .int .i64 a10] 41 (0, 0)) := (row_alloc (heap_alloc_new _ _) _ : ((w.alloc (.cells #[.int .i64 a0, .string a1, .slice A na ca, .int .i64 a3, .int .i64 a4, .string a5, .string a6, .string a7, .string a8, .string a9, .int .i64 a10] 41)).alloc (.cells #[.int .i64 b0, .string b1, .slice B nb cb, .int .i64 b3, .int .i64 b4, .string b5, .string b6, .string b7, .string b8, .string b9, .int .i64 b10] 41)).heap[w.heap.size]? = some (.cells #[.int .i64 a0, .string a1, .slice A na ca, .int .i64 a3, .int .i64 a4, .string a5, .string a6, .string a7, .string a8, .string a9, .int .i64 a10] 41 (0, 0)))
  have RB : ((w.alloc (.cells #[.int .i64 a0, .string a1, .slice A na ca, .int .i64 a3, .int .i64 a4, .string a5, .string a6, .string a7, .string a8, .string a9, .int .i64 a10] 41)).alloc (.cells #[.int .i64 b0, .string b1, .slice B nb cb, .int .i64 b3, .int .i64 b4, .string b5, .string b6, .string b7, .string b8, .string b9, .int .i64 b10] 41)).drew.heap[w.heap.size + 1]? = some (.cells #[.int .i64 b0, .string b1, .slice B nb cb, .int .i64 b3, .int .i64 b4, .string b5, .string b6, .string b7, .string b8, .string b9, .int .i64 b10] 41 (0, 0)) := (alloc_at (by simp) _ : ((w.alloc (.cells #[.int .i64 a0, .string a1, .slice A na ca, .int .i64 a3, .int .i64 a4, .string a5, .string a6, .string a7, .string a8, .string a9, .int .i64 a10] 41)).alloc (.cells #[.int .i64 b0, .string b1, .slice B nb cb, .int .i64 b3, .int .i64 b4, .string b5, .string b6, .string b7, .string b8, .string b9, .int .i64 b10] 41)).heap[w.heap.size + 1]? = some (.cells #[.int .i64 b0, .string b1, .slice B nb cb, .int .i64 b3, .int .i64 b4, .string b5, .string b6, .string b7, .string b8, .string b9, .int .i64 b10] 41 (0, 0)))
  have HB : Below w.heap.size w ((w.alloc (.cells #[.int .i64 a0, .string a1, .slice A na ca, .int .i64 a3, .int .i64 a4, .string a5, .string a6, .string a7, .string a8, .string a9, .int .i64 a10] 41)).alloc (.cells #[.int .i64 b0, .string b1, .slice B nb cb, .int .i64 b3, .int .i64 b4, .string b5, .string b6, .string b7, .string b8, .string b9, .int .i64 b10] 41)).drew := (((Below.refl _ _).alloc (Nat.le_refl _) _).alloc (by simp) _).drew
  go_enter Tryz.func27, Tryz.ntmps27
  go_upto_region 1 with fail
  go_region_held3 (fun w' => w'.cell? ⟨w.heap.size, 0, none⟩ = some (.int .i64 a0) ∧ w'.cell? ⟨w.heap.size, 1, none⟩ = some (.string a1) ∧ w'.cell? ⟨w.heap.size, 2, none⟩ = some (.slice A na ca) ∧ w'.cell? ⟨w.heap.size, 3, none⟩ = some (.int .i64 a3) ∧ w'.cell? ⟨w.heap.size, 4, none⟩ = some (.int .i64 a4) ∧ w'.cell? ⟨w.heap.size, 5, none⟩ = some (.string a5) ∧ w'.cell? ⟨w.heap.size, 6, none⟩ = some (.string a6) ∧ w'.cell? ⟨w.heap.size, 7, none⟩ = some (.string a7) ∧ w'.cell? ⟨w.heap.size, 8, none⟩ = some (.string a8) ∧ w'.cell? ⟨w.heap.size, 9, none⟩ = some (.string a9) ∧ w'.cell? ⟨w.heap.size, 10, none⟩ = some (.int .i64 a10) ∧ w'.cell? ⟨w.heap.size + 1, 0, none⟩ = some (.int .i64 b0) ∧ w'.cell? ⟨w.heap.size + 1, 1, none⟩ = some (.string b1) ∧ w'.cell? ⟨w.heap.size + 1, 2, none⟩ = some (.slice B nb cb) ∧ w'.cell? ⟨w.heap.size + 1, 3, none⟩ = some (.int .i64 b3) ∧ w'.cell? ⟨w.heap.size + 1, 4, none⟩ = some (.int .i64 b4) ∧ w'.cell? ⟨w.heap.size + 1, 5, none⟩ = some (.string b5) ∧ w'.cell? ⟨w.heap.size + 1, 6, none⟩ = some (.string b6) ∧ w'.cell? ⟨w.heap.size + 1, 7, none⟩ = some (.string b7) ∧ w'.cell? ⟨w.heap.size + 1, 8, none⟩ = some (.string b8) ∧ w'.cell? ⟨w.heap.size + 1, 9, none⟩ = some (.string b9) ∧ w'.cell? ⟨w.heap.size + 1, 10, none⟩ = some (.int .i64 b10)) (first | exact cells22 (by assumption) (by assumption) | exact cells22 RA RB)
    (first
      | (go_at_call 68; refine (numbers_lit _ _ _ _ _ _ _ _ _ _ _ _ _ _).mono ?_; rintro e w5 ⟨rfl, hb5⟩; have RA := row_below RA hb5; have RB := row_below RB hb5; have HB := below_then HB hb5 HB.size)
      | (go_at_call 69; refine (rnames_lit _ _ _ _ _ _ _ _ _ _ _ _ _ _).mono ?_; rintro e w5 ⟨rfl, hb5⟩; have RA := row_below RA hb5; have RB := row_below RB hb5; have HB := below_then HB hb5 HB.size)
      | (go_at_call 70; refine (heq _ HB).mono ?_; rintro e w5 ⟨rfl, hb5⟩; have RA := row_below RA hb5; have RB := row_below RB hb5; have HB := below_then HB hb5 HB.size))
  all_goals
    go_wp2
    go_ret
    exact ⟨rfl, HB⟩

end Go.Proofs.YtahgfmobdfhaaaaGreatDoor
namespace Go.Proofs.YtahgfmobdfhaaaaGreatDoor
set_option maxRecDepth 100000
open Go.ChangeShapes Go.WideShapes Go.ChangeAt Go.RowKit

theorem info_size1 {t : TypeId} (h : (Tryz.prog.info? t).map (·.size) = some 1) : ∃ i, Tryz.prog.info? t = some i := by
  cases hh : Tryz.prog.info? t with
  | none => rw [hh] at h; cases h
  | some i => exact ⟨i, rfl⟩
theorem eqNums (a b c a' b' c' : Int) (W : World) : (binOp .eql 132 (.agg #[.int .i64 a, .int .i64 b, .int .i64 c]) (.agg #[.int .i64 a', .int .i64 b', .int .i64 c'])).run Tryz.prog W = .ok (.bool (decide (a = a' ∧ b = b' ∧ c = c'))) W := by
  obtain ⟨i, hi⟩ := info_size1 (t := 3) (by kernel_rfl)
  have hc : Tryz.prog.cellsOf 3 = 1 := by kernel_rfl
  have ha : ∀ W, (isAgg 3).run Tryz.prog W = .ok false W := fun W => by kernel_rfl
  rw [run_eql_struct, show (10000 : Nat) = 9998 + 1 + 1 from rfl, run_equalIn_array _ _ _ _ Tryz.underlying132 hi, hc]
  simp [Op.eqItems, List.range, List.range.loop, part, ha, run_equalIn_int W 9998 3 .i64 .i64 _ _ Tryz.underlying3, Result.andThen]
  by_cases h1 : a = a' <;> by_cases h2 : b = b' <;> by_cases h3 : c = c' <;> simp [h1, h2, h3]
theorem eqTexts (a b c d e f a' b' c' d' e' f' : Tx) (W : World) : (binOp .eql 134 (.agg #[.string (bs a), .string (bs b), .string (bs c), .string (bs d), .string (bs e), .string (bs f)]) (.agg #[.string (bs a'), .string (bs b'), .string (bs c'), .string (bs d'), .string (bs e'), .string (bs f')])).run Tryz.prog W = .ok (.bool (decide (a = a' ∧ b = b' ∧ c = c' ∧ d = d' ∧ e = e' ∧ f = f'))) W := by
  obtain ⟨i, hi⟩ := info_size1 (t := 9) (by kernel_rfl)
  have hc : Tryz.prog.cellsOf 9 = 1 := by kernel_rfl
  have ha : ∀ W, (isAgg 9).run Tryz.prog W = .ok false W := fun W => by kernel_rfl
  rw [run_eql_struct, show (10000 : Nat) = 9998 + 1 + 1 from rfl, run_equalIn_array _ _ _ _ Tryz.underlying134 hi, hc]
  simp [Op.eqItems, List.range, List.range.loop, part, ha, run_equalIn_string W 9998 9 _ _ Tryz.underlying9, Result.andThen, Lib.toList_data, list_bs]
  by_cases h1 : a = a'
  · by_cases h2 : b = b'
    · by_cases h3 : c = c'
      · by_cases h4 : d = d'
        · by_cases h5 : e = e'
          · by_cases h6 : f = f' <;> simp [h1, h2, h3, h4, h5, h6]
          · simp [h1, h2, h3, h4, h5]
        · simp [h1, h2, h3, h4]
      · simp [h1, h2, h3]
    · simp [h1, h2]
  · simp [h1]
end Go.Proofs.YtahgfmobdfhaaaaGreatDoor
namespace Go.Proofs.YtahgfmobdfhaaaaGreatDoor
set_option maxRecDepth 100000
open Go.ChangeShapes Go.WideShapes Go.ChangeAt Go.RowKit

theorem sameEq (r : Ru) (lb : List Tx) (A B : Option Addr) (ca cb : Nat) (la ln : Int) (w : World) (ha : LAt w A ca r.list) (hb : LAt w B cb lb) :
    Calls Tryz.prog 27 #[ruV r (.slice A r.list.length ca) la, ruV { r with list := lb } (.slice B lb.length cb) ln] w (ValB (.bool (decide (r.list = lb))) w) := by
  obtain ⟨kd, nm, l, rn, rm, rf, rt, rb, ra, ri⟩ := r
  refine same_lists kd rn rm la _ _ _ _ _ _ A l.length ca kd rn rm ln _ _ _ _ _ _ B lb.length cb w (fun W => ?_) (fun W => ?_) _ (fun W hW => Equal_any l lb A B ca cb W (ha.below hW) (hb.below hW))
  · rw [eqNums]; simp
  · rw [eqTexts]; simp
end Go.Proofs.YtahgfmobdfhaaaaGreatDoor
/-
  rule.Print at a rule that has a line.
-/
namespace Go.Proofs.YtahgfmobdfhaaaaGreatDoor
set_option maxRecDepth 100000
open Go.ChangeShapes Go.WideShapes Go.ChangeAt Go.RowKit


theorem map_bs (l : List Tx) : (l.map bs).map (·.data.toList) = l := by
  rw [List.map_map]
  conv => rhs; rw [← List.map_id l]
  apply List.map_congr_left
  intro a _; rfl
theorem Join_any (v : Value) (l : List Tx) (base : Nat) (w : World) (h : OwnL w base v l) (hj : (joinP l).length ≤ 140737488355328) (hl : l.length ≤ 1048676) (h0 : 0 < l.length) :
    Calls Tryz.prog 23 #[v, .string ⟨#[32]⟩] w fun e w' => e = .returned (.string (bs (joinP l))) ∧ Below w.heap.size w w' := by
  obtain ⟨g, cap, rfl, hb, hg, hc, hcells⟩ := own_form h h0
  have hm : (l.map bs).length = l.length := by simp
  have e32 : (⟨#[32]⟩ : ByteArray).data.toList = [32] := rfl
  have := Tryz.strings_Join g 0 cap (l.map bs) ⟨#[32]⟩ w (fun j x hx => by rw [Nat.zero_add]; refine hcells j _ ?_; simp only [scells, List.getElem?_map] at hx ⊢; cases hh : l[j]? with | none => rw [hh] at hx; simp at hx | some t => rw [hh] at hx; simp at hx ⊢; exact hx) hg (by rw [hm]; omega) (by rw [hm]; exact hc) (by rw [map_bs, e32]; exact hj)
  rw [hm, map_bs, e32] at this
  exact this.mono fun e w' h => ⟨h.1, h.2⟩

/-- A rule that has a line (lw: its words' call; line is read as the rule): the line -/
theorem print_ok (kd : Int) (nm : Tx) (l : List Tx) (rn rm : Int) (rf rt rb ra ri : Tx) (A : Option Addr) (ca : Nat) (ln : Int) (W : List Tx) (w : World) (hla : LAt w A ca l)
    (hlw : ∀ X, Below w.heap.size w X → Calls Tryz.prog 24 #[.agg #[.int .i64 kd, .string (bs nm), .slice A l.length ca, .int .i64 rn, .int .i64 rm, .string (bs rf), .string (bs rt), .string (bs rb), .string (bs ra), .string (bs ri), .int .i64 ln]] X (LineTo W X)) (h0 : 0 < W.length) (hn : W.length ≤ 1048676) (hj : (joinP W).length ≤ 1099511627776) (hp : parseL (joinP W) = .ok ⟨kd, nm, l, rn, rm, rf, rt, rb, ra, ri⟩) :
    Calls Tryz.prog 11 #[.agg #[.int .i64 kd, .string (bs nm), .slice A l.length ca, .int .i64 rn, .int .i64 rm, .string (bs rf), .string (bs rt), .string (bs rb), .string (bs ra), .string (bs ri), .int .i64 ln]] w fun e w' => e = .returned (.tuple #[.string (bs (joinP W)), .nilIface]) ∧ Below w.heap.size w w' := by
  have hpar := fun X => Parse_any (bs (joinP W)) ln X (by rw [size_bs]; omega) (fun _ => by have := partL_le (bs (joinP W)).data.toList; rw [list_bs] at this ⊢; omega)
  rw [list_bs, hp] at hpar
  have HP := Lib.hid hpar
  have B0 : Below w.heap.size w (w.alloc (.cells #[.int .i64 kd, .string (bs nm), .slice A l.length ca, .int .i64 rn, .int .i64 rm, .string (bs rf), .string (bs rt), .string (bs rb), .string (bs ra), .string (bs ri), .int .i64 ln] 41)) := (Below.refl _ _).alloc (Nat.le_refl _) _
  have R0 : (w.alloc (.cells #[.int .i64 kd, .string (bs nm), .slice A l.length ca, .int .i64 rn, .int .i64 rm, .string (bs rf), .string (bs rt), .string (bs rb), .string (bs ra), .string (bs ri), .int .i64 ln] 41)).heap[w.heap.size]? = some (.cells #[.int .i64 kd, .string (bs nm), .slice A l.length ca, .int .i64 rn, .int .i64 rm, .string (bs rf), .string (bs rt), .string (bs rb), .string (bs ra), .string (bs ri), .int .i64 ln] 41 (0, 0)) := heap_alloc_new _ _
  have LW := Lib.hid (hlw _ B0)
  clear hpar hlw hp
  go_enter Tryz.func11, Tryz.ntmps11
  go_upto_region 2 with (first
    | (go_at_call 24; refine LW.out.mono ?_; rintro e w1 ⟨v, rfl, ho, hb1⟩)
    | (go_at_call 23; refine (Join_any _ _ _ _ ho (by omega) hn h0).mono ?_; rintro e w2 ⟨rfl, hb2⟩))
  have R2 := row_below (row_below R0 hb1) hb2
  have B2 := below_then (below_then B0 hb1 B0.size) hb2 (Nat.le_trans B0.size hb1.size)
  have q0 := row_q0 R2; have q1 := row_q1 R2; have q2 := row_q2 R2; have q3 := row_q3 R2; have q4 := row_q4 R2; have q5 := row_q5 R2; have q6 := row_q6 R2; have q7 := row_q7 R2; have q8 := row_q8 R2; have q9 := row_q9 R2; have q10 := row_q10 R2
  go_upto_region 3 with (go_at_call 25; refine (HP.out _).mono ?_; rintro e w3 ⟨hb3, L, rfl, ho3⟩; obtain ⟨A2, c2, rfl⟩ := own_slice ho3; dsimp only [ruV])
  clear q0 q1 q2 q3 q4 q5 q6 q7 q8 q9 q10
  have R3 := row_below R2 hb3
  have B3 := below_then B2 hb3 B2.size
  have RA : (w3.alloc (.cells #[.int .i64 kd, .string (bs nm), .slice A2 l.length c2, .int .i64 rn, .int .i64 rm, .string (bs rf), .string (bs rt), .string (bs rb), .string (bs ra), .string (bs ri), .int .i64 ln] 41)).heap[w.heap.size]? = some (.cells #[.int .i64 kd, .string (bs nm), .slice A l.length ca, .int .i64 rn, .int .i64 rm, .string (bs rf), .string (bs rt), .string (bs rb), .string (bs ra), .string (bs ri), .int .i64 ln] 41 (0, 0)) := row_alloc R3 _
  have RB : (w3.alloc (.cells #[.int .i64 kd, .string (bs nm), .slice A2 l.length c2, .int .i64 rn, .int .i64 rm, .string (bs rf), .string (bs rt), .string (bs rb), .string (bs ra), .string (bs ri), .int .i64 ln] 41)).heap[w3.heap.size]? = some (.cells #[.int .i64 kd, .string (bs nm), .slice A2 l.length c2, .int .i64 rn, .int .i64 rm, .string (bs rf), .string (bs rt), .string (bs rb), .string (bs ra), .string (bs ri), .int .i64 ln] 41 (0, 0)) := heap_alloc_new _ _
  have LB : LAt (w3.alloc (.cells #[.int .i64 kd, .string (bs nm), .slice A2 l.length c2, .int .i64 rn, .int .i64 rm, .string (bs rf), .string (bs rt), .string (bs rb), .string (bs ra), .string (bs ri), .int .i64 ln] 41)) A2 c2 l := (lAt_of (listAt_of ho3) hla.2.1).below ((Below.refl _ _).alloc (Nat.le_refl _) _)
  have B4 : Below w.heap.size w (w3.alloc (.cells #[.int .i64 kd, .string (bs nm), .slice A2 l.length c2, .int .i64 rn, .int .i64 rm, .string (bs rf), .string (bs rt), .string (bs rb), .string (bs ra), .string (bs ri), .int .i64 ln] 41)) := B3.alloc B3.size _
  have hb12 := hb1
  clear ho ho3 R3 R2 R0 LW HP
  generalize w3.alloc (.cells #[.int .i64 kd, .string (bs nm), .slice A2 l.length c2, .int .i64 rn, .int .i64 rm, .string (bs rf), .string (bs rt), .string (bs rb), .string (bs ra), .string (bs ri), .int .i64 ln] 41) = w4 at *
  generalize w3.heap.size = b4 at *
  have RA5 := row_alloc RA (.cells #[.pointer none] 60)
  have RB5 := row_alloc RB (.cells #[.pointer none] 60)
  have B5 : Below w4.heap.size w4 (w4.alloc (.cells #[.pointer none] 60)) := (Below.refl _ _).alloc (Nat.le_refl _) _
  have SM : Calls Tryz.prog 27 #[.agg #[.int .i64 kd, .string (bs nm), .slice A2 l.length c2, .int .i64 rn, .int .i64 rm, .string (bs rf), .string (bs rt), .string (bs rb), .string (bs ra), .string (bs ri), .int .i64 ln], .agg #[.int .i64 kd, .string (bs nm), .slice A l.length ca, .int .i64 rn, .int .i64 rm, .string (bs rf), .string (bs rt), .string (bs rb), .string (bs ra), .string (bs ri), .int .i64 ln]] (w4.alloc (.cells #[.pointer none] 60)) (ValB (.bool true) (w4.alloc (.cells #[.pointer none] 60))) := by
    have := sameEq ⟨kd, nm, l, rn, rm, rf, rt, rb, ra, ri⟩ l A2 A c2 ca ln ln _ (LB.below B5) ((hla.below B4).below B5)
    rw [decide_eq_true rfl] at this
    exact this
  clear RA RB LB hla hb12
  have q0 := row_q0 RA5; have q1 := row_q1 RA5; have q2 := row_q2 RA5; have q3 := row_q3 RA5; have q4 := row_q4 RA5; have q5 := row_q5 RA5; have q6 := row_q6 RA5; have q7 := row_q7 RA5; have q8 := row_q8 RA5; have q9 := row_q9 RA5; have q10 := row_q10 RA5
  have r0 := row_q0 RB5; have r1 := row_q1 RB5; have r2 := row_q2 RB5; have r3 := row_q3 RB5; have r4 := row_q4 RB5; have r5 := row_q5 RB5; have r6 := row_q6 RB5; have r7 := row_q7 RB5; have r8 := row_q8 RB5; have r9 := row_q9 RB5; have r10 := row_q10 RB5
  go_wp2_with (first
    | (go_at_call 26; refine (As_nil _ _).mono ?_; rintro e w5 ⟨rfl, rfl⟩)
    | (go_at_call 27; refine SM.mono ?_; rintro e w6 ⟨rfl, hb6⟩))
  go_ret2
  exact ⟨rfl, below_then (B4.alloc B4.size _) hb6 (by have := B4.size; simp; omega)⟩
end Go.Proofs.YtahgfmobdfhaaaaGreatDoor
