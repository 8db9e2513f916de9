/-
  Listed tables; what chapter 2 asks of rules.
-/
import Derived.Test.YtkgjcahcpeehjaaGreatDoorAs
import Derived.Test.YtkgjcahcpeehjaaGreatDoorOwn
import Derived.ChangeSame
import Derived.ChangeVars
import Derived.JoinedOf
import Derived.RowKit
import Derived.RowKitTokens
import Derived.LaidLaws
import Derived.LaidHandle
import Derived.Stop.Joined
import Derived.Lay
import Derived.Test.YtkgjcahcpeehjaaGreatDoorRuleEq
namespace Go.Proofs.YtkgjcahcpeehjaaGreatDoor
set_option maxRecDepth 100000
open Go.ChangeShapes Go.WideShapes Go.RowKit

theorem Tryz.gET : Tryz.prog.globalNamed "errors.errorType" = some 0 := by kernel_rfl
theorem Tryz.tRT : (Tryz.prog.cutTypes.find? (·.1 == "internal/reflectlite.rtype")).map (·.2) = some 215 := by kernel_rfl
theorem Tryz.oneError : ((List.range 297).filter fun t => Tryz.prog.rowNamed t [101, 114, 114, 111, 114]) = [27] := by kernel_rfl
theorem Tryz.tySize : Tryz.prog.types.size = 297 := by kernel_rfl
theorem handle_of {ls : List (String × DataW Unit)} {W : World} (h : laidMet Tryz.prog ls W ∧ handlesMet Tryz.prog [("errors.errorType", Rows.laid_errors_errorType)] W) : HandleAt W := by
  obtain ⟨name, u, ty, e1, e2, e3, e4, e5⟩ := h.2 _ (List.mem_singleton.2 rfl)
  have en : name = [101, 114, 114, 111, 114] := (Option.some.inj e1).symm
  subst en
  obtain rfl := Option.some.inj (Tryz.tRT.symm.trans e2)
  have hm : ty ∈ (List.range 297).filter fun t => Tryz.prog.rowNamed t [101, 114, 114, 111, 114] := List.mem_filter.2 ⟨List.mem_range.2 (by rw [← Tryz.tySize]; exact e3), e4⟩
  rw [Tryz.oneError] at hm
  obtain rfl := List.mem_singleton.1 hm
  have hh : typeHandle Tryz.prog 27 = .pointer (some ⟨7, 27, none⟩) := by kernel_rfl
  rw [hh] at e5
  unfold HandleAt
  simpa using World.var?_cell Tryz.gET e5 0
/-- the settled world, errors.errorType laid -/
noncomputable def laidWorld (os : Os) : World :=
  let w0 := World.holding Tryz.prog os ⟨#[], #[], []⟩
  { w0 with heap := w0.heap.modify 0 fun
      | .cells _ t frozen => .cells #[.iface 215 (.agg #[.pointer (some ⟨7, 27, none⟩)])] t frozen
      | o => o }
theorem laidWorld_met (os : Os) (args : Array Value) : laidMetH Tryz.prog [("errors.errorType", Rows.laid_errors_errorType)] ((laidWorld os).forCall (fun _ _ => 0) ⟨#[], args, []⟩).memory :=
  laidMetH_of_parts (laidMet_nil _ _) (by kernel_rfl)
end Go.Proofs.YtkgjcahcpeehjaaGreatDoor
namespace Go.Proofs.YtkgjcahcpeehjaaGreatDoor
set_option maxRecDepth 100000
open Go.ChangeShapes Go.WideShapes Go.RowKit

abbrev laid3 : List (String × DataW Unit) := [("math/bits.deBruijn32tab", Rows.laid_math_bits_deBruijn32tab), ("math/bits.deBruijn64tab", Rows.laid_math_bits_deBruijn64tab), ("internal/strconv.uint64pow10", Rows.laid_internal_strconv_uint64pow10)]
abbrev laid4 : List (String × DataW Unit) := [("math/bits.deBruijn32tab", Rows.laid_math_bits_deBruijn32tab), ("math/bits.deBruijn64tab", Rows.laid_math_bits_deBruijn64tab), ("internal/strconv.uint64pow10", Rows.laid_internal_strconv_uint64pow10), ("errors.errorType", Rows.laid_errors_errorType)]
/-- the settled world, the tables laid, errors.errorType laid -/
noncomputable def laidWorld4 (os : Os) : World :=
  let w0 := World.laidAll Tryz.prog os laid3
  { w0 with heap := w0.heap.modify 0 fun
      | .cells _ t frozen => .cells #[.iface 215 (.agg #[.pointer (some ⟨7, 27, none⟩)])] t frozen
      | o => o }
theorem laidWorld4_met (os : Os) (args : Array Value) : laidMetH Tryz.prog laid4 ((laidWorld4 os).forCall (fun _ _ => 0) ⟨#[], args, []⟩).memory :=
  laidMetH_of_parts (laidMet_of_run' 1000 (by kernel_rfl) (by kernel_rfl)) (by kernel_rfl)
theorem handle4_of {W : World} (h : laidMetH Tryz.prog laid4 W) : HandleAt W := handle_of (ls := laid3) h
end Go.Proofs.YtkgjcahcpeehjaaGreatDoor
namespace Go.Proofs.YtkgjcahcpeehjaaGreatDoor
set_option maxRecDepth 100000
open Go.ChangeShapes Go.WideShapes Go.ChangeAt Go.RowKit

/-! ### the document's example -/
def exLine : List UInt8 := [114, 111, 108, 101, 32, 104, 101, 97, 100, 32, 62, 32, 99, 108, 101, 114, 107]
theorem ex_part : partL exLine = exLine := by decide +kernel
theorem ex_bad : badL exLine = 0 := by decide +kernel
theorem ex_words : wordsL exLine = [(1, [114, 111, 108, 101]), (6, [104, 101, 97, 100]), (11, [62]), (13, [99, 108, 101, 114, 107])] := by
  unfold wordsL
  rw [ex_bad, ex_part]
  unfold exLine
  rw [if_pos rfl]
  rw [toks_word (by decide), show word [114, 111, 108, 101, 32, 104, 101, 97, 100, 32, 62, 32, 99, 108, 101, 114, 107] = [114, 111, 108, 101] by decide]
  simp only [List.length_cons, List.length_nil, List.drop_succ_cons, List.drop_zero, Nat.zero_add, Nat.reduceAdd]
  rw [toks_blank, toks_word (by decide), show word [104, 101, 97, 100, 32, 62, 32, 99, 108, 101, 114, 107] = [104, 101, 97, 100] by decide]
  simp only [List.length_cons, List.length_nil, List.drop_succ_cons, List.drop_zero, Nat.zero_add, Nat.reduceAdd]
  rw [toks_blank, toks_word (by decide), show word [62, 32, 99, 108, 101, 114, 107] = [62] by decide]
  simp only [List.length_cons, List.length_nil, List.drop_succ_cons, List.drop_zero, Nat.zero_add, Nat.reduceAdd]
  rw [toks_blank, toks_word (by decide), show word [99, 108, 101, 114, 107] = [99, 108, 101, 114, 107] by decide]
  simp [toks_nil]
def exRule : Ru := { kind := 1, name := [104, 101, 97, 100], list := [[99, 108, 101, 114, 107]] }
theorem ex_parse : parseL exLine = .ok exRule := by
  unfold parseL
  rw [ex_bad, ex_words]
  kernel_rfl
theorem one_cell {W : World} {n j : Nat} {x : Tx} {e : TypeId} (h : n = W.heap.size) (hj : j < [x].length) : (W.alloc (.cells #[.string (bs x)] e)).cell? ⟨n, j, none⟩ = some (.string (bs [x][j])) := by
  subst h
  obtain rfl : j = 0 := by simpa using hj
  exact new_cell W _ _ 0
theorem one_at {W : World} {n : Nat} (h : n = W.heap.size) (x : Tx) (e : TypeId) : ListAt (W.alloc (.cells #[.string (bs x)] e)) (some ⟨n, 0, none⟩) 1 [x] :=
  ⟨Nat.le_refl _, fun j hj => ⟨n, rfl, by simp; omega, one_cell h hj⟩⟩
set_option maxHeartbeats 2000000 in
theorem wakes02 (w : World) : Calls Tryz.prog 14 #[] w (TrueOn w) := by
  have hp := fun W => Parse_any ⟨#[114, 111, 108, 101, 32, 104, 101, 97, 100, 32, 62, 32, 99, 108, 101, 114, 107]⟩ 3 W (by decide) (fun _ => by show (partL exLine).length ≤ _; rw [ex_part]; decide)
  rw [show parseL (⟨#[114, 111, 108, 101, 32, 104, 101, 97, 100, 32, 62, 32, 99, 108, 101, 114, 107]⟩ : ByteArray).data.toList = .ok exRule from ex_parse] at hp
  have HP := Lib.hid hp
  clear hp
  have hh : (bs [104, 101, 97, 100]).toList = [104, 101, 97, 100] := by rw [Lib.toList_data, list_bs]
  go_enter Tryz.func14, Tryz.ntmps14
  go_wp2_with (first
    | (go_at_call 46; refine (HP.out _).mono ?_; rintro e w1 ⟨hb, L, rfl, ho⟩; obtain ⟨A1, c1, rfl⟩ := own_slice ho; have hla := listAt_of ho; clear ho; dsimp only [ruV, exRule, List.length])
    | (go_at_call 53; refine (Same_at [[99, 108, 101, 114, 107]] A1 (some ⟨w1.heap.size + 1, 0, none⟩) c1 1 _ (by decide) (hla.below (((Below.refl _ _).alloc (Nat.le_refl _) _).alloc (by simp) _)) (one_at (by simp) _ _)).mono ?_; rintro e w3 ⟨rfl, hb3⟩; have k10 := (hb3.cell (p := ⟨w1.heap.size, 10, none⟩) (by simp; omega)).trans ((World.cell?_alloc_lt _ _ _ (by simp)).trans (new_cell w1 _ _ 10))))
  go_ret
  exact ⟨rfl, below_then (((hb.alloc hb.size _).alloc (by have := hb.size; simp; omega) _)) hb3 (by have := hb.size; simp; omega)⟩
end Go.Proofs.YtkgjcahcpeehjaaGreatDoor
