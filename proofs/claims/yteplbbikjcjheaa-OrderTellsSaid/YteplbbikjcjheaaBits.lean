/-
  Sets as bits: lists of them in memory of the call's own; order's bit, has.
-/
import Derived.Test.YteplbbikjcjheaaBase
import Derived.Test.YteplbbikjcjheaaO0
import Derived.Laws.ShiftsVar
namespace Go.Proofs.Yteplbbikjcjheaa
set_option maxRecDepth 100000
open Go.ChangeShapes Go.WideShapes Go.ChangeAt Go.RowKit

theorem bit_lt {i : Nat} (h : i < 32) : bitN i < 4294967296 := Nat.pow_lt_pow_right (a := 2) (by omega) h
theorem bit_val {i : Nat} (h : i < 32) : (2 : Int) ^ i % 4294967296 = (bitN i : Int) := by
  have := bit_lt h
  have e : (2 : Int) ^ i = (bitN i : Int) := by unfold bitN; norm_cast
  rw [e]; omega
set_option maxHeartbeats 400000 in
theorem bit_any (i : Nat) (w : World) (hi : i < 32) : Calls Try.prog 43 #[.int .i64 i] w fun e w' => e = .returned (.int .u32 (bitN i : Int)) ∧ w = w' := by
  go_enter Try.func43, Try.ntmps43
  go_wp2
  go_ret
  exact ⟨ret_int (bit_val hi), rfl⟩
theorem and_bit (s i : Nat) : (s &&& bitN i = 0) ↔ s.testBit i = false := by
  constructor
  · intro h
    have := congrArg (·.testBit i) h
    simpa [Nat.testBit_and, bitN, Nat.testBit_two_pow] using this
  · intro h
    apply Nat.eq_of_testBit_eq
    intro j
    rw [Nat.testBit_and, bitN, Nat.testBit_two_pow, Nat.zero_testBit]
    by_cases e : i = j
    · subst e; simp [h]
    · simp [e]
theorem has_val (s i : Nat) (hs : s < 4294967296) (hi : i < 32) : (bits .and .u32 (s : Int) (bitN i : Int) != 0) = s.testBit i := by
  rw [u32_and_nat s (bitN i) hs (bit_lt hi)]
  have h := and_bit s i
  cases hb : s.testBit i
  · have := h.2 hb
    simp [this]
  · have : s &&& bitN i ≠ 0 := fun e => by rw [h.1 e] at hb; cases hb
    simp; omega
theorem has_any (s i : Nat) (w : World) (hs : s < 4294967296) (hi : i < 32) : Calls Try.prog 47 #[.int .u32 s, .int .i64 i] w fun e w' => e = .returned (.bool (s.testBit i)) ∧ w = w' := by
  have HV := Lib.hid (has_val s i hs hi)
  have hb := bit_lt hi
  go_enter Try.func47, Try.ntmps47
  go_wp2_with (go_at_call 43; refine (bit_any i _ hi).mono ?_; rintro e w1 ⟨rfl, rfl⟩)
  go_ret
  exact ⟨ret_bool HV.out, rfl⟩

/-! ### lists of sets in a block of the call's own -/
def ucells (l : List Nat) : List Value := l.map fun s : Nat => Value.int .u32 (s : Int)
def UL (w : World) (base g : Nat) (l : List Nat) : Prop := w.ownsRow base 23 1 (.slice (some ⟨g, 0, none⟩) l.length l.length) l.length (ucells l)
theorem ul_cell {w : World} {base g : Nat} {l : List Nat} (h : UL w base g l) {j : Nat} (hj : j < l.length) : w.cell? ⟨g, j, none⟩ = some (.int .u32 (l.getD j 0 : Nat)) := by
  rw [World.ownsRow.cellAt h j (by omega)]
  simp [ucells, List.getD_eq_getElem?_getD, hj]
theorem ul_frozen {w : World} {base g : Nat} {l : List Nat} (h : UL w base g l) (j : Nat) : w.frozen? ⟨g, j, none⟩ = false := World.ownsRow.frozenAt h j
theorem ul_store {w : World} {base g : Nat} {l : List Nat} (h : UL w base g l) (j v : Nat) : UL (w.setCell ⟨g, j, none⟩ (.int .u32 v)) base g (l.set j v) ∧ w.grownBy (w.setCell ⟨g, j, none⟩ (.int .u32 v)) (some g) := by
  obtain ⟨h1, h2⟩ := World.ownsRow.stored h j (.int .u32 v)
  refine ⟨?_, h2⟩
  unfold UL
  rw [List.length_set]
  have : ucells (l.set j v) = (ucells l).set j (.int .u32 v) := by simp [ucells, List.map_set]
  rw [this]
  exact h1
theorem ul_lt {w : World} {base g : Nat} {l : List Nat} (h : UL w base g l) : base ≤ g ∧ g < w.heap.size := h.lt g rfl
theorem ul_below {w w' : World} {base g : Nat} {l : List Nat} (h : UL w base g l) (hb : Below w.heap.size w w') (hB : base ≤ w.heap.size) : UL w' base g l := own_below h hb hB
end Go.Proofs.Yteplbbikjcjheaa
