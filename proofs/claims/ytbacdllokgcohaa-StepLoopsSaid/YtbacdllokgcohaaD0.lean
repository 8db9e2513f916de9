/-
  errors.Is and errors.As at the two errors that the program makes: a number (api.Errno), and a place that wraps one (*api.Fault): Go's own text of both is walked. The helps Is and At of the statements.
-/
import Derived.Test.YtbacdllokgcohaaSameL
import Derived.LaidEql
import Derived.Lib.IfaceEq
import Derived.Stop.Asserts
import Derived.RowKitTokens
import Derived.Test.YtbacdllokgcohaaRef01b
import Derived.StillTailTactics
import Derived.OwnWalk
import Derived.Deep.DeepMust
import Derived.Lib.BitFns
namespace Go.Proofs.Ytbacdllokgcohaa
set_option maxRecDepth 100000
open Go.RowKit Go.Extern.Stop Go.Stop Go.Extern

theorem Try.compErrno : (Try.prog.info? 51).map (·.comparable) = some true := by kernel_rfl
theorem Try.typeOfErrno (v : Value) (w : World) : (ReflectliteType.typeOf #[.iface 51 v]).run Try.prog w = .ok (.iface 163 (.agg #[.pointer (some ⟨0, 51, none⟩)])) w := by kernel_rfl
theorem Try.comparableErrno (w : World) : ((ReflectliteType.method fun t => do Rtype.noPackHeld "Comparable" t; (fun a => Value.bool a.comparable) <$> typeInfo t) #[.agg #[.pointer (some ⟨0, 51, none⟩)]]).run Try.prog w = .ok (.bool true) w := by kernel_rfl
theorem Try.methodComparable (v : Value) (w : World) : (Go.method 352 163 v "Comparable").run Try.prog w = .ok (184, v) w := by kernel_rfl

theorem Try.noIsNum (v : Value) (xT : TypeId) (w : World) : (Instr.typeAssert (.iface 51 v) xT 165 true).run Try.prog w = .ok (.tuple #[.nilIface, .bool false]) w := run_typeAssert_lacksB Try.underlying165 (by kernel_rfl) (by kernel_rfl) v xT w
theorem Try.noUnwrapsNum (v : Value) (xT : TypeId) (w : World) : (Instr.typeAssert (.iface 51 v) xT 170 true).run Try.prog w = .ok (.tuple #[.nilIface, .bool false]) w := run_typeAssert_lacksB Try.underlying170 (by kernel_rfl) (by kernel_rfl) v xT w
theorem Try.noUnwrapNum (v : Value) (xT : TypeId) (w : World) : (Instr.typeAssert (.iface 51 v) xT 168 true).run Try.prog w = .ok (.tuple #[.nilIface, .bool false]) w := run_typeAssert_lacksB Try.underlying168 (by kernel_rfl) (by kernel_rfl) v xT w
end Go.Proofs.Ytbacdllokgcohaa
/-
  rule.Print: numbers and names: a rule's fields as arrays.
-/
namespace Go.Proofs.Ytbacdllokgcohaa
set_option maxRecDepth 100000
open Go.ChangeShapes Go.WideShapes Go.ChangeAt Go.RowKit

/-- texts in the cells of a slice, wherever it lies -/
def LAt (w : World) (A : Option Addr) (c : Nat) (l : List Tx) : Prop := l.length ≤ c ∧ l.length ≤ 9223372036854775807 ∧ ∀ j (hj : j < l.length), ∃ g off, A = some ⟨g, off, none⟩ ∧ g < w.heap.size ∧ w.cell? ⟨g, off + j, none⟩ = some (.string (bs l[j]))
theorem LAt.below {w w' : World} {A : Option Addr} {c : Nat} {l : List Tx} (h : LAt w A c l) (hb : Below w.heap.size w w') : LAt w' A c l :=
  ⟨h.1, h.2.1, fun j hj => let ⟨g, off, e, hl, hc⟩ := h.2.2 j hj; ⟨g, off, e, Nat.lt_of_lt_of_le hl hb.size, (hb.cell hl).trans hc⟩⟩
end Go.Proofs.Ytbacdllokgcohaa
namespace Go.Proofs.Ytbacdllokgcohaa
set_option maxRecDepth 100000
open Go.ChangeShapes Go.WideShapes Go.ChangeAt Go.RowKit

end Go.Proofs.Ytbacdllokgcohaa
/-
  The reader of the document, its parts.
-/
namespace Go.Proofs.Ytbacdllokgcohaa
set_option maxRecDepth 100000
open Go.ChangeShapes Go.WideShapes Go.ChangeAt Go.RowKit

/-- where the document's reader stands: its words, how many it has passed, whether it has failed -/
def RRd (w : World) (b g cap : Nat) (ws : List (Nat × Tx)) (k : Nat) (m : Bool) : Prop :=
  (∃ x y : Int, w.heap[b]? = some (.cells #[.slice (some ⟨g, 0, none⟩) ws.length cap, .int .i64 k, .int .i64 x, .int .i64 y, .int .i64 (if m then 2 else 0)] 208 (0, 0))) ∧ WAt w g 0 ws ∧ g < w.heap.size ∧ g ≠ b ∧ ws.length ≤ 1000000000 ∧ k ≤ ws.length + 1
theorem WAt.grown {w w' : World} {g : Nat} {ws : List (Nat × Tx)} {r : Option Nat} (h : WAt w g 0 ws) (hg : w.grownBy w' r) (hne : some g ≠ r) : WAt w' g 0 ws := fun j hj =>
  ⟨hg.cell (h j hj).1 (by simpa using hne), hg.cell (h j hj).2.1 (by simpa using hne), (h j hj).2.2⟩
theorem RRd.kept {w w' : World} {b g cap k : Nat} {ws : List (Nat × Tx)} {m : Bool} (h : RRd w b g cap ws k m) (hg : w.grownBy w' none) : RRd w' b g cap ws k m := by
  obtain ⟨⟨x, y, R⟩, hW, hgl, hne, hl, hk⟩ := h
  exact ⟨⟨x, y, (hg.block b (Array.getElem?_eq_some_iff.1 R).1 (by simp)).trans R⟩, hW.grown hg (by simp), Nat.lt_of_lt_of_le hgl hg.size, hne, hl, hk⟩
end Go.Proofs.Ytbacdllokgcohaa
namespace Go.Proofs.Ytbacdllokgcohaa
set_option maxRecDepth 100000
open Go.ChangeShapes Go.WideShapes Go.ChangeAt Go.RowKit

section
variable {w : World} {b g cap k : Nat} {ws : List (Nat × Tx)} {m : Bool}
theorem RRd.q1 (h : RRd w b g cap ws k m) : w.cell? ⟨b, 1, none⟩ = some (.int .i64 k) := by obtain ⟨⟨x, y, R⟩, _⟩ := h; rw [cell_of_row _ _ _ _ _ _ R]; rfl
end
end Go.Proofs.Ytbacdllokgcohaa
namespace Go.Proofs.Ytbacdllokgcohaa
set_option maxRecDepth 100000
open Go.ChangeShapes Go.WideShapes Go.ChangeAt Go.RowKit

end Go.Proofs.Ytbacdllokgcohaa
namespace Go.Proofs.Ytbacdllokgcohaa
set_option maxRecDepth 100000
open Go.ChangeShapes Go.WideShapes Go.ChangeAt Go.RowKit

section
variable {w w' : World} {b g cap k : Nat} {ws : List (Nat × Tx)} {m : Bool}
theorem RRd.q0 (h : RRd w b g cap ws k m) : w.cell? ⟨b, 0, none⟩ = some (.slice (some ⟨g, 0, none⟩) ws.length cap) := by obtain ⟨⟨x, y, R⟩, _⟩ := h; rw [cell_of_row _ _ _ _ _ _ R]; rfl
end
end Go.Proofs.Ytbacdllokgcohaa
namespace Go.Proofs.Ytbacdllokgcohaa
set_option maxRecDepth 100000
open Go.ChangeShapes Go.WideShapes Go.ChangeAt Go.RowKit

end Go.Proofs.Ytbacdllokgcohaa
/-
  slices.Index and slices.Contains of texts.
-/
namespace Go.Proofs.Ytbacdllokgcohaa
set_option maxRecDepth 100000
open Go.ChangeShapes Go.WideShapes Go.ChangeAt Go.RowKit

theorem beq_tx (a c : Tx) : ((bs a).toList == (bs c).toList) = (a == c) := by rw [Lib.toList_data, Lib.toList_data, list_bs, list_bs]
/-- the place of a text; -1: none -/
def idxI (l : List Tx) (x : Tx) : Int := if x ∈ l then (l.idxOf x : Int) else -1
theorem idxOf_at {l : List Tx} {x : Tx} {k : Nat} (h : k < l.length) (e : x = l[k]) (hn : x ∉ l.take k) : l.idxOf x = k := by
  have hs : l = l.take k ++ l[k] :: l.drop (k + 1) := by rw [← List.drop_eq_getElem_cons h, List.take_append_drop]
  rw [hs, List.idxOf_append, if_neg hn, ← e, List.idxOf_cons_self, List.length_take]
  omega
set_option maxHeartbeats 1000000 in
theorem IndexX_any (l : List Tx) (x : Tx) (A : Option Addr) (c : Nat) (w : World) (h : ListAt w A c l) (hl : l.length ≤ 1000000) :
    Calls Try.prog 133 #[.slice A l.length c, .string (bs x)] w fun e w' => e = .returned (.int .i64 (idxI l x)) ∧ w = w' := by
  have hc := h.1
  have h := h.2
  go_enter Try.func133, Try.ntmps133
  go_wp2
  go_loop [5, 8] (fun _ i => ∃ k : Nat, k ≤ l.length ∧ i = .int .i64 k ∧ Hid (x ∉ l.take k)) (fun _ i => l.length - (intOf i).toNat)
  case atStart => exact ⟨0, Nat.zero_le _, rfl, by show ¬ _; simp⟩
  case round =>
    obtain ⟨k, hk, rfl, HI⟩ := hrel
    by_cases hlt : k < l.length
    · obtain ⟨b, rfl, _, hx⟩ := h k hlt
      have hsn : l.take (k + 1) = l.take k ++ [l[k]] := by rw [List.take_succ_eq_append_getElem hlt]
      have hme : l[k] ∈ l := List.getElem_mem hlt
      clear h
      by_cases he : x = l[k]
      · have HM : Hid (idxI l x = k) := by show _ = _; unfold idxI; rw [if_pos (by rw [he]; exact hme), idxOf_at hlt he HI.out]
        have hb : ((bs x).toList == (bs l[k]).toList) = true := by rw [beq_tx]; simp [he]
        clear he hme hsn
        generalize bs l[k] = y at *
        go_wp2
        go_ret
        exact ⟨ret_int HM.out.symm, rfl⟩
      · have HT : Hid (x ∉ l.take (k + 1)) := by
          show ¬ _
          rw [hsn, List.mem_append]
          exact fun hh => hh.elim HI.out (fun h => he (List.mem_singleton.1 h))
        have hb : ((bs x).toList == (bs l[k]).toList) = false := by rw [beq_tx]; simp [he]
        clear he hme hsn
        generalize bs l[k] = y at *
        go_wp2
        go_round
        case rel => exact ⟨k + 1, by omega, by go_num, HT⟩
        case measure => simp [intOf]; omega
    · have HT : Hid (idxI l x = -1) := by have := HI.out; rw [List.take_of_length_le (by omega)] at this; show _ = _; unfold idxI; rw [if_neg this]
      clear h
      go_wp2
      go_ret
      exact ⟨ret_int HT.out.symm, rfl⟩
theorem idxI_ge (l : List Tx) (x : Tx) : decide (0 ≤ idxI l x) = decide (x ∈ l) := by
  unfold idxI; split
  · rename_i h; simp [h]
  · rename_i h; simp [h]
theorem Contains_str (l : List Tx) (x : Tx) (A : Option Addr) (c : Nat) (w : World) (h : ListAt w A c l) (hl : l.length ≤ 1000000) :
    Calls Try.prog 90 #[.slice A l.length c, .string (bs x)] w fun e w' => e = .returned (.bool (decide (x ∈ l))) ∧ w = w' := by
  have HI := Lib.hid (IndexX_any l x A c w h hl)
  have HG := Lib.hid (idxI_ge l x)
  clear h
  go_enter Try.func90, Try.ntmps90
  go_wp2_with (go_at_call 133; refine HI.out.mono ?_; rintro e w1 ⟨rfl, rfl⟩)
  go_ret
  exact ⟨ret_bool HG.out, rfl⟩
end Go.Proofs.Ytbacdllokgcohaa
/-
  How many bits of a number are 1; which sets are broken: plain, no program in it.
-/
namespace Go.Proofs.Ytbacdllokgcohaa
set_option maxRecDepth 100000

/-- how many of the first k bits are 1 -/
def cntTo (s : Nat) : Nat → Nat
  | 0 => 0
  | k + 1 => cntTo s k + (s.testBit k).toNat
def cnt (s : Nat) : Nat := cntTo s 32
theorem cnt_bit (s k : Nat) : (s / 2 ^ k) % 2 = (s.testBit k).toNat := by
  rw [Nat.testBit_eq_decide_div_mod_eq]
  have : s / 2 ^ k % 2 < 2 := Nat.mod_lt _ (by omega)
  by_cases h : s / 2 ^ k % 2 = 1
  · simp [h]
  · have : s / 2 ^ k % 2 = 0 := by omega
    simp [this]
end Go.Proofs.Ytbacdllokgcohaa
