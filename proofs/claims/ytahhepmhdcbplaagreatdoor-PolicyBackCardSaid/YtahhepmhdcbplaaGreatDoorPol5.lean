/-
  policy.Of: the rules of some kinds, in new memory.
-/
import Derived.Test.YtahhepmhdcbplaaGreatDoorPol4
import Derived.Test.YtahhepmhdcbplaaGreatDoorRuleEq
import Derived.Test.YtahhepmhdcbplaaGreatDoorClone
import Derived.OwnWalk
import Derived.Deep.DeepMust
namespace Go.Proofs.YtahhepmhdcbplaaGreatDoor
set_option maxRecDepth 100000
open Go.ChangeShapes Go.WideShapes Go.ChangeAt Go.RowKit

/-- integers in a block's cells, from its first on -/
def KAt (w : World) (A : Option Addr) (ks : List Int) : Prop := ∀ j (h : j < ks.length), ∃ b, A = some ⟨b, 0, none⟩ ∧ b < w.heap.size ∧ w.cell? ⟨b, j, none⟩ = some (.int .i64 ks[j])
theorem KAt.below {w w' : World} {A : Option Addr} {ks : List Int} (h : KAt w A ks) (hb : Below w.heap.size w w') : KAt w' A ks := fun j hj =>
  let ⟨b, e, hl, hc⟩ := h j hj
  ⟨b, e, Nat.lt_of_lt_of_le hl hb.size, (hb.cell (p := ⟨b, j, none⟩) hl).trans hc⟩
def IdxTo (ks : List Int) (x : Int) (w : World) (e : Ending) (w' : World) : Prop := ∃ r : Int, e = .returned (.int .i64 r) ∧ decide (0 ≤ r) = decide (x ∈ ks) ∧ w = w'
theorem idxTo_mk {ks : List Int} {x r : Int} {w : World} (h : decide (0 ≤ r) = decide (x ∈ ks)) : IdxTo ks x w (.returned (.int .i64 r)) w := ⟨r, rfl, h, rfl⟩
set_option maxHeartbeats 1000000 in
theorem IndexI_any (ks : List Int) (x : Int) (A : Option Addr) (c : Nat) (w : World) (h : KAt w A ks) (hl : ks.length ≤ 1000000) (_hc : ks.length ≤ c) :
    Calls Tryz.prog 77 #[.slice A ks.length c, .int .i64 x] w (IdxTo ks x w) := by
  go_enter Tryz.func77, Tryz.ntmps77
  go_wp2
  go_loop [5, 8] (fun _ i => ∃ k : Nat, k ≤ ks.length ∧ i = .int .i64 k ∧ Hid (x ∉ ks.take k)) (fun _ i => ks.length - (intOf i).toNat)
  case atStart => exact ⟨0, Nat.zero_le _, rfl, by show ¬ _; simp⟩
  case round =>
    obtain ⟨k, hk, rfl, HI⟩ := hrel
    by_cases hlt : k < ks.length
    · obtain ⟨b, rfl, _, hx⟩ := h k hlt
      have hsn : ks.take (k + 1) = ks.take k ++ [ks[k]] := by rw [List.take_succ_eq_append_getElem hlt]
      have hme : ks[k] ∈ ks := List.getElem_mem hlt
      clear h
      by_cases he : x = ks[k]
      · have HM : Hid (x ∈ ks) := by show _; rw [he]; exact hme
        have hb : (x == ks[k]) = true := by simp [he]
        clear he hme hsn
        go_wp2
        go_ret
        exact idxTo_mk (by simp [show x ∈ ks from HM])
      · have HT : Hid (x ∉ ks.take (k + 1)) := by
          show ¬ _
          rw [hsn, List.mem_append]
          exact fun hh => hh.elim HI.out (fun h => he (List.mem_singleton.1 h))
        have hb : (x == ks[k]) = false := by simp [he]
        clear he hme hsn
        go_wp2
        go_round
        case rel => exact ⟨k + 1, by omega, by go_num, HT⟩
        case measure => simp [intOf]; omega
    · have HT : Hid (x ∉ ks) := by have := HI.out; rw [List.take_of_length_le (by omega)] at this; exact this
      clear h
      go_wp2
      go_ret
      exact idxTo_mk (by simp [show x ∉ ks from HT.out])
theorem Contains_any (ks : List Int) (x : Int) (A : Option Addr) (c : Nat) (w : World) (h : KAt w A ks) (hl : ks.length ≤ 1000000) (hc : ks.length ≤ c) :
    Calls Tryz.prog 42 #[.slice A ks.length c, .int .i64 x] w fun e w' => e = .returned (.bool (decide (x ∈ ks))) ∧ w = w' := by
  have HI := Lib.hid (IndexI_any ks x A c w h hl hc)
  clear h
  go_enter Tryz.func42, Tryz.ntmps42
  go_wp2_with (go_at_call 77; refine HI.out.mono ?_; rintro e w1 ⟨r, rfl, hr, rfl⟩; have HR := Lib.hid hr; clear hr)
  go_ret
  exact ⟨ret_bool HR.out, rfl⟩
/-! ### rules in cells -/
theorem rcell_len (x : RL) : (rcell x).length = 11 := rfl
theorem rcells_at : ∀ (acc : List RL) (j f : Nat) (h : j < acc.length), f < 11 → (rcells acc)[j * 11 + f]? = (rcell acc[j])[f]?
  | x :: r, 0, f, _, hf => by
    show (rcell x ++ rcells r)[_]? = _
    rw [List.getElem?_append_left (by rw [rcell_len]; omega)]; simp
  | x :: r, j + 1, f, h, hf => by
    show (rcell x ++ rcells r)[_]? = _
    rw [List.getElem?_append_right (by rw [rcell_len]; omega), rcell_len, show (j + 1) * 11 + f - 11 = j * 11 + f by omega]
    exact rcells_at r j f (by simpa using h) hf
/-- rules that can be read -/
def RIn (w : World) (A : Option Addr) (acc : List RL) : Prop := ∀ j (h : j < acc.length), ∃ g, A = some ⟨g, 0, none⟩ ∧ g < w.heap.size ∧ (∀ f u, f < 11 → (rcell acc[j])[f]? = some u → w.cell? ⟨g, j * 11 + f, none⟩ = some u) ∧
  ∃ B c, acc[j].2.2 = .slice B acc[j].1.list.length c ∧ ListAt w B c acc[j].1.list
theorem RIn.below {w w' : World} {A : Option Addr} {acc : List RL} (h : RIn w A acc) (hb : Below w.heap.size w w') : RIn w' A acc := fun j hj =>
  let ⟨g, e, hl, hc, B, c, e2, hL⟩ := h j hj
  ⟨g, e, Nat.lt_of_lt_of_le hl hb.size, fun f u hf hu => (hb.cell (p := ⟨g, j * 11 + f, none⟩) hl).trans (hc f u hf hu), B, c, e2, hL.below hb⟩
theorem rIn_of {w : World} {base cap : Nat} {A : Option Addr} {acc : List RL} (h : RowsAt w base (.slice A acc.length cap) acc) : RIn w A acc := fun j hj => by
  obtain ⟨g, cap', e, _, hl, _, hc⟩ := own_form h.1 (by omega)
  have eA : A = some ⟨g, 0, none⟩ := by injection e
  obtain ⟨B, c, e2⟩ := own_slice (h.2 acc[j] (List.getElem_mem hj))
  refine ⟨g, eA, hl, fun f u hf hu => hc _ _ (by rw [rcells_at acc j f hj hf]; exact hu), B, c, e2, ?_⟩
  have ho := h.2 acc[j] (List.getElem_mem hj)
  rw [e2] at ho
  exact listAt_of ho
end Go.Proofs.YtahhepmhdcbplaaGreatDoor
