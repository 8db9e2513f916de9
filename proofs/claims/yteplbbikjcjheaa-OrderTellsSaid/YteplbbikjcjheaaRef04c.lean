/-
  The document's order: Up.
-/
import Derived.Test.YteplbbikjcjheaaRef04b
namespace Go.Proofs.Yteplbbikjcjheaa
set_option maxRecDepth 100000
open Go.ChangeShapes Go.WideShapes Go.ChangeAt Go.RowKit

def rowUp (bl : List Nat) (set i out : Nat) : Nat → Nat
  | 0 => out
  | k + 1 => if (set.testBit k && (bl.getD i 0).testBit k) = true then rowUp bl set i out k ||| bitN i else rowUp bl set i out k
def upsTo (bl : List Nat) (set n : Nat) : Nat → Nat
  | 0 => 0
  | i + 1 => rowUp bl set i (upsTo bl set n i) n
theorem rowUp_bit (bl : List Nat) (set i out j : Nat) : ∀ k, (rowUp bl set i out k).testBit j = (out.testBit j || ((i == j) && (List.range k).any fun k => set.testBit k && (bl.getD i 0).testBit k))
  | 0 => by simp [rowUp]
  | k + 1 => by
    have ih := rowUp_bit bl set i out j k
    rw [rowUp, List.range_succ, List.any_append]
    by_cases h : (set.testBit k && (bl.getD i 0).testBit k) = true
    · rw [if_pos h, Nat.testBit_or, ih, pow_bit]
      simp only [List.any_cons, List.any_nil, h, Bool.or_false, Bool.or_true, Bool.and_true]
      cases out.testBit j <;> cases (i == j) <;> simp
    · rw [if_neg h, ih]
      have h' : (set.testBit k && (bl.getD i 0).testBit k) = false := by simpa using h
      simp only [List.any_cons, List.any_nil, h', Bool.or_false]
theorem upsTo_bit (bl : List Nat) (set n j : Nat) : ∀ i, (upsTo bl set n i).testBit j = (decide (j < i) && (List.range n).any fun k => set.testBit k && (bl.getD j 0).testBit k)
  | 0 => by simp [upsTo]
  | i + 1 => by
    have ih := upsTo_bit bl set n j i
    rw [upsTo, rowUp_bit, ih]
    by_cases e : i = j
    · subst e; simp
    · have e1 : (i == j) = false := by simpa using e
      have e2 : decide (j < i + 1) = decide (j < i) := by rw [decide_eq_decide]; omega
      rw [e1, e2]; simp
theorem rowUp_lo {bl : List Nat} {set i out : Nat} (hi : i < 24) (ho : out < 16777216) : ∀ k, rowUp bl set i out k < 16777216
  | 0 => ho
  | k + 1 => by
    rw [rowUp]; split
    · exact or_lo (rowUp_lo hi ho k) (pow_lo hi)
    · exact rowUp_lo hi ho k
theorem upsTo_lo (bl : List Nat) (set n : Nat) : ∀ i, i ≤ 24 → upsTo bl set n i < 16777216
  | 0, _ => by rw [upsTo]; omega
  | i + 1, h => rowUp_lo (by omega) (upsTo_lo bl set n i (by omega)) n
/-- where no set has a bit beyond the names -/
theorem upsTo_upper (bl : List Nat) (set n : Nat) (hb : ∀ i j, rel bl i j = true → j < n) : upsTo bl set n n = upperTo bl set n := by
  apply Nat.eq_of_testBit_eq
  intro j
  rw [upsTo_bit, upperTo_bit]
  congr 1
  rw [Bool.eq_iff_iff, List.any_eq_true, decide_eq_true_eq]
  constructor
  · rintro ⟨k, _, h⟩ e
    rw [Bool.and_eq_true] at h
    have := and_zero.1 e k
    rw [h.1, h.2] at this; cases this
  · intro h
    refine Classical.byContradiction fun hn => h (and_zero.2 fun k => ?_)
    cases h1 : (bl.getD j 0).testBit k
    · rfl
    · cases h2 : set.testBit k
      · rfl
      · exact absurd ⟨k, List.mem_range.2 (hb j k h1), by rw [h1, h2]; rfl⟩ hn
set_option maxHeartbeats 2000000 in
theorem RUp_any (g : Nat) (names : List Tx) (bl : List Nat) (w : World) (set : Nat) (hs : set < 4294967296) (h : OrdD w g names bl) : Calls Try.prog 26 #[.pointer (some ⟨g, 0, none⟩), .int .u32 set] w fun e w' => e = .returned (.int .u32 (upsTo bl set names.length names.length : Nat)) ∧ w = w' := by
  obtain ⟨A, c, h0, hL⟩ := h.list
  obtain ⟨B, d, h1, hd, hc⟩ := h.sets
  have hcc := hL.1
  have hf := h.few
  have HC := Lib.hid hc
  have HLO := Lib.hid h.lo
  clear hc h hL
  generalize hN : names.length = N at *
  have HN := Lib.hid hN
  clear hN
  go_enter Try.func26, Try.ntmps26
  go_wp2
  go_loop [5, 13] (fun v i => ∃ k : Nat, k ≤ N ∧ v = .int .u32 (upsTo bl set N k : Nat) ∧ i = .int .i64 k) (fun _ i => N - (intOf i).toNat)
  case atStart => exact ⟨0, Nat.zero_le _, rfl, rfl⟩
  case round =>
    obtain ⟨i, hi, rfl, rfl⟩ := hrel
    by_cases hil : i < N
    · have hou := upsTo_lo bl set N i (by omega)
      have HS1 : Hid (upsTo bl set N (i + 1) = rowUp bl set i (upsTo bl set N i) N) := rfl
      generalize upsTo bl set N i = out at *
      go_upto_region 6 with fail
      go_loop [5, 21] (fun v j => ∃ k : Nat, k ≤ N ∧ v = .int .u32 (rowUp bl set i out k : Nat) ∧ j = .int .i64 k) (fun _ j => N - (intOf j).toNat)
      case atStart => exact ⟨0, Nat.zero_le _, rfl, rfl⟩
      case round =>
        obtain ⟨k, hk, rfl, rfl⟩ := hrel
        by_cases hkl : k < N
        · obtain ⟨b, rfl, _, hx⟩ := HC.out i hil
          have hlo := rowUp_lo (bl := bl) (set := set) (show i < 24 by omega) hou k
          have b1 := shr_bit0 set k hs
          have b2 := shr_bit0 (bl.getD i 0) k (lo_32 HLO.out i)
          have bv := bit_val (i := i) (by omega)
          have hv := or_val _ _ hlo (pow_lo (show i < 24 by omega))
          have hsn : rowUp bl set i out (k + 1) = if (set.testBit k && (bl.getD i 0).testBit k) = true then rowUp bl set i out k ||| bitN i else rowUp bl set i out k := rfl
          have ji : (0 : Int) ≤ i := by omega
          have ji2 : (i : Int) < N := by omega
          generalize hs1 : set.testBit k = s1 at *
          generalize hs2 : (bl.getD i 0).testBit k = s2 at *
          clear hs1 hs2
          generalize rowUp bl set i out k = y at *
          generalize y ||| bitN i = z at *
          generalize bitN i = bi at *
          generalize bl.getD i 0 = x at *
          have HSN := Lib.hid hsn
          clear hsn
          rcases s1 with _ | _
          all_goals rcases s2 with _ | _
          all_goals
            go_wp2
            go_round
            case rel => exact ⟨k + 1, by omega, by rw [HSN.out]; rfl, by go_num⟩
            case measure => simp [intOf]; omega
        · have HK : Hid (rowUp bl set i out k = upsTo bl set N (i + 1)) := by show _ = _; rw [HS1.out]; congr 1; omega
          go_wp2
          go_round
          case rel => exact ⟨i + 1, by omega, by rw [HK.out], by go_num⟩
          case measure => simp [intOf]; omega
    · have HK : Hid (i = N) := by show _ = _; omega
      go_wp2
      go_ret
      exact ⟨ret_int (by rw [HK.out]), rfl⟩
end Go.Proofs.Yteplbbikjcjheaa
