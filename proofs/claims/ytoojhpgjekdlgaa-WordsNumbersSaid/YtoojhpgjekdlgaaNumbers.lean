/-
  WordsNumbers: a number's digits are read as it; what is no number is none: for every integer.
-/
import Derived.Test.YtoojhpgjekdlgaaWakes01
import Derived.Test.YtoojhpgjekdlgaaKeep
namespace Go.Proofs.Ytoojhpgjekdlgaa
open Go.ChangeShapes Go.WideShapes Go.ChangeAt Go.RowKit

theorem digs_all (n : Nat) : allB digB (digs n) = true := by
  induction n using Nat.strongRecOn with
  | ind n ih =>
    have hd : ∀ m, m < 10 → digB (dgt m).toNat = true := by
      intro m hm; rw [dgt_nat m hm]; simp [digB]; omega
    rw [digs]; split
    · rename_i h; simp [allB, hd n h]
    · rw [allB_snoc, ih _ (by omega), hd _ (by omega)]; rfl
theorem digs_pos (n : Nat) : 1 ≤ (digs n).length := by
  rw [digs]; split <;> simp
theorem digs_len (k : Nat) : ∀ n, n < 10 ^ (k + 1) → (digs n).length ≤ k + 1 := by
  induction k with
  | zero => intro n h; rw [digs, if_pos (by simpa using h)]; simp
  | succ k ih =>
    intro n h
    rw [digs]; split
    · simp
    · have := ih (n / 10) (by rw [Nat.pow_succ] at h; omega)
      simp; omega
theorem digs_val (n : Nat) : valL (digs n) = n := by
  induction n using Nat.strongRecOn with
  | ind n ih =>
    rw [digs]; split
    · rename_i h; have := dgt_nat n h; simp [valL, this]
    · rw [valL_snoc, ih _ (by omega), dgt_nat _ (by omega)]; omega
theorem digs_head (n : Nat) : n < 10 ∨ ∃ b r, digs n = b :: r ∧ b ≠ 48 := by
  induction n using Nat.strongRecOn with
  | ind n ih =>
    by_cases h : n < 10
    · exact .inl h
    · right
      rw [digs, if_neg h]
      rcases ih (n / 10) (by omega) with h2 | ⟨b, r, e, hb⟩
      · rw [digs, if_pos h2]
        refine ⟨_, _, rfl, ?_⟩
        intro e
        have := congrArg UInt8.toNat e
        rw [dgt_nat _ h2] at this
        have h48 : (48 : UInt8).toNat = 48 := rfl
        omega
      · exact ⟨b, _, by rw [e]; rfl, hb⟩
theorem digs_num (n : Nat) (h : n < 1000000000) : isNum (digs n) = true := by
  have h1 := digs_pos n
  have h2 := digs_len 8 n (by omega)
  unfold isNum
  rw [digs_all, decide_eq_true h1, decide_eq_true (by omega : (digs n).length ≤ 9)]
  have : ((digs n).head? == some (48 : UInt8) && decide (1 < (digs n).length)) = false := by
    rcases digs_head n with h | ⟨b, r, e, hb⟩
    · rw [digs, if_pos h]; simp
    · rw [e]; simp [hb]
  rw [this]; rfl
theorem noNum_first (b : UInt8) (l : List UInt8) (h : digB b.toNat = false) : isNum (b :: l) = false := by
  simp [isNum, allB, h]
theorem noNum_last (l : List UInt8) (b : UInt8) (h : digB b.toNat = false) : isNum (l ++ [b]) = false := by
  unfold isNum; rw [allB_snoc, h]; simp
theorem noNum_nought (l : List UInt8) (h : 1 ≤ l.length) : isNum (48 :: l) = false := by
  have : (decide (1 < ((48 : UInt8) :: l).length)) = true := by simp; omega
  unfold isNum; rw [this]; simp
theorem noNum_long (l : List UInt8) (h : 9 < l.length) : isNum l = false := by
  unfold isNum; rw [decide_eq_false (by omega : ¬ l.length ≤ 9)]; simp
/-- what the loop of WordsNumbers asks, as texts -/
def odd9 (l : List UInt8) : List (List UInt8) := [[], 45 :: l, 43 :: l, 32 :: l, l ++ [32], 48 :: l, l ++ [120], [49, 50, 51, 52, 53, 54, 55, 56, 57, 48], l ++ [46]]
theorem odd9_no (l : List UInt8) (h : 1 ≤ l.length) : ∀ t ∈ odd9 l, isNum t = false := by
  intro t ht
  simp only [odd9, List.mem_cons, List.mem_nil_iff, or_false] at ht
  rcases ht with rfl | rfl | rfl | rfl | rfl | rfl | rfl | rfl | rfl
  · rfl
  · exact noNum_first _ _ rfl
  · exact noNum_first _ _ rfl
  · exact noNum_first _ _ rfl
  · exact noNum_last _ _ rfl
  · exact noNum_nought _ h
  · exact noNum_last _ _ rfl
  · exact noNum_long _ (by decide)
  · exact noNum_last _ _ rfl
theorem odd9_size (l : List UInt8) (h : l.length ≤ 9) : ∀ t ∈ odd9 l, t.length ≤ 10 := by
  intro t ht
  simp only [odd9, List.mem_cons, List.mem_nil_iff, or_false] at ht
  rcases ht with rfl | rfl | rfl | rfl | rfl | rfl | rfl | rfl | rfl <;> simp <;> omega
def cells9 (l : List UInt8) : List Value := (odd9 l).map fun t => .string (bs t)
theorem cells9_at (l : List UInt8) (k : Nat) (h : k < 9) : ∃ t, (cells9 l)[k]? = some (.string (bs t)) ∧ t ∈ odd9 l := by
  have hl : k < (odd9 l).length := h
  refine ⟨(odd9 l)[k], ?_, List.getElem_mem _⟩
  rw [cells9, List.getElem?_map, List.getElem?_eq_getElem hl]; rfl
/-- the block of the nine texts, as the walk spells it -/
theorem cells9_eq (l : List UInt8) : #[Value.string ⟨#[]⟩, .string (⟨#[45]⟩ ++ bs l), .string (⟨#[43]⟩ ++ bs l), .string (⟨#[32]⟩ ++ bs l), .string (bs l ++ ⟨#[32]⟩), .string (⟨#[48]⟩ ++ bs l), .string (bs l ++ ⟨#[120]⟩), .string ⟨#[49, 50, 51, 52, 53, 54, 55, 56, 57, 48]⟩, .string (bs l ++ ⟨#[46]⟩)] = (cells9 l).toArray := by
  have h1 : ∀ b : UInt8, (⟨#[b]⟩ : ByteArray) ++ bs l = bs (b :: l) := fun b => bs_append [b] l
  have h2 : ∀ b : UInt8, bs l ++ (⟨#[b]⟩ : ByteArray) = bs (l ++ [b]) := fun b => bs_append l [b]
  simp only [h1, h2]
  rfl
set_option maxHeartbeats 1000000 in
theorem numbers_walk (n : Int) (w : World) (hv : (Lit.int .i64 n).wf = true) : Calls Try.prog 7 #[.int .i64 n] w (TrueOn w) := by
  have hwb := within_bd n 1000000000 (by omega)
  obtain ⟨N, hN⟩ : ∃ N : Nat, within n 1000000000 = (N : Int) := ⟨(within n 1000000000).toNat, by omega⟩
  have hN1 : N < 1000000000 := by omega
  have HN := Lib.hid hN
  clear hwb hN
  have hd1 := digs_pos N
  have hd2 := digs_len 8 N (by omega)
  have HV := Lib.hid (digs_val N)
  have HK := Lib.hid (digs_num N hN1)
  generalize hl : digs N = l at *
  have HL := Lib.hid hl
  clear hl
  have hs1 : (bs l).size ≤ 9 := hd2
  go_enter Try.func7, Try.ntmps7
  go_wp2_with (first
    | (go_at_call 8; refine (Within_any _ _ _ hv (by omega) (by omega)).mono ?_; rintro e w1 ⟨rfl, rfl⟩; rw [HN.out])
    | (go_at_call 19; refine (Digits_any _ _ (by omega)).mono ?_; rintro e w1 ⟨rfl, hb1⟩; rw [HL.out])
    | (go_at_call 15; refine (Number_yes _ _ _ (by unfold maxLen; omega) HK.out HV.out).mono ?_; rintro e w2 ⟨rfl, rfl⟩))
  have hcell : ∀ k, k < 9 → ∃ t, (w1.alloc (.cells #[Value.string ⟨#[]⟩, .string (⟨#[45]⟩ ++ bs l), .string (⟨#[43]⟩ ++ bs l), .string (⟨#[32]⟩ ++ bs l), .string (bs l ++ ⟨#[32]⟩), .string (⟨#[48]⟩ ++ bs l), .string (bs l ++ ⟨#[120]⟩), .string ⟨#[49, 50, 51, 52, 53, 54, 55, 56, 57, 48]⟩, .string (bs l ++ ⟨#[46]⟩)] 9)).cell? ⟨w1.heap.size, k, none⟩ = some (.string (bs t)) ∧ isNum t = false ∧ (bs t).size ≤ 10 := by
    intro k hk
    obtain ⟨t, ht, hm⟩ := cells9_at l k hk
    refine ⟨t, ?_, odd9_no l hd1 t hm, odd9_size l hd2 t hm⟩
    rw [cells9_eq]
    have := cells_new w1 (cells9 l) 9 k _ ht
    have hadd : (⟨w1.heap.size, 0, none⟩ : Addr).add k = ⟨w1.heap.size, k, none⟩ := by unfold Addr.add; split <;> simp_all
    rwa [hadd] at this
  have hbw : Below w.heap.size w (w1.alloc (.cells #[Value.string ⟨#[]⟩, .string (⟨#[45]⟩ ++ bs l), .string (⟨#[43]⟩ ++ bs l), .string (⟨#[32]⟩ ++ bs l), .string (bs l ++ ⟨#[32]⟩), .string (⟨#[48]⟩ ++ bs l), .string (bs l ++ ⟨#[120]⟩), .string ⟨#[49, 50, 51, 52, 53, 54, 55, 56, 57, 48]⟩, .string (bs l ++ ⟨#[46]⟩)] 9)) := hb1.alloc hb1.size _
  have HC := Lib.hid hcell
  clear hcell
  go_loop [35] (fun i => ∃ k : Nat, k ≤ 9 ∧ i = .int .i64 k) (fun i => 9 - (intOf i).toNat)
  case atStart => exact ⟨0, by omega, rfl⟩
  case round =>
    obtain ⟨k, hk, rfl⟩ := hrel
    by_cases hlt : k < 9
    · obtain ⟨t, hc, ht, hsz⟩ := HC.out k hlt
      have HT := Lib.hid ht
      clear ht
      go_wp2_with (go_at_call 15; refine (Number_no _ _ (by unfold maxLen; omega) HT.out).mono ?_; rintro e w2 ⟨rfl, rfl⟩)
      go_round
      case rel => exact ⟨k + 1, by omega, by go_num⟩
      case measure => simp [intOf]; omega
    · have hn1 : nameL [97, 45, 49, 95, 122] = true := by decide
      have hn2 : nameL [65] = false := by decide
      have hn3 : nameL [] = false := by decide
      have hn4 : nameL [97, 98, 99, 100, 101, 102, 103, 104, 105, 106, 107, 108, 109] = false := by decide
      have hn5 : nameL [97, 98, 99, 100, 101, 102, 103, 104, 105, 106, 107, 108] = true := by decide
      go_wp2_with (first
        | (go_at_call 17; refine (Name_any _ _ (by decide)).mono ?_; rintro e w2 ⟨rfl, rfl⟩)
        | (go_at_call 12; refine (wakes01 _).mono ?_; rintro e w2 ⟨rfl, hb2⟩))
      go_ret
      exact ⟨rfl, below_then hbw hb2 hbw.size⟩
end Go.Proofs.Ytoojhpgjekdlgaa
