/-
  The document's less of two Dues.
-/
import Derived.Test.YtiodjjnohbjhlaaCkN
namespace Go.Proofs.Ytiodjjnohbjhlaa
set_option maxRecDepth 100000
open Go.ChangeShapes Go.WideShapes Go.ChangeAt Go.RowKit

theorem ltB_parts (x y : DueT) : ltB x y = if x.1 = y.1 then (if x.2.1 = y.2.1 then decide (x.2.2 < y.2.2) else Op.bytesLess x.2.1 y.2.1) else decide (x.1 < y.1) := by
  rw [Bool.eq_iff_iff, ltB_iff, bytesLess_eq]
  unfold ltD
  by_cases h1 : x.1 = y.1
  · rw [if_pos h1]
    by_cases h2 : x.2.1 = y.2.1
    · rw [if_pos h2, decide_eq_true_eq]
      constructor
      · rintro (h | ⟨_, h | ⟨_, h⟩⟩)
        · omega
        · rw [h2] at h; exact absurd h (List.lt_irrefl _)
        · exact h
      · exact fun h => .inr ⟨h1, .inr ⟨h2, h⟩⟩
    · rw [if_neg h2, decide_eq_true_eq]
      constructor
      · rintro (h | ⟨_, h | ⟨h, _⟩⟩)
        · omega
        · exact h
        · exact absurd h h2
      · exact fun h => .inr ⟨h1, .inl h⟩
  · rw [if_neg h1, decide_eq_true_eq]
    constructor
    · rintro (h | ⟨h, _⟩)
      · exact h
      · exact absurd h h1
    · exact fun h => .inl h
set_option maxHeartbeats 2000000 in
theorem lessR_any (x y : DueT) (w : World) : Calls Try.prog 18 #[dueV x, dueV y] w fun e w' => e = .returned (.bool (ltB x y)) ∧ Below w.heap.size w w' := by
  have hp := ltB_parts x y
  have hbb : Below w.heap.size w ((w.alloc (.cells #[.int .i64 x.1, .string (bs x.2.1), .int .i64 x.2.2] 34)).alloc (.cells #[.int .i64 y.1, .string (bs y.2.1), .int .i64 y.2.2] 34)) := ((Below.refl _ _).alloc (Nat.le_refl _) _).alloc (by simp) _
  have HB := Lib.hid hbb
  clear hbb
  generalize ltB x y = z at *
  obtain ⟨t1, d1, i1⟩ := x
  obtain ⟨t2, d2, i2⟩ := y
  simp only at hp
  have l1 := bsL d1
  have l2 := bsL d2
  have hbl : Op.bytesLess (bs d1).toList (bs d2).toList = Op.bytesLess d1 d2 := by rw [l1, l2]
  by_cases ht : t1 = t2
  · by_cases hd : d1 = d2
    · have g1 : ((bs d1).toList != (bs d2).toList) = false := by rw [l1, l2, hd]; simp
      have g2 : ((bs d1).toList == (bs d2).toList) = true := by rw [l1, l2, hd]; simp
      have HP : Hid (z = decide (i1 < i2)) := by show _ = _; rw [hp, if_pos ht, if_pos hd]
      clear hp l1 l2 hbl hd
      subst ht
      go_enter Try.func18, Try.ntmps18
      go_wp2
      go_ret
      exact ⟨ret_bool HP.out.symm, HB.out⟩
    · have g1 : ((bs d1).toList != (bs d2).toList) = true := by rw [l1, l2]; simpa using hd
      have g2 : ((bs d1).toList == (bs d2).toList) = false := by rw [l1, l2]; simpa using hd
      have HP : Hid (z = Op.bytesLess d1 d2) := by show _ = _; rw [hp, if_pos ht, if_neg hd]
      clear hp l1 l2 hd
      subst ht
      go_enter Try.func18, Try.ntmps18
      go_wp2
      go_ret
      exact ⟨ret_bool HP.out.symm, HB.out⟩
  · have HP : Hid (z = decide (t1 < t2)) := by show _ = _; rw [hp, if_neg ht]
    clear hp l1 l2 hbl
    go_enter Try.func18, Try.ntmps18
    go_wp2
    go_ret
    exact ⟨ret_bool HP.out.symm, HB.out⟩
end Go.Proofs.Ytiodjjnohbjhlaa
