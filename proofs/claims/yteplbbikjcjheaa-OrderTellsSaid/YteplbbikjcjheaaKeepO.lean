/-
  A help of the statements: Is, at an error that is a number, and at none.
-/
import Derived.Test.YteplbbikjcjheaaErrsO
namespace Go.Proofs.Yteplbbikjcjheaa
set_option maxRecDepth 100000
open Go.ChangeShapes Go.WideShapes Go.ChangeAt Go.RowKit

theorem keepIsO (c n : Int) (w : World) (hn : 1 ≤ n) (hn2 : n ≤ 14) :
    Calls Try.prog 14 #[.iface 40 (.int .i64 c), .int .i64 n] w fun e w' => e = .returned (.bool (c == n)) ∧ w = w' := by
  have h0 : (n == 0) = false := by simp; omega
  by_cases hcn : c = n
  · subst hcn
    have h1 := IsO_any c c w
    simp only [beq_self_eq_true] at h1 ⊢
    have h2 := fun m (_ : ¬ c = m) => IsO_any c m w
    have H2 := Lib.hid h2
    have H1 := Lib.hid h1
    clear h1 h2
    go_enter Try.func14, Try.ntmps14
    go_wp2_with (go_at_call 45; refine H1.out.mono ?_; rintro e w1 ⟨rfl, rfl⟩)
    go_loop [5] (fun i => ∃ k : Nat, 1 ≤ k ∧ k ≤ 15 ∧ i = .int .i64 k) (fun i => 15 - (intOf i).toNat)
    case atStart => exact ⟨1, by omega, by omega, rfl⟩
    case round =>
      obtain ⟨k, hk1, hk2, rfl⟩ := hrel
      by_cases hk : k ≤ 14
      · by_cases hkc : (k : Int) = c
        · have g1 : ((k : Int) != c) = false := by simp [hkc]
          have HK := Lib.hid hkc
          clear hkc
          go_wp2
          go_round
          case rel => exact ⟨k + 1, by omega, by omega, by go_num⟩
          case measure => simp [intOf]; omega
        · have g1 : ((k : Int) != c) = true := by simp [hkc]
          have hf : (c == (k : Int)) = false := by simp; omega
          have H3 := H2.out k (by omega)
          rw [hf] at H3
          clear hf
          go_wp2_with (go_at_call 45; refine H3.mono ?_; rintro e w1 ⟨rfl, rfl⟩)
          go_round
          case rel => exact ⟨k + 1, by omega, by omega, by go_num⟩
          case measure => simp [intOf]; omega
      · go_wp2
        go_ret
        exact ⟨rfl, rfl⟩
  · have hf : (c == n) = false := by simpa using hcn
    have H1 := IsO_any c n w
    rw [hf] at H1 ⊢
    go_enter Try.func14, Try.ntmps14
    go_wp2_with (go_at_call 45; refine H1.mono ?_; rintro e w1 ⟨rfl, rfl⟩)
    go_ret
    exact ⟨rfl, rfl⟩
end Go.Proofs.Yteplbbikjcjheaa
