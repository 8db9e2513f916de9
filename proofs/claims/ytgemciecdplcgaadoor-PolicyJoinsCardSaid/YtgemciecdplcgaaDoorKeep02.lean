/-
  A help of the statements: Is.
-/
import Derived.Test.YtgemciecdplcgaaDoorAs
import Derived.Test.YtgemciecdplcgaaDoorParse
namespace Go.Proofs.YtgemciecdplcgaaDoor
set_option maxRecDepth 100000
open Go.ChangeShapes Go.WideShapes Go.ChangeAt Go.RowKit

/-- Is: an error that is c, asked for n -/
theorem keepIs (v : Value) (c n : Int) (w : World) (hv : IsErr w v c) (hn : 1 ≤ n) (hn2 : n ≤ 14) :
    Calls Tryd.prog 9 #[v, .int .i64 n] w fun e w' => e = .returned (.bool (c == n)) ∧ w = w' := by
  have h0 : (n == 0) = false := by simp; omega
  by_cases hcn : c = n
  · subst hcn
    have h1 := fun W (h : IsErr W v c) => Is_any v c c W h
    simp only [beq_self_eq_true] at h1 ⊢
    have h2 := fun W (h : IsErr W v c) m (hm : ¬ c = m) => Is_any v c m W h
    have H2 := Lib.hid h2
    have hv0 := hv
    have H1 : Hid (Calls Tryd.prog 20 #[v, .iface 31 (.int .i64 c)] w fun e w' => e = .returned (.bool true) ∧ w = w') := h1 w hv
    have HV := Lib.hid hv
    clear h1 h2 hv0
    rcases hv with rfl | ⟨b, o, rfl, hc⟩
    all_goals
      go_enter Tryd.func9, Tryd.ntmps9
      go_wp2_with (go_at_call 20; refine H1.out.mono ?_; rintro e w1 ⟨rfl, rfl⟩)
      go_loop [5] (fun i => ∃ k : Nat, 1 ≤ k ∧ k ≤ 15 ∧ i = .int .i64 k) (fun i => 15 - (intOf i).toNat)
      case atStart => exact ⟨1, by omega, by omega, rfl⟩
      case round =>
        obtain ⟨k, hk1, hk2, rfl⟩ := hrel
        by_cases hk : k ≤ 14
        · by_cases hkc : (k : Int) = c
          · have g1 : ((k : Int) != c) = false := by simp [hkc]
            have HK := Lib.hid hkc
            clear hkc
            go_wp2
            go_round
            case rel => exact ⟨k + 1, by omega, by omega, by go_num⟩
            case measure => simp [intOf]; omega
          · have g1 : ((k : Int) != c) = true := by simp [hkc]
            have hf : (c == (k : Int)) = false := by simp; omega
            have H3 := H2.out w HV.out k (by omega)
            rw [hf] at H3
            clear hf
            go_wp2_with (go_at_call 20; refine H3.mono ?_; rintro e w1 ⟨rfl, rfl⟩)
            go_round
            case rel => exact ⟨k + 1, by omega, by omega, by go_num⟩
            case measure => simp [intOf]; omega
        · go_wp2
          go_ret
          exact ⟨rfl, rfl⟩
  · have hf : (c == n) = false := by simpa using hcn
    have H1 := Is_any v c n w hv
    rw [hf] at H1 ⊢
    rcases hv with rfl | ⟨b, o, rfl, hc⟩
    all_goals
      go_enter Tryd.func9, Tryd.ntmps9
      go_wp2_with (go_at_call 20; refine H1.mono ?_; rintro e w1 ⟨rfl, rfl⟩)
      go_ret
      exact ⟨rfl, rfl⟩
end Go.Proofs.YtgemciecdplcgaaDoor
