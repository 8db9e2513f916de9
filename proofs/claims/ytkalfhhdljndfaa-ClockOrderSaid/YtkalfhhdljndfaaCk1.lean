/-
  Package clock: the time when a transition is due; a list of at most one is sorted as it stands.
-/
import Derived.Test.YtkalfhhdljndfaaCh3
import Derived.Test.YtkalfhhdljndfaaSameL
namespace Go.Proofs.Ytkalfhhdljndfaa
set_option maxRecDepth 100000
open Go.ChangeShapes Go.WideShapes Go.ChangeAt Go.RowKit

theorem len64_any (x : Nat) (hx : x ≤ 1) (w : World) :
    Calls Try.prog 28 #[.int .u64 x] w fun e w' => (∃ l : Int, e = .returned (.int .i64 l)) ∧ w = w' := by
  rcases (by omega : x = 0 ∨ x = 1) with rfl | rfl
  · go_enter Try.func28, Try.ntmps28
    go_wp2
    go_ret
    exact ⟨⟨_, rfl⟩, rfl⟩
  · go_enter Try.func28, Try.ntmps28
    go_wp2
    go_ret
    exact ⟨⟨_, rfl⟩, rfl⟩
theorem len_any (x : Nat) (hx : x ≤ 1) (w : World) :
    Calls Try.prog 14 #[.int .u64 x] w fun e w' => (∃ l : Int, e = .returned (.int .i64 l)) ∧ w = w' := by
  have hc := fun W => len64_any x hx W
  have hxi : (x : Int) ≤ 1 := by omega
  go_enter Try.func14, Try.ntmps14
  go_wp2_with (go_at_call 28; refine (hc _).mono ?_; rintro e w' ⟨⟨l, rfl⟩, rfl⟩)
  go_ret
  exact ⟨⟨_, rfl⟩, rfl⟩
theorem insD_one (A : Option Addr) (n c : Nat) (fv : Value) (w : World) (hn : n ≤ 1) :
    Calls Try.prog 19 #[.slice A n c, .int .i64 0, .int .i64 n, fv] w fun e w' => e = .returned (.tuple #[]) ∧ w = w' := by
  have hni : ¬ ((1 : Int) < n) := by omega
  go_enter Try.func19, Try.ntmps19
  go_wp2
  go_loopw [8] (fun i wr => i = .int .i64 1 ∧ wr = w) (fun _ _ => 0)
  case atStart => exact ⟨rfl, rfl⟩
  case round =>
    obtain ⟨rfl, rfl⟩ := hrel
    go_wp2
    go_end0
    exact ⟨rfl, rfl⟩
theorem pdqD_one (A : Option Addr) (n c : Nat) (fv : Value) (l : Int) (w : World) (hn : n ≤ 1) :
    Calls Try.prog 13 #[.slice A n c, .int .i64 0, .int .i64 n, .int .i64 l, fv] w fun e w' => e = .returned (.tuple #[]) ∧ w = w' := by
  have hc := fun W => insD_one A n c fv W hn
  have hni : (n : Int) ≤ 12 := by omega
  have hni0 : 0 ≤ (n : Int) := by omega
  go_enter Try.func13, Try.ntmps13
  go_wp2
  go_loopw [1, 2] (fun a b wr => a = .int .i64 0 ∧ b = .int .i64 n ∧ wr = w) (fun _ _ _ => 0)
  case atStart => exact ⟨rfl, rfl, rfl⟩
  case round =>
    obtain ⟨rfl, rfl, rfl⟩ := hrel
    go_wp2_with (go_at_call 19; refine (hc _).mono ?_; rintro e w' ⟨rfl, rfl⟩)
    (try simp only [Exit.inBlock, Exit.then])
    refine bodyPost_ret (results_none rfl _ _ _) rfl ?_
    exact ⟨rfl, rfl⟩
theorem sortD_one (A : Option Addr) (n c : Nat) (fv : Value) (w : World) (hn : n ≤ 1) :
    Calls Try.prog 10 #[.slice A n c, fv] w fun e w' => e = .returned (.tuple #[]) ∧ w = w' := by
  have hc := fun l W => pdqD_one A n c fv l W hn
  have hl := fun W => len_any n hn W
  have hwr : IntKind.u64.wrap (n : Int) = n := by rcases (by omega : n = 0 ∨ n = 1) with rfl | rfl <;> rfl
  go_enter Try.func10, Try.ntmps10
  go_wp2_with (first
    | (go_at_call 14; refine (hl _).mono ?_; rintro e w' ⟨⟨l, rfl⟩, rfl⟩)
    | (go_at_call 13; refine (hc _ _).mono ?_; rintro e w' ⟨rfl, rfl⟩))
  go_end0
  exact ⟨rfl, rfl⟩
end Go.Proofs.Ytkalfhhdljndfaa
