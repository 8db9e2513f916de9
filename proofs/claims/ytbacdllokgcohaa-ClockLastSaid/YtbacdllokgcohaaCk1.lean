/-
  Package clock: the time when a transition is due; a list of at most one is sorted as it stands.
-/
import Derived.Test.YtbacdllokgcohaaCA
namespace Go.Proofs.Ytbacdllokgcohaa
set_option maxRecDepth 100000
open Go.ChangeShapes Go.WideShapes Go.ChangeAt Go.RowKit

theorem end_any (s t : Int) (w : World) (hs0 : 0 ≤ s) (hs : s ≤ 1073741824) (ht0 : 0 ≤ t) (ht : t ≤ 1073741824) :
    Calls Try.prog 44 #[.int .i64 s, .int .i64 t] w fun e w' => e = .returned (.tuple #[.int .i64 (if s + t ≤ 1073741824 then s + t else 0), .bool (decide (s + t ≤ 1073741824))]) ∧ w = w' := by
  have e1 : IntKind.i64.wrap (s + t) = s + t := by rw [IntKind.wrap_i64]; omega
  have h1 : ¬ (s + t < s) := by omega
  have h2 : ¬ (t < 0) := by omega
  by_cases hx : s + t ≤ 1073741824
  · have h3 : ¬ (1073741824 < s + t) := by omega
    rw [if_pos hx, decide_eq_true hx]
    go_enter Try.func44, Try.ntmps44
    go_wp2
    go_ret2
    exact ⟨rfl, rfl⟩
  · have h3 : 1073741824 < s + t := by omega
    rw [if_neg hx, decide_eq_false hx]
    go_enter Try.func44, Try.ntmps44
    go_wp2
    go_ret2
    exact ⟨rfl, rfl⟩
theorem in_zero (vP : Value) (AS : Option Addr) (cS : Nat) (w : World) :
    Calls Try.prog 43 #[.agg #[.int .u32 1, vP, .slice AS 2 cS], .int .i64 0] w fun e w' => e = .returned (.bool true) ∧ Below w.heap.size w w' := by
  have o1 : bits .and .u32 1 1 = 1 := by kernel_rfl
  go_enter Try.func43, Try.ntmps43
  go_wp2
  go_ret
  exact ⟨rfl, box_b w _⟩
theorem in_one (vP : Value) (AS : Option Addr) (cS : Nat) (w : World) :
    Calls Try.prog 43 #[.agg #[.int .u32 1, vP, .slice AS 2 cS], .int .i64 1] w fun e w' => e = .returned (.bool false) ∧ Below w.heap.size w w' := by
  have o1 : bits .and .u32 0 1 = 0 := by kernel_rfl
  go_enter Try.func43, Try.ntmps43
  go_wp2
  go_ret
  exact ⟨rfl, box_b w _⟩
theorem len64_any (x : Nat) (hx : x ≤ 1) (w : World) :
    Calls Try.prog 117 #[.int .u64 x] w fun e w' => (∃ l : Int, e = .returned (.int .i64 l)) ∧ w = w' := by
  rcases (by omega : x = 0 ∨ x = 1) with rfl | rfl
  · go_enter Try.func117, Try.ntmps117
    go_wp2
    go_ret
    exact ⟨⟨_, rfl⟩, rfl⟩
  · go_enter Try.func117, Try.ntmps117
    go_wp2
    go_ret
    exact ⟨⟨_, rfl⟩, rfl⟩
theorem len_any (x : Nat) (hx : x ≤ 1) (w : World) :
    Calls Try.prog 72 #[.int .u64 x] w fun e w' => (∃ l : Int, e = .returned (.int .i64 l)) ∧ w = w' := by
  have hc := fun W => len64_any x hx W
  have hxi : (x : Int) ≤ 1 := by omega
  go_enter Try.func72, Try.ntmps72
  go_wp2_with (go_at_call 117; refine (hc _).mono ?_; rintro e w' ⟨⟨l, rfl⟩, rfl⟩)
  go_ret
  exact ⟨⟨_, rfl⟩, rfl⟩
theorem insD_one (A : Option Addr) (n c : Nat) (fv : Value) (w : World) (hn : n ≤ 1) :
    Calls Try.prog 108 #[.slice A n c, .int .i64 0, .int .i64 n, fv] w fun e w' => e = .returned (.tuple #[]) ∧ w = w' := by
  have hni : ¬ ((1 : Int) < n) := by omega
  go_enter Try.func108, Try.ntmps108
  go_wp2
  go_loopw [8] (fun i wr => i = .int .i64 1 ∧ wr = w) (fun _ _ => 0)
  case atStart => exact ⟨rfl, rfl⟩
  case round =>
    obtain ⟨rfl, rfl⟩ := hrel
    go_wp2
    go_end0
    exact ⟨rfl, rfl⟩
theorem pdqD_one (A : Option Addr) (n c : Nat) (fv : Value) (l : Int) (w : World) (hn : n ≤ 1) :
    Calls Try.prog 71 #[.slice A n c, .int .i64 0, .int .i64 n, .int .i64 l, fv] w fun e w' => e = .returned (.tuple #[]) ∧ w = w' := by
  have hc := fun W => insD_one A n c fv W hn
  have hni : (n : Int) ≤ 12 := by omega
  have hni0 : 0 ≤ (n : Int) := by omega
  go_enter Try.func71, Try.ntmps71
  go_wp2
  go_loopw [1, 2] (fun a b wr => a = .int .i64 0 ∧ b = .int .i64 n ∧ wr = w) (fun _ _ _ => 0)
  case atStart => exact ⟨rfl, rfl, rfl⟩
  case round =>
    obtain ⟨rfl, rfl, rfl⟩ := hrel
    go_wp2_with (go_at_call 108; refine (hc _).mono ?_; rintro e w' ⟨rfl, rfl⟩)
    (try simp only [Exit.inBlock, Exit.then])
    refine bodyPost_ret (results_none rfl _ _ _) rfl ?_
    exact ⟨rfl, rfl⟩
theorem sortD_one (A : Option Addr) (n c : Nat) (fv : Value) (w : World) (hn : n ≤ 1) :
    Calls Try.prog 45 #[.slice A n c, fv] w fun e w' => e = .returned (.tuple #[]) ∧ w = w' := by
  have hc := fun l W => pdqD_one A n c fv l W hn
  have hl := fun W => len_any n hn W
  have hwr : IntKind.u64.wrap (n : Int) = n := by rcases (by omega : n = 0 ∨ n = 1) with rfl | rfl <;> rfl
  go_enter Try.func45, Try.ntmps45
  go_wp2_with (first
    | (go_at_call 72; refine (hl _).mono ?_; rintro e w' ⟨⟨l, rfl⟩, rfl⟩)
    | (go_at_call 71; refine (hc _ _).mono ?_; rintro e w' ⟨rfl, rfl⟩))
  go_end0
  exact ⟨rfl, rfl⟩
end Go.Proofs.Ytbacdllokgcohaa
