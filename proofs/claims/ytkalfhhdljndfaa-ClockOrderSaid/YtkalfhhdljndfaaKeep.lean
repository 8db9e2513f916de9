/-
  Contracts of the helps of the statements: Text.
-/
import Derived.Test.YtkalfhhdljndfaaWth
import Derived.Deep.RegionWith
import Derived.StillTailTactics
namespace Go.Proofs.Ytkalfhhdljndfaa
set_option maxRecDepth 100000
open Go.ChangeShapes Go.WideShapes Go.ChangeAt Go.RowKit

theorem Text_any (s : ByteArray) (n : Nat) (w : World) (_hs : s.size ≤ maxLen) (_hn : n ≤ 1000000) :
    Calls Try.prog 8 #[.string s, .int .i64 n] w fun e w' => e = .returned (.string (bs (s.data.toList.take n))) ∧ w = w' := by
  unfold maxLen at _hs
  by_cases h : s.size ≤ n
  · have hm : min (s.size : Int) n = s.size := by omega
    go_enter Try.func8, Try.ntmps8
    go_wp2
    go_ret
    refine ⟨ret_str ?_, rfl⟩
    rw [List.take_of_length_le (by simpa using h)]; rfl
  · have hm : min (s.size : Int) n = n := by omega
    have h1 : (n : Int) ≤ s.size := by omega
    go_enter Try.func8, Try.ntmps8
    go_wp2
    go_ret
    refine ⟨ret_str ?_, rfl⟩
    rw [extract_bs, List.drop_zero, Nat.sub_zero]
end Go.Proofs.Ytkalfhhdljndfaa
