/-
  The reader's rule: its contract, whatever the words.
-/
import Derived.Test.YtlbhgjilgdmedaaDoorRule2
import Derived.Test.YtlbhgjilgdmedaaDoorRule4
import Derived.Test.YtlbhgjilgdmedaaDoorRule6
namespace Go.Proofs.YtlbhgjilgdmedaaDoor
set_option maxRecDepth 100000
open Go.ChangeShapes Go.WideShapes Go.ChangeAt Go.RowKit

theorem idx_range (l : List Tx) (x : Tx) : ∀ i : Int, 0 ≤ i → idx l x i = -1 ∨ (i ≤ idx l x i ∧ idx l x i < i + l.length) := by
  induction l with
  | nil => intro i _; exact .inl rfl
  | cons t r ih =>
    intro i hi
    rw [idx]; split
    · right; simp; omega
    · rcases ih (i + 1) (by omega) with h | h
      · exact .inl h
      · right; simp only [List.length_cons]; omega
theorem rule_any (b g cap : Nat) (ws : List (Nat × List UInt8)) (w : World) (h : Rd w b g cap ws ⟨0, false⟩) :
    Calls Tryd.prog 16 #[.pointer (some ⟨b, 0, none⟩)] w (RuleTo b g cap ws (ruleP (tx ws)) w) := by
  unfold ruleP
  rcases hC : choiceP (tx ws) kindT ⟨0, false⟩ with ⟨c, s0⟩
  have hr := idx_range kindT (pk (tx ws) ⟨0, false⟩) 0 (by omega)
  have hc : c = idx kindT (pk (tx ws) ⟨0, false⟩) 0 := (congrArg Prod.fst hC).symm
  rw [← hc, show kindT.length = 12 from rfl] at hr
  clear hc
  have : c = -1 ∨ c = 0 ∨ c = 1 ∨ c = 2 ∨ c = 3 ∨ c = 4 ∨ c = 5 ∨ c = 6 ∨ c = 7 ∨ c = 8 ∨ c = 9 ∨ c = 10 ∨ c = 11 := by omega
  clear hr
  rcases this with rfl | rfl | rfl | rfl | rfl | rfl | rfl | rfl | rfl | rfl | rfl | rfl | rfl
  · exact rule_none b g cap ws s0 w h hC
  · exact rule_zero b g cap ws s0 w h hC
  · show Calls _ _ _ _ (RuleTo b g cap ws (roleP (tx ws) s0) w)
    unfold roleP
    by_cases hp : pk (tx ws) (nameP (tx ws) s0).2 = [62]
    · rw [if_pos hp]; exact rule_roleA b g cap ws s0 w h hC hp
    · rw [if_neg hp]; exact rule_roleB b g cap ws s0 w h hC hp
  · exact rule_user2 b g cap ws s0 w h hC
  · exact rule_user3 b g cap ws s0 w h hC
  · exact rule_ssd4 b g cap ws s0 w h hC
  · exact rule_ssd5 b g cap ws s0 w h hC
  · exact rule_excl b g cap ws s0 w h hC
  · exact rule_lend b g cap ws s0 w h hC
  · exact rule_state b g cap ws s0 w h hC
  · exact rule_on b g cap ws s0 w h hC
  · exact rule_auto b g cap ws s0 w h hC
  · exact rule_after b g cap ws s0 w h hC
end Go.Proofs.YtlbhgjilgdmedaaDoor
