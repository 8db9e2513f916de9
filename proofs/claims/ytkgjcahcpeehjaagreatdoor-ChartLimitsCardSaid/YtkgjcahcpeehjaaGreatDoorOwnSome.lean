/-
  A row of the call's own: nil, or at the head of a block.
-/
import Derived.Test.YtkgjcahcpeehjaaGreatDoorWth
namespace Go.Proofs.YtkgjcahcpeehjaaGreatDoor
set_option maxRecDepth 100000
open Go.ChangeShapes Go.WideShapes Go.ChangeAt Go.RowKit

theorem own_none {w : World} {base e size n n' c : Nat} {xs : List Value} (h : w.ownsRow base e size (.slice none n' c) n xs) : n = 0 ∧ c = 0 := by
  rcases h.2 with ⟨hv, h0⟩ | ⟨g, cap', cur, hv, _⟩
  · injection hv with _ _ hc; exact ⟨h0, hc⟩
  · injection hv with e; cases e
theorem own_some {w : World} {base e size n n' c : Nat} {a : Addr} {xs : List Value} (h : w.ownsRow base e size (.slice (some a) n' c) n xs) : ∃ g, a = ⟨g, 0, none⟩ := by
  rcases h.2 with ⟨hv, h0⟩ | ⟨g, cap', cur, hv, _⟩
  · injection hv with e; cases e
  · injection hv with e; exact ⟨g, Option.some.inj e⟩
end Go.Proofs.YtkgjcahcpeehjaaGreatDoor
