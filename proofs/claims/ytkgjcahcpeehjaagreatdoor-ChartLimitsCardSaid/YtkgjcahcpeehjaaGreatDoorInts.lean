/-
  Lists of integers that come in: they stay so.
-/
import Derived.Test.YtkgjcahcpeehjaaGreatDoorWth
import Derived.Test.YtkgjcahcpeehjaaGreatDoorOwn
namespace Go.Proofs.YtkgjcahcpeehjaaGreatDoor
set_option maxRecDepth 100000
open Go.ChangeShapes Go.WideShapes Go.ChangeAt Go.RowKit

theorem IntsAt.below {w w' : World} {v : Value} {zs : List Int} (h : IntsAt w v zs) (hb : Below w.heap.size w w') : IntsAt w' v zs :=
  let ⟨A, c, e, hl, hc⟩ := h
  ⟨A, c, e, hl, fun k hk => let ⟨b, off, e, hbl, hx, hw⟩ := hc k hk; ⟨b, off, e, Nat.lt_of_lt_of_le hbl hb.size, (hb.cell (p := ⟨b, off + k, none⟩) hbl).trans hx, hw⟩⟩
end Go.Proofs.YtkgjcahcpeehjaaGreatDoor
