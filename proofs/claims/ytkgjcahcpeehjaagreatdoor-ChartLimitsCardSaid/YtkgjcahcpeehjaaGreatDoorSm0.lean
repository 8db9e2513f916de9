/-
  Rules that are small.
-/
import Derived.Test.YtkgjcahcpeehjaaGreatDoorRuleSt
import Derived.Test.YtkgjcahcpeehjaaGreatDoorPrint4
namespace Go.Proofs.YtkgjcahcpeehjaaGreatDoor
set_option maxRecDepth 100000
open Go.ChangeShapes Go.WideShapes Go.ChangeAt Go.RowKit

theorem print_in (x : Ru) (A : Option Addr) (c : Nat) (ln : Int) (W : World) (hL : LIn W A c x.list) (hn : -9223372036854775808 ≤ x.n ∧ x.n ≤ 9223372036854775807) (hm : -9223372036854775808 ≤ x.m ∧ x.m ≤ 9223372036854775807) (hs : totR x ≤ 1048576) (hg : HandleAt W) (ht : TabAt W) :
    Calls Tryz.prog 12 #[ruV x (.slice A x.list.length c) ln] W (PrintTo (printP x) W) := by
  have h1 := line_sum x hn.1 hn.2 hm.1 hm.2
  have h2 := sum_len (lineP x)
  have h3 := join_sum (lineP x)
  have h4 := sum_len x.list
  have h5 : x.list.length ≤ 1048576 := by simp only [totR] at hs; omega
  exact print_any x A c ln W (hL.at (by omega)) (fun X hX => lineWords_any x A c ln X (hL.below hX) h5 hn.1 hn.2 hm.1 hm.2 (ht.below hX)) (by omega) (by omega) hg
end Go.Proofs.YtkgjcahcpeehjaaGreatDoor
namespace Go.Proofs.YtkgjcahcpeehjaaGreatDoor
set_option maxRecDepth 100000

def Small (x : Ru) : Prop := (-9223372036854775808 ≤ x.n ∧ x.n ≤ 9223372036854775807) ∧ (-9223372036854775808 ≤ x.m ∧ x.m ≤ 9223372036854775807) ∧ totR x ≤ 1048576
theorem small_line {r : Ru} {t : Tx} (h : Small r) (hp : printP r = some t) : t.length ≤ 1048636 := by
  obtain ⟨rfl, _⟩ := printP_some.1 hp
  have h1 := line_sum r h.1.1 h.1.2 h.2.1.1 h.2.1.2
  have h2 := join_sum (lineP r)
  have := h.2.2
  omega
end Go.Proofs.YtkgjcahcpeehjaaGreatDoor
