/-
  Package rights: Compile of the rules of a text.
-/
import Derived.Test.YtiodjjnohbjhlaaGreatDoorRef01b
import Derived.Test.YtiodjjnohbjhlaaGreatDoorPfa
namespace Go.Proofs.YtiodjjnohbjhlaaGreatDoor
set_option maxRecDepth 100000
open Go.ChangeShapes Go.WideShapes Go.ChangeAt Go.RowKit

theorem RComp_pol {s : Tx} (acc : List RL) (A : Option Addr) (cap base : Nat) (w : World) (hR : RowsAt w base (.slice A acc.length cap) acc) (he : acc.map er = (polT s).l) (hg : HandleAt w) (ht : TabAt w) :
    Calls Tryz.prog 10 #[.slice A acc.length cap] w (RcTo (some (rtL (polT s).l)) w) := by
  obtain ⟨h1, h2⟩ := pol_facts s
  rw [← he] at h1 h2
  have h3 : ∀ x ∈ acc, Small x.1 ∧ x.1.list.length ≤ 4096 := fun x hx => ⟨(h2 (er x) (List.mem_map_of_mem hx)).1, (h2 (er x) (List.mem_map_of_mem hx)).2.1⟩
  have h := RComp_any acc A cap w (rIn_of hR) (by rw [List.length_map] at h1; omega) (own_cap hR.1) (fun x hx => (h3 x hx).1) (fun x hx => (h3 x hx).2)
    (fun x hx B c e => own_LIn (by rw [← e]; exact hR.2 x hx)) hg ht
  rw [rtR_ok (fun x hx => (h2 x hx).2.2), he] at h
  exact h
end Go.Proofs.YtiodjjnohbjhlaaGreatDoor
