/-
  A help of the statements: At.
-/
import Derived.Test.YtkgjcahcpeehjaaGreatDoorRuleEq
namespace Go.Proofs.YtkgjcahcpeehjaaGreatDoor
set_option maxRecDepth 100000
open Go.ChangeShapes Go.WideShapes Go.ChangeAt Go.RowKit

theorem keepAt (b : Nat) (l c k : Int) (w : World) (hF : FaultAt w b l c k) (hg : HandleAt w) :
    Calls Tryz.prog 32 #[.iface 98 (.pointer (some ⟨b, 0, none⟩))] w fun e w' => e = .returned (.tuple #[.int .i64 l, .int .i64 c, .bool true]) ∧ Below w.heap.size w w' := by
  obtain ⟨f0, f1, f2⟩ := hF
  have hbl := World.block_lt_of_cell? w _ f0
  have hgl := World.block_lt_of_cell? w _ hg
  have hg1 : HandleAt (w.alloc (.cells #[.pointer none] 98)) := (World.cell?_alloc_lt _ _ _ hgl).trans hg
  have hah := As_hit ⟨b, 0, none⟩ w.heap.size (.pointer none) (w.alloc (.cells #[.pointer none] 98)) hg1 (new_cell _ _ _ 0) (new_fz _ _ _ 0) (by simp only at hgl; omega)
  have HAH := Lib.hid hah
  clear hah
  go_enter Tryz.func32, Tryz.ntmps32
  go_wp2_with (go_at_call 47; refine HAH.out.mono ?_; rintro e w1 ⟨rfl, ht, hb⟩; have k0 := (hb.cell (p := ⟨b, 0, none⟩) hbl).trans ((World.cell?_alloc_lt _ _ _ hbl).trans f0); have k1 := (hb.cell (p := ⟨b, 1, none⟩) hbl).trans ((World.cell?_alloc_lt _ _ _ hbl).trans f1))
  go_quiet (fail)
  go_wp2
  go_ret3
  exact ⟨rfl, below_drewN (((Below.refl _ _).alloc (Nat.le_refl _) _).trans hb) _⟩
end Go.Proofs.YtkgjcahcpeehjaaGreatDoor
