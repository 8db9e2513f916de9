/-
  A help of the statements: Name; a digit's text.
-/
import Derived.Test.YtlbhgjilgdmedaaDoorKeep
import Derived.Test.YtlbhgjilgdmedaaDoorRule02
namespace Go.Proofs.YtlbhgjilgdmedaaDoor
set_option maxRecDepth 100000
open Go.ChangeShapes Go.WideShapes Go.ChangeAt Go.RowKit

theorem keepName (h : ByteArray) (n : Int) (w : World) (hv : (Lit.int .i64 n).wf = true) (hs : h.size ≤ 1000) :
    Calls Tryd.prog 12 #[.string h, .int .i64 n, .int .i64 9] w fun e w' => e = .returned (.string (h ++ bs [byteOf (97 + within n 9).toNat])) ∧ Below w.heap.size w w' := by
  have hb := within_bd n 9 (by omega)
  generalize hm : within n 9 = m at *
  have HM := Lib.hid hm
  clear hm
  have hw : (97 + m) % 256 = 97 + m := by omega
  have cv := fun W b cap => conv_one W b cap (97 + m) (by omega) (by omega)
  have hz : (bs [byteOf (97 + m).toNat]).size = 1 := rfl
  generalize bs [byteOf (97 + m).toNat] = T at *
  go_enter Tryd.func12, Tryd.ntmps12
  go_wp2_with (go_at_call 6; refine (Within_any _ _ _ hv (by omega) (by omega)).mono ?_; rintro e w' ⟨rfl, rfl⟩; rw [HM.out])
  go_ret
  exact ⟨rfl, (Below.refl _ _).alloc (Nat.le_refl _) _⟩
end Go.Proofs.YtlbhgjilgdmedaaDoor
