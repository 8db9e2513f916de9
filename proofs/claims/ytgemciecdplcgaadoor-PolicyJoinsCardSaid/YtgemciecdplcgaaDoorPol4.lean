/-
  What the walks of the statements of chapter 3 have in common; their example.
-/
import Derived.Test.YtgemciecdplcgaaDoorPol3
import Derived.Test.YtgemciecdplcgaaDoorClose
namespace Go.Proofs.YtgemciecdplcgaaDoor
set_option maxRecDepth 100000
open Go.ChangeShapes Go.WideShapes Go.ChangeAt Go.RowKit Go.Maps Go.WideMaps Go.ChangeMaps

theorem keepIs0 (w : World) : Calls Tryd.prog 9 #[.nilIface, .int .i64 0] w fun e w' => e = .returned (.bool true) ∧ w = w' := by
  go_enter Tryd.func9, Tryd.ntmps9
  go_wp2
  go_ret
  exact ⟨rfl, rfl⟩
/-! ### the document's example -/
set_option maxHeartbeats 1000000 in
theorem wakes03 (w : World) : Calls Tryd.prog 10 #[] w (TrueOn w) := by
  have p1 := fun W => Pol_any (bs []) W
  have p2 := fun W => Pol_any (bs (roleLine ++ [10])) W
  rw [list_bs] at p1 p2
  rw [polT_nil] at p1
  rw [polT_role] at p2
  have P1 : Hid (∀ W, Calls Tryd.prog 7 #[.string ⟨#[]⟩] W (PolTo (.ok []) W)) := p1
  have P2 : Hid (∀ W, Calls Tryd.prog 7 #[.string ⟨#[114, 111, 108, 101, 32, 97, 10]⟩] W (PolTo (.ok [({ kind := 1, name := [97] }, 1)]) W)) := p2
  clear p1 p2
  go_enter Tryd.func10, Tryd.ntmps10
  go_upto_region 2 with (go_at_call 7; refine (P1.out _).mono ?_; rintro e w1 ⟨hb1, v, acc, rfl, hacc, hR⟩; obtain ⟨A, cap, rfl⟩ := own_slice hR.1; have hl : acc.length = 0 := by simpa using congrArg List.length hacc)
  try rw [hl]
  clear hR hacc hl P1
  go_upto_region 3 with (go_at_call 7; refine (P2.out _).mono ?_; rintro e w2 ⟨hb2, v2, acc2, rfl, hacc2, hR2⟩; obtain ⟨A2, cap2, rfl⟩ := own_slice hR2.1; have hl2 : acc2.length = 1 := by simpa using congrArg List.length hacc2)
  try rw [hl2]
  clear hR2 hacc2 hl2 P2
  go_wp2
  go_ret
  exact ⟨rfl, below_then hb1 hb2 hb1.size⟩
end Go.Proofs.YtgemciecdplcgaaDoor
