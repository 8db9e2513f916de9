import Derived.Test.YtkalfhhdljndfaaGreatDoorKO
import Derived.Test.YtkalfhhdljndfaaGreatDoorRt2
import Derived.Test.YtkalfhhdljndfaaGreatDoorOnes
import Derived.Test.YtkalfhhdljndfaaGreatDoorParse
import Derived.Test.YtkalfhhdljndfaaGreatDoorOwn
import Derived.Test.YtkalfhhdljndfaaGreatDoorGr9
import Derived.Test.YtkalfhhdljndfaaGreatDoorSplit
import Derived.LaidEql
import Derived.Lib.IfaceEq
import Derived.Stop.Asserts
import Derived.RowKitTokens
namespace Go.Proofs.YtkalfhhdljndfaaGreatDoor
set_option maxRecDepth 100000
open Go.ChangeShapes Go.WideShapes Go.ChangeAt Go.RowKit
theorem keepIsNilR (w : World) : Calls Tryz.prog 24 #[.nilIface, .int .i64 0] w fun e w' => e = .returned (.bool true) ∧ w = w' := by
 go_enter Tryz.func24, Tryz.ntmps24
 go_wp2
 go_ret
 exact ⟨rfl, rfl⟩
theorem wakes12 (w : World) : Calls Tryz.prog 32 #[] w (TrueOn w) := by
 have NW := Lib.hid (NewG_any w)
 go_enter Tryz.func32, Tryz.ntmps32
 go_wp2_with (first
  | (go_at_call 29; refine NW.out.mono ?_; rintro e w1 ⟨rfl, hm1, hb1⟩; have HM1 := Lib.hid hm1; have HB1 := Lib.hid hb1; have LI := Lib.hid (ListG_any hm1 (by simp)); clear hm1 hb1)
  | (go_at_call 31; refine LI.out.mono ?_; rintro e w2 ⟨A2, c2, rfl, _, hb2⟩; have HB2 := Lib.hid (below_then HB1.out hb2 HB1.out.size); have RV := Lib.hid (Revoke_none (HM1.out.below hb2) (by simp) 1 [97] rfl); clear hb2)
  | (go_at_call 34; refine RV.out.mono ?_; rintro e w3 ⟨rfl, hb3⟩; have HB3 := Lib.hid (below_then HB2.out hb3 HB2.out.size); clear hb3)
  | (go_at_call 24; refine (ko.keepIsO 3 3 _ (by omega) (by omega)).mono ?_; rintro e w4 ⟨rfl, rfl⟩))
 go_ret
 exact ⟨rfl, HB3.out⟩
theorem grTo_on {B b : Nat} {v : Value} {gs : List Gr} {last : Int} {w1 W W' : World} (hb : Below B w1 W) (hB : B ≤ W.heap.size) (h : GrTo W b v gs last W') (hbB : B ≤ b) (hv : ∀ k, v.ownBlock = some k → B ≤ k) :
  ∃ v', GrM W' b v' gs last ∧ Below B w1 W' ∧ (∀ k, v'.ownBlock = some k → v.ownBlock = some k ∨ W.heap.size ≤ k) ∧ Chg (gOwn b v) W W' := by
 obtain ⟨v', h1, h2, h3⟩ := h
 exact ⟨v', h1, hb.trans (h2.below hB fun k hk => hk.elim (fun e => by omega) (hv k)), h3, h2⟩
end Go.Proofs.YtkalfhhdljndfaaGreatDoor
