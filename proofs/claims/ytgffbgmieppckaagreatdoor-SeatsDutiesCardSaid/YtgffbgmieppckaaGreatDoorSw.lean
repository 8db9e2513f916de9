import Derived.Test.YtgffbgmieppckaaGreatDoorKO
import Derived.Test.YtgffbgmieppckaaGreatDoorSe8
import Derived.Test.YtgffbgmieppckaaGreatDoorRtP
import Derived.Test.YtgffbgmieppckaaGreatDoorSplit
import Derived.LaidEql
import Derived.Lib.IfaceEq
import Derived.Stop.Asserts
import Derived.RowKitTokens
import Derived.Test.YtgffbgmieppckaaGreatDoorRt1
import Derived.Test.YtgffbgmieppckaaGreatDoorDT0
import Derived.Test.YtgffbgmieppckaaGreatDoorParse
import Derived.Test.YtgffbgmieppckaaGreatDoorOwn
import Derived.Deep.RegionWith
import Derived.StillTailTactics
namespace Go.Proofs.YtgffbgmieppckaaGreatDoor
set_option maxRecDepth 100000
open Go.ChangeShapes Go.WideShapes Go.ChangeAt Go.RowKit
theorem sAt_nilS (n : Int) : ¬ sAt [] n < ([] : List Se).length := by simp
theorem wakes13 (w : World) : Calls Tryz.prog 50 #[] w (TrueOn w) := by
 have NW := Lib.hid (NewSe_any w)
 go_enter Tryz.func50, Tryz.ntmps50
 go_wp2_with (first
  | (go_at_call 46; refine NW.out.mono ?_; rintro e w1 ⟨rfl, hm1, hb1⟩; have HM1 := Lib.hid hm1; have HB1 := Lib.hid hb1; have LI := Lib.hid (ListSe_any hm1 (by simp)); clear hm1 hb1)
  | (go_at_call 47; refine LI.out.mono ?_; rintro e w2 ⟨A2, c2, rfl, _, hb2⟩; have HB2 := Lib.hid (below_then HB1.out hb2 HB1.out.size); have CL := Lib.hid (Close_none (HM1.out.below hb2) (by simp) 1 (sAt_nilS 1)); clear hb2)
  | (go_at_call 48; refine CL.out.mono ?_; rintro e w3 ⟨rfl, hb3⟩; have HB3 := Lib.hid (below_then HB2.out hb3 HB2.out.size); clear hb3)
  | (go_at_call 19; refine (ko.keepIsO 3 3 _ (by omega) (by omega)).mono ?_; rintro e w4 ⟨rfl, rfl⟩))
 go_ret
 exact ⟨rfl, HB3.out⟩
def SomS (ns : List Tx) (bl : List Nat) (R : Rt) (w : World) (e : Ending) (w' : World) : Prop := Below w.heap.size w w' ∧ ∃ b o, e = .returned (.tuple #[.pointer (some ⟨b, 0, none⟩), .nilIface]) ∧ b < w'.heap.size ∧ RtS w' b o ns bl R
theorem somS_of {t : Tx} {ns : List Tx} {ps : List Pr} {bl : List Nat} {R : Rt} (ht : rtL (polT t).l = .ok (ns, ps, R)) (hbl : rtBl ns ps = bl) {w w1 w' : World} {e : Ending} (hb : Below w.heap.size w w1) (h : RcTo (some (rtL (polT t).l)) w1 e w') : SomS ns bl R w e w' := by
 rw [ht] at h
 obtain ⟨hb2, b, he, hm⟩ := h
 rw [hbl] at hm
 have hlt : b < w'.heap.size := by obtain ⟨_, _, _, _, _, _, _, _, _, hA, _⟩ := hm; exact hA.lt
 obtain ⟨o, hR⟩ := rtS_of hm
 exact ⟨below_then hb hb2 hb.size, b, o, he, hlt, hR⟩
end Go.Proofs.YtgffbgmieppckaaGreatDoor
