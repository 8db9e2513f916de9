/-
  RightsLimits: as many users, permissions, sets, roles as may be, and no more: the walk.
-/
import Derived.Test.YtiodjjnohbjhlaaGreatDoorLawRL0
import Derived.Test.YtiodjjnohbjhlaaGreatDoorLawRL1
import Derived.Test.YtiodjjnohbjhlaaGreatDoorLawRL2
import Derived.Test.YtiodjjnohbjhlaaGreatDoorLawRL3
import Derived.Test.YtiodjjnohbjhlaaGreatDoorLawRL4
import Derived.Test.YtiodjjnohbjhlaaGreatDoorLawRL5
namespace Go.Proofs.YtiodjjnohbjhlaaGreatDoor
theorem rlimits_walk (w : World) (a b : Int) (ha : (Lit.int .i64 a).wf = true) (hb : (Lit.int .i64 b).wf = true) (hg : HandleAt w) (ht : TabAt w) :
    Calls Tryz.prog 4 #[.int .i64 a, .int .i64 b] w (TrueOn w) := by
  have h := within_bd b 6 (by omega)
  rcases (by omega : within b 6 = 0 ∨ within b 6 = 1 ∨ within b 6 = 2 ∨ within b 6 = 3 ∨ within b 6 = 4 ∨ within b 6 = 5) with hv | hv | hv | hv | hv | hv
  · exact rlimits0 w a b ha hb hg ht hv
  · exact rlimits1 w a b ha hb hg ht hv
  · exact rlimits2 w a b ha hb hg ht hv
  · exact rlimits3 w a b ha hb hg ht hv
  · exact rlimits4 w a b ha hb hg ht hv
  · exact rlimits5 w a b ha hb hg ht hv
end Go.Proofs.YtiodjjnohbjhlaaGreatDoor
