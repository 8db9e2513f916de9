/-
  Errors told.
-/
import Derived.Test.YtbacdllokgcohaaSameL
import Derived.LaidEql
import Derived.Lib.IfaceEq
import Derived.Stop.Asserts
import Derived.RowKitTokens
import Derived.Test.YtbacdllokgcohaaSt12

/-
  The document's example of chapter 9 (law09's wakes): Begin of one state.
-/
namespace Go.Proofs.Ytbacdllokgcohaa
set_option maxRecDepth 100000
open Go.ChangeShapes Go.WideShapes Go.ChangeAt Go.RowKit

def oneC : Ch := { names := [[115]], kinds := [1], parents := [-1], trans := [] }
theorem oneC_sh : ShF oneC.kinds oneC.parents 1 where
  kl := rfl
  pl := rfl
  kd := fun k hk => by obtain rfl : k = 0 := by omega
                       decide
  pa := fun k hk => by obtain rfl : k = 0 := by omega
                       decide
  hi := fun k hk h => by
    obtain rfl : k = 0 := by omega
    exact absurd h (by decide)
  up := fun k q hk h => by
    obtain rfl : k = 0 := by omega
    have h1 : (-1 : Int) = q := h
    omega
  tp := ⟨0, by omega, by decide⟩
theorem oneC_beg : begC oneC 1 5 = ⟨1, [0], [5]⟩ := by decide +kernel
theorem oneC_run : runC oneC 1 5 16 (begC oneC 1 5) [] = some (⟨1, [0], [5]⟩, []) := by rw [oneC_beg]; decide +kernel
theorem oneC_inv : RunInv oneC 1 5 fun x => x = begC oneC 1 5 := fun x hx => by
  subst hx
  refine ⟨?_, Nat.zero_le _, fun i hi => ?_⟩
  · rw [oneC_beg]
    refine ⟨rfl, rfl, by decide, fun p hp => ?_, fun z hz => ?_⟩
    · obtain rfl := List.mem_singleton.1 hp; decide
    · obtain rfl := List.mem_singleton.1 hz; decide
  · have : i ∈ ([] : List Nat) := hi
    cases this
set_option maxHeartbeats 2000000 in
theorem wakes09 (w : World) : Calls Try.prog 15 #[] w (TrueOn w) := by
  have hb : Below w.heap.size w (((w.alloc (.cells #[.string (bs [115])] 9)).alloc (.cells #[.int .i64 1] 3)).alloc (.cells #[.int .i64 (-1)] 3)) := (((Below.refl _ _).alloc (Nat.le_refl _) _).alloc (by simp) _).alloc (by simp; omega) _
  obtain ⟨r0, r1, r2, _⟩ := rows3 w (.cells #[.string (bs [115])] 9) (.cells #[.int .i64 1] 3) (.cells #[.int .i64 (-1)] 3)
  have R0 : (((w.alloc (.cells #[.string (bs [115])] 9)).alloc (.cells #[.int .i64 1] 3)).alloc (.cells #[.int .i64 (-1)] 3)).heap[w.heap.size]? = _ := r0
  have R1 : (((w.alloc (.cells #[.string (bs [115])] 9)).alloc (.cells #[.int .i64 1] 3)).alloc (.cells #[.int .i64 (-1)] 3)).heap[w.heap.size + 1]? = _ := r1
  have R2 : (((w.alloc (.cells #[.string (bs [115])] 9)).alloc (.cells #[.int .i64 1] 3)).alloc (.cells #[.int .i64 (-1)] 3)).heap[w.heap.size + 2]? = _ := r2
  clear r0 r1 r2
  have BG := begin_any oneC 1 (some ⟨w.heap.size, 0, none⟩) (some ⟨w.heap.size + 1, 0, none⟩) (some ⟨w.heap.size + 2, 0, none⟩) none 1 1 1 0 5 (fun x => x = begC oneC 1 5) (((w.alloc (.cells #[.string (bs [115])] 9)).alloc (.cells #[.int .i64 1] 3)).alloc (.cells #[.int .i64 (-1)] 3))
    ⟨⟨⟨_, 1, rfl, by decide, fun k hk => by
        obtain rfl : k = 0 := by have : k < 1 := hk; omega
        exact ⟨_, 0, rfl, (Array.getElem?_eq_some_iff.1 R1).1, by rw [cell_of_row _ _ _ _ _ _ R1]; rfl, by show (Lit.int .i64 (1 : Int)).wf = true; decide⟩⟩,
      ⟨_, 1, rfl, by decide, fun k hk => by
        obtain rfl : k = 0 := by have : k < 1 := hk; omega
        exact ⟨_, 0, rfl, (Array.getElem?_eq_some_iff.1 R2).1, by rw [cell_of_row _ _ _ _ _ _ R2]; rfl, by show (Lit.int .i64 (-1 : Int)).wf = true; decide⟩⟩⟩,
      fun j hj => by exact absurd hj (Nat.not_lt_zero _), Nat.le_refl _, Nat.zero_le _, oneC_sh, by decide, by decide, fun t ht => by cases ht⟩
    ⟨Nat.le_refl _, fun j hj => by
        obtain rfl : j = 0 := by have : j < 1 := hj; omega
        exact ⟨_, rfl, (Array.getElem?_eq_some_iff.1 R0).1, by rw [cell_of_row _ _ _ _ _ _ R0]; rfl⟩⟩
    (by decide +kernel) (by decide) (by decide) oneC_inv rfl
  rw [oneC_run] at BG
  have BG : Calls _ _ _ _ _ := BG.mono (fun e w' (h : RunTo 1 (some (⟨1, [0], [5]⟩, [])) _ e w') => (show Below _ _ w' ∧ ∃ (g3 gS : Nat) (A : Option Addr) (cO : Nat), e = .returned (.tuple #[.agg #[.int .u32 1, .slice (some ⟨g3, 0, none⟩) 1 1, .slice (some ⟨gS, 0, none⟩) 1 1], .slice A 0 cO, .nilIface]) ∧ w'.cell? ⟨gS, 0, none⟩ = some (.int .i64 5) ∧ gS < w'.heap.size from by
    obtain ⟨hb, g3, gS, v, rfl, _, hR, hO⟩ := h
    obtain ⟨A, cO, rfl⟩ := own_slice hO
    exact ⟨hb, g3, gS, A, cO, rfl, by rw [cell_of_row _ _ _ _ _ _ hR.rS]; rfl, (Array.getElem?_eq_some_iff.1 hR.rS).1⟩))
  have BG := Lib.hid BG
  have HB := Lib.hid hb
  clear R0 R1 R2 hb
  go_enter Try.func15, Try.ntmps15
  go_upto_region 2 with (go_at_call 11; refine BG.out.mono ?_; rintro e w2 ⟨hb2, g3, gS, AO, cO, rfl, x0, hgs⟩; have HB2 := Lib.hid (below_then HB.out hb2 HB.out.size); clear hb2)
  go_wp2
  go_ret
  exact ⟨rfl, below_then HB2.out (box_b w2 _) HB2.out.size⟩
end Go.Proofs.Ytbacdllokgcohaa
