/-
  OrderTells: what the walk's loop tells is what Below tells; Copy of names of the call's own; small things.
-/
import Derived.Test.YteplbbikjcjheaaLim1
import Derived.Test.YteplbbikjcjheaaBelow
import Derived.Test.YteplbbikjcjheaaRelBd
import Derived.Test.YteplbbikjcjheaaSameL
import Derived.Test.YteplbbikjcjheaaKeepO2
import Derived.Test.YteplbbikjcjheaaRef04c
import Derived.Test.YteplbbikjcjheaaRef04e
namespace Go.Proofs.Yteplbbikjcjheaa
set_option maxRecDepth 100000
open Go.ChangeShapes Go.WideShapes Go.ChangeAt Go.RowKit

theorem newP_bad {names : List Nm} {ps : List Pr} {k : Int} (h : newP names ps = .bad k) : 1 ≤ k ∧ k ≤ 14 := by
  unfold newP at h
  split at h
  · cases h; decide
  · split at h
    · cases h; decide
    · split at h
      · cases h; decide
      · split at h
        · cases h; decide
        · cases h
/-- the names of which Above is told, one by one -/
def runL (names : List Tx) (bl : List Nat) (x : Tx) : Nat → List Tx
  | 0 => []
  | k + 1 => if aboveP names bl x (names.getD k []) = true then runL names bl x k ++ [names.getD k []] else runL names bl x k
theorem runL_len (names : List Tx) (bl : List Nat) (x : Tx) : ∀ k, (runL names bl x k).length ≤ k
  | 0 => Nat.le_refl _
  | k + 1 => by
    have := runL_len names bl x k
    rw [runL]; split
    · rw [List.length_append]; simp; omega
    · omega
theorem runL_eq {names : List Tx} (hn : names.Nodup) (bl : List Nat) (x : Tx) : runL names bl x names.length = belowL names bl x := by
  unfold belowL
  by_cases hx : x ∈ names
  · rw [if_pos hx]
    have go : ∀ k, k ≤ names.length → runL names bl x k = belowTo names bl (idx names x) k := by
      intro k
      induction k with
      | zero => intro _; rfl
      | succ k ih =>
        intro hk
        have hlt : k < names.length := by omega
        have e : names.getD k [] = names[k] := by simp [List.getD_eq_getElem?_getD, hlt]
        have ha : aboveP names bl x (names.getD k []) = rel bl (idx names x) k := by
          unfold aboveP
          rw [e, idx_get hn hlt]
          simp [hx]
        rw [runL, belowTo, ha, ih (by omega)]
    exact go _ (Nat.le_refl _)
  · rw [if_neg hx]
    have go : ∀ k, runL names bl x k = [] := by
      intro k
      induction k with
      | zero => rfl
      | succ k ih =>
        have ha : aboveP names bl x (names.getD k []) = false := by unfold aboveP; simp [hx]
        rw [runL, ha, ih]; simp
    exact go _
theorem copyNil_any (w : World) : Calls Try.prog 12 #[.slice none 0 0] w (CopyLTo [] w) := by
  go_enter Try.func12, Try.ntmps12
  go_wp2
  go_ret
  exact ⟨_, rfl, World.ownsRow_nil _ _ _ _, Below.refl _ _⟩
theorem copyOwn_any (l : List Tx) (base c : Nat) (A : Option Addr) (w : World) (h : OwnL w base (.slice A l.length c) l) (hl : l.length ≤ 1000) : Calls Try.prog 12 #[.slice A l.length c] w (CopyLTo l w) := by
  cases A with
  | none =>
    obtain ⟨h0, rfl⟩ := own_none h
    obtain rfl := List.length_eq_zero_iff.1 h0
    exact copyNil_any w
  | some a =>
    obtain ⟨g, rfl⟩ := own_some h
    exact CopyL_any l g c w (listAt_of h) hl
/-- the names, and both lists of pairs, in memory of the call's own -/
structure TS (w W : World) (v1 v2 v3 : Value) (L : List Tx) (P : List Pr) : Prop where
  o1 : OwnL W w.heap.size v1 L
  o2 : OwnP W w.heap.size v2 P
  o3 : OwnQ W w.heap.size v3 P
  low : Below w.heap.size w W
theorem TS.far {w W X : World} {v1 v2 v3 : Value} {L : List Tx} {P : List Pr} (h : TS w W v1 v2 v3 L P) (hb : Below W.heap.size W X) : TS w X v1 v2 v3 L P :=
  ⟨own_below h.o1 hb h.low.size, own_below h.o2 hb h.low.size, own_below h.o3 hb h.low.size, below_then h.low hb h.low.size⟩
theorem TS.store {w W : World} {g c : Nat} {v2 v3 : Value} {L : List Tx} {P : List Pr} (h : TS w W (.slice (some ⟨g, 0, none⟩) L.length c) v2 v3 L P) (j : Nat) (x : Tx) : TS w (W.setCell ⟨g, j, none⟩ (.string (bs x))) (.slice (some ⟨g, 0, none⟩) L.length c) v2 v3 (L.set j x) P := by
  have h1 := h.o1
  unfold OwnL at h1
  obtain ⟨s1, s2⟩ := World.ownsRow.stored h1 j (.string (bs x))
  refine ⟨?_, World.ownsRow.kept h.o2 s2 (own_unlike h.o2 h1 (by decide)), World.ownsRow.kept h.o3 s2 (own_unlike h.o3 h1 (by decide)), h.low.grown s2 h.low.size fun k e => ?_⟩
  · unfold OwnL
    rw [List.length_set]
    have : scells (L.set j x) = (scells L).set j (.string (bs x)) := by simp [scells, List.map_set]
    rw [this]; exact s1
  · exact (h1.lt k e).1
theorem TS.storeN {w W : World} {g c N : Nat} {v2 v3 : Value} {L : List Tx} {P : List Pr} (hl : L.length = N) (h : TS w W (.slice (some ⟨g, 0, none⟩) N c) v2 v3 L P) (j : Nat) (x : Tx) : TS w (W.setCell ⟨g, j, none⟩ (.string (bs x))) (.slice (some ⟨g, 0, none⟩) N c) v2 v3 (L.set j x) P := by
  subst hl; exact h.store j x
theorem TS.appP {w W w4 : World} {X : Obj} {v1 v2 v3 : Value} {L : List Tx} {P : List Pr} (h : TS w W v1 v2 v3 L P) (hg : (W.alloc X).grownBy w4 v2.ownBlock) :
    OwnL w4 w.heap.size v1 L ∧ OwnQ w4 w.heap.size v3 P ∧ Below w.heap.size w w4 := by
  have h1 := World.ownsRow.alloc h.o1 X
  have h2 := World.ownsRow.alloc h.o2 X
  have h3 := World.ownsRow.alloc h.o3 X
  have hl : Below w.heap.size w (W.alloc X) := h.low.alloc h.low.size _
  exact ⟨World.ownsRow.kept h1 hg (own_unlike h1 h2 (by decide)), World.ownsRow.kept h3 hg (own_unlike h3 h2 (by decide)), hl.grown hg hl.size fun j e => (h2.lt j e).1⟩
theorem TS.appQ {w w4 w6 : World} {Y : Obj} {v1 v3 : Value} {L : List Tx} {P : List Pr} (h : OwnL w4 w.heap.size v1 L ∧ OwnQ w4 w.heap.size v3 P ∧ Below w.heap.size w w4) {v2' v3' : Value} {x y : Tx}
    (hp : w4.ownsRow w.heap.size 31 2 v2' (P.length + 1) (pcells P ++ [.string (bs x), .string (bs y)])) (hg : (w4.alloc Y).grownBy w6 v3.ownBlock) (hq : w6.ownsRow w.heap.size 32 2 v3' (P.length + 1) (pcells P ++ [.string (bs x), .string (bs y)])) :
    ∃ B d B' d', v2' = .slice B (P.length + 1) d ∧ v3' = .slice B' (P.length + 1) d' ∧ TS w w6 v1 (.slice B (P.length + 1) d) (.slice B' (P.length + 1) d') L (P ++ [(x, y)]) := by
  obtain ⟨o1, o3, hl⟩ := h
  have h1 := World.ownsRow.alloc o1 Y
  have h3 := World.ownsRow.alloc o3 Y
  have h2 := hp.alloc Y
  have hl : Below w.heap.size w (w4.alloc Y) := hl.alloc hl.size _
  have k2 := World.ownsRow.kept h2 hg (own_unlike h2 h3 (by decide))
  obtain ⟨B, d, rfl⟩ := own_slice k2
  obtain ⟨B', d', rfl⟩ := own_slice hq
  have e : (P ++ [(x, y)]).length = P.length + 1 := by simp
  refine ⟨B, d, B', d', rfl, rfl, World.ownsRow.kept h1 hg (own_unlike h1 h3 (by decide)), ?_, ?_, hl.grown hg hl.size fun j e => (h3.lt j e).1⟩
  · unfold OwnP; rw [e, pcells_snoc]; exact k2
  · unfold OwnQ; rw [e, pcells_snoc]; exact hq
end Go.Proofs.Yteplbbikjcjheaa
