/-
  A help of the statements: Copy, of pairs.
-/
import Derived.Test.YteplbbikjcjheaaPair1
import Derived.Test.YteplbbikjcjheaaOwnSome
namespace Go.Proofs.Yteplbbikjcjheaa
set_option maxRecDepth 100000
open Go.ChangeShapes Go.WideShapes Go.ChangeAt Go.RowKit

theorem pcells_one (ps : List Pr) : ∀ u ∈ pcells ps, u.oneCell' = true := by
  intro u hu
  simp only [pcells, List.mem_flatMap] at hu
  obtain ⟨p, _, hu⟩ := hu
  simp at hu
  rcases hu with rfl | rfl <;> rfl
def CopyPTo (ps : List Pr) (w : World) (e : Ending) (w' : World) : Prop := ∃ v, e = .returned v ∧ OwnP w' w.heap.size v ps ∧ Below w.heap.size w w'
set_option maxHeartbeats 2000000 in
/-- of pairs of the call's own, or of their first ones -/
theorem CopyP_any (ps : List Pr) (A : Option Addr) (cap : Nat) (w : World) (hA : A = none → ps = []) (hc : ∀ g, A = some g → ∀ j u, (pcells ps)[j]? = some u → w.cell? (g.add j) = some u) (ha : ps.length ≤ 1000) :
    Calls Try.prog 27 #[.slice A ps.length cap] w (CopyPTo ps w) := by
  obtain ⟨i0, hi, hz0, hz1, hz2⟩ := info_parts Try.infoPair
  cases A with
  | none =>
    obtain rfl := hA rfl
    clear hA hc
    go_enter Try.func27, Try.ntmps27
    go_wp2
    go_ret
    exact ⟨_, rfl, World.ownsRow_nil _ _ _ _, Below.refl _ _⟩
  | some a =>
    have HC := Lib.hid (hc a rfl)
    have HO := Lib.hid (pcells_one ps)
    have HL := Lib.hid (pcells_length ps)
    have HE : Hid (∀ v W, W.ownsRow w.heap.size 31 2 v ps.length (pcells ps) → OwnP W w.heap.size v ps) := fun v W h => h
    clear hA hc
    generalize pcells ps = xs at *
    go_enter Try.func27, Try.ntmps27
    go_wp2_with (at_builtin; go_must (refine wpList_append_own _ rfl (.const (.slice none 0 0)) (.tmp 3) 26 rfl w.heap.size 31 i0 _ 2 32 Try.underlying26 hi hz0 hz1 hz2 rfl (by decide) (.slice none 0 0) 0 [] rfl (World.ownsRow_nil _ _ _ _) a ps.length cap xs rfl HL.out HC.out HO.out (by unfold maxLen; omega) (by omega) (Nat.le_refl _) ?_); intro v' w4 hown' hg' _)
    have hg2 : w.grownBy w4 none := hg'
    go_ret
    refine ⟨v', rfl, HE.out _ _ (by simpa using hown'), hg2.os, hg2.tape, hg2.output, hg2.size, fun j hj => hg2.block j hj (by simp)⟩
/-- the cells of pairs of the call's own -/
theorem ownP_cells {w : World} {base : Nat} {A : Option Addr} {n c : Nat} {ps : List Pr} (h : OwnP w base (.slice A n c) ps) : (A = none → ps = []) ∧ ∀ g, A = some g → ∀ j u, (pcells ps)[j]? = some u → w.cell? (g.add j) = some u := by
  refine ⟨fun e => ?_, fun g e => ?_⟩
  · subst e
    exact List.length_eq_zero_iff.1 (own_none h).1
  · subst e
    obtain ⟨k, rfl⟩ := own_some h
    exact World.ownsRow.cells h rfl
end Go.Proofs.Yteplbbikjcjheaa
