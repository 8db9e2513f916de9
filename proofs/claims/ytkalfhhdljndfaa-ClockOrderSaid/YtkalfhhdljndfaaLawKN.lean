/-
  Package clock: Sort of none, wherever the empty list lies.
-/
import Derived.Test.YtkalfhhdljndfaaCk9
import Derived.Test.YtkalfhhdljndfaaCkD
import Derived.Deep.RegionHeld3
import Derived.Deep.Upon
namespace Go.Proofs.Ytkalfhhdljndfaa
set_option maxRecDepth 100000
open Go.ChangeShapes Go.WideShapes Go.ChangeAt Go.RowKit

set_option maxHeartbeats 2000000 in
theorem Sort_zero (A : Option Addr) (c : Nat) (w : World) :
    Calls Try.prog 5 #[.slice A 0 c] w fun e w' => (∃ A' c', e = .returned (.slice A' 0 c')) ∧ Below w.heap.size w w' := by
  obtain ⟨i0, hi, hz0, hz1, hz2⟩ := info_parts Try.infoDue
  have hs := fun A c fv W => sortD_one A 0 c fv W (by omega)
  cases A with
  | none => exact (Sort_none c w).mono fun e w' ⟨⟨c', he⟩, hb⟩ => ⟨⟨none, c', he⟩, hb⟩
  | some a =>
    go_enter Try.func5, Try.ntmps5
    go_wp2_with (first
      | (at_builtin; go_must (refine wpList_append_own _ rfl (.const (.slice none 0 0)) (.tmp 4) 22 rfl w.heap.size 27 i0 _ 3 32 Try.underlying22 hi hz0 hz1 hz2 rfl (by decide) (.slice none 0 0) 0 [] rfl (World.ownsRow_nil _ _ _ _) a 0 c [] rfl rfl (fun j u hu => by simp at hu) (fun u hu => by simp at hu) (by unfold maxLen; omega) (by omega) (Nat.le_refl _) ?_); intro v' w4 hown' hg' _; have hg2 : w.grownBy w4 none := hg'; obtain ⟨A', c', rfl⟩ := own_slice hown')
      | (go_at_call 10; refine (hs _ _ _ _).mono ?_; rintro e w' ⟨rfl, rfl⟩))
    go_ret
    exact ⟨⟨A', c', rfl⟩, hg2.os, hg2.tape, hg2.output, hg2.size, fun j hj => hg2.block j hj (by simp)⟩
end Go.Proofs.Ytkalfhhdljndfaa
/-
  ClockNext: one by one, the first that is due is taken, till nothing is due: that is their order: the walk.
-/
namespace Go.Proofs.Ytkalfhhdljndfaa
set_option maxRecDepth 100000
open Go.ChangeShapes Go.WideShapes Go.ChangeAt Go.RowKit

theorem dat_own {w : World} {base g c : Nat} {l : List DueT} (h : w.ownsRow base 27 3 (.slice (some ⟨g, 0, none⟩) l.length c) l.length (dcells l)) (hl : 0 < l.length) : DAt w g l := by
  obtain ⟨g', c', e', _, hlt, _, hc⟩ := own_form h hl
  injection e' with e1
  injection e1 with e1
  injection e1 with e1
  subst e1
  refine ⟨hlt, fun k hk => ⟨hc _ _ ?_, hc _ _ ?_, hc _ _ ?_⟩⟩
  · exact dcells_at l k 0 hk (by omega)
  · exact dcells_at l k 1 hk (by omega)
  · exact dcells_at l k 2 hk (by omega)
theorem srt_len (L : List DueT) : (srtD L).length = L.length := (srtD_perm L).length_eq
theorem duesL_len (raw : Bool) (l : List DueT) : (duesL raw l).length ≤ 12 := by unfold duesL; rw [List.length_map, List.length_take]; omega
end Go.Proofs.Ytkalfhhdljndfaa
