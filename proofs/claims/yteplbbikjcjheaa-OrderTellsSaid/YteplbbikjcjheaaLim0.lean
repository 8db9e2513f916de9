/-
  What OrderLimits wants: Copy of texts, Below at a name that there is not; what New answers, plainly.
-/
import Derived.Test.YteplbbikjcjheaaOrd6
import Derived.Test.YteplbbikjcjheaaKeepO
import Derived.Test.YteplbbikjcjheaaOwnSome
namespace Go.Proofs.Yteplbbikjcjheaa
set_option maxRecDepth 100000
open Go.ChangeShapes Go.WideShapes Go.ChangeAt Go.RowKit

def noneT : Tx := [110, 111, 110, 101]
theorem none_out (N : Nat) : noneT ∉ nmL N := by
  intro h
  obtain ⟨i, _, e⟩ := List.mem_map.1 h
  have := congrArg List.length e
  simp [nmN, noneT] at this
theorem nl_none {N k : Nat} (hN : N ≤ 24) : newP (nmL N) [(nmN k, noneT)] = .bad 3 :=
  new_none (by rw [nmL_length]; omega) (nmL_nodup (by omega)) (by simp [inN, none_out N])
theorem nl_self {N k : Nat} (hN : N ≤ 24) (hk : k < N) : newP (nmL N) [(nmN k, nmN k)] = .bad 6 := by
  have hin : [(nmN k, nmN k)].all (inN (nmL N)) = true := by simp [inN, nmL_mem hk]
  have hps := psL_all (nmL N) (by rw [nmL_length]; omega) [(nmN k, nmN k)] (List.all_eq_true.1 hin)
  refine new_circle (by rw [nmL_length]; omega) (nmL_nodup (by omega)) hin (circ_any (k := k) (by rw [folL_length, nmL_length]; exact hk) ?_)
  unfold folL
  rw [folTo_rel]
  apply way_base
  rw [hps.2.2]
  simp [prel, nmL_idx (show N ≤ 3000 by omega) hk]
theorem nl_twice {M k : Nat} (hM : M ≤ 23) (hk : k < M) : newP (nmL M ++ [nmN k]) [] = .bad 4 :=
  new_there (by rw [List.length_append, nmL_length]; simp; omega) (by
    intro h
    rw [List.nodup_append] at h
    exact h.2.2 _ (nmL_mem hk) _ (List.mem_singleton.2 rfl) rfl)
theorem nmL_take {M : Nat} : (nmL (M + 1)).take M = nmL M := by
  rw [nmL_succ, List.take_append_of_le_length (by rw [nmL_length]; exact Nat.le_refl _), List.take_of_length_le (by rw [nmL_length]; exact Nat.le_refl _)]

theorem scells_one (l : List Tx) : ∀ u ∈ scells l, u.oneCell' = true := by
  intro u hu
  simp only [scells, List.mem_map] at hu
  obtain ⟨t, _, rfl⟩ := hu
  rfl
theorem scells_len (l : List Tx) : (scells l).length = l.length * 1 := by simp [scells]
def CopyLTo (l : List Tx) (w : World) (e : Ending) (w' : World) : Prop := ∃ v, e = .returned v ∧ OwnL w' w.heap.size v l ∧ Below w.heap.size w w'
set_option maxHeartbeats 2000000 in
theorem CopyL_any (l : List Tx) (g cap : Nat) (w : World) (h : ListAt w (some ⟨g, 0, none⟩) cap l) (ha : l.length ≤ 1000) :
    Calls Try.prog 12 #[.slice (some ⟨g, 0, none⟩) l.length cap] w (CopyLTo l w) := by
  obtain ⟨i0, hi, hz0, hz1, hz2⟩ := info_parts Try.infoString
  have hc : ∀ j u, (scells l)[j]? = some u → w.cell? ((⟨g, 0, none⟩ : Addr).add j) = some u := fun j u hu => by
    have hj : j < l.length := by
      have := (List.getElem?_eq_some_iff.1 hu).1
      rw [scells_len] at this; omega
    obtain ⟨g', e, _, hx⟩ := h.2 j hj
    obtain rfl : g = g' := by simpa using e
    have hadd : (⟨g, 0, none⟩ : Addr).add j = ⟨g, j, none⟩ := by unfold Addr.add; split <;> simp_all
    rw [hadd, hx]
    simpa [scells, hj] using hu
  have HC := Lib.hid hc
  have HO := Lib.hid (scells_one l)
  have HL := Lib.hid (scells_len l)
  have HE : Hid (∀ v W, W.ownsRow w.heap.size 9 1 v l.length (scells l) → OwnL W w.heap.size v l) := fun v W h => h
  clear h hc
  generalize scells l = xs at *
  go_enter Try.func12, Try.ntmps12
  go_wp2_with (at_builtin; go_must (refine wpList_append_own _ rfl (.const (.slice none 0 0)) (.tmp 3) 25 rfl w.heap.size 9 i0 _ 1 16 Try.underlying25 hi hz0 hz1 hz2 rfl (by decide) (.slice none 0 0) 0 [] rfl (World.ownsRow_nil _ _ _ _) ⟨g, 0, none⟩ l.length cap xs rfl HL.out HC.out HO.out (by unfold maxLen; omega) (by omega) (Nat.le_refl _) ?_); intro v' w4 hown' hg' _)
  have hg2 : w.grownBy w4 none := hg'
  go_ret
  refine ⟨v', rfl, HE.out _ _ (by simpa using hown'), hg2.os, hg2.tape, hg2.output, hg2.size, fun j hj => hg2.block j hj (by simp)⟩
theorem Below_none (g : Nat) (names : List Tx) (bl : List Nat) (w : World) (x : Tx) (h : OrdAt w g names bl) (hx : x ∉ names) : Calls Try.prog 22 #[.pointer (some ⟨g, 0, none⟩), .string (bs x)] w fun e w' => e = .returned (.slice none 0 0) ∧ w = w' := by
  have i1 := OIndex_any g names bl w x h
  rw [idxI_out hx] at i1
  have I1 := Lib.hid i1
  clear i1 h hx
  go_enter Try.func22, Try.ntmps22
  go_wp2_with (go_at_call 19; refine I1.out.mono ?_; rintro e w1 ⟨rfl, rfl⟩)
  go_ret
  exact ⟨rfl, rfl⟩
end Go.Proofs.Yteplbbikjcjheaa
