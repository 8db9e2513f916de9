/-
  ClockNext: what is left when the first one is taken away; copies of Dues.
-/
import Derived.Test.YtiodjjnohbjhlaaCk9
namespace Go.Proofs.Ytiodjjnohbjhlaa
set_option maxRecDepth 100000
open Go.ChangeShapes Go.WideShapes Go.ChangeAt Go.RowKit

theorem srt_tail {m t P R : List DueT} {d : DueT} (h : srtD m = d :: t) (e : m = P ++ d :: R) : srtD (P ++ R) = t := by
  have hp : (d :: t).Perm m := h ▸ srtD_perm m
  have h1 : (d :: t).Perm (d :: (P ++ R)) := hp.trans (e ▸ List.perm_middle)
  have hs : SrtD (d :: t) := h ▸ srtD_srt m
  exact (srtD_of (List.Perm.cons_inv h1) hs.2).symm
theorem dat_cells {w : World} {g : Nat} {l : List DueT} (h : DAt w g l) (n : Nat) : ∀ j u, (dcells (l.take n))[j]? = some u → w.cell? ((⟨g, 0, none⟩ : Addr).add j) = some u := fun j u hu => by
  have hjl : j < (l.take n).length * 3 := by rw [← dcells_len]; exact (List.getElem?_eq_some_iff.1 hu).1
  have hadd : (⟨g, 0, none⟩ : Addr).add j = ⟨g, j, none⟩ := by unfold Addr.add; split <;> simp_all
  rw [hadd]
  have hk : j / 3 < (l.take n).length := by omega
  have hk2 : j / 3 < l.length := by rw [List.length_take] at hk; omega
  have e := dcells_at (l.take n) (j / 3) (j % 3) hk (by omega)
  rw [show j / 3 * 3 + j % 3 = j by omega, hu, List.getElem_take] at e
  obtain ⟨h0, h1, h2⟩ := h.2 (j / 3) hk2
  rcases (by omega : j % 3 = 0 ∨ j % 3 = 1 ∨ j % 3 = 2) with r | r | r
  · rw [r] at e; rw [show j = j / 3 * 3 by omega, h0]; exact e.symm
  · rw [r] at e; rw [show j = j / 3 * 3 + 1 by omega, h1]; exact e.symm
  · rw [r] at e; rw [show j = j / 3 * 3 + 2 by omega, h2]; exact e.symm
set_option maxHeartbeats 2000000 in
theorem CopyD_any (g cap n : Nat) (l : List DueT) (w : World) (hn : n ≤ l.length) (hm : l.length ≤ 1000) (h : DAt w g l) :
    Calls Try.prog 11 #[.slice (some ⟨g, 0, none⟩) n cap] w fun e w' => ∃ v, e = .returned v ∧ w'.ownsRow w.heap.size 27 3 v n (dcells (l.take n)) ∧ Below w.heap.size w w' := by
  obtain ⟨i0, hi, hz0, hz1, hz2⟩ := info_parts Try.infoDue
  have HC := Lib.hid (dat_cells h n)
  have HO := Lib.hid (dcells_one (l.take n))
  have HL : Hid ((dcells (l.take n)).length = n * 3) := by show _ = _; rw [dcells_len, List.length_take, Nat.min_eq_left hn]
  clear h
  go_enter Try.func11, Try.ntmps11
  go_wp2_with (at_builtin; go_must (refine wpList_append_own _ rfl (.const (.slice none 0 0)) (.tmp 3) 22 rfl w.heap.size 27 i0 _ 3 32 Try.underlying22 hi hz0 hz1 hz2 rfl (by decide) (.slice none 0 0) 0 [] rfl (World.ownsRow_nil _ _ _ _) ⟨g, 0, none⟩ n cap (dcells (l.take n)) rfl HL.out HC.out HO.out (by unfold maxLen; omega) (by omega) (Nat.le_refl _) ?_); intro v' w4 hown' hg' _; have hg2 : w.grownBy w4 none := hg')
  go_ret
  exact ⟨v', rfl, by simpa using hown', hg2.os, hg2.tape, hg2.output, hg2.size, fun j hj => hg2.block j hj (by simp)⟩
end Go.Proofs.Ytiodjjnohbjhlaa
