/-
  Package clock: Sort of any Dues: the sorted ones, in a block of its own.
-/
import Derived.Test.YtkalfhhdljndfaaCk8
namespace Go.Proofs.Ytkalfhhdljndfaa
set_option maxRecDepth 100000
open Go.ChangeShapes Go.WideShapes Go.ChangeAt Go.RowKit Go.Shelf

theorem below_sort {base g n : Nat} {w0 w4 : World} (hb : Below base w0 w4) (hg : base ≤ g) (h0 : base ≤ w0.heap.size) (d' : Array DueT) (os : Array Obj) : Below base w0 (sortWorldK encD 3 w4 g 0 n d' os) := by
  have hs := hb.size
  refine ⟨hb.os, hb.tape, hb.output, ?_, fun j hj => ?_⟩
  · show w0.heap.size ≤ ((w4.heap.modify g _) ++ os).size
    simp
    omega
  · show ((w4.heap.modify g _) ++ os)[j]? = w0.heap[j]?
    rw [Array.getElem?_append_left (by simp; omega), Array.getElem?_modify, if_neg (by omega)]
    exact hb.block j hj
def dcells (l : List DueT) : List Value := l.flatMap encD
theorem dcells_len (l : List DueT) : (dcells l).length = l.length * 3 := by
  induction l with
  | nil => rfl
  | cons x r ih => show (encD x ++ dcells r).length = _; rw [List.length_append, ih, List.length_cons]; show 3 + _ = _; omega
theorem dcells_at : ∀ (l : List DueT) (k j : Nat) (h : k < l.length), j < 3 → (dcells l)[k * 3 + j]? = (encD l[k])[j]?
  | x :: r, 0, j, _, hj => by
    show (encD x ++ dcells r)[0 * 3 + j]? = _
    rw [show 0 * 3 + j = j by omega, List.getElem?_append_left (show j < 3 from hj)]; rfl
  | x :: r, k + 1, j, h, hj => by
    show (encD x ++ dcells r)[(k + 1) * 3 + j]? = _
    rw [List.getElem?_append_right (show 3 ≤ (k + 1) * 3 + j by omega)]
    rw [show (k + 1) * 3 + j - (encD x).length = k * 3 + j by show (k + 1) * 3 + j - 3 = _; omega]
    exact dcells_at r k j (by simpa using h) hj
theorem dcells_one (l : List DueT) : ∀ u ∈ dcells l, u.oneCell' = true := by
  intro u hu
  obtain ⟨x, _, hu⟩ := List.mem_flatMap.1 hu
  exact dcell_one _ _ _ u hu
theorem flat_eq (d : Array DueT) (j : Nat) (h : j < d.size * 3) : (Go.Sort.flatK encD 3 d)[j]! = ((dcells d.toList)[j]?).getD default := by
  rw [Go.Sort.get_flatK encD 3 d j h]
  have hk : j / 3 < d.size := by omega
  have e := dcells_at d.toList (j / 3) (j % 3) (by simpa using hk) (by omega)
  rw [show j / 3 * 3 + j % 3 = j by omega] at e
  rw [e, getElem!_pos d _ hk]
  have h3 : j % 3 < (encD d[j / 3]).length := by show _ < 3; omega
  simp [h3]
theorem holds_of {w : World} {g cap base : Nat} {d : Array DueT} (h : w.ownsRow base 27 3 (.slice (some ⟨g, 0, none⟩) d.size cap) d.size (dcells d.toList)) (h0 : 0 < d.size) : Go.Sort.HoldsK encD 3 w g 0 d := by
  obtain ⟨g', c', e', _, hlt, _, hc⟩ := own_form h h0
  injection e' with e1
  injection e1 with e1
  injection e1 with e1
  subst e1
  intro j hj
  have hj3 : j < d.size * 3 := by simpa using hj
  refine ⟨?_, ?_⟩
  · rw [flat_eq d j hj3, Nat.zero_add]
    have hl : j < (dcells d.toList).length := by rw [dcells_len]; simpa using hj3
    rw [List.getElem?_eq_getElem hl]
    exact hc j _ (List.getElem?_eq_getElem hl)
  · rcases h.2 with ⟨_, h9⟩ | ⟨g2, cap2, cur, hv, _, hg2, _⟩
    · omega
    · injection hv with e2
      injection e2 with e2
      injection e2 with e2
      subst e2
      exact fzc_of hg2 _
theorem dAt_of {w : World} {g : Nat} {d : Array DueT} (h : Go.Sort.HoldsK encD 3 w g 0 d) (hg : g < w.heap.size) : DAt w g d.toList := by
  refine ⟨hg, fun k hk => ?_⟩
  have hk' : k < d.size := by simpa using hk
  have key : ∀ j, j < 3 → w.cell? ⟨g, k * 3 + j, none⟩ = (encD d.toList[k])[j]? := fun j hj => by
    have h1 := (h (k * 3 + j) (by simp; omega)).1
    rw [flat_eq d _ (by omega), dcells_at d.toList k j hk hj, Nat.zero_add] at h1
    have h3 : j < (encD d.toList[k]).length := hj
    rw [h1, List.getElem?_eq_getElem h3]; rfl
  exact ⟨key 0 (by omega), key 1 (by omega), key 2 (by omega)⟩
theorem srt_of_sorted : ∀ {l : List DueT}, (∀ i j (hi : i < l.length) (hj : j < l.length), i < j → ¬ ltD l[j] l[i]) → SrtD l
  | [], _ => trivial
  | x :: r, h => ⟨fun y hy => by
      obtain ⟨j, hj, rfl⟩ := List.mem_iff_getElem.1 hy
      exact h 0 (j + 1) (by simp) (by simpa using hj) (by omega), srt_of_sorted fun i j hi hj hij => h (i + 1) (j + 1) (by simpa using hi) (by simpa using hj) (by omega)⟩
theorem sorted_is {d d' : Array DueT} (hp : Go.Sort.PermIn 0 d.size d d') (hs : Go.Sort.SortedIn ltB 0 d.size d') : d'.toList = srtD d.toList := by
  obtain ⟨hz, _, hp⟩ := hp
  refine srtD_of ?_ (srt_of_sorted fun i j hi hj hij => ?_)
  · have e1 : d'.extract 0 d.size = d' := by rw [← hz]; simp
    have e2 : d.extract 0 d.size = d := by simp
    rwa [e1, e2] at hp
  · have hi' : i < d'.size := by simpa using hi
    have hj' : j < d'.size := by simpa using hj
    have := hs i j (Nat.zero_le _) hij (by omega)
    rw [getElem!_pos d' j hj', getElem!_pos d' i hi', ltB_false] at this
    simpa using this
set_option maxHeartbeats 2000000 in
theorem Sort_any (g cap : Nat) (l : List DueT) (w : World) (hl : 0 < l.length) (hm : l.length ≤ 1000) (h : DAt w g l) :
    Calls Try.prog 5 #[.slice (some ⟨g, 0, none⟩) l.length cap] w fun e w' => ∃ g' c', e = .returned (.slice (some ⟨g', 0, none⟩) l.length c') ∧ w.heap.size ≤ g' ∧ DAt w' g' (srtD l) ∧ Below w.heap.size w w' := by
  obtain ⟨i0, hi, hz0, hz1, hz2⟩ := info_parts Try.infoDue
  have hc : ∀ j u, (dcells l)[j]? = some u → w.cell? ((⟨g, 0, none⟩ : Addr).add j) = some u := fun j u hu => by
    have hjl : j < l.length * 3 := by rw [← dcells_len]; exact (List.getElem?_eq_some_iff.1 hu).1
    have hadd : (⟨g, 0, none⟩ : Addr).add j = ⟨g, j, none⟩ := by unfold Addr.add; split <;> simp_all
    rw [hadd]
    have hk : j / 3 < l.length := by omega
    have e := dcells_at l (j / 3) (j % 3) hk (by omega)
    rw [show j / 3 * 3 + j % 3 = j by omega, hu] at e
    obtain ⟨h0, h1, h2⟩ := h.2 (j / 3) hk
    rcases (by omega : j % 3 = 0 ∨ j % 3 = 1 ∨ j % 3 = 2) with r | r | r
    · rw [r] at e; rw [show j = j / 3 * 3 by omega, h0]; exact e.symm
    · rw [r] at e; rw [show j = j / 3 * 3 + 1 by omega, h1]; exact e.symm
    · rw [r] at e; rw [show j = j / 3 * 3 + 2 by omega, h2]; exact e.symm
  have HC := Lib.hid hc
  have HO := Lib.hid (dcells_one l)
  have HL := Lib.hid (dcells_len l)
  clear h hc
  go_enter Try.func5, Try.ntmps5
  go_wp2_with (first
    | (at_builtin; go_must (refine wpList_append_own _ rfl (.const (.slice none 0 0)) (.tmp 4) 22 rfl w.heap.size 27 i0 _ 3 32 Try.underlying22 hi hz0 hz1 hz2 rfl (by decide) (.slice none 0 0) 0 [] rfl (World.ownsRow_nil _ _ _ _) ⟨g, 0, none⟩ l.length cap (dcells l) rfl HL.out HC.out HO.out (by unfold maxLen; omega) (by omega) (Nat.le_refl _) ?_); intro v' w4 hown' hg' _; have hg2 : w.grownBy w4 none := hg'; have hown2 : w4.ownsRow w.heap.size 27 3 v' l.length (dcells l) := (by simpa using hown'); obtain ⟨g', c', rfl, hgl, hglt, _⟩ := own_form hown2 hl; have hb4 : Below w.heap.size w w4 := ⟨hg2.os, hg2.tape, hg2.output, hg2.size, fun j hj => hg2.block j hj (by simp)⟩; have SC := Lib.hid (sort_call g' c' l.toArray w4 (holds_of (d := l.toArray) hown2 hl) hglt (by simpa using hm)); have HH := Lib.hid (holds_of (d := l.toArray) hown2 hl))
    | (go_at_call 10; refine SC.out.mono ?_; rintro e w5 ⟨rfl, d', n5, os, hp, hs, rfl⟩))
  go_ret
  refine ⟨g', c', rfl, hgl, ?_, below_sort hb4 hgl (Nat.le_refl _) d' os⟩
  have hk := holdsK_sortWorldK_c encD 3 w4 g' 0 l.toArray d' n5 os HH.out hglt hp.1
  have := dAt_of hk (by show g' < ((w4.heap.modify g' _) ++ os).size; simp; omega)
  rwa [sorted_is hp hs] at this
end Go.Proofs.Ytkalfhhdljndfaa
