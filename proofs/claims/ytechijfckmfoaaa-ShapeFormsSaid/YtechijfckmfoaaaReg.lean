/-
  A region that draws its order, by an invariant: whatever operation comes next keeps it. For a region of operations each of which makes a value of its own out of those that it waits for.
-/
import Derived.Orders
import Derived.Below
namespace Go.Proofs.Ytechijfckmfoaaa
set_option maxRecDepth 100000

section
variable {P : Program} {ops : Array Oper} {Q : Exit → Act → World → Prop}
/-- how many operations are to come -/
def toCome (ops : Array Oper) (listed : Array Bool) : Nat := (List.range ops.size).countP fun i => !listed.getD i true
theorem ready_of_none {md : Region.Mode} {listed : Array Bool} (h : toCome ops listed = 0) : Region.ready md ops listed = [] := by
  unfold toCome at h
  rw [List.countP_eq_zero] at h
  unfold Region.ready
  rw [List.filter_eq_nil_iff]
  intro i hi
  have := h i hi
  simp only [Bool.not_eq_true] at this
  rw [this]; simp
theorem toCome_less {md : Region.Mode} {listed : Array Bool} (hs : listed.size = ops.size) {i : Nat} (hi : i ∈ Region.ready md ops listed) : toCome ops (listed.setIfInBounds i true) < toCome ops listed := by
  unfold Region.ready at hi
  rw [List.mem_filter, List.mem_range, Bool.and_eq_true] at hi
  obtain ⟨hlt, hl, _⟩ := hi
  unfold toCome
  rw [← Nat.not_le]
  intro hle
  have hsub : ∀ j ∈ List.range ops.size, (!(listed.setIfInBounds i true).getD j true) = true → (!listed.getD j true) = true := fun j _ hj => by
    by_cases e : i = j
    · subst e
      rw [Array.getD_eq_getD_getElem?, Array.getElem?_setIfInBounds_self_of_lt (by omega)] at hj
      simp at hj
    · rw [Array.getD_eq_getD_getElem?, Array.getElem?_setIfInBounds_ne e] at hj
      rw [Array.getD_eq_getD_getElem?]; exact hj
  have h1 := List.countP_mono_left hsub
  have h2 : (List.range ops.size).countP (fun j => !(listed.setIfInBounds i true).getD j true) + 1 ≤ (List.range ops.size).countP fun j => !listed.getD j true := by
    have hn : (List.range ops.size).countP (fun j => !listed.getD j true) = (List.range ops.size).countP (fun j => !(listed.setIfInBounds i true).getD j true) + (List.range ops.size).countP (fun j => (!listed.getD j true) && decide (j = i)) := by
      have : ∀ l : List Nat, (∀ j ∈ l, j < ops.size) → l.countP (fun j => !listed.getD j true) = l.countP (fun j => !(listed.setIfInBounds i true).getD j true) + l.countP (fun j => (!listed.getD j true) && decide (j = i)) := by
        intro l
        induction l with
        | nil => intro _; rfl
        | cons a r ih =>
          intro hl2
          have ih := ih fun j hj => hl2 j (List.mem_cons_of_mem _ hj)
          rw [List.countP_cons, List.countP_cons, List.countP_cons, ih]
          by_cases e : a = i
          · subst e
            have ha : (listed.setIfInBounds a true).getD a true = true := by
              rw [Array.getD_eq_getD_getElem?, Array.getElem?_setIfInBounds_self_of_lt (by omega)]; rfl
            rw [ha, hl]; simp; omega
          · have ha : (listed.setIfInBounds i true).getD a true = listed.getD a true := by
              rw [Array.getD_eq_getD_getElem?, Array.getElem?_setIfInBounds_ne (fun h => e h.symm), Array.getD_eq_getD_getElem?]
            rw [ha]; simp [e]; omega
      exact this _ fun j hj => List.mem_range.1 hj
    have hp : 0 < (List.range ops.size).countP (fun j => (!listed.getD j true) && decide (j = i)) := by
      rw [List.countP_pos_iff]
      exact ⟨i, List.mem_range.2 hlt, by rw [hl]; simp⟩
    omega
  omega
theorem wpAny_inv {md : Region.Mode} (I : Array Bool → Act → World → Prop)
    (hs : ∀ listed a w, listed.size = ops.size → I listed a w → ∀ i ∈ Region.ready md ops listed, wpOp P ops Q i (fun a' w' => I (listed.setIfInBounds i true) a' w') a w)
    (he : ∀ listed a w, listed.size = ops.size → I listed a w → Region.ready md ops listed = [] → Q .normal a w) :
    ∀ (fuel : Nat) (listed : Array Bool) (a : Act) (w : World), listed.size = ops.size → toCome ops listed ≤ fuel → I listed a w → wpAny P md ops Q fuel listed a w
  | 0, listed, a, w, hz, hf, hI => by
    have hr := ready_of_none (md := md) (Nat.le_zero.1 hf)
    exact ⟨hr, he listed a w hz hI hr⟩
  | fuel + 1, listed, a, w, hz, hf, hI => by
    refine ⟨fun hr => he listed a w hz hI hr, fun i hi => wpOp_mono (fun a' w' h' => ?_) (hs listed a w hz hI i hi)⟩
    have := toCome_less hz hi
    exact wpAny_inv I hs he fuel _ a' w' (by simpa using hz) (by omega) h'
theorem wp_region_inv {id : Nat} {a : Act} {w : World} (hm : P.follows .mixedOrders = true) (I : Array Bool → Act → World → Prop)
    (h0 : I (Array.replicate ops.size false) a { w with drawn := w.drawn + 1 })
    (hs : ∀ listed a w, listed.size = ops.size → I listed a w → ∀ i ∈ Region.ready .any ops listed, wpOp P ops Q i (fun a' w' => I (listed.setIfInBounds i true) a' w') a w)
    (he : ∀ listed a w, listed.size = ops.size → I listed a w → Region.ready .any ops listed = [] → Q .normal a w) : (Code.region id ops true).wp P Q a w := by
  refine wp_region_any hm (wpAny_inv I hs he _ _ _ _ (by simp) ?_ h0)
  unfold toCome
  exact Nat.le_trans List.countP_le_length (by simp)
end
end Go.Proofs.Ytechijfckmfoaaa
