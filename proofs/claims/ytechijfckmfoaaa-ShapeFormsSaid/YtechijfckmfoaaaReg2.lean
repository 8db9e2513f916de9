/-
  A region that draws its order, each operation of which makes a value of its own out of those that it waits for: whatever the order, at the end each has what is told of it.
-/
import Derived.Test.YtechijfckmfoaaaReg
namespace Go.Proofs.Ytechijfckmfoaaa
set_option maxRecDepth 100000
open Go.RowKit

/-- no guard; what is made lies in the slots from d0 on, in the text's order; each waits for earlier ones alone -/
def regB (d0 : Nat) (ops : Array Oper) : Bool := (List.range ops.size).all fun i => match ops[i]? with
  | some o => o.guard.isNone && o.dst == some (d0 + i) && o.after.all fun e => decide (e.on < i)
  | none => true
section
variable {P : Program} {ops : Array Oper} {Q : Exit → Act → World → Prop}
theorem regB_at {d0 : Nat} (h : regB d0 ops = true) {i : Nat} {o : Oper} (ho : ops[i]? = some o) : o.guard = none ∧ o.dst = some (d0 + i) ∧ ∀ e ∈ o.after.toList, e.on < i := by
  unfold regB at h
  rw [List.all_eq_true] at h
  have hi : i < ops.size := (Array.getElem?_eq_some_iff.1 ho).1
  have := h i (List.mem_range.2 hi)
  rw [ho] at this
  simp only [Bool.and_eq_true, Option.isNone_iff_eq_none, beq_iff_eq, Array.all_eq_true_iff_forall_mem, decide_eq_true_eq] at this
  exact ⟨this.1.1, this.1.2, fun e he => this.2 e (by simpa using he)⟩
theorem all_listed {md : Region.Mode} {d0 : Nat} (h : regB d0 ops = true) {listed : Array Bool} (hz : listed.size = ops.size) (hr : Region.ready md ops listed = []) : ∀ i, i < ops.size → listed.getD i false = true := by
  intro i
  induction i using Nat.strongRecOn with
  | ind i ih =>
    intro hi
    cases hl : listed.getD i false
    · exfalso
      obtain ⟨o, ho⟩ : ∃ o, ops[i]? = some o := ⟨ops[i], by simp [hi]⟩
      have hmem : i ∈ Region.ready md ops listed := by
        unfold Region.ready
        rw [List.mem_filter, List.mem_range]
        refine ⟨hi, ?_⟩
        have hl2 : listed.getD i true = false := by
          have hls : i < listed.size := by omega
          rw [Array.getD_eq_getD_getElem?, Array.getElem?_eq_getElem hls] at hl ⊢
          simpa using hl
        rw [hl2, ho]
        simp only [Bool.not_false, Bool.true_and, Option.map_some, Option.getD_some, Array.all_eq_true_iff_forall_mem]
        intro e he
        have := (regB_at h ho).2.2 e (by simpa using he)
        rw [ih e.on this (by omega), Bool.or_true]
      rw [hr] at hmem; cases hmem
    · rfl
theorem wp_region_made {id : Nat} {a0 : Act} {w0 : World} (hm : P.follows .mixedOrders = true) (d0 : Nat) (hB : regB d0 ops = true) (hd : d0 + ops.size ≤ a0.tmps.size) (spec : Nat → Value → World → Prop)
    (hmono : ∀ i v w w', spec i v w → Below w.heap.size w w' → spec i v w')
    (step : ∀ (i : Nat) (o : Oper), ops[i]? = some o → ∀ (a : Act) (w : World), (∀ k, k < d0 → a.tmps[k]? = a0.tmps[k]?) → Below w0.heap.size w0 w →
      (∀ e ∈ o.after.toList, Region.binds .any e = true → ∃ v, a.tmps[d0 + e.on]? = some v ∧ spec e.on v w) → ∃ v w', (execOp a.eval o).run P w = .ok (.value v) w' ∧ spec i v w' ∧ Below w.heap.size w w')
    (fin : ∀ (a : Act) (w : World), a.defers = a0.defers → a.tmps.size = a0.tmps.size → (∀ k, k < d0 ∨ d0 + ops.size ≤ k → a.tmps[k]? = a0.tmps[k]?) → Below w0.heap.size w0 w → (∀ i, i < ops.size → ∃ v, a.tmps[d0 + i]? = some v ∧ spec i v w) → Q .normal a w) :
    (Code.region id ops true).wp P Q a0 w0 := by
  refine wp_region_inv hm (fun listed a w => a.defers = a0.defers ∧ a.tmps.size = a0.tmps.size ∧ (∀ k, k < d0 ∨ d0 + ops.size ≤ k → a.tmps[k]? = a0.tmps[k]?) ∧ Below w0.heap.size w0 w ∧ ∀ i, i < ops.size → listed.getD i false = true → ∃ v, a.tmps[d0 + i]? = some v ∧ spec i v w) ?_ ?_ ?_
  · refine ⟨rfl, rfl, fun _ _ => rfl, ⟨rfl, rfl, rfl, Nat.le_refl _, fun _ _ => rfl⟩, fun i hi h => ?_⟩
    rw [Array.getD_eq_getD_getElem?] at h
    simp [hi] at h
  · rintro listed a w hz ⟨h1, h2, h3, h4, h5⟩ i hi
    unfold Region.ready at hi
    rw [List.mem_filter, List.mem_range, Bool.and_eq_true] at hi
    obtain ⟨hin, _, hrd⟩ := hi
    obtain ⟨o, ho⟩ : ∃ o, ops[i]? = some o := ⟨ops[i], by simp [hin]⟩
    obtain ⟨hg, hdst, hon⟩ := regB_at hB ho
    rw [ho] at hrd
    simp only [Option.map_some, Option.getD_some, Array.all_eq_true_iff_forall_mem] at hrd
    obtain ⟨v, w', hrun, hsp, hbl⟩ := step i o ho a w (fun k hk => h3 k (.inl hk)) h4 (fun e he hb => by
      have := hrd e (by simpa using he)
      rw [hb] at this
      have hlt := hon e he
      exact h5 e.on (by omega) (by simpa using this))
    unfold wpOp
    rw [ho]
    have hwt : Region.wanted o (yielded ops a.tmps) = true := by simp [Region.wanted, hg]
    simp only [hwt, if_true]
    left
    unfold Oper.wp
    rw [hrun, Oper.upon_value, hdst]
    refine ⟨h1, by simp [Act.put, h2], fun k hk => ?_, ⟨hbl.os.trans h4.os, hbl.tape.trans h4.tape, hbl.output.trans h4.output, Nat.le_trans h4.size hbl.size, fun k hk => by
      have := h4.size
      rw [hbl.block k (by omega)]; exact h4.block k hk⟩, fun j hj hl => ?_⟩
    · show (a.tmps.setIfInBounds (d0 + i) v)[k]? = _
      rw [Array.getElem?_setIfInBounds_ne (by omega)]
      exact h3 k hk
    · by_cases e : i = j
      · subst e
        refine ⟨v, ?_, hsp⟩
        show (a.tmps.setIfInBounds (d0 + i) v)[d0 + i]? = _
        rw [Array.getElem?_setIfInBounds_self_of_lt (by omega)]
      · have hl' : listed.getD j false = true := by
          rw [Array.getD_eq_getD_getElem?, Array.getElem?_setIfInBounds_ne e] at hl
          rw [Array.getD_eq_getD_getElem?]; exact hl
        obtain ⟨u, hu, hs⟩ := h5 j hj hl'
        refine ⟨u, ?_, hmono j u w w' hs hbl⟩
        show (a.tmps.setIfInBounds (d0 + i) v)[d0 + j]? = _
        rw [Array.getElem?_setIfInBounds_ne (by omega)]
        exact hu
  · rintro listed a w hz ⟨h1, h2, h3, h4, h5⟩ hr
    exact fin a w h1 h2 h3 h4 fun i hi => h5 i hi (all_listed hB hz hr i hi)
end
end Go.Proofs.Ytechijfckmfoaaa
