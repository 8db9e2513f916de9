/-
  From a configuration a transition leads to a configuration: what is left, the domain, what was left last: plain, no program in it.
-/
import Derived.Test.YtiodjjnohbjhlaaEnt4
import Derived.Test.YtiodjjnohbjhlaaArgI
import Derived.Test.YtiodjjnohbjhlaaWth
import Derived.Test.YtiodjjnohbjhlaaD0
import Derived.Lib.Tables
import Derived.Test.YtiodjjnohbjhlaaCh3
import Derived.Test.YtiodjjnohbjhlaaCnt1
namespace Go.Proofs.Ytiodjjnohbjhlaa
set_option maxRecDepth 100000

section
variable (ks ps : List Int) (n : Nat)
variable {ks ps n}
theorem Conf.congr {S T : Nat → Prop} (h : Conf ks ps n S) (e : ∀ k, S k ↔ T k) : Conf ks ps n T := by
  have : S = T := funext fun k => propext (e k)
  rw [← this]; exact h
/-- what was left last, as parts of configurations -/
theorem PastOk.of (h : ShF ks ps n) (hn : n ≤ 32) {past : Nat → Nat} (hp : ∀ q, q < n → (∀ k, k < n → (past q).testBit k = false) ∨ ∃ c, prop ks ps c = true ∧ ∀ k, k < n → (past q).testBit k = (c.testBit q && (c.testBit k && (decide (k ≠ q) && undB ps k q)))) : PastOk ks ps n past := by
  intro q hq h1
  rcases hp q hq with h2 | ⟨c, hc, hb⟩
  · exact .inl h2
  · obtain ⟨_, hC⟩ := (prop_conf h hn c).1 hc
    cases eq : c.testBit q
    · left
      intro k hk
      rw [hb k hk, eq, Bool.false_and]
    · rcases hC.part h ⟨hq, eq⟩ (by omega) with hno | ⟨j, hj, hkj, hlc⟩
      · left
        intro k hk
        rw [hb k hk, eq, Bool.true_and]
        cases e : c.testBit k && (decide (k ≠ q) && undB ps k q)
        · rfl
        · rw [Bool.and_eq_true, Bool.and_eq_true, decide_eq_true_eq, undB_iff h hk] at e
          exact absurd ⟨⟨hk, e.1⟩, e.2⟩ (hno k)
      · right
        refine ⟨j, hj, hkj, hlc.congr fun k => ?_⟩
        constructor
        · rintro ⟨⟨hk, h2⟩, h3, h4⟩
          refine ⟨hk, ?_⟩
          rw [hb k hk, eq, h2, (undB_iff h hk).2 h4]
          simp [h3]
        · rintro ⟨hk, h2⟩
          rw [hb k hk, eq, Bool.true_and, Bool.and_eq_true, Bool.and_eq_true, decide_eq_true_eq, undB_iff h hk] at h2
          exact ⟨⟨hk, h2.1⟩, h2.2⟩
end
end Go.Proofs.Ytiodjjnohbjhlaa
/-
  Package enter: inside, told, union.
-/
namespace Go.Proofs.Ytiodjjnohbjhlaa
set_option maxRecDepth 100000
open Go.ChangeShapes Go.WideShapes Go.ChangeAt Go.RowKit

/-- a list of states in memory of the call's own -/
def OwnN (w : World) (base : Nat) (v : Value) (l : List Nat) : Prop := w.ownsRow base 3 1 v l.length (icells (l.map fun k : Nat => (k : Int)))
theorem OwnN.ints {w : World} {base : Nat} {v : Value} {l : List Nat} (h : OwnN w base v l) : OwnI w base v (l.map fun k : Nat => (k : Int)) := by
  unfold OwnI; rw [List.length_map]; exact h
theorem OwnN.of {w : World} {base : Nat} {v : Value} {l : List Nat} (h : OwnI w base v (l.map fun k : Nat => (k : Int))) : OwnN w base v l := by
  unfold OwnI at h; rw [List.length_map] at h; exact h
theorem U32sAt.below {w w' : World} {v : Value} {rs : List Nat} (h : U32sAt w v rs) (hb : Below w.heap.size w w') : U32sAt w' v rs := by
  obtain ⟨A, c, e, hl, hc⟩ := h
  refine ⟨A, c, e, hl, fun k hk => ?_⟩
  obtain ⟨b, off, e2, hlt, hx, hw⟩ := hc k hk
  exact ⟨b, off, e2, Nat.lt_of_lt_of_le hlt hb.size, (hb.cell (p := ⟨b, off + k, none⟩) hlt).trans hx, hw⟩
end Go.Proofs.Ytiodjjnohbjhlaa
