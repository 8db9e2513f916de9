/-
  From a configuration a transition leads to a configuration: what is left, the domain, what was left last: plain, no program in it.
-/
import Derived.Test.YtkalfhhdljndfaaEnt4
namespace Go.Proofs.Ytkalfhhdljndfaa
set_option maxRecDepth 100000

section
variable (ks ps : List Int) (n : Nat)
variable {ks ps n}
theorem Conf.congr {S T : Nat → Prop} (h : Conf ks ps n S) (e : ∀ k, S k ↔ T k) : Conf ks ps n T := by
  have : S = T := funext fun k => propext (e k)
  rw [← this]; exact h
/-- what was left last, as parts of configurations -/
theorem PastOk.of (h : ShF ks ps n) (hn : n ≤ 32) {past : Nat → Nat} (hp : ∀ q, q < n → (∀ k, k < n → (past q).testBit k = false) ∨ ∃ c, prop ks ps c = true ∧ ∀ k, k < n → (past q).testBit k = (c.testBit q && (c.testBit k && (decide (k ≠ q) && undB ps k q)))) : PastOk ks ps n past := by
  intro q hq h1
  rcases hp q hq with h2 | ⟨c, hc, hb⟩
  · exact .inl h2
  · obtain ⟨_, hC⟩ := (prop_conf h hn c).1 hc
    cases eq : c.testBit q
    · left
      intro k hk
      rw [hb k hk, eq, Bool.false_and]
    · rcases hC.part h ⟨hq, eq⟩ (by omega) with hno | ⟨j, hj, hkj, hlc⟩
      · left
        intro k hk
        rw [hb k hk, eq, Bool.true_and]
        cases e : c.testBit k && (decide (k ≠ q) && undB ps k q)
        · rfl
        · rw [Bool.and_eq_true, Bool.and_eq_true, decide_eq_true_eq, undB_iff h hk] at e
          exact absurd ⟨⟨hk, e.1⟩, e.2⟩ (hno k)
      · right
        refine ⟨j, hj, hkj, hlc.congr fun k => ?_⟩
        constructor
        · rintro ⟨⟨hk, h2⟩, h3, h4⟩
          refine ⟨hk, ?_⟩
          rw [hb k hk, eq, h2, (undB_iff h hk).2 h4]
          simp [h3]
        · rintro ⟨hk, h2⟩
          rw [hb k hk, eq, Bool.true_and, Bool.and_eq_true, Bool.and_eq_true, decide_eq_true_eq, undB_iff h hk] at h2
          exact ⟨⟨hk, h2.1⟩, h2.2⟩
end
end Go.Proofs.Ytkalfhhdljndfaa
/-
  A start, and what a state is when it is come back to by its history: plain, no program in it.
-/
namespace Go.Proofs.Ytkalfhhdljndfaa
set_option maxRecDepth 100000

section
variable {ks ps : List Int} {n : Nat}
theorem head_filter (p : Nat → Bool) : ∀ l : List Nat, (l.filter p).head? = l.find? p
  | [] => rfl
  | a :: r => by
    rw [List.filter_cons, List.find?_cons]
    cases p a
    · exact head_filter p r
    · rfl
/-- the first state, as the program tells it -/
theorem ini_iniN {a : Int} (h : ∃ j, j < n ∧ isKid ks ps a j = true) : iniTo ks ps a n = iniN ks ps n a := by
  obtain ⟨h1, h2⟩ := iniN_kid h
  unfold iniTo
  rw [← head_filter]
  show (match (openL ks ps n a).head? with | some k => (k : Int) | none => -1) = _
  unfold iniN
  cases e : openL ks ps n a with
  | nil =>
    obtain ⟨j, hj, hk⟩ := h
    have := mem_openL.2 ⟨hj, hk⟩
    rw [e] at this; cases this
  | cons b r => rfl
end
end Go.Proofs.Ytkalfhhdljndfaa
