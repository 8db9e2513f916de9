/-
  What a transition to a state enters, by what was left last: plain, no program in it.
-/
import Derived.Test.YtkalfhhdljndfaaEnt2
namespace Go.Proofs.Ytkalfhhdljndfaa
set_option maxRecDepth 100000

section
variable (ks ps : List Int) (n : Nat)
def undF : Nat → Nat → Int → Bool
  | 0, k, a => decide ((k : Int) = a) || decide (a = -1)
  | f + 1, k, a => decide ((k : Int) = a) || decide (a = -1) || (decide (0 ≤ ps.getD k 0) && undF f (ps.getD k 0).toNat a)
/-- is a state another one, or below it? -/
def undB (k : Nat) (a : Int) : Bool := undF ps k k a
/-- what was left last: a part of a configuration, or nothing -/
def PastOk (past : Nat → Nat) : Prop := ∀ q, q < n → ks.getD q 0 = 1 → (∀ k, k < n → (past q).testBit k = false) ∨ ∃ j, j < n ∧ isKid ks ps q j = true ∧ LC ks ps n (fun k => k < n ∧ (past q).testBit k = true) j
variable {ks ps n}
theorem undF_und : ∀ {f k : Nat} {a : Int}, undF ps f k a = true → Und ps k a
  | 0, k, a, h => by
    unfold undF at h
    rw [Bool.or_eq_true, decide_eq_true_eq, decide_eq_true_eq] at h
    rcases h with rfl | rfl
    · exact .self k
    · exact .top k
  | f + 1, k, a, h => by
    unfold undF at h
    rw [Bool.or_eq_true, Bool.or_eq_true, decide_eq_true_eq, decide_eq_true_eq, Bool.and_eq_true, decide_eq_true_eq] at h
    rcases h with (rfl | rfl) | ⟨h1, h2⟩
    · exact .self k
    · exact .top k
    · exact .up k (ps.getD k 0).toNat a (by omega) (undF_und h2)
theorem und_undF (h : ShF ks ps n) {k : Nat} {a : Int} (hu : Und ps k a) : ∀ {f : Nat}, k ≤ f → k < n → undF ps f k a = true := by
  induction hu with
  | self k => intro f _ _; cases f <;> simp [undF]
  | top k => intro f _ _; cases f <;> simp [undF]
  | up k q a e _ ih =>
    intro f hf hk
    have := h.lt hk e
    obtain ⟨g, rfl⟩ : ∃ g, f = g + 1 := ⟨f - 1, by omega⟩
    unfold undF
    rw [e, Int.toNat_natCast, ih (by omega) (by omega)]
    simp
theorem undB_iff (h : ShF ks ps n) {k : Nat} {a : Int} (hk : k < n) : undB ps k a = true ↔ Und ps k a := ⟨undF_und, fun hu => und_undF h hu (Nat.le_refl _) hk⟩
end
end Go.Proofs.Ytkalfhhdljndfaa
/-
  What a transition enters: a part of a configuration, each state once, a parent ahead of its states: plain, no program in it.
-/
namespace Go.Proofs.Ytkalfhhdljndfaa
set_option maxRecDepth 100000

/-- each state's parent has come ahead of it, or is the one from which it goes down -/
def Ahd (ps : List Int) (d : Int) : List Nat → List Nat → Prop
  | _, [] => True
  | seen, k :: r => (ps.getD k 0 = d ∨ ∃ q : Nat, q ∈ seen ∧ ps.getD k 0 = q) ∧ Ahd ps d (k :: seen) r
section
variable {ks ps : List Int} {n : Nat}
theorem Ahd.mono {d d' : Int} : ∀ {l s s' : List Nat}, Ahd ps d s l → (∀ q, q ∈ s → q ∈ s') → (d = d' ∨ ∃ q : Nat, q ∈ s' ∧ d = q) → Ahd ps d' s' l
  | [], _, _, _, _, _ => trivial
  | k :: r, s, s', h, hs, hd => by
    refine ⟨?_, h.2.mono (fun q hq => ?_) (hd.imp id fun ⟨q, h1, h2⟩ => ⟨q, List.mem_cons_of_mem _ h1, h2⟩)⟩
    · rcases h.1 with e | ⟨q, hq, e⟩
      · rcases hd with rfl | ⟨q, hq, e'⟩
        · exact .inl e
        · exact .inr ⟨q, hq, e.trans e'⟩
      · exact .inr ⟨q, hs q hq, e⟩
    · rcases List.mem_cons.1 hq with rfl | hq
      · exact List.mem_cons_self
      · exact List.mem_cons_of_mem _ (hs q hq)
/-- a state, and behind it what is its own -/
theorem Ahd.head {x : Nat} {l : List Nat} (h : Ahd ps x [] l) : Ahd ps (ps.getD x 0) [] (x :: l) :=
  ⟨.inl rfl, h.mono (fun _ hq => nomatch hq) (.inr ⟨x, List.mem_cons_self, rfl⟩)⟩
end
end Go.Proofs.Ytkalfhhdljndfaa
