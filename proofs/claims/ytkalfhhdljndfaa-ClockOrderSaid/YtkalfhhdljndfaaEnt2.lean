/-
  What is entered with a state: plain, no program in it.
-/
import Derived.Test.YtkalfhhdljndfaaEnt1
namespace Go.Proofs.Ytkalfhhdljndfaa
set_option maxRecDepth 100000

section
variable (ks ps : List Int) (n : Nat)
variable {ks ps n}
theorem LC.congr {S T : Nat → Prop} {x : Nat} (h : LC ks ps n S x) (e : ∀ k, S k ↔ T k) : LC ks ps n T x := by
  have : S = T := funext fun k => propext (e k)
  rw [← this]; exact h
/-- the first of a state's own -/
def iniN (ks ps : List Int) (n : Nat) (a : Int) : Nat := (openL ks ps n a).headD 0
theorem iniN_kid {a : Int} (h : ∃ j, j < n ∧ isKid ks ps a j = true) : iniN ks ps n a < n ∧ isKid ks ps a (iniN ks ps n a) = true := by
  obtain ⟨j, hj, hk⟩ := h
  have hm := mem_openL.2 ⟨hj, hk⟩
  unfold iniN
  cases e : openL ks ps n a with
  | nil => rw [e] at hm; cases hm
  | cons b r =>
    have : b ∈ openL ks ps n a := by rw [e]; simp
    exact mem_openL.1 this
/-- a part of a configuration, below a state -/
theorem Conf.part (h : ShF ks ps n) {C : Nat → Prop} {q : Nat} (hC : Conf ks ps n C) (hq : C q) (h2 : ks.getD q 0 ≠ 2) :
    (∀ k, ¬ (C k ∧ k ≠ q ∧ Und ps k q)) ∨ ∃ j, j < n ∧ isKid ks ps q j = true ∧ LC ks ps n (fun k => C k ∧ k ≠ q ∧ Und ps k q) j := by
  -- what is in, and below q, has all that is above it in
  have hup : ∀ k, C k → ∀ a : Nat, Und ps k a → C a := fun k hk a hu => by
    generalize ha : (a : Int) = b at hu
    induction hu with
    | self k =>
      have : a = k := by omega
      subst this; exact hk
    | top k => omega
    | up k r b e _ ih =>
      obtain ⟨hkn, _, hp⟩ := hC.un k hk
      rcases hp with hp | ⟨r', e', hr⟩
      · omega
      · have : r' = r := by omega
        subst this
        exact ih hr ha
  have hkid : ∀ k, C k → k ≠ q → Und ps k q → ∃ j, j < n ∧ isKid ks ps q j = true ∧ C j ∧ Und ps k j := fun k hk hne hu => by
    obtain ⟨j, hj, ej, huj⟩ := und_down h (hC.un k hk).1 hu hne
    have hcj := hup k hk j huj
    refine ⟨j, hj, ?_, hcj, huj⟩
    unfold isKid
    rw [ej, (hC.un j hcj).2.1]; simp
  rcases hC.on q hq h2 with hno | ⟨j, hj, hk, hcj, hu⟩
  · left
    rintro k ⟨hk, hne, hun⟩
    obtain ⟨j, hj, hkj, _⟩ := hkid k hk hne hun
    rw [hno j hj] at hkj; cases hkj
  · right
    have hqj := h.lt hj (kid_par hk).1
    refine ⟨j, hj, hk, ⟨⟨hcj, by omega, und_kid (kid_par hk).1⟩, ?_, ?_, ?_, ?_⟩⟩
    · rintro k ⟨hck, hne, hun⟩
      obtain ⟨i, hi, hki, hci, hui⟩ := hkid k hck hne hun
      have := hu i hi hki hci
      subst this
      exact ⟨(hC.un k hck).1, (hC.un k hck).2.1, hui⟩
    · rintro k ⟨hck, hne, hun⟩ hnj
      obtain ⟨i, hi, hki, hci, hui⟩ := hkid k hck hne hun
      have := hu i hi hki hci
      subst this
      obtain ⟨r, er, hr⟩ := und_step hui (by omega) (by omega)
      have hcr := hup k hck r (.up k r r er (.self r))
      refine ⟨r, er, hcr, ?_, und_trans hr (und_kid (kid_par hk).1)⟩
      have h3 := und_le h hr (hC.un r hcr).1
      omega
    · rintro k ⟨hck, hne, hun⟩ hk2 i hi hki
      have := h.lt hi (kid_par hki).1
      have := und_le h hun (hC.un k hck).1
      exact ⟨hC.al k hck hk2 i hi hki, by omega, .up i k q (kid_par hki).1 hun⟩
    · rintro k ⟨hck, hne, hun⟩ hk2
      rcases hC.on k hck hk2 with h3 | ⟨i, hi, hki, hci, hui⟩
      · exact .inl h3
      · have := h.lt hi (kid_par hki).1
        have := und_le h hun (hC.un k hck).1
        exact .inr ⟨i, hi, hki, ⟨hci, by omega, .up i k q (kid_par hki).1 hun⟩, fun m hm hkm hsm => hui m hm hkm hsm.1⟩
end
end Go.Proofs.Ytkalfhhdljndfaa
