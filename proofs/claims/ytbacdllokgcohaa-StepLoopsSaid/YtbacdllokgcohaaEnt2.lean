/-
  What is entered with a state: plain, no program in it.
-/
import Derived.Test.YtbacdllokgcohaaEnt1
namespace Go.Proofs.Ytbacdllokgcohaa
set_option maxRecDepth 100000

section
variable (ks ps : List Int) (n : Nat)
/-- a state that is entered completely -/
def intoF : Nat → Nat → List Nat
  | 0, x => [x]
  | f + 1, x => x :: (if ks.getD x 0 = 2 then (openL ks ps n x).flatMap (intoF f) else match (openL ks ps n x).head? with
    | some k => intoF f k
    | none => [])
def inS (x : Nat) : List Nat := intoF ks ps n (n - x) x
variable {ks ps n}
theorem flatMap_congr {f g : Nat → List Nat} : ∀ {l : List Nat}, (∀ k ∈ l, f k = g k) → l.flatMap f = l.flatMap g
  | [], _ => rfl
  | a :: r, h => by
    rw [List.flatMap_cons, List.flatMap_cons, h a (by simp), flatMap_congr fun k hk => h k (by simp [hk])]
theorem openL_gt (hp : ∀ k, k < n → ps.getD k 0 < k) {x k : Nat} (hk : k ∈ openL ks ps n x) : k < n ∧ x < k := by
  obtain ⟨h1, h2⟩ := mem_openL.1 hk
  have := hp k h1
  have := (kid_par h2).1
  exact ⟨h1, by omega⟩
theorem intoF_stab (hp : ∀ k, k < n → ps.getD k 0 < k) : ∀ (f f' x : Nat), n - x ≤ f → n - x ≤ f' → x < n → intoF ks ps n f x = intoF ks ps n f' x
  | 0, _, x, h, _, hx => by omega
  | _ + 1, 0, x, _, h, hx => by omega
  | f + 1, f' + 1, x, h, h', hx => by
    have e : ∀ k ∈ openL ks ps n x, intoF ks ps n f k = intoF ks ps n f' k := fun k hk => by
      have := openL_gt hp hk
      exact intoF_stab hp f f' k (by omega) (by omega) this.1
    unfold intoF
    congr 1
    split
    · exact flatMap_congr e
    · cases hh : (openL ks ps n x).head? with
      | none => rfl
      | some k => exact e k (List.mem_of_head? hh)
theorem inS_eq (hp : ∀ k, k < n → ps.getD k 0 < k) {x : Nat} (hx : x < n) : inS ks ps n x = x :: (if ks.getD x 0 = 2 then (openL ks ps n x).flatMap (inS ks ps n) else match (openL ks ps n x).head? with
    | some k => inS ks ps n k
    | none => []) := by
  have h1 : inS ks ps n x = intoF ks ps n (n - x + 1) x := intoF_stab hp _ _ x (Nat.le_refl _) (by omega) hx
  rw [h1]
  have e : ∀ k ∈ openL ks ps n x, intoF ks ps n (n - x) k = inS ks ps n k := fun k hk => by
    have := openL_gt hp hk
    exact intoF_stab hp _ _ k (by omega) (Nat.le_refl _) this.1
  show x :: _ = _
  congr 1
  split
  · exact flatMap_congr e
  · cases hh : (openL ks ps n x).head? with
    | none => rfl
    | some k => exact e k (List.mem_of_head? hh)
theorem LC.congr {S T : Nat → Prop} {x : Nat} (h : LC ks ps n S x) (e : ∀ k, S k ↔ T k) : LC ks ps n T x := by
  have : S = T := funext fun k => propext (e k)
  rw [← this]; exact h
theorem openL_nil {x : Nat} (h : (openL ks ps n x).head? = none) : ∀ j, j < n → isKid ks ps x j = false := fun j hj => by
  cases e : isKid ks ps x j
  · rfl
  · have := mem_openL.2 ⟨hj, e⟩
    rw [List.head?_eq_none_iff] at h
    rw [h] at this; cases this
/-- what is entered with a state is a part of a configuration -/
theorem inS_lc (h : ShF ks ps n) : ∀ (m x : Nat), n - x ≤ m → x < n → hl ks x = true → LC ks ps n (fun k => k ∈ inS ks ps n x) x
  | 0, x, hm, hx, _ => by omega
  | m + 1, x, hm, hx, hh => by
    have hp : ∀ k, k < n → ps.getD k 0 < k := fun k hk => (h.pa k hk).2
    rw [inS_eq hp hx]
    by_cases h2 : ks.getD x 0 = 2
    · rw [if_pos h2]
      refine (LC.all h hx hh h2 (S := fun j k => k ∈ inS ks ps n j) fun j hj hk => inS_lc h m j (by have := h.lt hj (kid_par hk).1; omega) hj (kid_hl hk)).congr fun k => ?_
      rw [List.mem_cons, List.mem_flatMap]
      constructor
      · rintro (e | ⟨j, hj, hk, hs⟩)
        · exact .inl e
        · exact .inr ⟨j, mem_openL.2 ⟨hj, hk⟩, hs⟩
      · rintro (e | ⟨j, hj, hs⟩)
        · exact .inl e
        · exact .inr ⟨j, (mem_openL.1 hj).1, (mem_openL.1 hj).2, hs⟩
    · rw [if_neg h2]
      cases hhd : (openL ks ps n x).head? with
      | none =>
        refine (LC.leaf hx hh (openL_nil hhd)).congr fun k => ?_
        simp
      | some j =>
        have hj := mem_openL.1 (List.mem_of_head? hhd)
        refine (LC.one h hx hh h2 hj.1 hj.2 (inS_lc h m j (by have := h.lt hj.1 (kid_par hj.2).1; omega) hj.1 (kid_hl hj.2))).congr fun k => ?_
        rw [List.mem_cons]
theorem inS_LC (h : ShF ks ps n) {x : Nat} (hx : x < n) (hh : hl ks x = true) : LC ks ps n (fun k => k ∈ inS ks ps n x) x := inS_lc h n x (by omega) hx hh
/-- the first of a state's own -/
def iniN (ks ps : List Int) (n : Nat) (a : Int) : Nat := (openL ks ps n a).headD 0
theorem iniN_kid {a : Int} (h : ∃ j, j < n ∧ isKid ks ps a j = true) : iniN ks ps n a < n ∧ isKid ks ps a (iniN ks ps n a) = true := by
  obtain ⟨j, hj, hk⟩ := h
  have hm := mem_openL.2 ⟨hj, hk⟩
  unfold iniN
  cases e : openL ks ps n a with
  | nil => rw [e] at hm; cases hm
  | cons b r =>
    have : b ∈ openL ks ps n a := by rw [e]; simp
    exact mem_openL.1 this
/-- the start: a configuration -/
theorem start_conf (h : ShF ks ps n) : Conf ks ps n fun k => k ∈ inS ks ps n (iniN ks ps n (-1)) := by
  obtain ⟨h1, h2⟩ := iniN_kid h.tp
  exact Conf.ofTop h h1 h2 (inS_LC h h1 (kid_hl h2))
/-- a part of a configuration, below a state -/
theorem Conf.part (h : ShF ks ps n) {C : Nat → Prop} {q : Nat} (hC : Conf ks ps n C) (hq : C q) (h2 : ks.getD q 0 ≠ 2) :
    (∀ k, ¬ (C k ∧ k ≠ q ∧ Und ps k q)) ∨ ∃ j, j < n ∧ isKid ks ps q j = true ∧ LC ks ps n (fun k => C k ∧ k ≠ q ∧ Und ps k q) j := by
  -- what is in, and below q, has all that is above it in
  have hup : ∀ k, C k → ∀ a : Nat, Und ps k a → C a := fun k hk a hu => by
    generalize ha : (a : Int) = b at hu
    induction hu with
    | self k =>
      have : a = k := by omega
      subst this; exact hk
    | top k => omega
    | up k r b e _ ih =>
      obtain ⟨hkn, _, hp⟩ := hC.un k hk
      rcases hp with hp | ⟨r', e', hr⟩
      · omega
      · have : r' = r := by omega
        subst this
        exact ih hr ha
  have hkid : ∀ k, C k → k ≠ q → Und ps k q → ∃ j, j < n ∧ isKid ks ps q j = true ∧ C j ∧ Und ps k j := fun k hk hne hu => by
    obtain ⟨j, hj, ej, huj⟩ := und_down h (hC.un k hk).1 hu hne
    have hcj := hup k hk j huj
    refine ⟨j, hj, ?_, hcj, huj⟩
    unfold isKid
    rw [ej, (hC.un j hcj).2.1]; simp
  rcases hC.on q hq h2 with hno | ⟨j, hj, hk, hcj, hu⟩
  · left
    rintro k ⟨hk, hne, hun⟩
    obtain ⟨j, hj, hkj, _⟩ := hkid k hk hne hun
    rw [hno j hj] at hkj; cases hkj
  · right
    have hqj := h.lt hj (kid_par hk).1
    refine ⟨j, hj, hk, ⟨⟨hcj, by omega, und_kid (kid_par hk).1⟩, ?_, ?_, ?_, ?_⟩⟩
    · rintro k ⟨hck, hne, hun⟩
      obtain ⟨i, hi, hki, hci, hui⟩ := hkid k hck hne hun
      have := hu i hi hki hci
      subst this
      exact ⟨(hC.un k hck).1, (hC.un k hck).2.1, hui⟩
    · rintro k ⟨hck, hne, hun⟩ hnj
      obtain ⟨i, hi, hki, hci, hui⟩ := hkid k hck hne hun
      have := hu i hi hki hci
      subst this
      obtain ⟨r, er, hr⟩ := und_step hui (by omega) (by omega)
      have hcr := hup k hck r (.up k r r er (.self r))
      refine ⟨r, er, hcr, ?_, und_trans hr (und_kid (kid_par hk).1)⟩
      have h3 := und_le h hr (hC.un r hcr).1
      omega
    · rintro k ⟨hck, hne, hun⟩ hk2 i hi hki
      have := h.lt hi (kid_par hki).1
      have := und_le h hun (hC.un k hck).1
      exact ⟨hC.al k hck hk2 i hi hki, by omega, .up i k q (kid_par hki).1 hun⟩
    · rintro k ⟨hck, hne, hun⟩ hk2
      rcases hC.on k hck hk2 with h3 | ⟨i, hi, hki, hci, hui⟩
      · exact .inl h3
      · have := h.lt hi (kid_par hki).1
        have := und_le h hun (hC.un k hck).1
        exact .inr ⟨i, hi, hki, ⟨hci, by omega, .up i k q (kid_par hki).1 hun⟩, fun m hm hkm hsm => hui m hm hkm hsm.1⟩
end
end Go.Proofs.Ytbacdllokgcohaa
