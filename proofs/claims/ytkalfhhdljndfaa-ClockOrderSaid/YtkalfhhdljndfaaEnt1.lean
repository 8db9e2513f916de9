/-
  What a transition leaves and enters: a configuration, in words; a part of it is taken for another one: plain, no program in it.
-/
import Derived.Test.YtkalfhhdljndfaaEnt0
namespace Go.Proofs.Ytkalfhhdljndfaa
set_option maxRecDepth 100000

/-- a configuration -/
structure Conf (ks ps : List Int) (n : Nat) (S : Nat → Prop) : Prop where
  un : ∀ k, S k → k < n ∧ hl ks k = true ∧ (ps.getD k 0 = -1 ∨ ∃ q : Nat, ps.getD k 0 = q ∧ S q)
  tp : ∃ j, j < n ∧ isKid ks ps (-1) j = true ∧ S j ∧ ∀ i, i < n → isKid ks ps (-1) i = true → S i → i = j
  al : ∀ k, S k → ks.getD k 0 = 2 → ∀ j, j < n → isKid ks ps k j = true → S j
  on : ∀ k, S k → ks.getD k 0 ≠ 2 → (∀ j, j < n → isKid ks ps k j = false) ∨ ∃ j, j < n ∧ isKid ks ps k j = true ∧ S j ∧ ∀ i, i < n → isKid ks ps k i = true → S i → i = j
section
variable {ks ps : List Int} {n : Nat}
theorem cin_one {a : Int} {s : Nat} : cin ks ps a s.testBit n = 1 ↔ ∃ j, j < n ∧ isKid ks ps a j = true ∧ s.testBit j = true ∧ ∀ i, i < n → isKid ks ps a i = true → s.testBit i = true → i = j := by
  constructor
  · intro h
    have hex : ∃ j, j < n ∧ (isKid ks ps a j && s.testBit j) = true := by
      refine Classical.byContradiction fun hno => ?_
      have : cin ks ps a s.testBit n = 0 := sum_zero fun k hk => by
        cases e : isKid ks ps a k && s.testBit k
        · rfl
        · exact absurd ⟨k, hk, e⟩ hno
      omega
    obtain ⟨j, hj, e⟩ := hex
    rw [Bool.and_eq_true] at e
    refine ⟨j, hj, e.1, e.2, fun i hi hki hsi => ?_⟩
    refine Classical.byContradiction fun hne => ?_
    have h1 : cin ks ps a s.testBit n = 1 + sumTo (fun k => if k = j then 0 else if isKid ks ps a k && s.testBit k then 1 else 0) n := by
      unfold cin
      refine sum_part hj (fun k _ hne => by rw [if_neg hne]) ?_
      rw [if_pos rfl, e.1, e.2]; rfl
    have h2 : sumTo (fun k => if k = j then 0 else if isKid ks ps a k && s.testBit k then 1 else 0) n ≠ 0 := fun h0 => by
      have := sum_zero_iff.1 h0 i hi
      rw [if_neg hne, hki, hsi] at this
      cases this
    omega
  · rintro ⟨j, hj, hk, hs, hu⟩
    have : sumTo (fun k => if (isKid ks ps a k && s.testBit k) = true then 1 else 0) n = [j].length := by
      refine sum_count (C := [j]) (P := fun k => isKid ks ps a k && s.testBit k) (by simp) fun k => ?_
      rw [List.mem_singleton, Bool.and_eq_true]
      constructor
      · rintro rfl; exact ⟨hj, hk, hs⟩
      · rintro ⟨h1, h2, h3⟩; exact hu k h1 h2 h3
    exact this
theorem any_kid {a : Int} : (List.range n).any (isKid ks ps a) = false ↔ ∀ j, j < n → isKid ks ps a j = false := by
  rw [List.any_eq_false]
  constructor
  · intro h j hj
    have := h j (List.mem_range.2 hj)
    simpa using this
  · intro h j hj
    rw [h j (List.mem_range.1 hj)]; simp
theorem prop_conf (h : ShF ks ps n) (hn : n ≤ 32) (s : Nat) : prop ks ps s = true ↔ s < 2 ^ n ∧ Conf ks ps n fun k => k < n ∧ s.testBit k = true := by
  have hsz : szN ks ps = n := by unfold szN; rw [h.kl, h.pl]; omega
  rw [prop_iff hsz hn, cin_one]
  constructor
  · rintro ⟨h1, ⟨j, hj, hk, hs, hu⟩, h3⟩
    have st : ∀ k, k < n → s.testBit k = true → _ := fun k hk hb => (settl_iff h.pa hsz hn s k hk).1 (h3 k hk hb)
    refine ⟨h1, ?_, ⟨j, hj, hk, ⟨hj, hs⟩, fun i hi hki hsi => hu i hi hki hsi.2⟩, ?_, ?_⟩
    · rintro k ⟨hk, hb⟩
      obtain ⟨h4, h5, _⟩ := st k hk hb
      refine ⟨hk, h4, ?_⟩
      have := h.pa k hk
      by_cases e : ps.getD k 0 = -1
      · exact .inl e
      · have h6 := h5 (by omega)
        exact .inr ⟨(ps.getD k 0).toNat, by omega, by omega, h6⟩
    · rintro k ⟨hk, hb⟩ h2 i hi hki
      have := (st k hk hb).2.2
      rw [if_pos h2] at this
      exact ⟨hi, this i hi hki⟩
    · rintro k ⟨hk, hb⟩ h2
      have := (st k hk hb).2.2
      rw [if_neg h2, any_kid, cin_one] at this
      rcases this with h4 | ⟨i, hi, hki, hsi, hui⟩
      · exact .inl h4
      · exact .inr ⟨i, hi, hki, ⟨hi, hsi⟩, fun m hm hkm hsm => hui m hm hkm hsm.2⟩
  · rintro ⟨h1, hc⟩
    obtain ⟨j, hj, hk, hs, hu⟩ := hc.tp
    refine ⟨h1, ⟨j, hj, hk, hs.2, fun i hi hki hsi => hu i hi hki ⟨hi, hsi⟩⟩, fun k hk hb => ?_⟩
    rw [settl_iff h.pa hsz hn s k hk]
    obtain ⟨_, h4, h5⟩ := hc.un k ⟨hk, hb⟩
    refine ⟨h4, fun h0 => ?_, ?_⟩
    · rcases h5 with e | ⟨q, e, hq⟩
      · omega
      · rw [e, Int.toNat_natCast]; exact hq.2
    · split
      · rename_i h2
        exact fun i hi hki => (hc.al k ⟨hk, hb⟩ h2 i hi hki).2
      · rename_i h2
        rw [any_kid, cin_one]
        rcases hc.on k ⟨hk, hb⟩ h2 with h6 | ⟨i, hi, hki, hsi, hui⟩
        · exact .inl h6
        · exact .inr ⟨i, hi, hki, hsi.2, fun m hm hkm hsm => hui m hm hkm ⟨hm, hsm⟩⟩
/-- what is under a state is taken for another part -/
theorem Conf.swap (h : ShF ks ps n) {C S : Nat → Prop} {d j : Nat} (hC : Conf ks ps n C) (hd : C d) (hpl : ks.getD d 0 ≠ 2) (hj : j < n) (hk : isKid ks ps d j = true) (hS : LC ks ps n S j) :
    Conf ks ps n fun k => (C k ∧ ¬ (k ≠ d ∧ Und ps k d)) ∨ S k := by
  have hdn := (hC.un d hd).1
  have ej := (kid_par hk).1
  have hSd : ∀ k, S k → Und ps k d ∧ d < k := fun k hs => by
    have h1 := hS.un k hs
    have := und_le h h1.2.2 h1.1
    have := h.lt hj ej
    exact ⟨und_trans h1.2.2 (und_kid ej), by omega⟩
  have hkeep : ∀ {k i}, C k → ¬ (k ≠ d ∧ Und ps k d) → k ≠ d → i < n → isKid ks ps k i = true → ¬ (i ≠ d ∧ Und ps i d) ∧ ¬ S i := fun {k i} hck hnk hne hi hki => by
    have e := (kid_par hki).1
    have hnu : ¬ Und ps k d := fun hu => hnk ⟨hne, hu⟩
    have hni : ¬ (i ≠ d ∧ Und ps i d) := fun ⟨h1, h2⟩ => by
      obtain ⟨q, eq, hq⟩ := und_step h2 (by omega) (by omega)
      have : q = k := by omega
      subst this; exact hnu hq
    refine ⟨hni, fun hs => ?_⟩
    have := hSd i hs
    exact hni ⟨by omega, this.1⟩
  refine ⟨?_, ?_, ?_, ?_⟩
  · rintro k (⟨hc, hn⟩ | hs)
    · obtain ⟨h1, h2, h3⟩ := hC.un k hc
      refine ⟨h1, h2, h3.imp id ?_⟩
      rintro ⟨q, e, hq⟩
      refine ⟨q, e, .inl ⟨hq, fun ⟨h4, h5⟩ => ?_⟩⟩
      exact hn ⟨fun ek => by
        subst ek
        have := und_le h h5 (hC.un q hq).1
        have := h.lt h1 e
        omega, .up k q d e h5⟩
    · obtain ⟨h1, h2, _⟩ := hS.un k hs
      refine ⟨h1, h2, .inr ?_⟩
      by_cases e : k = j
      · subst e; exact ⟨d, ej, .inl ⟨hd, fun hx => hx.1 rfl⟩⟩
      · obtain ⟨q, e1, e2⟩ := hS.pr k hs e
        exact ⟨q, e1, .inr e2⟩
  · obtain ⟨t, ht, hkt, hct, hut⟩ := hC.tp
    have hnt : ¬ (t ≠ d ∧ Und ps t d) := fun ⟨h1, h2⟩ => by
      obtain ⟨q, e, _⟩ := und_step h2 (by omega) (by omega)
      have := (kid_par hkt).1
      omega
    refine ⟨t, ht, hkt, .inl ⟨hct, hnt⟩, fun i hi hki hsi => ?_⟩
    rcases hsi with ⟨hci, _⟩ | hsi
    · exact hut i hi hki hci
    · obtain ⟨q, e, _⟩ := und_step (hSd i hsi).1 (by have := (hSd i hsi).2; omega) (by omega)
      have := (kid_par hki).1
      omega
  · rintro k (⟨hc, hn⟩ | hs) h2 i hi hki
    · have hne : k ≠ d := fun e => by subst e; exact hpl h2
      exact .inl ⟨hC.al k hc h2 i hi hki, (hkeep hc hn hne hi hki).1⟩
    · exact .inr (hS.al k hs h2 i hi hki)
  · rintro k (⟨hc, hn⟩ | hs) h2
    · by_cases e : k = d
      · subst e
        refine .inr ⟨j, hj, hk, .inr hS.me, fun i hi hki hsi => ?_⟩
        rcases hsi with ⟨_, hni⟩ | hsi
        · have := h.lt hi (kid_par hki).1
          exact absurd ⟨by omega, und_kid (kid_par hki).1⟩ hni
        · exact und_kids h hi (.self i) (hS.un i hsi).2.2 (by rw [(kid_par hki).1, ej])
      · rcases hC.on k hc h2 with h3 | ⟨i, hi, hki, hci, hui⟩
        · exact .inl h3
        · refine .inr ⟨i, hi, hki, .inl ⟨hci, (hkeep hc hn e hi hki).1⟩, fun m hm hkm hsm => ?_⟩
          rcases hsm with ⟨hcm, _⟩ | hsm
          · exact hui m hm hkm hcm
          · exact absurd hsm (hkeep hc hn e hm hkm).2
    · rcases hS.on k hs h2 with h3 | ⟨i, hi, hki, hsi, hui⟩
      · exact .inl h3
      · refine .inr ⟨i, hi, hki, .inr hsi, fun m hm hkm hsm => ?_⟩
        rcases hsm with ⟨_, hnm⟩ | hsm
        · have h4 := hSd k hs
          have e := (kid_par hkm).1
          have := h.lt hm e
          exact absurd ⟨by omega, .up m k d e h4.1⟩ hnm
        · exact hui m hm hkm hsm
end
end Go.Proofs.Ytkalfhhdljndfaa
