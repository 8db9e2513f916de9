import Derived.Test.YtaoinedndnleoaaGreatSm0
namespace Go.Proofs.YtaoinedndnleoaaGreat
set_option maxRecDepth 100000
inductive Und (ps : List Int) : Nat → Int → Prop
 | self (k : Nat) : Und ps k k
 | top (k : Nat) : Und ps k (-1)
 | up (k q : Nat) (a : Int) : ps.getD k 0 = q → Und ps q a → Und ps k a
structure ShF (ks ps : List Int) (n : Nat) : Prop where
 kl : ks.length = n
 pl : ps.length = n
 kd : ∀ k, k < n → 1 ≤ ks.getD k 0 ∧ ks.getD k 0 ≤ 4
 pa : ∀ k, k < n → -1 ≤ ps.getD k 0 ∧ ps.getD k 0 < k
 hi : ∀ k, k < n → hl ks k = false → ∃ q : Nat, ps.getD k 0 = q ∧ ks.getD q 0 = 1 ∧ ∃ j, j < n ∧ isKid ks ps q j = true
 up : ∀ k q : Nat, k < n → ps.getD k 0 = q → hl ks q = true
 tp : ∃ j, j < n ∧ isKid ks ps (-1) j = true
section
variable {ks ps : List Int} {n : Nat}
theorem ShF.lt (h : ShF ks ps n) {k q : Nat} (hk : k < n) (e : ps.getD k 0 = q) : q < k := by have := (h.pa k hk).2; omega
theorem und_le (h : ShF ks ps n) {k a : Nat} (hu : Und ps k a) (hk : k < n) : a ≤ k := by
 generalize ha : (a : Int) = b at hu
 induction hu with
 | self k => omega
 | top k => omega
 | up k q b e _ ih =>
  have := h.lt hk e
  have := ih (by omega) ha
  omega
theorem und_trans {k : Nat} {q : Nat} {b : Int} (h1 : Und ps k q) (h2 : Und ps q b) : Und ps k b := by
 generalize hq : (q : Int) = a at h1
 induction h1 with
 | self k =>
  have : q = k := by omega
  subst this; exact h2
 | top k => omega
 | up k r a e _ ih => exact .up k r b e (ih hq)
theorem und_step {k : Nat} {a : Int} (h : Und ps k a) (hne : (k : Int) ≠ a) (ha : 0 ≤ a) : ∃ q : Nat, ps.getD k 0 = q ∧ Und ps q a := by
 cases h with
 | self => exact absurd rfl hne
 | top => omega
 | up _ q _ e h => exact ⟨q, e, h⟩
theorem und_line (h : ShF ks ps n) {k : Nat} (hk : k < n) {a b : Nat} (h1 : Und ps k a) (h2 : Und ps k b) : Und ps a b ∨ Und ps b a := by
 generalize ha : (a : Int) = x at h1
 induction h1 with
 | self k =>
  have : a = k := by omega
  subst this; exact .inl h2
 | top k => omega
 | up k q x e h1 ih =>
  by_cases hb : (k : Int) = b
  ·have : k = b := by omega
   subst this
   right
   subst ha
   exact .up k q a e h1
  ·obtain ⟨q', e', h2'⟩ := und_step h2 hb (by omega)
   have : q' = q := by omega
   subst this
   exact ih (by have := h.lt hk e; omega) h2' ha
theorem und_kids (h : ShF ks ps n) {k i j : Nat} (hk : k < n) (h1 : Und ps k i) (h2 : Und ps k j) (he : ps.getD i 0 = ps.getD j 0) : i = j := by
 have hi := und_le h h1 hk
 have hj := und_le h h2 hk
 have key : ∀ {a b : Nat}, a < n → Und ps a b → ps.getD a 0 = ps.getD b 0 → b < n → a = b := fun {a b} ha hu e hb => by
  by_cases hab : (a : Int) = b
  ·omega
  ·obtain ⟨q, eq, hq⟩ := und_step hu hab (by omega)
   have hqa := h.lt ha eq
   have h3 := und_le h hq (by omega)
   have := (h.pa b hb).2
   omega
 rcases und_line h hk h1 h2 with hu | hu
 ·exact key (by omega) hu he (by omega)
 ·exact (key (by omega) hu he.symm (by omega)).symm
theorem und_kid {i : Nat} {q : Nat} (e : ps.getD i 0 = q) : Und ps i q := .up i q q e (.self q)
theorem und_down (h : ShF ks ps n) {k q : Nat} (hk : k < n) (hu : Und ps k q) (hne : k ≠ q) : ∃ j, j < n ∧ ps.getD j 0 = q ∧ Und ps k j := by
 generalize hq : (q : Int) = a at hu
 induction hu with
 | self k => omega
 | top k => omega
 | up k r a e h1 ih =>
  subst hq
  by_cases hr : r = q
  ·subst hr; exact ⟨k, hk, e, .self k⟩
  ·obtain ⟨j, hj, ej, hu⟩ := ih (by have := h.lt hk e; omega) hr rfl
   exact ⟨j, hj, ej, .up k r j e hu⟩
structure LC (ks ps : List Int) (n : Nat) (S : Nat → Prop) (x : Nat) : Prop where
 me : S x
 un : ∀ k, S k → k < n ∧ hl ks k = true ∧ Und ps k x
 pr : ∀ k, S k → k ≠ x → ∃ q : Nat, ps.getD k 0 = q ∧ S q
 al : ∀ k, S k → ks.getD k 0 = 2 → ∀ j, j < n → isKid ks ps k j = true → S j
 on : ∀ k, S k → ks.getD k 0 ≠ 2 → (∀ j, j < n → isKid ks ps k j = false) ∨ ∃ j, j < n ∧ isKid ks ps k j = true ∧ S j ∧ ∀ i, i < n → isKid ks ps k i = true → S i → i = j
theorem kid_hl {a : Int} {j : Nat} (h : isKid ks ps a j = true) : hl ks j = true := (kid_par h).2
theorem LC.leaf {x : Nat} (hx : x < n) (hh : hl ks x = true) (hno : ∀ j, j < n → isKid ks ps x j = false) : LC ks ps n (fun k => k = x) x where
 me := rfl
 un := fun k e => by subst e; exact ⟨hx, hh, .self k⟩
 pr := fun k e hne => absurd e hne
 al := fun k e _ j hj hi => by subst e; rw [hno j hj] at hi; cases hi
 on := fun k e _ => by subst e; exact .inl hno
theorem LC.one (h : ShF ks ps n) {x j : Nat} {S : Nat → Prop} (hx : x < n) (hh : hl ks x = true) (h2 : ks.getD x 0 ≠ 2) (hj : j < n) (hk : isKid ks ps x j = true) (hS : LC ks ps n S j) : LC ks ps n (fun k => k = x ∨ S k) x := by
 have ej := (kid_par hk).1
 have hxj := h.lt hj ej
 have hxS : ∀ k, S k → x < k := fun k hs => by
  have := hS.un k hs
  have := und_le h this.2.2 this.1
  omega
 refine ⟨.inl rfl, ?_, ?_, ?_, ?_⟩
 ·rintro k (rfl | hs)
  ·exact ⟨hx, hh, .self k⟩
  ·obtain ⟨h1, h3, h4⟩ := hS.un k hs
   exact ⟨h1, h3, und_trans h4 (und_kid ej)⟩
 ·rintro k (rfl | hs) hne
  ·exact absurd rfl hne
  ·by_cases e : k = j
   ·subst e; exact ⟨x, ej, .inl rfl⟩
   ·obtain ⟨q, e1, e2⟩ := hS.pr k hs e
    exact ⟨q, e1, .inr e2⟩
 ·rintro k (rfl | hs) hk2
  ·exact absurd hk2 h2
  ·exact fun i hi hki => .inr (hS.al k hs hk2 i hi hki)
 ·rintro k (rfl | hs) hk2
  ·right
   refine ⟨j, hj, hk, .inr hS.me, fun i hi hki hsi => ?_⟩
   rcases hsi with rfl | hsi
   ·have := h.lt hi (kid_par hki).1; omega
   ·have := (hS.un i hsi).2.2
    exact und_kids h hi (.self i) this (by rw [(kid_par hki).1, ej])
  ·rcases hS.on k hs hk2 with h3 | ⟨i, h3, h4, h5, h6⟩
   ·exact .inl h3
   ·refine .inr ⟨i, h3, h4, .inr h5, fun m hm hkm hsm => ?_⟩
    rcases hsm with rfl | hsm
    ·have := h.lt hm (kid_par hkm).1
     have := hxS k hs
     omega
    ·exact h6 m hm hkm hsm
theorem LC.all (h : ShF ks ps n) {x : Nat} {S : Nat → Nat → Prop} (hx : x < n) (hh : hl ks x = true) (h2 : ks.getD x 0 = 2) (hS : ∀ j, j < n → isKid ks ps x j = true → LC ks ps n (S j) j) :
  LC ks ps n (fun k => k = x ∨ ∃ j, j < n ∧ isKid ks ps x j = true ∧ S j k) x := by
 have hxS : ∀ j k, j < n → isKid ks ps x j = true → S j k → x < k := fun j k hj hk hs => by
  have h1 := (hS j hj hk).un k hs
  have := und_le h h1.2.2 h1.1
  have := h.lt hj (kid_par hk).1
  omega
 have hsame : ∀ {j k i}, j < n → isKid ks ps x j = true → S j k → i < n → isKid ks ps k i = true → ∀ m, m < n → isKid ks ps x m = true → S m i → m = j := fun {j k i} hj hk hs hi hki m hm hkm hsm => by
  have u1 := ((hS m hm hkm).un i hsm).2.2
  have u2 := und_trans (und_kid (kid_par hki).1) ((hS j hj hk).un k hs).2.2
  exact und_kids h hi u1 u2 (by rw [(kid_par hkm).1, (kid_par hk).1])
 refine ⟨.inl rfl, ?_, ?_, ?_, ?_⟩
 ·rintro k (rfl | ⟨j, hj, hk, hs⟩)
  ·exact ⟨hx, hh, .self k⟩
  ·obtain ⟨h1, h3, h4⟩ := (hS j hj hk).un k hs
   exact ⟨h1, h3, und_trans h4 (und_kid (kid_par hk).1)⟩
 ·rintro k (rfl | ⟨j, hj, hk, hs⟩) hne
  ·exact absurd rfl hne
  ·by_cases e : k = j
   ·subst e; exact ⟨x, (kid_par hk).1, .inl rfl⟩
   ·obtain ⟨q, e1, e2⟩ := (hS j hj hk).pr k hs e
    exact ⟨q, e1, .inr ⟨j, hj, hk, e2⟩⟩
 ·rintro k (rfl | ⟨j, hj, hk, hs⟩) hk2 i hi hki
  ·exact .inr ⟨i, hi, hki, (hS i hi hki).me⟩
  ·exact .inr ⟨j, hj, hk, (hS j hj hk).al k hs hk2 i hi hki⟩
 ·rintro k (rfl | ⟨j, hj, hk, hs⟩) hk2
  ·exact absurd h2 hk2
  ·rcases (hS j hj hk).on k hs hk2 with h3 | ⟨i, h3, h4, h5, h6⟩
   ·exact .inl h3
   ·refine .inr ⟨i, h3, h4, .inr ⟨j, hj, hk, h5⟩, fun m hm hkm hsm => ?_⟩
    rcases hsm with rfl | ⟨r, hr, hkr, hsm⟩
    ·have := h.lt hm (kid_par hkm).1
     have := hxS j k hj hk hs
     omega
    ·have := hsame hj hk hs hm hkm r hr hkr hsm
     subst this
     exact h6 m hm hkm hsm
end
structure Conf (ks ps : List Int) (n : Nat) (S : Nat → Prop) : Prop where
 un : ∀ k, S k → k < n ∧ hl ks k = true ∧ (ps.getD k 0 = -1 ∨ ∃ q : Nat, ps.getD k 0 = q ∧ S q)
 tp : ∃ j, j < n ∧ isKid ks ps (-1) j = true ∧ S j ∧ ∀ i, i < n → isKid ks ps (-1) i = true → S i → i = j
 al : ∀ k, S k → ks.getD k 0 = 2 → ∀ j, j < n → isKid ks ps k j = true → S j
 on : ∀ k, S k → ks.getD k 0 ≠ 2 → (∀ j, j < n → isKid ks ps k j = false) ∨ ∃ j, j < n ∧ isKid ks ps k j = true ∧ S j ∧ ∀ i, i < n → isKid ks ps k i = true → S i → i = j
section
variable {ks ps : List Int} {n : Nat}
theorem cin_one {a : Int} {s : Nat} : cin ks ps a s.testBit n = 1 ↔ ∃ j, j < n ∧ isKid ks ps a j = true ∧ s.testBit j = true ∧ ∀ i, i < n → isKid ks ps a i = true → s.testBit i = true → i = j := by
 constructor
 ·intro h
  have hex : ∃ j, j < n ∧ (isKid ks ps a j && s.testBit j) = true := by
   refine Classical.byContradiction fun hno => ?_
   have : cin ks ps a s.testBit n = 0 := sum_zero fun k hk => by
    cases e : isKid ks ps a k && s.testBit k
    ·rfl
    ·exact absurd ⟨k, hk, e⟩ hno
   omega
  obtain ⟨j, hj, e⟩ := hex
  rw [Bool.and_eq_true] at e
  refine ⟨j, hj, e.1, e.2, fun i hi hki hsi => ?_⟩
  refine Classical.byContradiction fun hne => ?_
  have h1 : cin ks ps a s.testBit n = 1 + sumTo (fun k => if k = j then 0 else if isKid ks ps a k && s.testBit k then 1 else 0) n := by
   unfold cin
   refine sum_part hj (fun k _ hne => by rw [if_neg hne]) ?_
   rw [if_pos rfl, e.1, e.2]; rfl
  have h2 : sumTo (fun k => if k = j then 0 else if isKid ks ps a k && s.testBit k then 1 else 0) n ≠ 0 := fun h0 => by
   have := sum_zero_iff.1 h0 i hi
   rw [if_neg hne, hki, hsi] at this
   cases this
  omega
 ·rintro ⟨j, hj, hk, hs, hu⟩
  have : sumTo (fun k => if (isKid ks ps a k && s.testBit k) = true then 1 else 0) n = [j].length := by
   refine sum_count (C := [j]) (P := fun k => isKid ks ps a k && s.testBit k) (by simp) fun k => ?_
   rw [List.mem_singleton, Bool.and_eq_true]
   constructor
   ·rintro rfl; exact ⟨hj, hk, hs⟩
   ·rintro ⟨h1, h2, h3⟩; exact hu k h1 h2 h3
  exact this
theorem any_kid {a : Int} : (List.range n).any (isKid ks ps a) = false ↔ ∀ j, j < n → isKid ks ps a j = false := by
 rw [List.any_eq_false]
 constructor
 ·intro h j hj
  have := h j (List.mem_range.2 hj)
  simpa using this
 ·intro h j hj
  rw [h j (List.mem_range.1 hj)]; simp
theorem prop_conf (h : ShF ks ps n) (hn : n ≤ 32) (s : Nat) : prop ks ps s = true ↔ s < 2 ^ n ∧ Conf ks ps n fun k => k < n ∧ s.testBit k = true := by
 have hsz : szN ks ps = n := by unfold szN; rw [h.kl, h.pl]; omega
 rw [prop_iff hsz hn, cin_one]
 constructor
 ·rintro ⟨h1, ⟨j, hj, hk, hs, hu⟩, h3⟩
  have st : ∀ k, k < n → s.testBit k = true → _ := fun k hk hb => (settl_iff h.pa hsz hn s k hk).1 (h3 k hk hb)
  refine ⟨h1, ?_, ⟨j, hj, hk, ⟨hj, hs⟩, fun i hi hki hsi => hu i hi hki hsi.2⟩, ?_, ?_⟩
  ·rintro k ⟨hk, hb⟩
   obtain ⟨h4, h5, _⟩ := st k hk hb
   refine ⟨hk, h4, ?_⟩
   have := h.pa k hk
   by_cases e : ps.getD k 0 = -1
   ·exact .inl e
   ·have h6 := h5 (by omega)
    exact .inr ⟨(ps.getD k 0).toNat, by omega, by omega, h6⟩
  ·rintro k ⟨hk, hb⟩ h2 i hi hki
   have := (st k hk hb).2.2
   rw [if_pos h2] at this
   exact ⟨hi, this i hi hki⟩
  ·rintro k ⟨hk, hb⟩ h2
   have := (st k hk hb).2.2
   rw [if_neg h2, any_kid, cin_one] at this
   rcases this with h4 | ⟨i, hi, hki, hsi, hui⟩
   ·exact .inl h4
   ·exact .inr ⟨i, hi, hki, ⟨hi, hsi⟩, fun m hm hkm hsm => hui m hm hkm hsm.2⟩
 ·rintro ⟨h1, hc⟩
  obtain ⟨j, hj, hk, hs, hu⟩ := hc.tp
  refine ⟨h1, ⟨j, hj, hk, hs.2, fun i hi hki hsi => hu i hi hki ⟨hi, hsi⟩⟩, fun k hk hb => ?_⟩
  rw [settl_iff h.pa hsz hn s k hk]
  obtain ⟨_, h4, h5⟩ := hc.un k ⟨hk, hb⟩
  refine ⟨h4, fun h0 => ?_, ?_⟩
  ·rcases h5 with e | ⟨q, e, hq⟩
   ·omega
   ·rw [e, Int.toNat_natCast]; exact hq.2
  ·split
   ·rename_i h2
    exact fun i hi hki => (hc.al k ⟨hk, hb⟩ h2 i hi hki).2
   ·rename_i h2
    rw [any_kid, cin_one]
    rcases hc.on k ⟨hk, hb⟩ h2 with h6 | ⟨i, hi, hki, hsi, hui⟩
    ·exact .inl h6
    ·exact .inr ⟨i, hi, hki, hsi.2, fun m hm hkm hsm => hui m hm hkm ⟨hm, hsm⟩⟩
theorem Conf.ofTop (h : ShF ks ps n) {S : Nat → Prop} {j : Nat} (hj : j < n) (hk : isKid ks ps (-1) j = true) (hS : LC ks ps n S j) : Conf ks ps n S where
 un := fun k hs => by
  obtain ⟨h1, h2, _⟩ := hS.un k hs
  refine ⟨h1, h2, ?_⟩
  by_cases e : k = j
  ·subst e; exact .inl (kid_par hk).1
  ·exact .inr (hS.pr k hs e)
 tp := ⟨j, hj, hk, hS.me, fun i hi hki hsi => by
  have u := (hS.un i hsi).2.2
  exact und_kids h hi (.self i) u (by rw [(kid_par hki).1, (kid_par hk).1])⟩
 al := hS.al
 on := hS.on
theorem Conf.swap (h : ShF ks ps n) {C S : Nat → Prop} {d j : Nat} (hC : Conf ks ps n C) (hd : C d) (hpl : ks.getD d 0 ≠ 2) (hj : j < n) (hk : isKid ks ps d j = true) (hS : LC ks ps n S j) :
  Conf ks ps n fun k => (C k ∧ ¬ (k ≠ d ∧ Und ps k d)) ∨ S k := by
 have hdn := (hC.un d hd).1
 have ej := (kid_par hk).1
 have hSd : ∀ k, S k → Und ps k d ∧ d < k := fun k hs => by
  have h1 := hS.un k hs
  have := und_le h h1.2.2 h1.1
  have := h.lt hj ej
  exact ⟨und_trans h1.2.2 (und_kid ej), by omega⟩
 have hkeep : ∀ {k i}, C k → ¬ (k ≠ d ∧ Und ps k d) → k ≠ d → i < n → isKid ks ps k i = true → ¬ (i ≠ d ∧ Und ps i d) ∧ ¬ S i := fun {k i} hck hnk hne hi hki => by
  have e := (kid_par hki).1
  have hnu : ¬ Und ps k d := fun hu => hnk ⟨hne, hu⟩
  have hni : ¬ (i ≠ d ∧ Und ps i d) := fun ⟨h1, h2⟩ => by
   obtain ⟨q, eq, hq⟩ := und_step h2 (by omega) (by omega)
   have : q = k := by omega
   subst this; exact hnu hq
  refine ⟨hni, fun hs => ?_⟩
  have := hSd i hs
  exact hni ⟨by omega, this.1⟩
 refine ⟨?_, ?_, ?_, ?_⟩
 ·rintro k (⟨hc, hn⟩ | hs)
  ·obtain ⟨h1, h2, h3⟩ := hC.un k hc
   refine ⟨h1, h2, h3.imp id ?_⟩
   rintro ⟨q, e, hq⟩
   refine ⟨q, e, .inl ⟨hq, fun ⟨h4, h5⟩ => ?_⟩⟩
   exact hn ⟨fun ek => by
    subst ek
    have := und_le h h5 (hC.un q hq).1
    have := h.lt h1 e
    omega, .up k q d e h5⟩
  ·obtain ⟨h1, h2, _⟩ := hS.un k hs
   refine ⟨h1, h2, .inr ?_⟩
   by_cases e : k = j
   ·subst e; exact ⟨d, ej, .inl ⟨hd, fun hx => hx.1 rfl⟩⟩
   ·obtain ⟨q, e1, e2⟩ := hS.pr k hs e
    exact ⟨q, e1, .inr e2⟩
 ·obtain ⟨t, ht, hkt, hct, hut⟩ := hC.tp
  have hnt : ¬ (t ≠ d ∧ Und ps t d) := fun ⟨h1, h2⟩ => by
   obtain ⟨q, e, _⟩ := und_step h2 (by omega) (by omega)
   have := (kid_par hkt).1
   omega
  refine ⟨t, ht, hkt, .inl ⟨hct, hnt⟩, fun i hi hki hsi => ?_⟩
  rcases hsi with ⟨hci, _⟩ | hsi
  ·exact hut i hi hki hci
  ·obtain ⟨q, e, _⟩ := und_step (hSd i hsi).1 (by have := (hSd i hsi).2; omega) (by omega)
   have := (kid_par hki).1
   omega
 ·rintro k (⟨hc, hn⟩ | hs) h2 i hi hki
  ·have hne : k ≠ d := fun e => by subst e; exact hpl h2
   exact .inl ⟨hC.al k hc h2 i hi hki, (hkeep hc hn hne hi hki).1⟩
  ·exact .inr (hS.al k hs h2 i hi hki)
 ·rintro k (⟨hc, hn⟩ | hs) h2
  ·by_cases e : k = d
   ·subst e
    refine .inr ⟨j, hj, hk, .inr hS.me, fun i hi hki hsi => ?_⟩
    rcases hsi with ⟨_, hni⟩ | hsi
    ·have := h.lt hi (kid_par hki).1
     exact absurd ⟨by omega, und_kid (kid_par hki).1⟩ hni
    ·exact und_kids h hi (.self i) (hS.un i hsi).2.2 (by rw [(kid_par hki).1, ej])
   ·rcases hC.on k hc h2 with h3 | ⟨i, hi, hki, hci, hui⟩
    ·exact .inl h3
    ·refine .inr ⟨i, hi, hki, .inl ⟨hci, (hkeep hc hn e hi hki).1⟩, fun m hm hkm hsm => ?_⟩
     rcases hsm with ⟨hcm, _⟩ | hsm
     ·exact hui m hm hkm hcm
     ·exact absurd hsm (hkeep hc hn e hm hkm).2
  ·rcases hS.on k hs h2 with h3 | ⟨i, hi, hki, hsi, hui⟩
   ·exact .inl h3
   ·refine .inr ⟨i, hi, hki, .inr hsi, fun m hm hkm hsm => ?_⟩
    rcases hsm with ⟨_, hnm⟩ | hsm
    ·have h4 := hSd k hs
     have e := (kid_par hkm).1
     have := h.lt hm e
     exact absurd ⟨by omega, .up m k d e h4.1⟩ hnm
    ·exact hui m hm hkm hsm
end
section
variable (ks ps : List Int) (n : Nat)
def intoF : Nat → Nat → List Nat
 | 0, x => [x]
 | f + 1, x => x :: (if ks.getD x 0 = 2 then (openL ks ps n x).flatMap (intoF f) else match (openL ks ps n x).head? with
  | some k => intoF f k
  | none => [])
def inS (x : Nat) : List Nat := intoF ks ps n (n - x) x
variable {ks ps n}
theorem flatMap_congr {f g : Nat → List Nat} : ∀ {l : List Nat}, (∀ k ∈ l, f k = g k) → l.flatMap f = l.flatMap g
 | [], _ => rfl
 | a :: r, h => by
  rw [List.flatMap_cons, List.flatMap_cons, h a (by simp), flatMap_congr fun k hk => h k (by simp [hk])]
theorem openL_gt (hp : ∀ k, k < n → ps.getD k 0 < k) {x k : Nat} (hk : k ∈ openL ks ps n x) : k < n ∧ x < k := by
 obtain ⟨h1, h2⟩ := mem_openL.1 hk
 have := hp k h1
 have := (kid_par h2).1
 exact ⟨h1, by omega⟩
theorem intoF_stab (hp : ∀ k, k < n → ps.getD k 0 < k) : ∀ (f f' x : Nat), n - x ≤ f → n - x ≤ f' → x < n → intoF ks ps n f x = intoF ks ps n f' x
 | 0, _, x, h, _, hx => by omega
 | _ + 1, 0, x, _, h, hx => by omega
 | f + 1, f' + 1, x, h, h', hx => by
  have e : ∀ k ∈ openL ks ps n x, intoF ks ps n f k = intoF ks ps n f' k := fun k hk => by
   have := openL_gt hp hk
   exact intoF_stab hp f f' k (by omega) (by omega) this.1
  unfold intoF
  congr 1
  split
  ·exact flatMap_congr e
  ·cases hh : (openL ks ps n x).head? with
   | none => rfl
   | some k => exact e k (List.mem_of_head? hh)
theorem inS_eq (hp : ∀ k, k < n → ps.getD k 0 < k) {x : Nat} (hx : x < n) : inS ks ps n x = x :: (if ks.getD x 0 = 2 then (openL ks ps n x).flatMap (inS ks ps n) else match (openL ks ps n x).head? with
  | some k => inS ks ps n k
  | none => []) := by
 have h1 : inS ks ps n x = intoF ks ps n (n - x + 1) x := intoF_stab hp _ _ x (Nat.le_refl _) (by omega) hx
 rw [h1]
 have e : ∀ k ∈ openL ks ps n x, intoF ks ps n (n - x) k = inS ks ps n k := fun k hk => by
  have := openL_gt hp hk
  exact intoF_stab hp _ _ k (by omega) (Nat.le_refl _) this.1
 show x :: _ = _
 congr 1
 split
 ·exact flatMap_congr e
 ·cases hh : (openL ks ps n x).head? with
  | none => rfl
  | some k => exact e k (List.mem_of_head? hh)
theorem LC.congr {S T : Nat → Prop} {x : Nat} (h : LC ks ps n S x) (e : ∀ k, S k ↔ T k) : LC ks ps n T x := by
 have : S = T := funext fun k => propext (e k)
 rw [← this]; exact h
theorem openL_nil {x : Nat} (h : (openL ks ps n x).head? = none) : ∀ j, j < n → isKid ks ps x j = false := fun j hj => by
 cases e : isKid ks ps x j
 ·rfl
 ·have := mem_openL.2 ⟨hj, e⟩
  rw [List.head?_eq_none_iff] at h
  rw [h] at this; cases this
theorem inS_lc (h : ShF ks ps n) : ∀ (m x : Nat), n - x ≤ m → x < n → hl ks x = true → LC ks ps n (fun k => k ∈ inS ks ps n x) x
 | 0, x, hm, hx, _ => by omega
 | m + 1, x, hm, hx, hh => by
  have hp : ∀ k, k < n → ps.getD k 0 < k := fun k hk => (h.pa k hk).2
  rw [inS_eq hp hx]
  by_cases h2 : ks.getD x 0 = 2
  ·rw [if_pos h2]
   refine (LC.all h hx hh h2 (S := fun j k => k ∈ inS ks ps n j) fun j hj hk => inS_lc h m j (by have := h.lt hj (kid_par hk).1; omega) hj (kid_hl hk)).congr fun k => ?_
   rw [List.mem_cons, List.mem_flatMap]
   constructor
   ·rintro (e | ⟨j, hj, hk, hs⟩)
    ·exact .inl e
    ·exact .inr ⟨j, mem_openL.2 ⟨hj, hk⟩, hs⟩
   ·rintro (e | ⟨j, hj, hs⟩)
    ·exact .inl e
    ·exact .inr ⟨j, (mem_openL.1 hj).1, (mem_openL.1 hj).2, hs⟩
  ·rw [if_neg h2]
   cases hhd : (openL ks ps n x).head? with
   | none =>
    refine (LC.leaf hx hh (openL_nil hhd)).congr fun k => ?_
    simp
   | some j =>
    have hj := mem_openL.1 (List.mem_of_head? hhd)
    refine (LC.one h hx hh h2 hj.1 hj.2 (inS_lc h m j (by have := h.lt hj.1 (kid_par hj.2).1; omega) hj.1 (kid_hl hj.2))).congr fun k => ?_
    rw [List.mem_cons]
theorem inS_LC (h : ShF ks ps n) {x : Nat} (hx : x < n) (hh : hl ks x = true) : LC ks ps n (fun k => k ∈ inS ks ps n x) x := inS_lc h n x (by omega) hx hh
def iniN (ks ps : List Int) (n : Nat) (a : Int) : Nat := (openL ks ps n a).headD 0
theorem iniN_kid {a : Int} (h : ∃ j, j < n ∧ isKid ks ps a j = true) : iniN ks ps n a < n ∧ isKid ks ps a (iniN ks ps n a) = true := by
 obtain ⟨j, hj, hk⟩ := h
 have hm := mem_openL.2 ⟨hj, hk⟩
 unfold iniN
 cases e : openL ks ps n a with
 | nil => rw [e] at hm; cases hm
 | cons b r =>
  have : b ∈ openL ks ps n a := by rw [e]; simp
  exact mem_openL.1 this
theorem start_conf (h : ShF ks ps n) : Conf ks ps n fun k => k ∈ inS ks ps n (iniN ks ps n (-1)) := by
 obtain ⟨h1, h2⟩ := iniN_kid h.tp
 exact Conf.ofTop h h1 h2 (inS_LC h h1 (kid_hl h2))
theorem Conf.part (h : ShF ks ps n) {C : Nat → Prop} {q : Nat} (hC : Conf ks ps n C) (hq : C q) (h2 : ks.getD q 0 ≠ 2) :
  (∀ k, ¬ (C k ∧ k ≠ q ∧ Und ps k q)) ∨ ∃ j, j < n ∧ isKid ks ps q j = true ∧ LC ks ps n (fun k => C k ∧ k ≠ q ∧ Und ps k q) j := by
 -- what is in, and below q, has all that is above it in
 have hup : ∀ k, C k → ∀ a : Nat, Und ps k a → C a := fun k hk a hu => by
  generalize ha : (a : Int) = b at hu
  induction hu with
  | self k =>
   have : a = k := by omega
   subst this; exact hk
  | top k => omega
  | up k r b e _ ih =>
   obtain ⟨hkn, _, hp⟩ := hC.un k hk
   rcases hp with hp | ⟨r', e', hr⟩
   ·omega
   ·have : r' = r := by omega
    subst this
    exact ih hr ha
 have hkid : ∀ k, C k → k ≠ q → Und ps k q → ∃ j, j < n ∧ isKid ks ps q j = true ∧ C j ∧ Und ps k j := fun k hk hne hu => by
  obtain ⟨j, hj, ej, huj⟩ := und_down h (hC.un k hk).1 hu hne
  have hcj := hup k hk j huj
  refine ⟨j, hj, ?_, hcj, huj⟩
  unfold isKid
  rw [ej, (hC.un j hcj).2.1]; simp
 rcases hC.on q hq h2 with hno | ⟨j, hj, hk, hcj, hu⟩
 ·left
  rintro k ⟨hk, hne, hun⟩
  obtain ⟨j, hj, hkj, _⟩ := hkid k hk hne hun
  rw [hno j hj] at hkj; cases hkj
 ·right
  have hqj := h.lt hj (kid_par hk).1
  refine ⟨j, hj, hk, ⟨⟨hcj, by omega, und_kid (kid_par hk).1⟩, ?_, ?_, ?_, ?_⟩⟩
  ·rintro k ⟨hck, hne, hun⟩
   obtain ⟨i, hi, hki, hci, hui⟩ := hkid k hck hne hun
   have := hu i hi hki hci
   subst this
   exact ⟨(hC.un k hck).1, (hC.un k hck).2.1, hui⟩
  ·rintro k ⟨hck, hne, hun⟩ hnj
   obtain ⟨i, hi, hki, hci, hui⟩ := hkid k hck hne hun
   have := hu i hi hki hci
   subst this
   obtain ⟨r, er, hr⟩ := und_step hui (by omega) (by omega)
   have hcr := hup k hck r (.up k r r er (.self r))
   refine ⟨r, er, hcr, ?_, und_trans hr (und_kid (kid_par hk).1)⟩
   have h3 := und_le h hr (hC.un r hcr).1
   omega
  ·rintro k ⟨hck, hne, hun⟩ hk2 i hi hki
   have := h.lt hi (kid_par hki).1
   have := und_le h hun (hC.un k hck).1
   exact ⟨hC.al k hck hk2 i hi hki, by omega, .up i k q (kid_par hki).1 hun⟩
  ·rintro k ⟨hck, hne, hun⟩ hk2
   rcases hC.on k hck hk2 with h3 | ⟨i, hi, hki, hci, hui⟩
   ·exact .inl h3
   ·have := h.lt hi (kid_par hki).1
    have := und_le h hun (hC.un k hck).1
    exact .inr ⟨i, hi, hki, ⟨hci, by omega, .up i k q (kid_par hki).1 hun⟩, fun m hm hkm hsm => hui m hm hkm hsm.1⟩
end
section
variable (ks ps : List Int) (n : Nat)
def undF : Nat → Nat → Int → Bool
 | 0, k, a => decide ((k : Int) = a) || decide (a = -1)
 | f + 1, k, a => decide ((k : Int) = a) || decide (a = -1) || (decide (0 ≤ ps.getD k 0) && undF f (ps.getD k 0).toNat a)
def undB (k : Nat) (a : Int) : Bool := undF ps k k a
def intoH (past : Nat → Nat) (x : Nat) : List Nat :=
 if hl ks x = true then inS ks ps n x
 else if ks.getD x 0 = 3 then match (kidsTo ps (ps.getD x 0) n).find? fun k => (past (ps.getD x 0).toNat).testBit k with
  | some k => inS ks ps n k
  | none => inS ks ps n (iniN ks ps n (ps.getD x 0))
 else if ((List.range n).filter fun i : Nat => decide ((i : Int) ≠ ps.getD x 0) && undB ps i (ps.getD x 0) && (past (ps.getD x 0).toNat).testBit i) = [] then inS ks ps n (iniN ks ps n (ps.getD x 0))
 else (List.range n).filter fun i : Nat => decide ((i : Int) ≠ ps.getD x 0) && undB ps i (ps.getD x 0) && (past (ps.getD x 0).toNat).testBit i
def wayF (past : Nat → Nat) : Nat → Nat → Nat → List Nat
 | 0, _, t => intoH ks ps n past t
 | f + 1, a, t => if a = t then intoH ks ps n past t
  else a :: ((match (kidsTo ps a n).find? fun k : Nat => undB ps t k with
   | some k => wayF past f k t
   | none => []) ++ if ks.getD a 0 = 2 then ((kidsTo ps a n).filter fun k : Nat => !undB ps t k).flatMap (inS ks ps n) else [])
def topF : Nat → Nat → Int → Nat
 | 0, k, _ => k
 | f + 1, k, d => if ps.getD k 0 = d then k else topF f (ps.getD k 0).toNat d
def enterL (past : Nat → Nat) (d : Int) (t : Nat) : List Nat := wayF ks ps n past (n - topF ps t t d) (topF ps t t d) t
def PastOk (past : Nat → Nat) : Prop := ∀ q, q < n → ks.getD q 0 = 1 → (∀ k, k < n → (past q).testBit k = false) ∨ ∃ j, j < n ∧ isKid ks ps q j = true ∧ LC ks ps n (fun k => k < n ∧ (past q).testBit k = true) j
variable {ks ps n}
theorem undF_und : ∀ {f k : Nat} {a : Int}, undF ps f k a = true → Und ps k a
 | 0, k, a, h => by
  unfold undF at h
  rw [Bool.or_eq_true, decide_eq_true_eq, decide_eq_true_eq] at h
  rcases h with rfl | rfl
  ·exact .self k
  ·exact .top k
 | f + 1, k, a, h => by
  unfold undF at h
  rw [Bool.or_eq_true, Bool.or_eq_true, decide_eq_true_eq, decide_eq_true_eq, Bool.and_eq_true, decide_eq_true_eq] at h
  rcases h with (rfl | rfl) | ⟨h1, h2⟩
  ·exact .self k
  ·exact .top k
  ·exact .up k (ps.getD k 0).toNat a (by omega) (undF_und h2)
theorem und_undF (h : ShF ks ps n) {k : Nat} {a : Int} (hu : Und ps k a) : ∀ {f : Nat}, k ≤ f → k < n → undF ps f k a = true := by
 induction hu with
 | self k => intro f _ _; cases f <;> simp [undF]
 | top k => intro f _ _; cases f <;> simp [undF]
 | up k q a e _ ih =>
  intro f hf hk
  have := h.lt hk e
  obtain ⟨g, rfl⟩ : ∃ g, f = g + 1 := ⟨f - 1, by omega⟩
  unfold undF
  rw [e, Int.toNat_natCast, ih (by omega) (by omega)]
  simp
theorem undB_iff (h : ShF ks ps n) {k : Nat} {a : Int} (hk : k < n) : undB ps k a = true ↔ Und ps k a := ⟨undF_und, fun hu => und_undF h hu (Nat.le_refl _) hk⟩
theorem undB_no (h : ShF ks ps n) {k : Nat} {a : Int} (hk : k < n) : undB ps k a = false ↔ ¬ Und ps k a := by
 rw [← undB_iff h hk]
 cases undB ps k a <;> simp
theorem PastOk.start : PastOk ks ps n fun _ => 0 := fun q _ _ => .inl fun k _ => Nat.zero_testBit k
theorem hist (h : ShF ks ps n) {x : Nat} (hx : x < n) (hh : hl ks x = false) : ∃ q : Nat, ps.getD x 0 = q ∧ q < n ∧ ks.getD q 0 = 1 ∧ iniN ks ps n q < n ∧ isKid ks ps q (iniN ks ps n q) = true := by
 obtain ⟨q, e, h1, h2⟩ := h.hi x hx hh
 have := h.lt hx e
 exact ⟨q, e, by omega, h1, iniN_kid h2⟩
theorem intoH_hist (h : ShF ks ps n) {past : Nat → Nat} (hp : PastOk ks ps n past) {x q : Nat} (hx : x < n) (hh : hl ks x = false) (e : ps.getD x 0 = q) : ∃ j, j < n ∧ isKid ks ps q j = true ∧ LC ks ps n (fun k => k ∈ intoH ks ps n past x) j := by
 obtain ⟨q', e', hq, h1, hi, hki⟩ := hist h hx hh
 have : q' = q := by omega
 subst this
 unfold intoH
 rw [hh, if_neg (by simp), e, Int.toNat_natCast]
 by_cases h3 : ks.getD x 0 = 3
 ·rw [if_pos h3]
  cases hf : (kidsTo ps q' n).find? fun k => (past q').testBit k with
  | none => exact ⟨_, hi, hki, inS_LC h hi (kid_hl hki)⟩
  | some k =>
   have hk := mem_kidsTo.1 (List.mem_of_find?_eq_some hf)
   have hb : (past q').testBit k = true := by simpa using List.find?_some hf
   rcases hp q' hq h1 with hno | ⟨j, hj, hkj, hlc⟩
   ·rw [hno k hk.1] at hb; cases hb
   ·have hu := (hlc.un k ⟨hk.1, hb⟩).2.2
    have : k = j := und_kids h hk.1 (.self k) hu (by rw [hk.2, (kid_par hkj).1])
    subst this
    exact ⟨k, hj, hkj, inS_LC h hj (kid_hl hkj)⟩
 ·rw [if_neg h3]
  split
  ·exact ⟨_, hi, hki, inS_LC h hi (kid_hl hki)⟩
  ·rename_i hne
   rcases hp q' hq h1 with hno | ⟨j, hj, hkj, hlc⟩
   ·exfalso
    apply hne
    rw [List.filter_eq_nil_iff]
    intro i hi'
    rw [hno i (List.mem_range.1 hi')]; simp
   ·refine ⟨j, hj, hkj, hlc.congr fun k => ?_⟩
    rw [List.mem_filter, List.mem_range, Bool.and_eq_true, Bool.and_eq_true, decide_eq_true_eq]
    constructor
    ·rintro ⟨hk, hb⟩
     have hu := (hlc.un k ⟨hk, hb⟩).2.2
     have h4 := und_le h hu hk
     have h5 := h.lt hj (kid_par hkj).1
     exact ⟨hk, ⟨by omega, (undB_iff h hk).2 (und_trans hu (und_kid (kid_par hkj).1))⟩, hb⟩
    ·rintro ⟨hk, _, hb⟩
     exact ⟨hk, hb⟩
theorem intoH_hl {past : Nat → Nat} {x : Nat} (hh : hl ks x = true) : intoH ks ps n past x = inS ks ps n x := by
 unfold intoH; rw [if_pos hh]
theorem lead (h : ShF ks ps n) {a t : Nat} (ht : t < n) (hu : Und ps t a) (hne : t ≠ a) : ∃ k, (kidsTo ps a n).find? (fun k : Nat => undB ps t k) = some k ∧ k < n ∧ ps.getD k 0 = a ∧ Und ps t k ∧ ∀ m, m < n → ps.getD m 0 = a → (Und ps t m ↔ m = k) := by
 obtain ⟨j, hj, ej, huj⟩ := und_down h ht hu hne
 have hm : j ∈ kidsTo ps a n := mem_kidsTo.2 ⟨hj, ej⟩
 cases hf : (kidsTo ps a n).find? fun k : Nat => undB ps t k with
 | none =>
  rw [List.find?_eq_none] at hf
  exact absurd ((undB_iff h ht).2 huj) (hf j hm)
 | some k =>
  have hk := mem_kidsTo.1 (List.mem_of_find?_eq_some hf)
  have hb : undB ps t k = true := by simpa using List.find?_some hf
  have huk := (undB_iff h ht).1 hb
  exact ⟨k, rfl, hk.1, hk.2, huk, fun m _ em => ⟨fun hum => und_kids h ht hum huk (by rw [em, hk.2]), fun e => by subst e; exact huk⟩⟩
theorem wayF_LC (h : ShF ks ps n) {past : Nat → Nat} (hp : PastOk ks ps n past) {t : Nat} (ht : t < n) : ∀ (f a : Nat), n - a ≤ f → a < n → hl ks a = true → Und ps t a → LC ks ps n (fun k => k ∈ wayF ks ps n past f a t) a
 | 0, a, hf, ha, _, _ => by omega
 | f + 1, a, hf, ha, hh, hu => by
  unfold wayF
  by_cases e : a = t
  ·subst e
   rw [if_pos rfl, intoH_hl hh]
   exact inS_LC h ha hh
  ·rw [if_neg e]
   obtain ⟨k, hfind, hk, ek, huk, hone⟩ := lead h ht hu (fun e' => e e'.symm)
   rw [hfind]
   have hak := h.lt hk ek
   cases hhk : hl ks k
   ·-- a history: it is the one
    have hkt : k = t := by
     refine Classical.byContradiction fun hne => ?_
     obtain ⟨j, hj, ej, _⟩ := und_down h ht huk (fun e' => hne e'.symm)
     have := h.up j k hj ej
     rw [this] at hhk; cases hhk
    subst hkt
    obtain ⟨q, eq, h1, _⟩ := h.hi k hk hhk
    have hqa : q = a := by omega
    subst hqa
    have h2 : ks.getD q 0 ≠ 2 := by omega
    rw [if_neg h2, List.append_nil]
    obtain ⟨j, hj, hkj, hlc⟩ := intoH_hist h hp hk hhk eq
    have hw : wayF ks ps n past f k k = intoH ks ps n past k := by cases f <;> simp [wayF]
    show LC ks ps n (fun i => i ∈ q :: wayF ks ps n past f k k) q
    rw [hw]
    exact (LC.one h ha hh h2 hj hkj hlc).congr fun i => by rw [List.mem_cons]
   ·have hkid : isKid ks ps a k = true := by unfold isKid; rw [ek, hhk]; simp
    have ih := wayF_LC h hp ht f k (by omega) hk hhk huk
    by_cases h2 : ks.getD a 0 = 2
    ·rw [if_pos h2]
     refine (LC.all h ha hh h2 (S := fun j i => if j = k then i ∈ wayF ks ps n past f k t else i ∈ inS ks ps n j) fun j hj hkj => ?_).congr fun i => ?_
     ·by_cases ejk : j = k
      ·subst ejk
       exact ih.congr fun i => by rw [if_pos rfl]
      ·exact (inS_LC h hj (kid_hl hkj)).congr fun i => by rw [if_neg ejk]
     ·rw [List.mem_cons, List.mem_append, List.mem_flatMap]
      constructor
      ·rintro (e1 | ⟨j, hj, hkj, hs⟩)
       ·exact .inl e1
       ·by_cases ejk : j = k
        ·rw [if_pos ejk] at hs
         exact .inr (.inl hs)
        ·rw [if_neg ejk] at hs
         refine .inr (.inr ⟨j, ?_, hs⟩)
         rw [List.mem_filter]
         refine ⟨mem_kidsTo.2 ⟨hj, (kid_par hkj).1⟩, ?_⟩
         rw [(undB_no h ht).2 fun hum => ejk ((hone j hj (kid_par hkj).1).1 hum)]; rfl
      ·rintro (e1 | hs | ⟨j, hj, hs⟩)
       ·exact .inl e1
       ·exact .inr ⟨k, hk, hkid, by rw [if_pos rfl]; exact hs⟩
       ·rw [List.mem_filter] at hj
        obtain ⟨hj1, hj2⟩ := hj
        have hjm := mem_kidsTo.1 hj1
        have ejk : j ≠ k := fun e' => by
         subst e'
         rw [(undB_iff h ht).2 huk] at hj2; cases hj2
        have hhj : hl ks j = true := by
         cases e' : hl ks j
         ·obtain ⟨q, eq, h1, _⟩ := h.hi j hjm.1 e'
          have : q = a := by omega
          subst this
          omega
         ·rfl
        exact .inr ⟨j, hjm.1, by unfold isKid; rw [hjm.2, hhj]; simp, by rw [if_neg ejk]; exact hs⟩
    ·rw [if_neg h2, List.append_nil]
     exact (LC.one h ha hh h2 hk hkid ih).congr fun i => by rw [List.mem_cons]
end
end Go.Proofs.YtaoinedndnleoaaGreat
