/-
  A start, and what a state is when it is come back to by its history: plain, no program in it.
-/
import Derived.Test.YtaolebdcmdmnjaaEnt5
namespace Go.Proofs.Ytaolebdcmdmnjaa
set_option maxRecDepth 100000

section
variable {ks ps : List Int} {n : Nat}
theorem head_filter (p : Nat → Bool) : ∀ l : List Nat, (l.filter p).head? = l.find? p
  | [] => rfl
  | a :: r => by
    rw [List.filter_cons, List.find?_cons]
    cases p a
    · exact head_filter p r
    · rfl
/-- the first state, as the program tells it -/
theorem ini_iniN {a : Int} (h : ∃ j, j < n ∧ isKid ks ps a j = true) : iniTo ks ps a n = iniN ks ps n a := by
  obtain ⟨h1, h2⟩ := iniN_kid h
  unfold iniTo
  rw [← head_filter]
  show (match (openL ks ps n a).head? with | some k => (k : Int) | none => -1) = _
  unfold iniN
  cases e : openL ks ps n a with
  | nil =>
    obtain ⟨j, hj, hk⟩ := h
    have := mem_openL.2 ⟨hj, hk⟩
    rw [e] at this; cases this
  | cons b r => rfl
theorem openL_head {a : Int} (h : ∃ j, j < n ∧ isKid ks ps a j = true) : (openL ks ps n a).head? = some (iniN ks ps n a) := by
  obtain ⟨j, hj, hk⟩ := h
  have hm := mem_openL.2 ⟨hj, hk⟩
  unfold iniN
  cases e : openL ks ps n a with
  | nil => rw [e] at hm; cases hm
  | cons b r => rfl
/-- each state that is entered with another one and holds one of its own is in its first one -/
theorem inS_ini (h : ShF ks ps n) : ∀ (m x : Nat), n - x ≤ m → x < n → ∀ k, k ∈ inS ks ps n x → ks.getD k 0 = 1 → (∃ j, j < n ∧ isKid ks ps k j = true) → iniN ks ps n k ∈ inS ks ps n x
  | 0, x, hm, hx, _, _, _, _ => by omega
  | m + 1, x, hm, hx, k, hk, h1, hex => by
    have hp : ∀ k, k < n → ps.getD k 0 < k := fun k hk => (h.pa k hk).2
    have hkid : ∀ j, j ∈ openL ks ps n x → j < n ∧ x < j := fun j hj => openL_gt hp hj
    have hself : ∀ j, j < n → j ∈ inS ks ps n j := fun j hj => by rw [inS_eq hp hj]; exact List.mem_cons_self
    rw [inS_eq hp hx] at hk ⊢
    rcases List.mem_cons.1 hk with rfl | hk
    · rw [if_neg (by omega), openL_head hex]
      exact List.mem_cons_of_mem _ (hself _ (iniN_kid hex).1)
    · refine List.mem_cons_of_mem _ ?_
      by_cases h2 : ks.getD x 0 = 2
      · rw [if_pos h2] at hk ⊢
        obtain ⟨j, hj, hkj⟩ := List.mem_flatMap.1 hk
        have := hkid j hj
        exact List.mem_flatMap.2 ⟨j, hj, inS_ini h m j (by omega) this.1 k hkj h1 hex⟩
      · rw [if_neg h2] at hk ⊢
        cases e : (openL ks ps n x).head? with
        | none => rw [e] at hk; cases hk
        | some j =>
          rw [e] at hk
          have := hkid j (List.mem_of_head? e)
          exact inS_ini h m j (by omega) this.1 k hk h1 hex
theorem inS_head (h : ShF ks ps n) {x : Nat} (hx : x < n) : (inS ks ps n x).head? = some x := by
  rw [inS_eq (fun k hk => (h.pa k hk).2) hx]; rfl
/-- what a state that is no history enters is what it enters whatever was left last -/
theorem wayF_self_past (past past' : Nat → Nat) {t : Nat} (hh : hl ks t = true) : ∀ f a : Nat, wayF ks ps n past f a t = wayF ks ps n past' f a t
  | 0, a => by unfold wayF; rw [intoH_hl hh, intoH_hl hh]
  | f + 1, a => by
    unfold wayF
    rw [intoH_hl hh, intoH_hl hh]
    congr 1
    congr 1
    congr 1
    cases (kidsTo ps a n).find? fun k : Nat => undB ps t k with
    | none => rfl
    | some k => exact wayF_self_past past past' hh f k
theorem enterL_self (past past' : Nat → Nat) {t : Nat} {d : Int} (hh : hl ks t = true) : enterL ks ps n past d t = enterL ks ps n past' d t := wayF_self_past past past' hh _ _
/-- what is entered by a history: its state, and below it what the history tells alone -/
theorem wayF_hist (h : ShF ks ps n) (past : Nat → Nat) {t p : Nat} (ht : t < n) (hh : hl ks t = false) (e : ps.getD t 0 = p) : ∀ f a : Nat, n - a ≤ f → a < n → Und ps t a →
    (∀ i, i ∈ intoH ks ps n past t → i ∈ wayF ks ps n past f a t) ∧ (a ≠ t → p ∈ wayF ks ps n past f a t) ∧ ∀ i, i ∈ wayF ks ps n past f a t → i ≠ p → Und ps i p → i ∈ intoH ks ps n past t
  | 0, a, hf, ha, _ => by omega
  | f + 1, a, hf, ha, hu => by
    by_cases eat : a = t
    · subst eat
      rw [wayF_self]
      exact ⟨fun _ hi => hi, fun hne => absurd rfl hne, fun _ hi _ _ => hi⟩
    · unfold wayF
      rw [if_neg eat]
      obtain ⟨k, hfind, hk, ek, huk, hone⟩ := lead h ht hu (fun e' => eat e'.symm)
      rw [hfind]
      have hak := h.lt hk ek
      have hpt := h.lt ht e
      obtain ⟨ih1, ih2, ih3⟩ := wayF_hist h past ht hh e f k (by omega) hk huk
      obtain ⟨q, eq, hpl, _⟩ := h.hi t ht hh
      have hqp : q = p := by omega
      subst hqp
      obtain ⟨q', eq', hqa⟩ := und_step hu (by omega) (by omega)
      have : q' = q := by omega
      subst this
      refine ⟨fun i hi => List.mem_cons_of_mem _ (List.mem_append_left _ (ih1 i hi)), fun _ => ?_, fun i hi hne hui => ?_⟩
      · by_cases ekt : k = t
        · have : q' = a := by subst ekt; omega
          subst this
          exact List.mem_cons_self
        · exact List.mem_cons_of_mem _ (List.mem_append_left _ (ih2 ekt))
      · rcases List.mem_cons.1 hi with rfl | hi
        · have h1 := und_le h hui ha
          have h2 := und_le h hqa (by omega)
          omega
        · rcases List.mem_append.1 hi with hi | hi
          · exact ih3 i hi hne hui
          · exfalso
            by_cases h2 : ks.getD a 0 = 2
            · rw [if_pos h2] at hi
              obtain ⟨j, hj, hs⟩ := List.mem_flatMap.1 hi
              rw [List.mem_filter] at hj
              obtain ⟨hj1, hj2⟩ := hj
              have hjm := mem_kidsTo.1 hj1
              have hhj : hl ks j = true := by
                cases e' : hl ks j
                · obtain ⟨r, er, h1, _⟩ := h.hi j hjm.1 e'
                  have : r = a := by omega
                  subst this
                  omega
                · rfl
              have h4 := inS_und h hjm.1 hhj hs
              have hkt : k ≠ t := fun e' => by
                have : q' = a := by subst e'; omega
                subst this
                omega
              obtain ⟨r, er, hr⟩ := und_step huk (by omega) (by omega)
              have : r = q' := by omega
              subst this
              have hjk := und_kids h h4.1 h4.2.2 (und_trans hui hr) (by rw [hjm.2, ek])
              subst hjk
              rw [(undB_iff h ht).2 huk] at hj2; cases hj2
            · rw [if_neg h2] at hi; cases hi
/-- come back to by its history: what was in is in -/
theorem back (h : ShF ks ps n) {C : Nat → Prop} (hC : Conf ks ps n C) {past : Nat → Nat} {t p : Nat} (ht : t < n) (hh : hl ks t = false) (e : ps.getD t 0 = p) (hCp : C p)
    (hp : ∀ k, k < n → ((past p).testBit k = true ↔ C k ∧ k ≠ p ∧ Und ps k p)) :
    p ∈ enterL ks ps n past (-1) t ∧ ∀ i, i < n → i ≠ p → Und ps i p → (ks.getD t 0 ≠ 3 ∨ ps.getD i 0 = p) → (i ∈ enterL ks ps n past (-1) t ↔ C i) := by
  obtain ⟨h1, h2, h3⟩ := topF_spec h t t ht (Nat.le_refl _) (.top t) (show (t : Int) ≠ -1 by omega)
  unfold enterL
  generalize topF ps t t (-1) = a at h1 h2 h3 ⊢
  obtain ⟨w1, w2, w3⟩ := wayF_hist h past ht hh e (n - a) a (Nat.le_refl _) h1 h3
  refine ⟨w2 fun e' => by subst e'; omega, fun i hi hne hui hcase => ?_⟩
  have hm : i ∈ wayF ks ps n past (n - a) a t ↔ i ∈ intoH ks ps n past t := ⟨fun hx => w3 i hx hne hui, w1 i⟩
  rw [hm]
  obtain ⟨q, eq, hq, hpl, hin, hki⟩ := hist h ht hh
  have : q = p := by omega
  subst this
  -- the one state of it that is in
  obtain ⟨j, hj, hkj, hcj, hun⟩ : ∃ j, j < n ∧ isKid ks ps q j = true ∧ C j ∧ ∀ i, i < n → isKid ks ps q i = true → C i → i = j := by
    rcases hC.on q hCp (by omega) with hno | hy
    · rw [hno _ hin] at hki; cases hki
    · exact hy
  have hqj := h.lt hj (kid_par hkj).1
  have hbj : (past q).testBit j = true := (hp j hj).2 ⟨hcj, by omega, und_kid (kid_par hkj).1⟩
  unfold intoH
  rw [hh, if_neg (by simp), e, Int.toNat_natCast]
  by_cases h3' : ks.getD t 0 = 3
  · rw [if_pos h3']
    have ei : ps.getD i 0 = q := hcase.resolve_left (fun hx => hx h3')
    cases hf : (kidsTo ps q n).find? fun k => (past q).testBit k with
    | none =>
      rw [List.find?_eq_none] at hf
      exact absurd hbj (hf j (mem_kidsTo.2 ⟨hj, (kid_par hkj).1⟩))
    | some k =>
      have hk := mem_kidsTo.1 (List.mem_of_find?_eq_some hf)
      have hb : (past q).testBit k = true := by simpa using List.find?_some hf
      have hck := ((hp k hk.1).1 hb).1
      have hkk : isKid ks ps q k = true := by unfold isKid; rw [hk.2, (hC.un k hck).2.1]; simp
      have hkj' := hun k hk.1 hkk hck
      subst hkj'
      show i ∈ inS ks ps n k ↔ C i
      constructor
      · intro hi'
        have h4 := inS_und h hk.1 (kid_hl hkk) hi'
        have := und_kids h hi (.self i) h4.2.2 (by rw [ei, hk.2])
        subst this
        exact hck
      · intro hci
        have hkid : isKid ks ps q i = true := by unfold isKid; rw [ei, (hC.un i hci).2.1]; simp
        have := hun i hi hkid hci
        subst this
        exact (inS_LC h hi (kid_hl hkid)).me
  · rw [if_neg h3']
    have hmem : ∀ k, k ∈ ((List.range n).filter fun i : Nat => decide ((i : Int) ≠ (q : Int)) && undB ps i q && (past q).testBit i) ↔ k < n ∧ C k ∧ k ≠ q ∧ Und ps k q := fun k => by
      rw [List.mem_filter, List.mem_range, Bool.and_eq_true, Bool.and_eq_true, decide_eq_true_eq]
      constructor
      · rintro ⟨hk, _, hb⟩
        exact ⟨hk, (hp k hk).1 hb⟩
      · rintro ⟨hk, hc, hn', hu'⟩
        exact ⟨hk, ⟨by omega, (undB_iff h hk).2 hu'⟩, (hp k hk).2 ⟨hc, hn', hu'⟩⟩
    rw [if_neg fun hnil => by
      have := (hmem j).2 ⟨hj, hcj, by omega, und_kid (kid_par hkj).1⟩
      rw [hnil] at this; cases this]
    rw [hmem i]
    exact ⟨fun hx => hx.2.1, fun hx => ⟨hi, hx, hne, hui⟩⟩
end
end Go.Proofs.Ytaolebdcmdmnjaa
