/-
  What a transition to a state enters, by what was left last: plain, no program in it.
-/
import Derived.Test.YtbacdllokgcohaaEnt2
namespace Go.Proofs.Ytbacdllokgcohaa
set_option maxRecDepth 100000

section
variable (ks ps : List Int) (n : Nat)
def undF : Nat → Nat → Int → Bool
  | 0, k, a => decide ((k : Int) = a) || decide (a = -1)
  | f + 1, k, a => decide ((k : Int) = a) || decide (a = -1) || (decide (0 ≤ ps.getD k 0) && undF f (ps.getD k 0).toNat a)
/-- is a state another one, or below it? -/
def undB (k : Nat) (a : Int) : Bool := undF ps k k a
/-- what a state, a history too, is entered as -/
def intoH (past : Nat → Nat) (x : Nat) : List Nat :=
  if hl ks x = true then inS ks ps n x
  else if ks.getD x 0 = 3 then match (kidsTo ps (ps.getD x 0) n).find? fun k => (past (ps.getD x 0).toNat).testBit k with
    | some k => inS ks ps n k
    | none => inS ks ps n (iniN ks ps n (ps.getD x 0))
  else if ((List.range n).filter fun i : Nat => decide ((i : Int) ≠ ps.getD x 0) && undB ps i (ps.getD x 0) && (past (ps.getD x 0).toNat).testBit i) = [] then inS ks ps n (iniN ks ps n (ps.getD x 0))
  else (List.range n).filter fun i : Nat => decide ((i : Int) ≠ ps.getD x 0) && undB ps i (ps.getD x 0) && (past (ps.getD x 0).toNat).testBit i
/-- from a state down to another one -/
def wayF (past : Nat → Nat) : Nat → Nat → Nat → List Nat
  | 0, _, t => intoH ks ps n past t
  | f + 1, a, t => if a = t then intoH ks ps n past t
    else a :: ((match (kidsTo ps a n).find? fun k : Nat => undB ps t k with
      | some k => wayF past f k t
      | none => []) ++ if ks.getD a 0 = 2 then ((kidsTo ps a n).filter fun k : Nat => !undB ps t k).flatMap (inS ks ps n) else [])
def topF : Nat → Nat → Int → Nat
  | 0, k, _ => k
  | f + 1, k, d => if ps.getD k 0 = d then k else topF f (ps.getD k 0).toNat d
/-- what a transition enters -/
def enterL (past : Nat → Nat) (d : Int) (t : Nat) : List Nat := wayF ks ps n past (n - topF ps t t d) (topF ps t t d) t
/-- what was left last: a part of a configuration, or nothing -/
def PastOk (past : Nat → Nat) : Prop := ∀ q, q < n → ks.getD q 0 = 1 → (∀ k, k < n → (past q).testBit k = false) ∨ ∃ j, j < n ∧ isKid ks ps q j = true ∧ LC ks ps n (fun k => k < n ∧ (past q).testBit k = true) j
variable {ks ps n}
theorem undF_und : ∀ {f k : Nat} {a : Int}, undF ps f k a = true → Und ps k a
  | 0, k, a, h => by
    unfold undF at h
    rw [Bool.or_eq_true, decide_eq_true_eq, decide_eq_true_eq] at h
    rcases h with rfl | rfl
    · exact .self k
    · exact .top k
  | f + 1, k, a, h => by
    unfold undF at h
    rw [Bool.or_eq_true, Bool.or_eq_true, decide_eq_true_eq, decide_eq_true_eq, Bool.and_eq_true, decide_eq_true_eq] at h
    rcases h with (rfl | rfl) | ⟨h1, h2⟩
    · exact .self k
    · exact .top k
    · exact .up k (ps.getD k 0).toNat a (by omega) (undF_und h2)
theorem und_undF (h : ShF ks ps n) {k : Nat} {a : Int} (hu : Und ps k a) : ∀ {f : Nat}, k ≤ f → k < n → undF ps f k a = true := by
  induction hu with
  | self k => intro f _ _; cases f <;> simp [undF]
  | top k => intro f _ _; cases f <;> simp [undF]
  | up k q a e _ ih =>
    intro f hf hk
    have := h.lt hk e
    obtain ⟨g, rfl⟩ : ∃ g, f = g + 1 := ⟨f - 1, by omega⟩
    unfold undF
    rw [e, Int.toNat_natCast, ih (by omega) (by omega)]
    simp
theorem undB_iff (h : ShF ks ps n) {k : Nat} {a : Int} (hk : k < n) : undB ps k a = true ↔ Und ps k a := ⟨undF_und, fun hu => und_undF h hu (Nat.le_refl _) hk⟩
theorem undB_no (h : ShF ks ps n) {k : Nat} {a : Int} (hk : k < n) : undB ps k a = false ↔ ¬ Und ps k a := by
  rw [← undB_iff h hk]
  cases undB ps k a <;> simp
theorem PastOk.start : PastOk ks ps n fun _ => 0 := fun q _ _ => .inl fun k _ => Nat.zero_testBit k
/-- a history's state has a first one -/
theorem hist (h : ShF ks ps n) {x : Nat} (hx : x < n) (hh : hl ks x = false) : ∃ q : Nat, ps.getD x 0 = q ∧ q < n ∧ ks.getD q 0 = 1 ∧ iniN ks ps n q < n ∧ isKid ks ps q (iniN ks ps n q) = true := by
  obtain ⟨q, e, h1, h2⟩ := h.hi x hx hh
  have := h.lt hx e
  exact ⟨q, e, by omega, h1, iniN_kid h2⟩
theorem intoH_hist (h : ShF ks ps n) {past : Nat → Nat} (hp : PastOk ks ps n past) {x q : Nat} (hx : x < n) (hh : hl ks x = false) (e : ps.getD x 0 = q) : ∃ j, j < n ∧ isKid ks ps q j = true ∧ LC ks ps n (fun k => k ∈ intoH ks ps n past x) j := by
  obtain ⟨q', e', hq, h1, hi, hki⟩ := hist h hx hh
  have : q' = q := by omega
  subst this
  unfold intoH
  rw [hh, if_neg (by simp), e, Int.toNat_natCast]
  by_cases h3 : ks.getD x 0 = 3
  · rw [if_pos h3]
    cases hf : (kidsTo ps q' n).find? fun k => (past q').testBit k with
    | none => exact ⟨_, hi, hki, inS_LC h hi (kid_hl hki)⟩
    | some k =>
      have hk := mem_kidsTo.1 (List.mem_of_find?_eq_some hf)
      have hb : (past q').testBit k = true := by simpa using List.find?_some hf
      rcases hp q' hq h1 with hno | ⟨j, hj, hkj, hlc⟩
      · rw [hno k hk.1] at hb; cases hb
      · have hu := (hlc.un k ⟨hk.1, hb⟩).2.2
        have : k = j := und_kids h hk.1 (.self k) hu (by rw [hk.2, (kid_par hkj).1])
        subst this
        exact ⟨k, hj, hkj, inS_LC h hj (kid_hl hkj)⟩
  · rw [if_neg h3]
    split
    · exact ⟨_, hi, hki, inS_LC h hi (kid_hl hki)⟩
    · rename_i hne
      rcases hp q' hq h1 with hno | ⟨j, hj, hkj, hlc⟩
      · exfalso
        apply hne
        rw [List.filter_eq_nil_iff]
        intro i hi'
        rw [hno i (List.mem_range.1 hi')]; simp
      · refine ⟨j, hj, hkj, hlc.congr fun k => ?_⟩
        rw [List.mem_filter, List.mem_range, Bool.and_eq_true, Bool.and_eq_true, decide_eq_true_eq]
        constructor
        · rintro ⟨hk, hb⟩
          have hu := (hlc.un k ⟨hk, hb⟩).2.2
          have h4 := und_le h hu hk
          have h5 := h.lt hj (kid_par hkj).1
          exact ⟨hk, ⟨by omega, (undB_iff h hk).2 (und_trans hu (und_kid (kid_par hkj).1))⟩, hb⟩
        · rintro ⟨hk, _, hb⟩
          exact ⟨hk, hb⟩
theorem intoH_hl {past : Nat → Nat} {x : Nat} (hh : hl ks x = true) : intoH ks ps n past x = inS ks ps n x := by
  unfold intoH; rw [if_pos hh]
/-- the state of another's that leads to one -/
theorem lead (h : ShF ks ps n) {a t : Nat} (ht : t < n) (hu : Und ps t a) (hne : t ≠ a) : ∃ k, (kidsTo ps a n).find? (fun k : Nat => undB ps t k) = some k ∧ k < n ∧ ps.getD k 0 = a ∧ Und ps t k ∧ ∀ m, m < n → ps.getD m 0 = a → (Und ps t m ↔ m = k) := by
  obtain ⟨j, hj, ej, huj⟩ := und_down h ht hu hne
  have hm : j ∈ kidsTo ps a n := mem_kidsTo.2 ⟨hj, ej⟩
  cases hf : (kidsTo ps a n).find? fun k : Nat => undB ps t k with
  | none =>
    rw [List.find?_eq_none] at hf
    exact absurd ((undB_iff h ht).2 huj) (hf j hm)
  | some k =>
    have hk := mem_kidsTo.1 (List.mem_of_find?_eq_some hf)
    have hb : undB ps t k = true := by simpa using List.find?_some hf
    have huk := (undB_iff h ht).1 hb
    exact ⟨k, rfl, hk.1, hk.2, huk, fun m _ em => ⟨fun hum => und_kids h ht hum huk (by rw [em, hk.2]), fun e => by subst e; exact huk⟩⟩
theorem wayF_LC (h : ShF ks ps n) {past : Nat → Nat} (hp : PastOk ks ps n past) {t : Nat} (ht : t < n) : ∀ (f a : Nat), n - a ≤ f → a < n → hl ks a = true → Und ps t a → LC ks ps n (fun k => k ∈ wayF ks ps n past f a t) a
  | 0, a, hf, ha, _, _ => by omega
  | f + 1, a, hf, ha, hh, hu => by
    unfold wayF
    by_cases e : a = t
    · subst e
      rw [if_pos rfl, intoH_hl hh]
      exact inS_LC h ha hh
    · rw [if_neg e]
      obtain ⟨k, hfind, hk, ek, huk, hone⟩ := lead h ht hu (fun e' => e e'.symm)
      rw [hfind]
      have hak := h.lt hk ek
      cases hhk : hl ks k
      · -- a history: it is the one
        have hkt : k = t := by
          refine Classical.byContradiction fun hne => ?_
          obtain ⟨j, hj, ej, _⟩ := und_down h ht huk (fun e' => hne e'.symm)
          have := h.up j k hj ej
          rw [this] at hhk; cases hhk
        subst hkt
        obtain ⟨q, eq, h1, _⟩ := h.hi k hk hhk
        have hqa : q = a := by omega
        subst hqa
        have h2 : ks.getD q 0 ≠ 2 := by omega
        rw [if_neg h2, List.append_nil]
        obtain ⟨j, hj, hkj, hlc⟩ := intoH_hist h hp hk hhk eq
        have hw : wayF ks ps n past f k k = intoH ks ps n past k := by cases f <;> simp [wayF]
        show LC ks ps n (fun i => i ∈ q :: wayF ks ps n past f k k) q
        rw [hw]
        exact (LC.one h ha hh h2 hj hkj hlc).congr fun i => by rw [List.mem_cons]
      · have hkid : isKid ks ps a k = true := by unfold isKid; rw [ek, hhk]; simp
        have ih := wayF_LC h hp ht f k (by omega) hk hhk huk
        by_cases h2 : ks.getD a 0 = 2
        · rw [if_pos h2]
          refine (LC.all h ha hh h2 (S := fun j i => if j = k then i ∈ wayF ks ps n past f k t else i ∈ inS ks ps n j) fun j hj hkj => ?_).congr fun i => ?_
          · by_cases ejk : j = k
            · subst ejk
              exact ih.congr fun i => by rw [if_pos rfl]
            · exact (inS_LC h hj (kid_hl hkj)).congr fun i => by rw [if_neg ejk]
          · rw [List.mem_cons, List.mem_append, List.mem_flatMap]
            constructor
            · rintro (e1 | ⟨j, hj, hkj, hs⟩)
              · exact .inl e1
              · by_cases ejk : j = k
                · rw [if_pos ejk] at hs
                  exact .inr (.inl hs)
                · rw [if_neg ejk] at hs
                  refine .inr (.inr ⟨j, ?_, hs⟩)
                  rw [List.mem_filter]
                  refine ⟨mem_kidsTo.2 ⟨hj, (kid_par hkj).1⟩, ?_⟩
                  rw [(undB_no h ht).2 fun hum => ejk ((hone j hj (kid_par hkj).1).1 hum)]; rfl
            · rintro (e1 | hs | ⟨j, hj, hs⟩)
              · exact .inl e1
              · exact .inr ⟨k, hk, hkid, by rw [if_pos rfl]; exact hs⟩
              · rw [List.mem_filter] at hj
                obtain ⟨hj1, hj2⟩ := hj
                have hjm := mem_kidsTo.1 hj1
                have ejk : j ≠ k := fun e' => by
                  subst e'
                  rw [(undB_iff h ht).2 huk] at hj2; cases hj2
                have hhj : hl ks j = true := by
                  cases e' : hl ks j
                  · obtain ⟨q, eq, h1, _⟩ := h.hi j hjm.1 e'
                    have : q = a := by omega
                    subst this
                    omega
                  · rfl
                exact .inr ⟨j, hjm.1, by unfold isKid; rw [hjm.2, hhj]; simp, by rw [if_neg ejk]; exact hs⟩
        · rw [if_neg h2, List.append_nil]
          exact (LC.one h ha hh h2 hk hkid ih).congr fun i => by rw [List.mem_cons]
end
end Go.Proofs.Ytbacdllokgcohaa
