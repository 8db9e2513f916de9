/-
  From a configuration a transition leads to a configuration: what is left, the domain, what was left last: plain, no program in it.
-/
import Derived.Test.YtbacdllokgcohaaEnt4
namespace Go.Proofs.Ytbacdllokgcohaa
set_option maxRecDepth 100000

section
variable (ks ps : List Int) (n : Nat)
/-- what a transition leaves: from the last on -/
def leaveL (s : Nat) (d : Int) : List Nat := (List.range n).reverse.filter fun k : Nat => s.testBit k && (decide ((k : Int) ≠ d) && undB ps k d)
def domF (t : Nat) : Nat → Nat → Int
  | 0, _ => -1
  | f + 1, k => if ps.getD k 0 < 0 then -1 else if ks.getD (ps.getD k 0).toNat 0 = 1 ∧ (ps.getD k 0).toNat ≠ t ∧ undB ps t (ps.getD k 0) = true then ps.getD k 0 else domF t f (ps.getD k 0).toNat
/-- the domain of two states -/
def domL (k t : Nat) : Int := domF ks ps t n k
variable {ks ps n}
theorem mem_leaveL (h : ShF ks ps n) {s : Nat} {d : Int} {k : Nat} : k ∈ leaveL ps n s d ↔ k < n ∧ s.testBit k = true ∧ (k : Int) ≠ d ∧ Und ps k d := by
  unfold leaveL
  rw [List.mem_filter, List.mem_reverse, List.mem_range, Bool.and_eq_true, Bool.and_eq_true, decide_eq_true_eq]
  constructor
  · rintro ⟨h1, h2, h3, h4⟩; exact ⟨h1, h2, h3, (undB_iff h h1).1 h4⟩
  · rintro ⟨h1, h2, h3, h4⟩; exact ⟨h1, h2, h3, (undB_iff h h1).2 h4⟩
theorem leaveL_down (s : Nat) (d : Int) : (leaveL ps n s d).Pairwise (· > ·) := by
  unfold leaveL
  refine List.Pairwise.filter _ ?_
  rw [List.pairwise_reverse]
  exact range_up n
theorem leaveL_nodup (s : Nat) (d : Int) : (leaveL ps n s d).Nodup := (leaveL_down (ps := ps) (n := n) s d).imp fun h => by omega
theorem Conf.congr {S T : Nat → Prop} (h : Conf ks ps n S) (e : ∀ k, S k ↔ T k) : Conf ks ps n T := by
  have : S = T := funext fun k => propext (e k)
  rw [← this]; exact h
/-- a configuration once what was left is out and what is entered is in -/
theorem trans_conf (h : ShF ks ps n) {C : Nat → Prop} {d : Int} {L : List Nat} {j : Nat} (hC : Conf ks ps n C) (hd : d = -1 ∨ ∃ q : Nat, d = q ∧ C q ∧ ks.getD q 0 ≠ 2) (hj : j < n) (hk : isKid ks ps d j = true) (hS : LC ks ps n (fun k => k ∈ L) j) :
    Conf ks ps n fun k => (C k ∧ ¬ ((k : Int) ≠ d ∧ Und ps k d)) ∨ k ∈ L := by
  rcases hd with rfl | ⟨q, rfl, hq, h2⟩
  · refine (Conf.ofTop h hj hk hS).congr fun k => ?_
    constructor
    · exact .inr
    · rintro (⟨_, h1⟩ | h1)
      · exact absurd ⟨by omega, .top k⟩ h1
      · exact h1
  · refine (hC.swap h hq h2 hj hk hS).congr fun k => ?_
    have : (k ≠ q ∧ Und ps k q) ↔ ((k : Int) ≠ q ∧ Und ps k q) := by
      constructor
      · rintro ⟨h1, h3⟩; exact ⟨by omega, h3⟩
      · rintro ⟨h1, h3⟩; exact ⟨by omega, h3⟩
    rw [this]
theorem trans_prop (h : ShF ks ps n) (hn : n ≤ 32) {s r : Nat} {d : Int} {L : List Nat} {j : Nat} (hs : prop ks ps s = true) (hd : d = -1 ∨ ∃ q : Nat, d = q ∧ q < n ∧ s.testBit q = true ∧ ks.getD q 0 ≠ 2) (hj : j < n) (hk : isKid ks ps d j = true) (hS : LC ks ps n (fun k => k ∈ L) j)
    (hr : ∀ k, r.testBit k = (s.testBit k && !decide (k ∈ leaveL ps n s d) || decide (k ∈ L))) : prop ks ps r = true := by
  obtain ⟨hlt, hC⟩ := (prop_conf h hn s).1 hs
  rw [prop_conf h hn]
  have hb : ∀ k, n ≤ k → r.testBit k = false := fun k hk' => by
    rw [hr, Nat.testBit_lt_two_pow (Nat.lt_of_lt_of_le hlt (Nat.pow_le_pow_right (by omega) hk'))]
    have : ¬ k ∈ L := fun hm => by
      have := (hS.un k hm).1; omega
    simp [this]
  refine ⟨Nat.lt_pow_two_of_testBit r hb, ?_⟩
  refine (trans_conf h hC (hd.imp id fun ⟨q, e, h1, h2, h3⟩ => ⟨q, e, ⟨h1, h2⟩, h3⟩) hj hk hS).congr fun k => ?_
  rw [hr, Bool.or_eq_true, Bool.and_eq_true, decide_eq_true_eq, Bool.not_eq_true', decide_eq_false_iff_not, mem_leaveL h]
  constructor
  · rintro (⟨⟨h1, h2⟩, h3⟩ | h1)
    · exact ⟨h1, .inl ⟨h2, fun h4 => h3 h4.2.2⟩⟩
    · exact ⟨(hS.un k h1).1, .inr h1⟩
  · rintro ⟨h1, ⟨h2, h3⟩ | h2⟩
    · exact .inl ⟨⟨h1, h2⟩, fun h4 => h3 ⟨h1, h2, h4⟩⟩
    · exact .inr h2
/-- what is left and what is entered lies properly under the domain -/
theorem enterL_und (h : ShF ks ps n) {d : Int} {L : List Nat} {j : Nat} (hj : j < n) (hk : isKid ks ps d j = true) (hS : LC ks ps n (fun k => k ∈ L) j) {k : Nat} (hm : k ∈ L) : k < n ∧ (k : Int) ≠ d ∧ Und ps k d := by
  obtain ⟨h1, _, h3⟩ := hS.un k hm
  have h4 := und_le h h3 h1
  have h5 := h.pa j hj
  have ej := (kid_par hk).1
  refine ⟨h1, by omega, ?_⟩
  by_cases e : d = -1
  · subst e; exact .top k
  · obtain ⟨q, rfl⟩ : ∃ q : Nat, d = q := ⟨d.toNat, by omega⟩
    exact und_trans h3 (und_kid ej)
theorem und_upper {C : Nat → Prop} (hC : Conf ks ps n C) {k a : Nat} (hk : C k) (hu : Und ps k a) : C a := by
  generalize ha : (a : Int) = b at hu
  induction hu with
  | self k =>
    have : a = k := by omega
    subst this; exact hk
  | top k => omega
  | up k r b e _ ih =>
    obtain ⟨hkn, _, hp⟩ := hC.un k hk
    rcases hp with hp | ⟨r', e', hr⟩
    · omega
    · have : r' = r := by omega
      subst this
      exact ih hr ha
theorem domF_spec (h : ShF ks ps n) {t : Nat} (ht : t < n) : ∀ (f k : Nat), k < n → domF ks ps t f k = -1 ∨ ∃ q : Nat, domF ks ps t f k = q ∧ ks.getD q 0 = 1 ∧ q ≠ t ∧ Und ps t q ∧ Und ps k q ∧ k ≠ q
  | 0, _, _ => .inl rfl
  | f + 1, k, hk => by
    unfold domF
    split
    · exact .inl rfl
    · rename_i h0
      obtain ⟨q, eq⟩ : ∃ q : Nat, ps.getD k 0 = q := ⟨(ps.getD k 0).toNat, by omega⟩
      have hlt := h.lt hk eq
      rw [eq, Int.toNat_natCast]
      split
      · rename_i h1
        exact .inr ⟨q, rfl, h1.1, h1.2.1, (undB_iff h ht).1 h1.2.2, und_kid eq, by omega⟩
      · rcases domF_spec h ht f q (by omega) with e | ⟨r, e, h1, h2, h3, h4, h5⟩
        · exact .inl e
        · have := und_le h h4 (by omega)
          exact .inr ⟨r, e, h1, h2, h3, .up k q r eq h4, by omega⟩
/-- the domain: the top, or a Plain state, and both are properly under it -/
theorem domL_spec (h : ShF ks ps n) {k t : Nat} (hk : k < n) (ht : t < n) : (domL ks ps n k t = -1 ∨ ∃ q : Nat, domL ks ps n k t = q ∧ q < n ∧ ks.getD q 0 = 1) ∧ Und ps t (domL ks ps n k t) ∧ (t : Int) ≠ domL ks ps n k t ∧ Und ps k (domL ks ps n k t) ∧ (k : Int) ≠ domL ks ps n k t := by
  rcases domF_spec h ht n k hk with e | ⟨q, e, h1, h2, h3, h4, h5⟩
  · unfold domL
    rw [e]
    exact ⟨.inl rfl, .top t, by omega, .top k, by omega⟩
  · unfold domL
    rw [e]
    have := und_le h h4 hk
    exact ⟨.inr ⟨q, rfl, by omega, h1⟩, h3, by omega, h4, by omega⟩
/-- what was left last, as parts of configurations -/
theorem PastOk.of (h : ShF ks ps n) (hn : n ≤ 32) {past : Nat → Nat} (hp : ∀ q, q < n → (∀ k, k < n → (past q).testBit k = false) ∨ ∃ c, prop ks ps c = true ∧ ∀ k, k < n → (past q).testBit k = (c.testBit q && (c.testBit k && (decide (k ≠ q) && undB ps k q)))) : PastOk ks ps n past := by
  intro q hq h1
  rcases hp q hq with h2 | ⟨c, hc, hb⟩
  · exact .inl h2
  · obtain ⟨_, hC⟩ := (prop_conf h hn c).1 hc
    cases eq : c.testBit q
    · left
      intro k hk
      rw [hb k hk, eq, Bool.false_and]
    · rcases hC.part h ⟨hq, eq⟩ (by omega) with hno | ⟨j, hj, hkj, hlc⟩
      · left
        intro k hk
        rw [hb k hk, eq, Bool.true_and]
        cases e : c.testBit k && (decide (k ≠ q) && undB ps k q)
        · rfl
        · rw [Bool.and_eq_true, Bool.and_eq_true, decide_eq_true_eq, undB_iff h hk] at e
          exact absurd ⟨⟨hk, e.1⟩, e.2⟩ (hno k)
      · right
        refine ⟨j, hj, hkj, hlc.congr fun k => ?_⟩
        constructor
        · rintro ⟨⟨hk, h2⟩, h3, h4⟩
          refine ⟨hk, ?_⟩
          rw [hb k hk, eq, h2, (undB_iff h hk).2 h4]
          simp [h3]
        · rintro ⟨hk, h2⟩
          rw [hb k hk, eq, Bool.true_and, Bool.and_eq_true, Bool.and_eq_true, decide_eq_true_eq, undB_iff h hk] at h2
          exact ⟨⟨hk, h2.1⟩, h2.2⟩
/-- from a configuration, between two states, to a configuration -/
theorem trans_all (h : ShF ks ps n) (hn : n ≤ 32) {past : Nat → Nat} (hp : PastOk ks ps n past) {s k t r : Nat} (hk : k < n) (ht : t < n) (hs : prop ks ps s = true) (hks : s.testBit k = true)
    (hr : ∀ i, r.testBit i = (s.testBit i && !decide (i ∈ leaveL ps n s (domL ks ps n k t)) || decide (i ∈ enterL ks ps n past (domL ks ps n k t) t))) : prop ks ps r = true := by
  obtain ⟨h1, h2, h3, h4, h5⟩ := domL_spec h hk ht
  obtain ⟨⟨j, hj, hkj, hlc⟩, _⟩ := enterL_LC h hp ht h2 h3
  refine trans_prop h hn hs ?_ hj hkj hlc hr
  refine h1.imp id fun ⟨q, e, hq, hpl⟩ => ⟨q, e, hq, ?_, by omega⟩
  rw [e] at h4
  exact (und_upper ((prop_conf h hn s).1 hs).2 ⟨hk, hks⟩ h4).2
end
end Go.Proofs.Ytbacdllokgcohaa
/-
  A start, and what a state is when it is come back to by its history: plain, no program in it.
-/
namespace Go.Proofs.Ytbacdllokgcohaa
set_option maxRecDepth 100000

section
variable {ks ps : List Int} {n : Nat}
theorem head_filter (p : Nat → Bool) : ∀ l : List Nat, (l.filter p).head? = l.find? p
  | [] => rfl
  | a :: r => by
    rw [List.filter_cons, List.find?_cons]
    cases p a
    · exact head_filter p r
    · rfl
/-- the first state, as the program tells it -/
theorem ini_iniN {a : Int} (h : ∃ j, j < n ∧ isKid ks ps a j = true) : iniTo ks ps a n = iniN ks ps n a := by
  obtain ⟨h1, h2⟩ := iniN_kid h
  unfold iniTo
  rw [← head_filter]
  show (match (openL ks ps n a).head? with | some k => (k : Int) | none => -1) = _
  unfold iniN
  cases e : openL ks ps n a with
  | nil =>
    obtain ⟨j, hj, hk⟩ := h
    have := mem_openL.2 ⟨hj, hk⟩
    rw [e] at this; cases this
  | cons b r => rfl
end
end Go.Proofs.Ytbacdllokgcohaa
