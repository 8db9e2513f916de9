/-
  Package step, plainly: wherever a document goes it is in a configuration, and what it remembers is a part of one.
-/
import Derived.Test.YtbacdllokgcohaaSt4
import Derived.Test.YtbacdllokgcohaaSt12
import Derived.Test.YtbacdllokgcohaaEnt0
namespace Go.Proofs.Ytbacdllokgcohaa
set_option maxRecDepth 100000

section
variable {ks ps : List Int} {n : Nat}
/-- what is remembered of each state: nothing, or a part of a configuration -/
def PastP (ks ps : List Int) (n : Nat) (rs : List Nat) : Prop := ∀ q, q < n → (∀ k, k < n → (rs.getD q 0).testBit k = false) ∨ ∃ c, prop ks ps c = true ∧ ∀ k, k < n → (rs.getD q 0).testBit k = (c.testBit q && (c.testBit k && (decide (k ≠ q) && undB ps k q)))
theorem PastP.ok (h : ShF ks ps n) (hn : n ≤ 32) {rs : List Nat} (hr : PastP ks ps n rs) : PastOk ks ps n (pfun rs) := PastOk.of h hn hr
theorem PastP.zero (m : Nat) : PastP ks ps n (List.replicate m 0) := fun q _ => .inl fun k _ => by
  have : (List.replicate m 0).getD q 0 = 0 := by
    rw [List.getD_eq_getElem?_getD, List.getElem?_replicate]
    split <;> rfl
  rw [this, Nat.zero_testBit]
theorem PastP.keep (h : ShF ks ps n) {s : Nat} (hs : prop ks ps s = true) {rs : List Nat} (hr : PastP ks ps n rs) (hl : rs.length = n) (d : Int) : PastP ks ps n (rememL ks ps n s rs (leaveL ps n s d)) := by
  intro q hq
  rw [rememL_getD s q _ _ (fun p hp => by rw [hl]; exact leave_lt h p hp)]
  by_cases hc : q ∈ leaveL ps n s d ∧ keepsB ks ps n q = true
  · rw [if_pos hc]
    refine .inr ⟨s, hs, fun k hk => ?_⟩
    have hsq := ((mem_leaveL h).1 hc.1).2.1
    rw [setN_bit, hsq, Bool.true_and]
    have he : decide (k ≠ q) = decide ((k : Int) ≠ (q : Int)) := by
      by_cases e : k = q
      · subst e; simp
      · have : (k : Int) ≠ q := by omega
        simp [e, this]
    rw [he, Bool.eq_iff_iff, decide_eq_true_eq]
    unfold insL
    rw [List.mem_filter, List.mem_range]
    constructor
    · intro h9; exact h9.2
    · intro h9; exact ⟨hk, h9⟩
  · rw [if_neg hc]
    exact hr q hq
theorem entC_set (now : Int) : ∀ (l : List Nat) (x : Cf) (i : Nat), (entC now x l).set.testBit i = (x.set.testBit i || decide (i ∈ l))
  | [], x, i => by simp [entC]
  | k :: l, x, i => by
    show (entC now (ent1 now x k) l).set.testBit i = _
    rw [entC_set now l]
    show ((x.set ||| 2 ^ k).testBit i || decide (i ∈ l)) = _
    rw [Nat.testBit_or, Nat.testBit_two_pow, Bool.or_assoc]
    congr 1
    rw [Bool.eq_iff_iff, Bool.or_eq_true, decide_eq_true_eq, decide_eq_true_eq, decide_eq_true_eq, List.mem_cons]
    constructor
    · rintro (h | h)
      · exact .inl h.symm
      · exact .inr h
    · rintro (h | h)
      · exact .inl h.symm
      · exact .inr h
theorem lefC_set : ∀ (l : List Nat) (x : Cf) (i : Nat), x.set < 4294967296 → (∀ k ∈ l, k < 32) → (lefC x l).set.testBit i = (x.set.testBit i && !decide (i ∈ l))
  | [], x, i, _, _ => by simp [lefC]
  | k :: l, x, i, hx, hl => by
    have hk := hl k List.mem_cons_self
    show (lefC (lef1 x k) l).set.testBit i = _
    rw [lefC_set l (lef1 x k) i (adn_lt hx) (fun j hj => hl j (List.mem_cons_of_mem _ hj))]
    show ((adn x.set (2 ^ k)).testBit i && !decide (i ∈ l)) = _
    rw [adn_bit hx (two_lt hk), Nat.testBit_two_pow, Bool.and_assoc]
    congr 1
    rw [← Bool.not_or]
    congr 1
    rw [Bool.eq_iff_iff, Bool.or_eq_true, decide_eq_true_eq, decide_eq_true_eq, decide_eq_true_eq, List.mem_cons]
    constructor
    · rintro (h | h)
      · exact .inl h.symm
      · exact .inr h
    · rintro (h | h)
      · exact .inl h.symm
      · exact .inr h
/-- a place that a document may be in -/
structure Plc (ks ps : List Int) (n : Nat) (x : Cf) : Prop where
  ok : CfOk n x
  pr : prop ks ps x.set = true
  pp : PastP ks ps n x.past
theorem Plc.pastOk (hf : ShF ks ps n) (hn : n ≤ 32) {x : Cf} (h : Plc ks ps n x) (d : Int) : PastOk ks ps n (pfun (rememL ks ps n x.set x.past (leaveL ps n x.set d))) := (h.pp.keep hf h.pr h.ok.lp d).ok hf hn
theorem Plc.mov (hf : ShF ks ps n) (hn : n ≤ 24) {x : Cf} (h : Plc ks ps n x) {f t : Nat} {now : Int} (hfn : f < n) (htn : t < n) (hw : (Lit.int .i64 now).wf = true) (hin : x.set.testBit f = true) : Plc ks ps n (movC ks ps n x f t now) := by
  have hpk := h.pp.keep hf h.pr h.ok.lp (domL ks ps n f t)
  have hpo := hpk.ok hf (by omega)
  obtain ⟨_, h2, h3, _, _⟩ := domL_spec hf hfn htn
  have hx32 : x.set < 4294967296 := Nat.lt_of_lt_of_le h.ok.st (Nat.pow_le_pow_right (n := 2) (by omega) (show n ≤ 32 by omega))
  refine ⟨?_, ?_, ?_⟩
  · refine CfOk.entC hw (CfOk.lefC ⟨by rw [rememL_len]; exact h.ok.lp, h.ok.ls, h.ok.st, rememL_lt _ _ h.ok.pl, h.ok.si⟩) fun k hk => (enter_in hf hpo htn h2 h3 hk).1
  · refine trans_all hf (by omega) hpo hfn htn h.pr hin fun i => ?_
    unfold movC
    rw [entC_set, lefC_set (leaveL ps n x.set (domL ks ps n f t)) ⟨x.set, rememL ks ps n x.set x.past (leaveL ps n x.set (domL ks ps n f t)), x.since⟩ i hx32 (fun k hk => by have := leave_lt hf k hk; omega)]
  · unfold movC
    rw [entC_past, lefC_past]
    exact hpk
end
end Go.Proofs.Ytbacdllokgcohaa
/-
  Package step: where a document begins, and what goes by itself, stays among the places that a document may be in.
-/
namespace Go.Proofs.Ytbacdllokgcohaa
set_option maxRecDepth 100000

theorem Plc.beg {c : Ch} {n : Nat} (hf : ShF c.kinds c.parents n) (hn : n ≤ 24) {now : Int} (hw : (Lit.int .i64 now).wf = true) : Plc c.kinds c.parents n (begC c n now) := by
  have hik := iniN_kid hf.tp
  have hlt : ∀ k ∈ inS c.kinds c.parents n (iniN c.kinds c.parents n (-1)), k < n := fun k hm => (inS_und hf hik.1 (kid_hl hik.2) hm).1
  have hok : CfOk n (begC c n now) := (cf0_ok n).entC hw hlt
  refine ⟨hok, (prop_conf hf (by omega) _).2 ⟨hok.st, Conf.congr (start_conf hf) (fun k => ?_)⟩, ?_⟩
  · have : (begC c n now).set.testBit k = decide (k ∈ inS c.kinds c.parents n (iniN c.kinds c.parents n (-1))) := by
      unfold begC
      rw [entC_set]
      show ((0 : Nat).testBit k || _) = _
      rw [Nat.zero_testBit, Bool.false_or]
    rw [this, decide_eq_true_eq]
    constructor
    · intro h; exact ⟨hlt k h, h⟩
    · intro h; exact h.2
  · unfold begC
    rw [entC_past]
    show PastP _ _ _ (padL n [])
    unfold padL
    rw [List.nil_append]
    exact PastP.zero _
theorem enL_at {c : Ch} {s : Nat} {kd : Int} {ev : Tx} {i : Nat} (h : i ∈ enL c s kd ev) : i < c.trans.length ∧ s.testBit (frT c i) = true := by
  have h1 := List.mem_filter.1 h
  refine ⟨List.mem_range.1 h1.1, ?_⟩
  have h2 := h1.2
  unfold enB at h2
  unfold frT
  cases e : c.trans[i]? with
  | none => rw [e] at h2; cases h2
  | some t =>
    rw [e] at h2
    simp only [Bool.and_eq_true] at h2
    exact h2.2
theorem runInv_plc {c : Ch} {n : Nat} (hf : ShF c.kinds c.parents n) (hn : n ≤ 24) {now : Int} (hw : (Lit.int .i64 now).wf = true) (hft : ∀ t ∈ c.trans, ∃ f g : Nat, t.from_ = f ∧ f < n ∧ t.to_ = g ∧ g < n) (hfew : ∀ s, (enL c s 10 []).length ≤ 19) :
    RunInv c n now (Plc c.kinds c.parents n) := fun x hx => by
  refine ⟨hx.ok, hfew _, fun i hi => ?_⟩
  obtain ⟨hil, hin⟩ := enL_at hi
  obtain ⟨f, g, ef, hfn, eg, hgn⟩ := hft _ (List.getElem_mem hil)
  unfold stepC
  rw [frT_at hil ef] at hin ⊢
  rw [toT_at hil eg]
  exact ⟨hx.pastOk hf (by omega) _, hx.mov hf hn hfn hgn hw hin⟩
end Go.Proofs.Ytbacdllokgcohaa
/-
  Kinds and parents that make a shape, by a test.
-/
namespace Go.Proofs.Ytbacdllokgcohaa
set_option maxRecDepth 100000

def shfB (ks ps : List Int) (n : Nat) : Bool := (ks.length == n && ps.length == n) && ((List.range n).all (fun k => (decide (1 ≤ ks.getD k 0 ∧ ks.getD k 0 ≤ 4 ∧ -1 ≤ ps.getD k 0 ∧ ps.getD k 0 < k) && (hl ks k || ((decide (0 ≤ ps.getD k 0) && ks.getD (ps.getD k 0).toNat 0 == 1) && (List.range n).any (isKid ks ps (ps.getD k 0))))) && (decide (ps.getD k 0 < 0) || hl ks (ps.getD k 0).toNat)) && (List.range n).any (isKid ks ps (-1)))
theorem shf_of {ks ps : List Int} {n : Nat} (h : shfB ks ps n = true) : ShF ks ps n := by
  unfold shfB at h
  rw [Bool.and_eq_true, Bool.and_eq_true, Bool.and_eq_true, List.all_eq_true, List.any_eq_true, beq_iff_eq, beq_iff_eq] at h
  obtain ⟨⟨hk, hp⟩, ha', j, hj, ht⟩ := h
  have ha : ∀ k, k < n → ((1 ≤ ks.getD k 0 ∧ ks.getD k 0 ≤ 4 ∧ -1 ≤ ps.getD k 0 ∧ ps.getD k 0 < k) ∧ (hl ks k = true ∨ ((0 ≤ ps.getD k 0 ∧ ks.getD (ps.getD k 0).toNat 0 = 1) ∧ ∃ j, j < n ∧ isKid ks ps (ps.getD k 0) j = true))) ∧ (ps.getD k 0 < 0 ∨ hl ks (ps.getD k 0).toNat = true) := fun k hk => by
    have := ha' k (List.mem_range.2 hk)
    rw [Bool.and_eq_true, Bool.and_eq_true, decide_eq_true_eq, Bool.or_eq_true, Bool.and_eq_true, Bool.and_eq_true, decide_eq_true_eq, beq_iff_eq, List.any_eq_true, Bool.or_eq_true, decide_eq_true_eq] at this
    obtain ⟨⟨h1, h2⟩, h3⟩ := this
    refine ⟨⟨h1, ?_⟩, h3⟩
    rcases h2 with h2 | ⟨h2, j, hj, h4⟩
    · exact .inl h2
    · exact .inr ⟨h2, j, List.mem_range.1 hj, h4⟩
  refine ⟨hk, hp, fun k hk => ⟨(ha k hk).1.1.1, (ha k hk).1.1.2.1⟩, fun k hk => ⟨(ha k hk).1.1.2.2.1, (ha k hk).1.1.2.2.2⟩, fun k hk e => ?_, fun k q hk e => ?_, ⟨j, List.mem_range.1 hj, ht⟩⟩
  · rcases (ha k hk).1.2 with h | ⟨⟨h1, h2⟩, j, hj, h3⟩
    · rw [h] at e; cases e
    · refine ⟨(ps.getD k 0).toNat, by omega, h2, j, hj, ?_⟩
      rw [show ((ps.getD k 0).toNat : Int) = ps.getD k 0 by omega]
      exact h3
  · rcases (ha k hk).2 with h | h
    · omega
    · rw [e] at h; exact h
end Go.Proofs.Ytbacdllokgcohaa
