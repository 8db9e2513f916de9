/-
  Ways over pairs, by Warshall; sets as the bits of numbers; an order of names: plain lists, no program in it.
-/
namespace Go.Proofs.Yteplbbikjcjheaa
set_option maxRecDepth 100000

abbrev Rel := Nat → Nat → Bool
/-- a way from i to j by names below m -/
def way (R : Rel) : Nat → Rel
  | 0 => R
  | m + 1 => fun i j => way R m i j || (way R m i m && way R m m j)
theorem way_succ {R : Rel} {m i j : Nat} : way R (m + 1) i j = true ↔ way R m i j = true ∨ way R m i m = true ∧ way R m m j = true := by simp [way]
theorem way_mono {R : Rel} {m n : Nat} (h : m ≤ n) {i j : Nat} (hw : way R m i j = true) : way R n i j = true := by
  induction n with
  | zero => obtain rfl : m = 0 := by omega
            exact hw
  | succ n ih =>
    by_cases e : m = n + 1
    · subst e; exact hw
    · exact way_succ.2 (.inl (ih (by omega)))
theorem way_least {R : Rel} {T : Nat → Nat → Prop} (hT : ∀ i k j, T i k → T k j → T i j) (hR : ∀ i j, R i j = true → T i j) : ∀ m {i j : Nat}, way R m i j = true → T i j
  | 0, i, j, h => hR i j h
  | m + 1, i, j, h => by
    rcases way_succ.1 h with h | ⟨h1, h2⟩
    · exact way_least hT hR m h
    · exact hT _ _ _ (way_least hT hR m h1) (way_least hT hR m h2)
theorem way_trans {R : Rel} : ∀ (m : Nat) {i k j : Nat}, k < m → way R m i k = true → way R m k j = true → way R m i j = true
  | 0, _, _, _, h, _, _ => absurd h (by omega)
  | m + 1, i, k, j, hk, h1, h2 => by
    rw [way_succ] at h1 h2 ⊢
    by_cases e : k = m
    · subst e
      have a : way R k i k = true := h1.elim id (·.1)
      have b : way R k k j = true := h2.elim id (·.2)
      exact .inr ⟨a, b⟩
    · have hk' : k < m := by omega
      rcases h1 with h1 | ⟨h1, h1'⟩ <;> rcases h2 with h2 | ⟨h2, h2'⟩
      · exact .inl (way_trans m hk' h1 h2)
      · exact .inr ⟨way_trans m hk' h1 h2, h2'⟩
      · exact .inr ⟨h1, way_trans m hk' h1' h2⟩
      · exact .inr ⟨h1, h2'⟩
theorem way_base {R : Rel} {n i j : Nat} (h : R i j = true) : way R n i j = true := way_mono (Nat.zero_le _) h
/-- a relation whose ends lie below n -/
theorem way_bound {R : Rel} {n : Nat} (hR : ∀ i j, R i j = true → i < n ∧ j < n) (m : Nat) {i j : Nat} (h : way R m i j = true) : i < n ∧ j < n :=
  way_least (T := fun i j => i < n ∧ j < n) (fun _ _ _ a b => ⟨a.1, b.2⟩) hR m h
theorem way_sub {R S : Rel} (h : ∀ i j, R i j = true → S i j = true) : ∀ m {i j : Nat}, way R m i j = true → way S m i j = true
  | 0, i, j, hw => h i j hw
  | m + 1, i, j, hw => by
    rcases way_succ.1 hw with hw | ⟨h1, h2⟩
    · exact way_succ.2 (.inl (way_sub h m hw))
    · exact way_succ.2 (.inr ⟨way_sub h m h1, way_sub h m h2⟩)
/-- with a pair more -/
theorem way_more {R S : Rel} {n a b : Nat} (hR : ∀ i j, R i j = true → i < n ∧ j < n) (ha : a < n) (hb : b < n) (hS : ∀ i j, S i j = true ↔ R i j = true ∨ i = a ∧ j = b) {i j : Nat} :
    way S n i j = true ↔ way R n i j = true ∨ (i = a ∨ way R n i a = true) ∧ (b = j ∨ way R n b j = true) := by
  constructor
  · intro h
    refine way_least (T := fun i j => way R n i j = true ∨ (i = a ∨ way R n i a = true) ∧ (b = j ∨ way R n b j = true)) ?_ ?_ n h
    · rintro i k j (h1 | ⟨h1, h1'⟩) (h2 | ⟨h2, h2'⟩)
      · exact .inl (way_trans n (way_bound hR n h1).2 h1 h2)
      · refine .inr ⟨.inr ?_, h2'⟩
        rcases h2 with rfl | h2
        · exact h1
        · exact way_trans n (way_bound hR n h1).2 h1 h2
      · refine .inr ⟨h1, .inr ?_⟩
        rcases h1' with rfl | h1'
        · exact h2
        · exact way_trans n (way_bound hR n h1').2 h1' h2
      · exact .inr ⟨h1, h2'⟩
    · intro i j h
      rcases (hS i j).1 h with h | ⟨rfl, rfl⟩
      · exact .inl (way_base h)
      · exact .inr ⟨.inl rfl, .inl rfl⟩
  · have hm : ∀ {i j}, way R n i j = true → way S n i j = true := fun h => way_sub (fun i j h => (hS i j).2 (.inl h)) n h
    have hab : way S n a b = true := way_base ((hS a b).2 (.inr ⟨rfl, rfl⟩))
    rintro (h | ⟨h1, h2⟩)
    · exact hm h
    · have h3 : way S n i b = true := by
        rcases h1 with rfl | h1
        · exact hab
        · exact way_trans n ha (hm h1) hab
      rcases h2 with rfl | h2
      · exact h3
      · exact way_trans n hb h3 (hm h2)
/-- pairs that go up: no circle -/
theorem way_up {R : Rel} (hR : ∀ i j, R i j = true → i < j) (m : Nat) {i j : Nat} (h : way R m i j = true) : i < j :=
  way_least (T := fun i j => i < j) (fun _ _ _ a b => by omega) hR m h

/-! ### sets -/
def rel (bl : List Nat) : Rel := fun i j => (bl.getD i 0).testBit j
theorem rel_out {bl : List Nat} {i : Nat} (h : bl.length ≤ i) (j : Nat) : rel bl i j = false := by
  simp [rel, List.getD_eq_getElem?_getD, h]
def Lo (bl : List Nat) : Prop := ∀ i, bl.getD i 0 < 16777216
theorem getD_set {bl : List Nat} {k i v : Nat} (h : k < bl.length) : (bl.set k v).getD i 0 = if i = k then v else bl.getD i 0 := by
  simp only [List.getD_eq_getElem?_getD, List.getElem?_set]
  by_cases e : k = i
  · subst e; simp [h]
  · rw [if_neg e, if_neg (fun h => e h.symm)]
theorem lo_set {bl : List Nat} (h : Lo bl) {k v : Nat} (hk : k < bl.length) (hv : v < 16777216) : Lo (bl.set k v) := fun i => by
  rw [getD_set hk]; split
  · exact hv
  · exact h i
theorem or_lo {a b : Nat} (ha : a < 16777216) (hb : b < 16777216) : a ||| b < 16777216 := Nat.or_lt_two_pow (n := 24) ha hb
def bitN (i : Nat) : Nat := 2 ^ i
theorem pow_lo {i : Nat} (h : i < 24) : bitN i < 16777216 := Nat.pow_lt_pow_right (a := 2) (by omega) h

/-- one name's set takes in that of the name m, if it has it -/
def put1 (m k : Nat) (cur : List Nat) : List Nat := if rel cur k m = true then cur.set k (cur.getD k 0 ||| cur.getD m 0) else cur
theorem put1_length (m k : Nat) (cur : List Nat) : (put1 m k cur).length = cur.length := by unfold put1; split <;> simp
theorem put1_lo {m k : Nat} {cur : List Nat} (h : Lo cur) (hk : k < cur.length) : Lo (put1 m k cur) := by
  unfold put1; split
  · exact lo_set h hk (or_lo (h _) (h _))
  · exact h
theorem put1_rel {m k : Nat} {cur : List Nat} (hk : k < cur.length) (i j : Nat) : rel (put1 m k cur) i j = if i = k then rel cur k j || (rel cur k m && rel cur m j) else rel cur i j := by
  unfold put1
  by_cases h : rel cur k m = true
  · rw [if_pos h]
    unfold rel
    rw [getD_set hk]
    by_cases e : i = k
    · subst e
      rw [if_pos rfl, if_pos rfl, Nat.testBit_or]
      have : (cur.getD i 0).testBit m = true := h
      rw [this]; simp
    · rw [if_neg e, if_neg e]
  · rw [if_neg h]
    have h' : rel cur k m = false := by simpa using h
    by_cases e : i = k
    · subst e; rw [if_pos rfl, h']; simp
    · rw [if_neg e]
def stepTo (m : Nat) (bl : List Nat) : Nat → List Nat
  | 0 => bl
  | k + 1 => put1 m k (stepTo m bl k)
theorem stepTo_length (m : Nat) (bl : List Nat) : ∀ k, (stepTo m bl k).length = bl.length
  | 0 => rfl
  | k + 1 => by rw [stepTo, put1_length, stepTo_length m bl k]
theorem stepTo_lo {m : Nat} {bl : List Nat} (h : Lo bl) : ∀ k, k ≤ bl.length → Lo (stepTo m bl k)
  | 0, _ => h
  | k + 1, hk => put1_lo (stepTo_lo h k (by omega)) (by rw [stepTo_length]; omega)
theorem stepTo_rel (m : Nat) (bl : List Nat) : ∀ k, k ≤ bl.length → ∀ i j, rel (stepTo m bl k) i j = if i < k then rel bl i j || (rel bl i m && rel bl m j) else rel bl i j
  | 0, _, i, j => by simp [stepTo]
  | k + 1, hk, i, j => by
    have ih := stepTo_rel m bl k (by omega)
    have hkk := ih k
    simp only [Nat.lt_irrefl, if_false] at hkk
    have hm : ∀ j, rel (stepTo m bl k) m j = rel bl m j := fun j => by
      rw [ih]; split
      · cases rel bl m m <;> cases rel bl m j <;> rfl
      · rfl
    rw [stepTo, put1_rel (by rw [stepTo_length]; omega)]
    by_cases e : i = k
    · subst e; rw [if_pos rfl, if_pos (by omega), hkk, hkk, hm]
    · rw [if_neg e, ih]
      by_cases h : i < k
      · rw [if_pos h, if_pos (by omega)]
      · rw [if_neg h, if_neg (by omega)]
def folTo (bl : List Nat) : Nat → List Nat
  | 0 => bl
  | m + 1 => stepTo m (folTo bl m) bl.length
theorem folTo_length (bl : List Nat) : ∀ m, (folTo bl m).length = bl.length
  | 0 => rfl
  | m + 1 => by rw [folTo, stepTo_length, folTo_length bl m]
theorem folTo_lo {bl : List Nat} (h : Lo bl) : ∀ m, Lo (folTo bl m)
  | 0 => h
  | m + 1 => stepTo_lo (folTo_lo h m) _ (by rw [folTo_length]; exact Nat.le_refl _)
theorem folTo_rel (bl : List Nat) : ∀ m i j, rel (folTo bl m) i j = way (rel bl) m i j
  | 0, i, j => rfl
  | m + 1, i, j => by
    have ih := folTo_rel bl m
    rw [folTo, stepTo_rel _ _ _ (by rw [folTo_length]; exact Nat.le_refl _), ih, ih, ih]
    by_cases h : i < bl.length
    · rw [if_pos h]; rfl
    · have h0 : way (rel bl) m i j = false := by rw [← ih, rel_out (by rw [folTo_length]; omega)]
      have h1 : way (rel bl) m i m = false := by rw [← ih, rel_out (by rw [folTo_length]; omega)]
      rw [if_neg h]; simp [way, h0, h1]
def selfTo (bl : List Nat) : Nat → List Nat
  | 0 => bl
  | k + 1 => (selfTo bl k).set k ((selfTo bl k).getD k 0 ||| bitN k)
theorem selfTo_length (bl : List Nat) : ∀ k, (selfTo bl k).length = bl.length
  | 0 => rfl
  | k + 1 => by rw [selfTo, List.length_set, selfTo_length bl k]
theorem selfTo_lo {bl : List Nat} (h : Lo bl) (hl : bl.length ≤ 24) : ∀ k, k ≤ bl.length → Lo (selfTo bl k)
  | 0, _ => h
  | k + 1, hk => by
    have ih := selfTo_lo h hl k (by omega)
    exact lo_set ih (by rw [selfTo_length]; omega) (or_lo (ih _) (pow_lo (by omega)))
theorem pow_bit (k j : Nat) : (bitN k).testBit j = (k == j) := by
  rw [bitN, Nat.testBit_two_pow]
  by_cases h : k = j <;> simp [h]
theorem selfTo_rel (bl : List Nat) : ∀ k, k ≤ bl.length → ∀ i j, rel (selfTo bl k) i j = (rel bl i j || (decide (i < k) && (i == j)))
  | 0, _, i, j => by simp [selfTo]
  | k + 1, hk, i, j => by
    have ih := selfTo_rel bl k (by omega)
    unfold rel at ih ⊢
    rw [selfTo, getD_set (by rw [selfTo_length]; omega)]
    by_cases e : i = k
    · subst e
      rw [if_pos rfl, Nat.testBit_or, ih, pow_bit]
      simp
    · rw [if_neg e, ih]
      congr 2
      simp; omega
def circ (bl : List Nat) : Bool := (List.range bl.length).any fun i => rel bl i i

/-! ### names and pairs -/
abbrev Nm := List UInt8
abbrev Pr := Nm × Nm
def idx (names : List Nm) (x : Nm) : Nat := names.idxOf x
theorem idx_lt {names : List Nm} {x : Nm} (h : x ∈ names) : idx names x < names.length := List.idxOf_lt_length_of_mem h
theorem get_idx {names : List Nm} {x : Nm} (h : x ∈ names) : names[idx names x]'(idx_lt h) = x := List.getElem_idxOf _
theorem idx_get {names : List Nm} (hn : names.Nodup) {i : Nat} (h : i < names.length) : idx names names[i] = i := by
  have := List.Nodup.idxOf_getElem hn i h
  exact this
def pset (names : List Nm) (bl : List Nat) (p : Pr) : List Nat := bl.set (idx names p.1) (bl.getD (idx names p.1) 0 ||| bitN (idx names p.2))
def psL (names : List Nm) (ps : List Pr) : List Nat := ps.foldl (pset names) (List.replicate names.length 0)
theorem psL_snoc (names : List Nm) (ps : List Pr) (p : Pr) : psL names (ps ++ [p]) = pset names (psL names ps) p := by simp [psL]
def inN (names : List Nm) (p : Pr) : Bool := decide (p.1 ∈ names) && decide (p.2 ∈ names)
def prel (names : List Nm) (ps : List Pr) : Rel := fun i j => ps.any fun p => idx names p.1 == i && idx names p.2 == j
theorem psL_all (names : List Nm) (hl : names.length ≤ 24) (ps : List Pr) (h : ∀ p ∈ ps, inN names p = true) : (psL names ps).length = names.length ∧ Lo (psL names ps) ∧ ∀ i j, rel (psL names ps) i j = prel names ps i j := by
  suffices H : ∀ n (ps : List Pr), ps.length = n → (∀ p ∈ ps, inN names p = true) → (psL names ps).length = names.length ∧ Lo (psL names ps) ∧ ∀ i j, rel (psL names ps) i j = prel names ps i j from H _ ps rfl h
  intro n
  induction n with
  | zero =>
    intro ps e _
    obtain rfl := List.length_eq_zero_iff.1 e
    have hz : ∀ i, (List.replicate names.length 0).getD i 0 = 0 := fun i => by
      rw [List.getD_eq_getElem?_getD, List.getElem?_replicate]; split <;> rfl
    refine ⟨by simp [psL], fun i => ?_, fun i j => ?_⟩
    · show (List.replicate names.length 0).getD i 0 < _
      rw [hz]; omega
    · show ((List.replicate names.length 0).getD i 0).testBit j = _
      rw [hz]; simp [prel]
  | succ n ih =>
    intro ps e hp
    obtain ⟨qs, p, rfl⟩ : ∃ qs p, ps = qs ++ [p] := ⟨ps.dropLast, ps.getLast (by intro h; rw [h] at e; cases e), (List.dropLast_concat_getLast _).symm⟩
    obtain ⟨h1, h2, h3⟩ := ih qs (by simpa using e) (fun q hq => hp q (List.mem_append_left _ hq))
    have hpn := hp p (List.mem_append_right _ (List.mem_singleton.2 rfl))
    simp only [inN, Bool.and_eq_true, decide_eq_true_eq] at hpn
    have ha := idx_lt hpn.1
    have hb := idx_lt hpn.2
    rw [psL_snoc]
    refine ⟨by simp [pset, h1], lo_set h2 (by omega) (or_lo (h2 _) (pow_lo (by omega))), fun i j => ?_⟩
    have hpr : prel names (qs ++ [p]) i j = (prel names qs i j || (idx names p.1 == i && idx names p.2 == j)) := by simp [prel]
    rw [hpr, ← h3]
    unfold rel pset
    rw [getD_set (by omega)]
    by_cases ei : i = idx names p.1
    · rw [if_pos ei, Nat.testBit_or, pow_bit, ← ei]; simp
    · rw [if_neg ei]
      have : (idx names p.1 == i) = false := by simpa using fun h => ei h.symm
      rw [this]; simp
inductive NewR where
  | bad (k : Int)
  | ok (bl : List Nat)
def folL (names : List Nm) (ps : List Pr) : List Nat := folTo (psL names ps) names.length
def newP (names : List Nm) (ps : List Pr) : NewR :=
  if 24 < names.length then .bad 5
  else if ¬ names.Nodup then .bad 4
  else if ps.all (inN names) = false then .bad 3
  else if circ (folL names ps) = true then .bad 6
  else .ok (selfTo (folL names ps) names.length)

/-! ### what sets are above, and below -/
def downTo (bl : List Nat) (set : Nat) : Nat → Nat
  | 0 => 0
  | k + 1 => if set.testBit k = true then downTo bl set k ||| bl.getD k 0 else downTo bl set k
def upperTo (bl : List Nat) (set : Nat) : Nat → Nat
  | 0 => 0
  | k + 1 => if bl.getD k 0 &&& set = 0 then upperTo bl set k else upperTo bl set k ||| bitN k
def belowTo (names : List Nm) (bl : List Nat) (a : Nat) : Nat → List Nm
  | 0 => []
  | k + 1 => if rel bl a k = true then belowTo names bl a k ++ [names.getD k []] else belowTo names bl a k
theorem downTo_lo {bl : List Nat} (h : Lo bl) (set : Nat) : ∀ k, downTo bl set k < 16777216
  | 0 => by rw [downTo]; omega
  | k + 1 => by
    rw [downTo]; split
    · exact or_lo (downTo_lo h set k) (h k)
    · exact downTo_lo h set k
theorem upperTo_lo (bl : List Nat) (set : Nat) : ∀ k, k ≤ 24 → upperTo bl set k < 16777216
  | 0, _ => by rw [upperTo]; omega
  | k + 1, hk => by
    rw [upperTo]; split
    · exact upperTo_lo bl set k (by omega)
    · exact or_lo (upperTo_lo bl set k (by omega)) (pow_lo (by omega))
theorem belowTo_len (names : List Nm) (bl : List Nat) (a : Nat) : ∀ k, (belowTo names bl a k).length ≤ k
  | 0 => by simp [belowTo]
  | k + 1 => by
    have := belowTo_len names bl a k
    rw [belowTo]; split
    · rw [List.length_append]; simp; omega
    · omega
theorem downTo_bit (bl : List Nat) (set j : Nat) : ∀ k, (downTo bl set k).testBit j = (List.range k).any fun i => set.testBit i && rel bl i j
  | 0 => by simp [downTo]
  | k + 1 => by
    have ih := downTo_bit bl set j k
    rw [downTo, List.range_succ, List.any_append, ← ih]
    by_cases h : set.testBit k = true
    · rw [if_pos h, Nat.testBit_or]; simp [h, rel]
    · rw [if_neg h]; simp [h]
theorem and_zero {a b : Nat} : a &&& b = 0 ↔ ∀ i, (a.testBit i && b.testBit i) = false := by
  constructor
  · intro h i
    have := congrArg (·.testBit i) h
    simpa [Nat.testBit_and] using this
  · intro h
    apply Nat.eq_of_testBit_eq
    intro i
    rw [Nat.testBit_and, h i, Nat.zero_testBit]
theorem upperTo_bit (bl : List Nat) (set j : Nat) : ∀ k, (upperTo bl set k).testBit j = (decide (j < k) && decide (bl.getD j 0 &&& set ≠ 0))
  | 0 => by simp [upperTo]
  | k + 1 => by
    have ih := upperTo_bit bl set j k
    rw [upperTo]
    by_cases e : j = k
    · subst e
      by_cases h : bl.getD j 0 &&& set = 0
      · rw [if_pos h, ih, h]; simp
      · rw [if_neg h, Nat.testBit_or, ih, pow_bit, decide_eq_true h]; simp
    · have e2 : decide (j < k + 1) = decide (j < k) := by rw [decide_eq_decide]; omega
      rw [e2, ← ih]
      by_cases h : bl.getD k 0 &&& set = 0
      · rw [if_pos h]
      · rw [if_neg h, Nat.testBit_or, pow_bit]
        have : (k == j) = false := by simpa using fun h => e h.symm
        rw [this]; simp
end Go.Proofs.Yteplbbikjcjheaa
