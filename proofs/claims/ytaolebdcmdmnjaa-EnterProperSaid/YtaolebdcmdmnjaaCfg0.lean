/-
  A configuration that is found place by place: plain, no program in it.
-/
import Derived.Test.YtaolebdcmdmnjaaCnt3
namespace Go.Proofs.Ytaolebdcmdmnjaa
set_option maxRecDepth 100000

/-- a set with some more -/
def addB (s : Nat) : List Nat → Nat
  | [] => s
  | k :: r => addB (s ||| 2 ^ k) r
theorem addB_bit (j : Nat) : ∀ (C : List Nat) (s : Nat), (addB s C).testBit j = (s.testBit j || decide (j ∈ C))
  | [], s => by simp [addB]
  | k :: r, s => by
    unfold addB
    rw [addB_bit j r, Nat.testBit_or, Nat.testBit_two_pow]
    by_cases e : k = j
    · subst e; simp
    · have e' : ¬ j = k := fun h => e h.symm
      simp [e, e']
theorem addB_lt {n : Nat} : ∀ (C : List Nat) (s : Nat), s < 2 ^ n → (∀ k ∈ C, k < n) → addB s C < 2 ^ n
  | [], _, h, _ => h
  | k :: r, s, h, hC => addB_lt r _ (Nat.or_lt_two_pow h (Nat.pow_lt_pow_right (a := 2) (by omega) (hC k (by simp)))) fun x hx => hC x (by simp [hx])
theorem addB_snoc (k : Nat) : ∀ (C : List Nat) (s : Nat), addB s (C ++ [k]) = addB s C ||| 2 ^ k
  | [], _ => rfl
  | _ :: r, _ => addB_snoc k r _
theorem cnt_pow : ∀ k : Fin 32, cnt (2 ^ k.val) = 1 := by decide +kernel
theorem cnt_more {s k : Nat} (hk : k < 32) (h : s.testBit k = false) : cnt (s ||| 2 ^ k) = cnt s + 1 := by
  have e := cntTo_or_and s (2 ^ k) 32
  have h1 : cntTo (2 ^ k) 32 = 1 := cnt_pow ⟨k, hk⟩
  have h2 : s &&& 2 ^ k = 0 := by
    apply Nat.eq_of_testBit_eq
    intro j
    rw [Nat.testBit_and, Nat.testBit_two_pow, Nat.zero_testBit]
    by_cases e : k = j
    · subst e; rw [h]; rfl
    · simp [e]
  rw [h1, h2, cntTo_zero] at e
  unfold cnt
  omega
theorem cnt_addB : ∀ (C : List Nat) (s : Nat), C.Nodup → (∀ k ∈ C, k < 32 ∧ s.testBit k = false) → cnt (addB s C) = cnt s + C.length
  | [], _, _, _ => rfl
  | k :: r, s, hn, h => by
    rw [List.nodup_cons] at hn
    have hk := h k (by simp)
    unfold addB
    rw [cnt_addB r _ hn.2 fun x hx => ⟨(h x (by simp [hx])).1, by
      rw [Nat.testBit_or, (h x (by simp [hx])).2, Nat.testBit_two_pow]
      have : k ≠ x := fun e => hn.1 (e ▸ hx)
      simp [this]⟩, cnt_more hk.1 hk.2, List.length_cons]
    omega
theorem cnt_n {s n : Nat} (hs : s < 2 ^ n) (hn : n ≤ 32) : cnt s ≤ n := by
  have h := cntTo_rest (Nat.div_eq_of_lt hs) (32 - n)
  rw [show n + (32 - n) = 32 by omega] at h
  have := cntTo_le s n
  unfold cnt
  omega

section
variable (ks ps : List Int) (n : Nat)
/-- the states of a place that may be in -/
def openL (a : Int) : List Nat := (List.range n).filter (isKid ks ps a)
/-- a place: the top, or a state that is in -/
def plc (s : Nat) (a : Int) : Prop := a = -1 ∨ ∃ k : Nat, a = k ∧ k < n ∧ s.testBit k = true
/-- what holds of a place whose states have been chosen -/
def done (s : Nat) (a : Int) : Prop :=
  if 0 ≤ a ∧ ks.getD a.toNat 0 = 2 then ∀ k, k < n → isKid ks ps a k = true → s.testBit k = true
  else (List.range n).any (isKid ks ps a) = false ∨ cin ks ps a s.testBit n = 1
structure CInv (s : Nat) (L : List Int) : Prop where
  lt : s < 2 ^ n
  nd : L.Nodup
  pl : ∀ a ∈ L, plc n s a
  up : ∀ k, k < n → s.testBit k = true → hl ks k = true ∧ plc n s (ps.getD k 0) ∧ ps.getD k 0 ∉ L
  dn : ∀ a, plc n s a → a ∉ L → done ks ps n s a
variable {ks ps n}
theorem mem_openL {a : Int} {k : Nat} : k ∈ openL ks ps n a ↔ k < n ∧ isKid ks ps a k = true := by
  unfold openL; rw [List.mem_filter, List.mem_range]
theorem openL_nodup (a : Int) : (openL ks ps n a).Nodup := List.Pairwise.filter _ List.nodup_range
theorem CInv.start : CInv ks ps n 0 [-1] where
  lt := Nat.two_pow_pos n
  nd := by simp
  pl := fun a ha => .inl (List.mem_singleton.1 ha)
  up := fun k _ h => by rw [Nat.zero_testBit] at h; cases h
  dn := fun a h hn => by
    rcases h with h | ⟨k, _, _, h⟩
    · exact absurd (List.mem_singleton.2 h) hn
    · rw [Nat.zero_testBit] at h; cases h
theorem kid_par {a : Int} {k : Nat} (h : isKid ks ps a k = true) : ps.getD k 0 = a ∧ hl ks k = true := by
  unfold isKid at h
  rw [Bool.and_eq_true, beq_iff_eq] at h
  exact h
theorem sum_count {C : List Nat} {P : Nat → Bool} (hC : C.Nodup) : ∀ {m : Nat}, (∀ k, k ∈ C ↔ k < m ∧ P k = true) → sumTo (fun k => if P k then 1 else 0) m = C.length
  | 0, h => by
    have : C = [] := List.eq_nil_iff_forall_not_mem.2 fun k hk => by have := (h k).1 hk; omega
    rw [this]; rfl
  | m + 1, h => by
    simp only [sumTo]
    by_cases hp : P m = true
    · have hm : m ∈ C := (h m).2 ⟨by omega, hp⟩
      have he : ∀ k, k ∈ C.erase m ↔ k < m ∧ P k = true := fun k => by
        rw [hC.mem_erase_iff, h k]
        constructor
        · rintro ⟨h1, h2, h3⟩; exact ⟨by omega, h3⟩
        · rintro ⟨h1, h2⟩; exact ⟨by omega, by omega, h2⟩
      rw [sum_count (hC.erase m) he, if_pos hp, List.length_erase_of_mem hm]
      have := List.length_pos_of_mem hm
      omega
    · have he : ∀ k, k ∈ C ↔ k < m ∧ P k = true := fun k => by
        rw [h k]
        constructor
        · rintro ⟨h1, h2⟩
          refine ⟨?_, h2⟩
          by_cases e : k = m
          · subst e; exact absurd h2 hp
          · omega
        · rintro ⟨h1, h2⟩; exact ⟨by omega, h2⟩
      rw [sum_count hC he, if_neg hp]
      omega
/-- one place more: its states, or one of them -/
theorem CInv.step (hp : ∀ k, k < n → -1 ≤ ps.getD k 0 ∧ ps.getD k 0 < k) {s : Nat} {a : Int} {R : List Int} {C : List Nat} (h : CInv ks ps n s (a :: R)) (hnd : C.Nodup) (hC : ∀ k ∈ C, k ∈ openL ks ps n a)
    (hall : 0 ≤ a ∧ ks.getD a.toNat 0 = 2 → C = openL ks ps n a) (hone : ¬ (0 ≤ a ∧ ks.getD a.toNat 0 = 2) → openL ks ps n a = [] ∨ C.length = 1) :
    CInv ks ps n (addB s C) (R ++ C.map fun k : Nat => (k : Int)) := by
  have hnew : ∀ k ∈ C, k < n ∧ ps.getD k 0 = a ∧ hl ks k = true := fun k hk => by
    obtain ⟨h1, h2⟩ := mem_openL.1 (hC k hk)
    exact ⟨h1, kid_par h2⟩
  have hout : ∀ k, k < n → ps.getD k 0 = a → s.testBit k = false := fun k hk he => by
    cases e : s.testBit k
    · rfl
    · exact absurd (by rw [he]; simp) (h.up k hk e).2.2
  have hnd2 := List.nodup_cons.1 h.nd
  have hR : ∀ k ∈ C, (k : Int) ∉ R := fun k hk hr => by
    rcases h.pl _ (List.mem_cons_of_mem _ hr) with e | ⟨j, e, _, hb⟩
    · omega
    · have : k = j := by omega
      subst this
      have := hout k (hnew k hk).1 (hnew k hk).2.1
      rw [this] at hb; cases hb
  have hmem : ∀ k : Nat, (k : Int) ∈ (C.map fun k : Nat => (k : Int)) ↔ k ∈ C := fun k => by
    rw [List.mem_map]
    constructor
    · rintro ⟨j, hj, e⟩
      have : j = k := by omega
      subst this; exact hj
    · intro hk; exact ⟨k, hk, rfl⟩
  have hplc : ∀ {b}, plc n s b → plc n (addB s C) b := fun {b} hb => by
    rcases hb with e | ⟨k, e, hk, hb⟩
    · exact .inl e
    · exact .inr ⟨k, e, hk, by rw [addB_bit, hb]; rfl⟩
  refine ⟨addB_lt C s h.lt fun k hk => (hnew k hk).1, ?_, ?_, ?_, ?_⟩
  · rw [List.nodup_append]
    refine ⟨hnd2.2, ?_, ?_⟩
    · exact List.Pairwise.map _ (fun x y hxy e => hxy (by omega)) hnd
    · intro x hx y hy e
      subst e
      obtain ⟨k, hk, rfl⟩ := List.mem_map.1 hy
      exact hR k hk hx
  · intro b hb
    rcases List.mem_append.1 hb with hb | hb
    · exact hplc (h.pl b (List.mem_cons_of_mem _ hb))
    · obtain ⟨k, hk, rfl⟩ := List.mem_map.1 hb
      exact .inr ⟨k, rfl, (hnew k hk).1, by rw [addB_bit, decide_eq_true hk, Bool.or_true]⟩
  · intro k hk hb
    rw [addB_bit, Bool.or_eq_true, decide_eq_true_eq] at hb
    rcases hb with hb | hb
    · obtain ⟨h1, h2, h3⟩ := h.up k hk hb
      refine ⟨h1, hplc h2, fun hm => ?_⟩
      rcases List.mem_append.1 hm with hm | hm
      · exact h3 (List.mem_cons_of_mem _ hm)
      · obtain ⟨c, hc, e⟩ := List.mem_map.1 hm
        rcases h2 with e2 | ⟨j, e2, _, hj⟩
        · omega
        · have : j = c := by omega
          subst this
          rw [hout j (hnew j hc).1 (hnew j hc).2.1] at hj; cases hj
    · obtain ⟨h1, h2, h3⟩ := hnew k hb
      rw [h2]
      refine ⟨h3, hplc (h.pl a (by simp)), fun hm => ?_⟩
      rcases List.mem_append.1 hm with hm | hm
      · exact hnd2.1 hm
      · obtain ⟨c, hc, e⟩ := List.mem_map.1 hm
        have := (hp c (hnew c hc).1).2
        have := (hnew c hc).2.1
        omega
  · intro b hb hnm
    by_cases e : b = a
    · subst e
      unfold done
      have hin : ∀ k, k ∈ C ↔ k < n ∧ (isKid ks ps b k && (addB s C).testBit k) = true := fun k => by
        constructor
        · intro hk
          obtain ⟨h1, h2⟩ := mem_openL.1 (hC k hk)
          refine ⟨h1, ?_⟩
          rw [h2, addB_bit, decide_eq_true hk, Bool.or_true]; rfl
        · rintro ⟨h1, h2⟩
          rw [Bool.and_eq_true, addB_bit, Bool.or_eq_true, decide_eq_true_eq] at h2
          rcases h2.2 with h3 | h3
          · rw [hout k h1 (kid_par h2.1).1] at h3; cases h3
          · exact h3
      split
      · rename_i h2
        intro k hk hi
        have := hall h2
        have hkc : k ∈ C := by rw [this]; exact mem_openL.2 ⟨hk, hi⟩
        rw [addB_bit, decide_eq_true hkc, Bool.or_true]
      · rename_i h2
        rcases hone h2 with h3 | h3
        · left
          rw [List.any_eq_false]
          intro k hk hi
          have : k ∈ openL ks ps n b := mem_openL.2 ⟨List.mem_range.1 hk, hi⟩
          rw [h3] at this; cases this
        · right
          unfold cin
          rw [sum_count hnd hin, h3]
    · have hb2 : plc n s b := by
        rcases hb with e2 | ⟨k, e2, hk, hb⟩
        · exact .inl e2
        · rw [addB_bit, Bool.or_eq_true, decide_eq_true_eq] at hb
          rcases hb with hb | hb
          · exact .inr ⟨k, e2, hk, hb⟩
          · exact absurd (List.mem_append_right _ (by rw [e2]; exact (hmem k).2 hb)) hnm
      have hd := h.dn b hb2 (fun hm => by
        rcases List.mem_cons.1 hm with hm | hm
        · exact e hm
        · exact hnm (List.mem_append_left _ hm))
      have hno : ∀ k, isKid ks ps b k = true → k ∉ C := fun k hi hk => e (((kid_par hi).1).symm.trans (hnew k hk).2.1)
      unfold done at hd ⊢
      split
      · rename_i h2
        rw [if_pos h2] at hd
        intro k hk hi
        rw [addB_bit, hd k hk hi]; rfl
      · rename_i h2
        rw [if_neg h2] at hd
        refine hd.imp id fun h3 => ?_
        rw [← h3]
        unfold cin
        refine sumTo_congr fun k hk => ?_
        cases hi : isKid ks ps b k
        · rfl
        · rw [addB_bit, decide_eq_false (hno k hi), Bool.or_false]
end
end Go.Proofs.Ytaolebdcmdmnjaa
