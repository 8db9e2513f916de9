/-
  A configuration is one; with a state more or less it is none: plain, no program in it.
-/
import Derived.Test.YtaolebdcmdmnjaaCfg0
namespace Go.Proofs.Ytaolebdcmdmnjaa
set_option maxRecDepth 100000

section
variable {ks ps : List Int} {n : Nat}
theorem prop_iff (hsz : szN ks ps = n) (hn : n ≤ 32) (s : Nat) : prop ks ps s = true ↔ s < 2 ^ n ∧ cin ks ps (-1) s.testBit n = 1 ∧ ∀ k, k < n → s.testBit k = true → settl ks ps s k = true := by
  unfold prop
  rw [hsz, cnt_cin s (-1) hn, Bool.and_eq_true, Bool.and_eq_true, decide_eq_true_eq, beq_iff_eq, List.all_eq_true]
  have h2 : s / 2 ^ n = 0 ↔ s < 2 ^ n := by
    rw [Nat.div_eq_zero_iff]
    have := Nat.two_pow_pos n
    omega
  rw [h2]
  constructor
  · rintro ⟨⟨h1, h2⟩, h3⟩
    refine ⟨h1, h2, fun k hk hb => ?_⟩
    have := h3 k (List.mem_range.2 hk)
    rw [hb] at this
    simpa using this
  · rintro ⟨h1, h2, h3⟩
    refine ⟨⟨h1, h2⟩, fun k hk => ?_⟩
    cases hb : s.testBit k
    · rfl
    · rw [h3 k (List.mem_range.1 hk) hb]; rfl
theorem settl_iff (hp : ∀ k, k < n → -1 ≤ ps.getD k 0 ∧ ps.getD k 0 < k) (hsz : szN ks ps = n) (hn : n ≤ 32) (s k : Nat) (hk : k < n) :
    settl ks ps s k = true ↔ hl ks k = true ∧ (0 ≤ ps.getD k 0 → s.testBit (ps.getD k 0).toNat = true) ∧
      (if ks.getD k 0 = 2 then ∀ j, j < n → isKid ks ps k j = true → s.testBit j = true else (List.range n).any (isKid ks ps k) = false ∨ cin ks ps k s.testBit n = 1) := by
  have hpar : par ps k = ps.getD k 0 := by unfold par; have := hp k hk; omega
  unfold settl
  rw [hsz, hpar, Bool.and_eq_true, Bool.and_eq_true, and_assoc]
  refine and_congr Iff.rfl (and_congr ?_ ?_)
  · by_cases h0 : 0 ≤ ps.getD k 0
    · rw [decide_eq_true h0, Bool.true_and, Bool.not_not]
      exact ⟨fun h _ => h, fun h => h h0⟩
    · rw [decide_eq_false h0]
      exact ⟨fun _ h => absurd h h0, fun _ => rfl⟩
  · split
    · rw [beq_iff_eq, opn_all]
    · rw [Bool.or_eq_true, beq_iff_eq, beq_iff_eq, opn_none, cnt_cin s k hn]
theorem CInv.proper (hp : ∀ k, k < n → -1 ≤ ps.getD k 0 ∧ ps.getD k 0 < k) (hsz : szN ks ps = n) (hn : n ≤ 32) (htop : (List.range n).any (isKid ks ps (-1)) = true) {s : Nat} (h : CInv ks ps n s []) : prop ks ps s = true := by
  rw [prop_iff hsz hn]
  refine ⟨h.lt, ?_, fun k hk hb => ?_⟩
  · have hd := h.dn (-1) (.inl rfl) (by simp)
    unfold done at hd
    rw [if_neg (by omega), htop] at hd
    exact hd.resolve_left (by simp)
  · rw [settl_iff hp hsz hn s k hk]
    obtain ⟨h1, h2, _⟩ := h.up k hk hb
    refine ⟨h1, fun h0 => ?_, ?_⟩
    · rcases h2 with e | ⟨j, e, _, hj⟩
      · omega
      · rw [e, Int.toNat_natCast]; exact hj
    · have hd := h.dn k (.inr ⟨k, rfl, hk, hb⟩) (by simp)
      unfold done at hd
      rw [Int.toNat_natCast] at hd
      by_cases e : ks.getD k 0 = 2
      · rw [if_pos ⟨by omega, e⟩] at hd
        rw [if_pos e]; exact hd
      · rw [if_neg (fun h => e h.2)] at hd
        rw [if_neg e]; exact hd
theorem cin_one_more {a : Int} {X Y : Nat} {k : Nat} (hk : k < n) (hi : isKid ks ps a k = true) (hX : X.testBit k = true) (hY : Y.testBit k = false) (he : ∀ j, j ≠ k → X.testBit j = Y.testBit j) : cin ks ps a X.testBit n = 1 + cin ks ps a Y.testBit n := by
  unfold cin
  refine sum_part hk (fun j _ hne => by rw [he j hne]) ?_
  rw [hi, hX, hY]; rfl
/-- two sets that one state tells apart are not both configurations -/
theorem prop_apart (hp : ∀ k, k < n → -1 ≤ ps.getD k 0 ∧ ps.getD k 0 < k) (hsz : szN ks ps = n) (hn : n ≤ 32) {X Y k : Nat} (hk : k < n) (hX : X.testBit k = true) (hY : Y.testBit k = false) (he : ∀ j, j ≠ k → X.testBit j = Y.testBit j)
    (pX : prop ks ps X = true) (pY : prop ks ps Y = true) : False := by
  rw [prop_iff hsz hn] at pX pY
  obtain ⟨_, x2, x3⟩ := pX
  obtain ⟨_, y2, y3⟩ := pY
  obtain ⟨hl1, hup, _⟩ := (settl_iff hp hsz hn X k hk).1 (x3 k hk hX)
  have hb := hp k hk
  have hkid : isKid ks ps (ps.getD k 0) k = true := by rw [kid_of]; exact hl1
  have hone := cin_one_more hk hkid hX hY he
  by_cases h0 : ps.getD k 0 = -1
  · rw [h0] at hone; omega
  · obtain ⟨q, hq⟩ : ∃ q : Nat, ps.getD k 0 = q := ⟨(ps.getD k 0).toNat, by omega⟩
    have hXq := hup (by omega)
    rw [hq, Int.toNat_natCast] at hXq
    rw [hq] at hkid hone
    have hqk : q ≠ k := by omega
    have hYq : Y.testBit q = true := by rw [← he q hqk]; exact hXq
    have sX := ((settl_iff hp hsz hn X q (by omega)).1 (x3 q (by omega) hXq)).2.2
    have sY := ((settl_iff hp hsz hn Y q (by omega)).1 (y3 q (by omega) hYq)).2.2
    have ha := not_any (n := n) hk hkid
    by_cases e : ks.getD q 0 = 2
    · rw [if_pos e] at sY
      have := sY k hk hkid
      rw [hY] at this; cases this
    · rw [if_neg e] at sX sY
      have := sX.resolve_left ha
      have := sY.resolve_left ha
      omega
theorem prop_flip (hp : ∀ k, k < n → -1 ≤ ps.getD k 0 ∧ ps.getD k 0 < k) (hsz : szN ks ps = n) (hn : n ≤ 32) {c k : Nat} (hk : k < n) (hc : prop ks ps c = true) : prop ks ps (c ^^^ 2 ^ k) = false := by
  have hb : ∀ j, (c ^^^ 2 ^ k).testBit j = (c.testBit j ^^ decide (k = j)) := fun j => by rw [Nat.testBit_xor, Nat.testBit_two_pow]
  have he : ∀ j, j ≠ k → c.testBit j = (c ^^^ 2 ^ k).testBit j := fun j hj => by
    rw [hb j, decide_eq_false (fun e => hj e.symm), Bool.xor_false]
  have hkk : (c ^^^ 2 ^ k).testBit k = !c.testBit k := by rw [hb k, decide_eq_true rfl, Bool.xor_true]
  cases hpf : prop ks ps (c ^^^ 2 ^ k)
  · rfl
  · exfalso
    cases hck : c.testBit k
    · rw [hck] at hkk
      exact prop_apart hp hsz hn hk hkk hck (fun j hj => (he j hj).symm) hpf hc
    · rw [hck] at hkk
      exact prop_apart hp hsz hn hk hck hkk he hc hpf
theorem prop_zero (hsz : szN ks ps = n) (hn : n ≤ 32) : prop ks ps 0 = false := by
  cases h : prop ks ps 0
  · rfl
  · have := ((prop_iff hsz hn 0).1 h).2.1
    have z : cin ks ps (-1) (Nat.testBit 0) n = 0 := sum_zero fun k _ => by rw [Nat.zero_testBit, Bool.and_false]; rfl
    omega
theorem prop_high (hsz : szN ks ps = n) (hn : n ≤ 31) (c : Nat) : prop ks ps (c ||| 2147483648) = false := by
  cases h : prop ks ps (c ||| 2147483648)
  · rfl
  · have h1 := ((prop_iff hsz (by omega) _).1 h).1
    have h2 : (c ||| 2147483648).testBit 31 = true := by
      rw [Nat.testBit_or, show (2147483648 : Nat) = 2 ^ 31 from rfl, Nat.testBit_two_pow_self, Bool.or_true]
    have h3 : 2 ^ n ≤ 2 ^ 31 := Nat.pow_le_pow_right (by omega) hn
    rw [Nat.testBit_lt_two_pow (Nat.lt_of_lt_of_le h1 h3)] at h2
    cases h2
end
end Go.Proofs.Ytaolebdcmdmnjaa
