/-
  What the statements' sets are: plain, and what the calls answer as lists that can be read.
-/
import Derived.Test.YtaolebdcmdmnjaaEl3
import Derived.Test.YtaolebdcmdmnjaaShOg
namespace Go.Proofs.Ytaolebdcmdmnjaa
set_option maxRecDepth 100000
open Go.ChangeShapes Go.WideShapes Go.ChangeAt Go.RowKit

section
variable {ks ps : List Int} {n : Nat}
theorem leave_lt (h : ShF ks ps n) {s : Nat} {d : Int} : ∀ k ∈ leaveL ps n s d, k < n := fun k hk => ((mem_leaveL h).1 hk).1
theorem leave_len (h : ShF ks ps n) (s : Nat) (d : Int) : (leaveL ps n s d).length ≤ n := nodup_len n _ (leaveL_nodup s d) (leave_lt h)
theorem leave_part (h : ShF ks ps n) (s : Nat) (d : Int) : setN (leaveL ps n s d) &&& s = setN (leaveL ps n s d) := by
  apply Nat.eq_of_testBit_eq
  intro i
  rw [Nat.testBit_and, setN_bit]
  by_cases hm : i ∈ leaveL ps n s d
  · rw [decide_eq_true hm, ((mem_leaveL h).1 hm).2.1]; rfl
  · rw [decide_eq_false hm]; rfl
theorem leave_whole (h : ShF ks ps n) {s : Nat} (hs : s < 2 ^ n) : setN (leaveL ps n s (-1)) = s := by
  apply Nat.eq_of_testBit_eq
  intro i
  rw [setN_bit]
  by_cases hi : i < n
  · cases e : s.testBit i
    · exact decide_eq_false fun hm => by rw [((mem_leaveL h).1 hm).2.1] at e; cases e
    · exact decide_eq_true ((leaveL_all h hi).2 e)
  · rw [Nat.testBit_lt_two_pow (Nat.lt_of_lt_of_le hs (Nat.pow_le_pow_right (by omega) (by omega)))]
    exact decide_eq_false fun hm => hi (leave_lt h i hm)
theorem enter_in (h : ShF ks ps n) {past : Nat → Nat} (hp : PastOk ks ps n past) {t : Nat} {d : Int} (ht : t < n) (hu : Und ps t d) (hne : (t : Int) ≠ d) {k : Nat} (hm : k ∈ enterL ks ps n past d t) : k < n ∧ (k : Int) ≠ d ∧ Und ps k d := by
  obtain ⟨⟨j, hj, hk, hS⟩, _⟩ := enterL_LC h hp ht hu hne
  exact enterL_und h hj hk hS hm
theorem enter_len (h : ShF ks ps n) {past : Nat → Nat} (hp : PastOk ks ps n past) {t : Nat} {d : Int} (ht : t < n) (hu : Und ps t d) (hne : (t : Int) ≠ d) : (enterL ks ps n past d t).length ≤ n :=
  nodup_len n _ (enterL_LC h hp ht hu hne).2.1 fun _ hk => (enter_in h hp ht hu hne hk).1
theorem setN_lt32 {l : List Nat} (h : ∀ k ∈ l, k < n) (hn : n ≤ 32) : setN l < 4294967296 := setN_lt (n := 32) fun k hk => by have := h k hk; omega
end
theorem kids_ints {w : World} {base : Nat} {v : Value} {l : List Nat} (h : OwnI w base v (l.map fun k : Nat => (k : Int))) (hk : ∀ k ∈ l, k < 1000) (hl : l.length ≤ 1000) :
    ∃ A c, v = .slice A l.length c ∧ IntsAt w (.slice A l.length c) (l.map fun k : Nat => (k : Int)) := by
  have h1 := OwnN.of h
  obtain ⟨A, c, rfl⟩ := own_slice h1
  exact ⟨A, c, rfl, nat_ints h1 hk hl⟩
theorem ins_set (ps : List Int) (s i k : Nat) : setN (insL ps s i (k + 1)) = if (decide ((k : Int) ≠ i) && undB ps k i) = true then setN (insL ps s i k) ||| (s &&& 2 ^ k) else setN (insL ps s i k) := by
  have ha : s &&& 2 ^ k = if s.testBit k = true then 2 ^ k else 0 := by
    apply Nat.eq_of_testBit_eq
    intro j
    rw [Nat.testBit_and, Nat.testBit_two_pow]
    by_cases e : k = j
    · subst e
      cases s.testBit k <;> simp
    · rw [decide_eq_false e, Bool.and_false]
      split
      · rw [Nat.testBit_two_pow, decide_eq_false e]
      · rw [Nat.zero_testBit]
  rw [insL_succ, ha]
  generalize (decide ((k : Int) ≠ i) && undB ps k i) = q
  cases s.testBit k <;> cases q <;> simp [setN_snoc]
/-- the histories of states that are in -/
def histL (ks ps : List Int) (s k : Nat) : List Nat := (List.range k).filter fun i : Nat => decide (3 ≤ ks.getD i 0) && s.testBit (ps.getD i 0).toNat
theorem histL_succ (ks ps : List Int) (s k : Nat) : histL ks ps s (k + 1) = if (decide (3 ≤ ks.getD k 0) && s.testBit (ps.getD k 0).toNat) = true then histL ks ps s k ++ [k] else histL ks ps s k := by
  unfold histL
  rw [List.range_succ, List.filter_append, List.filter_cons, List.filter_nil]
  split
  · rfl
  · rw [List.append_nil]
theorem histL_len (ks ps : List Int) (s k : Nat) : (histL ks ps s k).length ≤ k := by
  have := List.length_filter_le (fun i : Nat => decide (3 ≤ ks.getD i 0) && s.testBit (ps.getD i 0).toNat) (List.range k)
  rw [List.length_range] at this
  exact this
theorem mem_histL {ks ps : List Int} {s k j : Nat} : j ∈ histL ks ps s k ↔ j < k ∧ 3 ≤ ks.getD j 0 ∧ s.testBit (ps.getD j 0).toNat = true := by
  unfold histL
  rw [List.mem_filter, List.mem_range, Bool.and_eq_true, decide_eq_true_eq]
/-- a list that a call answers, as it can be read -/
def ListTo (l : List Nat) (w : World) (e : Ending) (w' : World) : Prop := ∃ A c, e = .returned (.slice A l.length c) ∧ IntsAt w' (.slice A l.length c) (l.map fun k : Nat => (k : Int)) ∧ Below w.heap.size w w'
theorem KidsTo.list {l : List Nat} {w : World} {e : Ending} {w' : World} (h : KidsTo l w e w') (hk : ∀ k ∈ l, k < 1000) (hl : l.length ≤ 1000) : ListTo l w e w' := by
  obtain ⟨v, rfl, ho, hb⟩ := h
  obtain ⟨A, c, rfl, hi⟩ := kids_ints ho hk hl
  exact ⟨A, c, rfl, hi, hb⟩
section
variable {ks ps : List Int} {A B : Option Addr} {n c d : Nat}
theorem Leave_list (s : Nat) (t : Int) (w : World) (h : IntsAt w (.slice A n c) ks ∧ IntsAt w (.slice B n d) ps) (hf : ShF ks ps n) (h0 : 0 < n) (hn : n ≤ 24) (hs : s < 4294967296) :
    Calls Try.prog 22 #[.agg #[.slice A n c, .slice B n d], .int .u32 s, .int .i64 t] w (ListTo (leaveL ps n s t) w) :=
  (Leave_any s t w h hf h0 hn hs).mono fun _ _ hk => hk.list (fun k hm => by have := leave_lt hf k hm; omega) (by have := leave_len hf s t; omega)
theorem Enter_list (t : Nat) (dm : Int) (v : Value) (rs : List Nat) (w : World) (h : IntsAt w (.slice A n c) ks ∧ IntsAt w (.slice B n d) ps) (hf : ShF ks ps n) (hn : n ≤ 24) (hu : U32sAt w v rs) (hp : PastOk ks ps n (pfun rs))
    (ht : t < n) (htd : Und ps t dm) (hne : (t : Int) ≠ dm) :
    Calls Try.prog 20 #[.agg #[.slice A n c, .slice B n d], .int .i64 dm, .int .i64 t, v] w (ListTo (enterL ks ps n (pfun rs) dm t) w) :=
  (Enter_any t dm v rs w h hf hn hu hp ht htd hne).mono fun _ _ hk => hk.list (fun k hm => by have := (enter_in hf hp ht htd hne hm).1; omega) (by have := enter_len hf hp ht htd hne; omega)
theorem Start_list (w : World) (h : IntsAt w (.slice A n c) ks ∧ IntsAt w (.slice B n d) ps) (hf : ShF ks ps n) (h0 : 0 < n) (hn : n ≤ 24) :
    Calls Try.prog 10 #[.agg #[.slice A n c, .slice B n d]] w (ListTo (inS ks ps n (iniN ks ps n (-1))) w) := by
  have hik := iniN_kid hf.tp
  exact (Start_any w h hf h0 hn).mono fun _ _ hk => hk.list (fun k hm => by have := (inS_und hf hik.1 (kid_hl hik.2) hm).1; omega) (by have := inS_len hf hik.1 (kid_hl hik.2); omega)
end
end Go.Proofs.Ytaolebdcmdmnjaa
