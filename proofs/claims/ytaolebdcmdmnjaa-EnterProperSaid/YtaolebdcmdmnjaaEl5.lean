/-
  The statements' count; what is left of a set.
-/
import Derived.Test.YtaolebdcmdmnjaaEl4
import Derived.Laws.BitsAllLaws
namespace Go.Proofs.Ytaolebdcmdmnjaa
set_option maxRecDepth 100000
open Go.ChangeShapes Go.WideShapes Go.ChangeAt Go.RowKit

theorem low_bit : ∀ (f s : Nat), s ≤ f → 0 < s → ∃ m, s.testBit m = true ∧ ∀ j, (s &&& (s - 1)).testBit j = (s.testBit j && decide (j ≠ m))
  | 0, s, h, h0 => by omega
  | f + 1, s, h, h0 => by
    by_cases ho : s % 2 = 1
    · refine ⟨0, by rw [Nat.testBit_zero]; exact decide_eq_true ho, fun j => ?_⟩
      rw [Nat.testBit_and]
      cases j with
      | zero =>
        rw [Nat.testBit_zero (s - 1), decide_eq_false (show ¬ (s - 1) % 2 = 1 by omega)]
        simp
      | succ j =>
        rw [Nat.testBit_succ, Nat.testBit_succ, show (s - 1) / 2 = s / 2 by omega]
        simp
    · obtain ⟨m, h1, h2⟩ := low_bit f (s / 2) (by omega) (by omega)
      refine ⟨m + 1, by rw [Nat.testBit_succ]; exact h1, fun j => ?_⟩
      rw [Nat.testBit_and]
      cases j with
      | zero =>
        rw [Nat.testBit_zero, decide_eq_false ho]
        simp
      | succ j =>
        have h3 := h2 j
        rw [Nat.testBit_and] at h3
        rw [Nat.testBit_succ, Nat.testBit_succ, show (s - 1) / 2 = s / 2 - 1 by omega, h3]
        congr 1
        rw [Bool.eq_iff_iff, decide_eq_true_eq, decide_eq_true_eq]
        omega
theorem set_low {l : List Nat} (hn : l.Nodup) (h0 : 0 < setN l) : ∃ m, m ∈ l ∧ setN l &&& (setN l - 1) = setN (l.erase m) := by
  obtain ⟨m, h1, h2⟩ := low_bit (setN l) (setN l) (Nat.le_refl _) h0
  rw [setN_bit, decide_eq_true_eq] at h1
  refine ⟨m, h1, ?_⟩
  apply Nat.eq_of_testBit_eq
  intro j
  rw [h2, setN_bit, setN_bit, Bool.eq_iff_iff, Bool.and_eq_true, decide_eq_true_eq, decide_eq_true_eq, decide_eq_true_eq, hn.mem_erase_iff]
  exact ⟨fun h => ⟨h.2, h.1⟩, fun h => ⟨h.2, h.1⟩⟩
theorem setN_zero {l : List Nat} (h : setN l = 0) : l = [] := by
  cases l with
  | nil => rfl
  | cons a r =>
    have := setN_bit a (a :: r)
    rw [h, Nat.zero_testBit, decide_eq_true List.mem_cons_self] at this
    cases this
set_option maxHeartbeats 1000000 in
theorem count_any (L : List Nat) (w : World) (hn : L.Nodup) (hl : ∀ k ∈ L, k < 32) (hll : L.length ≤ 1000) :
    Calls Try.prog 32 #[.int .u32 (setN L : Nat)] w fun e w' => e = .returned (.int .i64 L.length) ∧ w = w' := by
  have HN := Lib.hid hn
  have HL := Lib.hid hl
  clear hn hl
  go_enter Try.func32, Try.ntmps32
  go_wp2
  go_loopw [0, 3] (fun x i wr => ∃ l : List Nat, l.length ≤ L.length ∧ x = .int .u32 (setN l : Nat) ∧ i = .int .i64 ((L.length - l.length : Nat) : Int) ∧ Hid (l.Nodup ∧ ∀ k ∈ l, k < 32) ∧ wr = w) (fun x _ _ => (intOf x).toNat)
  case atStart => exact ⟨L, Nat.le_refl _, rfl, by rw [Nat.sub_self]; rfl, ⟨HN.out, HL.out⟩, rfl⟩
  case round =>
    obtain ⟨l, hle, rfl, rfl, HH, rfl⟩ := hrel
    by_cases h0 : 0 < setN l
    · have h0i : (0 : Int) < (setN l : Nat) := by omega
      have h32 : setN l < 4294967296 := setN_lt (n := 32) HH.out.2
      obtain ⟨m, hm, he⟩ := set_low HH.out.1 h0
      have hand := u32_and_nat (setN l) (setN l - 1) h32 (by omega)
      have hle2 : setN l &&& (setN l - 1) ≤ setN l - 1 := Nat.and_le_right
      have hsub : IntKind.u32.wrap (((setN l : Nat) : Int) - 1) = ((setN l - 1 : Nat) : Int) := by
        have e : (((setN l : Nat) : Int) - 1) = ((setN l - 1 : Nat) : Int) := by omega
        rw [e, IntKind.wrap_u32]; omega
      have hel : (l.erase m).length = l.length - 1 := List.length_erase_of_mem hm
      have hlp := List.length_pos_of_mem hm
      have HE := Lib.hid he
      have HNE : Hid ((l.erase m).Nodup ∧ ∀ k ∈ l.erase m, k < 32) := ⟨HH.out.1.erase m, fun k hk => HH.out.2 k (List.mem_of_mem_erase hk)⟩
      have HEL := Lib.hid hel
      clear he hel hm
      generalize hs1 : setN l - 1 = s1 at *
      generalize hs2 : setN l &&& s1 = s2 at *
      go_wp2
      go_roundw
      case rel => exact ⟨l.erase m, by rw [HEL.out]; omega, by rw [HE.out], by rw [HEL.out]; go_num, HNE, trivial⟩
      case measure => simp [intOf]; omega
    · have h0i : ¬ (0 : Int) < (setN l : Nat) := by omega
      have he := setN_zero (l := l) (by omega)
      have hz : (l.length : Nat) = 0 := by rw [he]; rfl
      have HZ := Lib.hid hz
      clear he hz
      go_wp2
      go_ret
      exact ⟨ret_int (by rw [HZ.out, Nat.sub_zero]), rfl⟩
/-- what is in one set and not in another -/
def adn (a b : Nat) : Nat := a &&& (4294967295 - b)
theorem adn_bit {a b : Nat} (ha : a < 4294967296) (hb : b < 4294967296) (j : Nat) : (adn a b).testBit j = (a.testBit j && !b.testBit j) := by
  unfold adn
  rw [Nat.testBit_and, show 4294967295 - b = 2 ^ 32 - (b + 1) by omega, Nat.testBit_two_pow_sub_succ (show b < 2 ^ 32 from hb)]
  by_cases hj : j < 32
  · rw [decide_eq_true hj, Bool.true_and]
  · rw [Nat.testBit_lt_two_pow (Nat.lt_of_lt_of_le ha (Nat.pow_le_pow_right (n := 2) (by omega) (show 32 ≤ j by omega)))]; simp
theorem adn_lt {a b : Nat} (ha : a < 4294967296) : adn a b < 4294967296 := Nat.lt_of_le_of_lt Nat.and_le_left ha
theorem adn_u32 {a b : Nat} (ha : a < 4294967296) (hb : b < 4294967296) : bits .andNot .u32 (a : Int) (b : Int) = ((adn a b : Nat) : Int) := u32_andNot_nat a b ha hb
/-- the same, with what a slice may be cut to -/
def ListToC (l : List Nat) (w : World) (e : Ending) (w' : World) : Prop := ∃ A c, e = .returned (.slice A l.length c) ∧ l.length ≤ c ∧ IntsAt w' (.slice A l.length c) (l.map fun k : Nat => (k : Int)) ∧ Below w.heap.size w w'
theorem KidsTo.listC {l : List Nat} {w : World} {e : Ending} {w' : World} (h : KidsTo l w e w') (hk : ∀ k ∈ l, k < 1000) (hl : l.length ≤ 1000) : ListToC l w e w' := by
  obtain ⟨v, rfl, ho, hb⟩ := h
  have h1 := OwnN.of ho
  obtain ⟨A, c, rfl⟩ := own_slice h1
  exact ⟨A, c, rfl, own_cap h1, nat_ints h1 hk hl, hb⟩
theorem Enter_listC {ks ps : List Int} {A B : Option Addr} {n c d : Nat} (t : Nat) (dm : Int) (v : Value) (rs : List Nat) (w : World) (h : IntsAt w (.slice A n c) ks ∧ IntsAt w (.slice B n d) ps) (hf : ShF ks ps n) (hn : n ≤ 24) (hu : U32sAt w v rs) (hp : PastOk ks ps n (pfun rs))
    (ht : t < n) (htd : Und ps t dm) (hne : (t : Int) ≠ dm) :
    Calls Try.prog 20 #[.agg #[.slice A n c, .slice B n d], .int .i64 dm, .int .i64 t, v] w (ListToC (enterL ks ps n (pfun rs) dm t) w) :=
  (Enter_any t dm v rs w h hf hn hu hp ht htd hne).mono fun _ _ hk => hk.listC (fun k hm => by have := (enter_in hf hp ht htd hne hm).1; omega) (by have := enter_len hf hp ht htd hne; omega)
end Go.Proofs.Ytaolebdcmdmnjaa
