/-
  The statements' helps: Same of integers, the document's example, bits.
-/
import Derived.Test.YtaolebdcmdmnjaaEn8
import Derived.Test.YtaolebdcmdmnjaaShW
namespace Go.Proofs.Ytaolebdcmdmnjaa
set_option maxRecDepth 100000
open Go.ChangeShapes Go.WideShapes Go.ChangeAt Go.RowKit

set_option maxHeartbeats 1000000 in
theorem same_ints (l : List Int) (A B : Option Addr) (ca cb : Nat) (w : World) (hl : l.length ≤ 1000) (h1 : IntsAt w (.slice A l.length ca) l) (h2 : IntsAt w (.slice B l.length cb) l) :
    Calls Try.prog 19 #[.slice A l.length ca, .slice B l.length cb] w fun e w' => e = .returned (.bool true) ∧ Below w.heap.size w w' := by
  have H1 := Lib.hid h1
  have H2 := Lib.hid h2
  clear h1 h2
  go_enter Try.func19, Try.ntmps19
  go_wp2
  go_loopw [5] (fun i wr => ∃ k : Nat, k ≤ l.length ∧ i = .int .i64 k ∧ ∃ n, wr = w.drewN n) (fun i _ => l.length - (intOf i).toNat)
  case atStart => exact ⟨0, Nat.zero_le _, rfl, 0, rfl⟩
  case round =>
    obtain ⟨k, hk, rfl, n, rfl⟩ := hrel
    by_cases hlt : k < l.length
    · have hki : (k : Int) < l.length := by omega
      obtain ⟨g, o, rfl, _, x1, _⟩ := ints_cell H1.out hlt
      obtain ⟨g', o', rfl, _, x2, _⟩ := ints_cell H2.out hlt
      generalize l.getD k 0 = X at *
      have hb1 : (X != X) = false := by simp
      go_wp2
      go_quiet (fail)
      go_wp2
      go_roundw
      case rel => exact ⟨k + 1, by omega, by go_num, _, rfl⟩
      case measure => simp [intOf]; omega
    · have hki : ¬ (k : Int) < l.length := by omega
      go_wp2
      go_ret
      exact ⟨rfl, below_drewN (Below.refl _ _) _⟩
theorem one_F : ShF [1] [-1] 1 := ShW.start.shF rfl (by decide)
theorem one_inS : inS [1] [-1] 1 (iniN [1] [-1] 1 (-1)) = [0] := by decide +kernel
set_option maxHeartbeats 1000000 in
theorem wakes07 (w : World) : Calls Try.prog 15 #[] w (TrueOn w) := by
  have h1 := one_ints w 1 (by decide +kernel)
  have h2 := one_ints (w.alloc (.cells #[.int .i64 1] 3)) (-1) (by decide +kernel)
  have hz : Below w.heap.size w ((w.alloc (.cells #[.int .i64 1] 3)).alloc (.cells #[.int .i64 (-1)] 3)) := ((Below.refl _ _).alloc (Nat.le_refl _) _).alloc (by simp) _
  have P1 := Start_any (A := some ⟨w.heap.size, 0, none⟩) (B := some ⟨(w.alloc (.cells #[.int .i64 1] 3)).heap.size, 0, none⟩) (c := 1) (d := 1) _ ⟨h1.below ((Below.refl _ _).alloc (Nat.le_refl _) _), h2⟩ one_F (by decide) (by decide)
  rw [one_inS, show (w.alloc (.cells #[.int .i64 1] 3)).heap.size = w.heap.size + 1 by simp] at P1
  have PR := Lib.hid P1
  have HZ := Lib.hid hz
  clear h1 h2 hz P1
  go_enter Try.func15, Try.ntmps15
  go_wp2_with (first
    | (go_at_call 10; refine PR.out.mono ?_; rintro e w1 ⟨v1, rfl, hO, hb⟩; have HB := Lib.hid (below_then HZ.out hb HZ.out.size); have hI : IntsAt w1 v1 [0] := (by obtain ⟨A9, c9, rfl⟩ := own_slice hO; exact nat_ints (l := [0]) (OwnN.of hO) (by simp) (by simp)); obtain ⟨A9, c9, rfl⟩ := ints_form hI; have hJ := one_ints w1 0 (by decide +kernel); have SM := Lib.hid (same_ints [0] A9 (some ⟨w1.heap.size, 0, none⟩) c9 1 _ (by simp) (hI.below ((Below.refl _ _).alloc (Nat.le_refl _) _)) hJ); clear hO hb hI hJ)
    | (go_at_call 19; refine SM.out.mono ?_; rintro e w3 ⟨rfl, hb3⟩))
  go_ret
  exact ⟨rfl, below_then (HB.out.alloc HB.out.size _) hb3 (by have := HB.out.size; simp; omega)⟩
set_option maxHeartbeats 1000000 in
theorem bits_any (l : List Nat) (A : Option Addr) (cap : Nat) (w : World) (h : IntsAt w (.slice A l.length cap) (l.map fun k : Nat => (k : Int))) (hl : ∀ k ∈ l, k < 32) :
    Calls Try.prog 11 #[.slice A l.length cap] w fun e w' => e = .returned (.int .u32 (setN l : Nat)) ∧ w = w' := by
  have HH := Lib.hid h
  have HL := Lib.hid hl
  have hll : l.length ≤ maxLen := by obtain ⟨_, _, _, hl, _⟩ := h; rwa [List.length_map] at hl
  unfold maxLen at hll
  clear h hl
  go_enter Try.func11, Try.ntmps11
  go_wp2
  go_loopw [3, 8] (fun x i wr => ∃ k : Nat, k ≤ l.length ∧ i = .int .i64 k ∧ x = .int .u32 (setN (l.take k) : Nat) ∧ wr = w) (fun _ i _ => l.length - (intOf i).toNat)
  case atStart => exact ⟨0, Nat.zero_le _, rfl, rfl, rfl⟩
  case round =>
    obtain ⟨k, hk, rfl, rfl, rfl⟩ := hrel
    by_cases hlt : k < l.length
    · have hki : (k : Int) < l.length := by omega
      obtain ⟨b, off, rfl, hb, hx⟩ := nat_cell HH.out hlt
      have hj := HL.out _ (List.getElem_mem hlt)
      have h1 : setN (l.take (k + 1)) = setN (l.take k) ||| 2 ^ l[k] := by
        rw [List.take_succ_eq_append_getElem hlt, setN_snoc]
      have hS : setN (l.take k) < 4294967296 := setN_lt (n := 32) fun j hj => HL.out j (List.mem_of_mem_take hj)
      have h2 := two_lt (k := l[k]) hj
      have hor := u32_or_nat (setN (l.take k)) (2 ^ l[k]) hS h2
      have hsh := two_val (i := l[k]) hj
      have HE := Lib.hid h1
      clear h1
      generalize 2 ^ l[k] = p at *
      generalize l[k] = j at *
      generalize setN (l.take k) = s0 at *
      have hj32 : (j : Int) < 32 := by omega
      go_wp2
      go_roundw
      case rel => exact ⟨k + 1, by omega, by go_num, by rw [HE.out], trivial⟩
      case measure => simp [intOf]; omega
    · have e : k = l.length := by omega
      subst e
      rw [List.take_length]
      go_wp2
      go_ret
      exact ⟨rfl, rfl⟩
theorem bit01 (s k : Nat) (hs : s < 4294967296) (_ : k < 32) : bits .and .u32 ((s : Int) / 2 ^ k) 1 = if s.testBit k = true then 1 else 0 := by
  have e : (s : Int) / 2 ^ k = ((s / 2 ^ k : Nat) : Int) := by norm_cast
  have hlt : s / 2 ^ k < 4294967296 := Nat.lt_of_le_of_lt (Nat.div_le_self _ _) hs
  have ha := u32_and_nat (s / 2 ^ k) 1 hlt (by omega)
  rw [Nat.and_one_is_mod] at ha
  have ha : bits .and .u32 ((s / 2 ^ k : Nat) : Int) 1 = (((s / 2 ^ k) % 2 : Nat) : Int) := by simpa using ha
  rw [e, ha, cnt_bit]
  cases s.testBit k <;> rfl
section
variable {ks ps : List Int} {n : Nat}
/-- a state that has any has such as may be in -/
theorem kids_open (h : ShF ks ps n) {a : Int} (hz : 0 < (kidsTo ps a n).length) : ∃ j, j < n ∧ isKid ks ps a j = true := by
  obtain ⟨k, hk⟩ := List.exists_mem_of_length_pos hz
  obtain ⟨hkn, e⟩ := mem_kidsTo.1 hk
  cases hh : hl ks k
  · obtain ⟨q, e2, _, j, hj, hkj⟩ := h.hi k hkn hh
    have : a = q := by omega
    rw [this]; exact ⟨j, hj, hkj⟩
  · refine ⟨k, hkn, ?_⟩
    unfold isKid
    rw [e, hh]; simp
theorem start_prop (h : ShF ks ps n) (hn : n ≤ 32) : prop ks ps (setN (inS ks ps n (iniN ks ps n (-1)))) = true := by
  have hik := iniN_kid h.tp
  have hm : ∀ k ∈ inS ks ps n (iniN ks ps n (-1)), k < n := fun k hk => (inS_und h hik.1 (kid_hl hik.2) hk).1
  rw [prop_conf h hn]
  refine ⟨setN_lt hm, (start_conf h).congr fun k => ?_⟩
  rw [setN_bit, decide_eq_true_eq]
  exact ⟨fun hk => ⟨hm k hk, hk⟩, fun hk => hk.2⟩
end
end Go.Proofs.Ytaolebdcmdmnjaa
