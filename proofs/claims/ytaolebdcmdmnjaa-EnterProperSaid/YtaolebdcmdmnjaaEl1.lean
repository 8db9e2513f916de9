/-
  The document's Under; lists of numbers of 32 bits of the call's own; what a part of a configuration is as a number.
-/
import Derived.Test.YtaolebdcmdmnjaaEl0
import Derived.Test.YtaolebdcmdmnjaaCfg2
namespace Go.Proofs.Ytaolebdcmdmnjaa
set_option maxRecDepth 100000
open Go.ChangeShapes Go.WideShapes Go.ChangeAt Go.RowKit

section
variable {ks ps : List Int} {A B : Option Addr} {n c d : Nat}
theorem RIn_any (k : Nat) (w : World) (hk : k < n) :
    Calls Try.prog 53 #[.agg #[.slice A n c, .slice B n d], .int .i64 k] w fun e w' => e = .returned (.bool true) ∧ Below w.heap.size w w' := by
  have x0 := box_0 w 25 (.slice A n c) (.slice B n d)
  have x1 := box_1 w 25 (.slice A n c) (.slice B n d)
  have HZ := Lib.hid (box_b w (.cells #[.slice A n c, .slice B n d] 25))
  have hki : (k : Int) < n := by omega
  go_enter Try.func53, Try.ntmps53
  go_wp2
  go_ret
  exact ⟨rfl, HZ.out⟩
set_option maxHeartbeats 1000000 in
theorem RUnder_any (k : Nat) (t : Int) (w : World) (h : IntsAt w (.slice A n c) ks ∧ IntsAt w (.slice B n d) ps) (hf : ShF ks ps n) (hk : k < n) (ht : -1 ≤ t ∧ t < n) :
    Calls Try.prog 48 #[.agg #[.slice A n c, .slice B n d], .int .i64 k, .int .i64 t] w fun e w' => e = .returned (.bool (undB ps k t)) ∧ Below w.heap.size w w' := by
  have x0 := box_0 w 25 (.slice A n c) (.slice B n d)
  have x1 := box_1 w 25 (.slice A n c) (.slice B n d)
  have hz := box_b w (.cells #[.slice A n c, .slice B n d] 25)
  have hlt : w.heap.size < (w.alloc (.cells #[.slice A n c, .slice B n d] 25)).heap.size := by simp
  have S1 := Lib.hid (shp_below h hz)
  have HZ := Lib.hid hz
  have HF := Lib.hid hf
  have ht1 : ¬ t < -1 := by omega
  have ht2 : ¬ (n : Int) ≤ t := by omega
  clear h hz hf
  go_enter Try.func48, Try.ntmps48
  go_upto_region 1 with (fail)
  generalize w.alloc (.cells #[.slice A n c, .slice B n d] 25) = w0 at *
  have TH := Lib.hid (fun W => RIn_any (A := A) (B := B) (c := c) (d := d) k W hk)
  have PA := Lib.hid (fun W (hW : Below w0.heap.size w0 W) (q : Nat) (hq : q < n) => ints_cell (shp_below S1.out hW).2 (k := q) (by rw [HF.out.pl]; exact hq))
  go_wp2_with (go_at_call 53; refine (TH.out _).mono ?_; rintro e w1 ⟨rfl, hb1⟩; have y0 := (hb1.cell (p := ⟨w.heap.size, 0, none⟩) hlt).trans x0; have y1 := (hb1.cell (p := ⟨w.heap.size, 1, none⟩) hlt).trans x1)
  have HB1 := Lib.hid hb1
  clear hb1
  go_loopw [1] (fun i wr => ∃ a : Int, i = .int .i64 a ∧ Hid (-1 ≤ a ∧ a < n ∧ upB ps a t = undB ps k t) ∧ Hid (Below w0.heap.size w0 wr)) (fun i _ => (intOf i + 1).toNat)
  case atStart => exact ⟨k, rfl, ⟨by omega, by omega, by unfold upB; rw [if_pos (by omega), Int.toNat_natCast]⟩, HB1.out⟩
  case round =>
    obtain ⟨a, rfl, HA, HB⟩ := hrel
    have z0 := (HB.out.cell (p := ⟨w.heap.size, 0, none⟩) hlt).trans x0
    have z1 := (HB.out.cell (p := ⟨w.heap.size, 1, none⟩) hlt).trans x1
    by_cases h0 : 0 ≤ a
    · by_cases hat : a = t
      · have HE : Hid (undB ps k t = true) := by show _ = _; rw [← HA.out.2.2, upB_end HA.out.1 (.inr hat), decide_eq_true hat]
        have g1 : (a != t) = false := by simp [hat]
        have g2 : (a == t) = true := by simp [hat]
        clear HA
        go_wp2
        go_ret
        exact ⟨ret_bool HE.out.symm, below_then HZ.out HB.out HZ.out.size⟩
      · obtain ⟨q, rfl⟩ : ∃ q : Nat, a = q := ⟨a.toNat, by omega⟩
        have hq : q < n := by have := HA.out.2.1; omega
        have hqi : (q : Int) < n := by omega
        obtain ⟨b, off, hBe, hb, hx, _⟩ := PA.out _ HB.out q hq
        subst hBe
        have hpq := HF.out.pa q hq
        have HS : Hid (upB ps (ps.getD q 0) t = undB ps k t) := by
          show _ = _
          rw [upB_step HF.out hq hat, ← HA.out.2.2]
          unfold upB; rw [if_pos h0, Int.toNat_natCast]
        have HP := Lib.hid hpq
        have g1 : ((q : Int) != t) = true := by simpa using hat
        clear HA hpq
        generalize ps.getD q 0 = p at *
        go_wp2
        go_roundw
        case rel => exact ⟨p, rfl, ⟨HP.out.1, by have := HP.out.2; omega, HS.out⟩, HB.out⟩
        case measure => have := HP.out; simp [intOf]; omega
    · have HE : Hid (undB ps k t = (a == t)) := by
        show _ = _
        rw [← HA.out.2.2, upB_end HA.out.1 (.inl (by omega))]
        rfl
      clear HA
      generalize hg : (a == t) = g at *
      have HG := Lib.hid hg
      clear hg
      go_wp2
      go_ret
      exact ⟨ret_bool (by rw [HE.out, HG.out]), below_then HZ.out HB.out HZ.out.size⟩
end
theorem Try.infoU5 : (Try.prog.info? 29).map (fun i => (i.zero, i.size, i.bytes)) = some (some (.int .u32 0), 1, 4) := by kernel_rfl
def ucl (l : List Nat) : List Value := l.map fun s : Nat => Value.int .u32 (s : Int)
theorem ucl_len (l : List Nat) : (ucl l).length = l.length := List.length_map ..
theorem ucl_at (l : List Nat) (j : Nat) (hj : j < l.length) : (ucl l)[j]? = some (.int .u32 (l[j] : Nat)) := by simp [ucl, hj]
theorem ucl_one (l : List Nat) : ∀ u ∈ ucl l, u.oneCell' = true := by
  intro u hu
  simp only [ucl, List.mem_map] at hu
  obtain ⟨p, _, rfl⟩ := hu
  rfl
/-- a list of numbers of 32 bits in memory of the call's own -/
def OwnU (w : World) (base : Nat) (v : Value) (l : List Nat) : Prop := w.ownsRow base 29 1 v l.length (ucl l)
theorem OwnU.nil (w : World) (base : Nat) : OwnU w base (.slice none 0 0) [] := World.ownsRow_nil _ _ _ _
theorem OwnU.snoc {w : World} {base : Nat} {v : Value} {l : List Nat} {k : Nat} (h : w.ownsRow base 29 1 v (l.length + 1) (ucl l ++ [.int .u32 (k : Int)])) : OwnU w base v (l ++ [k]) := by
  unfold OwnU
  rw [List.length_append]
  have : ucl (l ++ [k]) = ucl l ++ [.int .u32 (k : Int)] := by simp [ucl]
  rw [this]; exact h
theorem OwnU.at {w : World} {base : Nat} {v : Value} {l : List Nat} (h : OwnU w base v l) (hk : ∀ k ∈ l, k < 4294967296) (hl : l.length ≤ 1000) : U32sAt w v l := by
  obtain ⟨A, c, rfl⟩ := own_slice h
  refine ⟨A, c, rfl, by unfold maxLen; omega, fun j hj => ?_⟩
  obtain ⟨g, cap, e, _, hg, _, hc⟩ := own_form h (by omega)
  injection e with e1 _ _
  exact ⟨g, 0, e1, hg, by rw [Nat.zero_add]; exact hc j _ (ucl_at l j hj), hk _ (List.getElem_mem hj)⟩
theorem RowsAt2.below {w w' : World} {v : Value} {Z : List (List Int)} (h : RowsAt2 w v Z) (hb : Below w.heap.size w w') : RowsAt2 w' v Z := by
  obtain ⟨A, c, e, hl, hc⟩ := h
  refine ⟨A, c, e, hl, fun k hk => ?_⟩
  obtain ⟨b, off, u, e2, hlt, hx, hi⟩ := hc k hk
  exact ⟨b, off, u, e2, Nat.lt_of_lt_of_le hlt hb.size, (hb.cell (p := ⟨b, off + k, none⟩) hlt).trans hx, hi.below hb⟩
/-- what a configuration has below a state that it has -/
def partN (ps : List Int) (c i : Nat) : Nat → Nat
  | 0 => 0
  | k + 1 => if (decide ((k : Int) ≠ i) && undB ps k i && c.testBit i) = true then partN ps c i k ||| (c &&& 2 ^ k) else partN ps c i k
theorem partN_bit (ps : List Int) (c i j : Nat) : ∀ k, (partN ps c i k).testBit j = (decide (j < k) && (c.testBit i && (c.testBit j && (decide (j ≠ i) && undB ps j i))))
  | 0 => by simp [partN]
  | k + 1 => by
    have ih := partN_bit ps c i j k
    unfold partN
    by_cases e : j = k
    · subst e
      have e1 : decide (j < j + 1) = true := by simp
      have e2 : decide (j < j) = false := by simp
      have e3 : decide ((j : Int) ≠ i) = decide (j ≠ i) := by rw [Bool.eq_iff_iff, decide_eq_true_eq, decide_eq_true_eq]; omega
      rw [e2, Bool.false_and] at ih
      rw [e1, Bool.true_and, e3]
      split
      · rename_i h
        rw [Bool.and_eq_true, Bool.and_eq_true] at h
        rw [Nat.testBit_or, ih, Nat.testBit_and, Nat.testBit_two_pow_self, h.1.1, h.1.2, h.2]
        simp
      · rename_i h
        rw [ih]
        have h := Bool.eq_false_iff.2 h
        generalize decide (j ≠ i) = a at *
        generalize undB ps j i = b at *
        generalize c.testBit i = x at *
        cases a <;> cases b <;> cases x <;> simp_all
    · have e2 : decide (j < k + 1) = decide (j < k) := by rw [Bool.eq_iff_iff, decide_eq_true_eq, decide_eq_true_eq]; omega
      rw [e2, ← ih]
      split
      · rw [Nat.testBit_or, Nat.testBit_and, Nat.testBit_two_pow]
        have : decide (k = j) = false := decide_eq_false (by omega)
        rw [this, Bool.and_false, Bool.or_false]
      · rfl
theorem partN_lt {ps : List Int} {c i n : Nat} (hc : c < 2 ^ n) (k : Nat) : partN ps c i k < 2 ^ n := by
  apply Nat.lt_pow_two_of_testBit
  intro j hj
  rw [partN_bit, Nat.testBit_lt_two_pow (Nat.lt_of_lt_of_le hc (Nat.pow_le_pow_right (by omega) hj))]
  simp
/-- parts of configurations -/
def PartOf (ks ps : List Int) (n : Nat) (rs : List Nat) : Prop := rs.length ≤ n ∧ (∀ x ∈ rs, x < 2 ^ n) ∧ ∀ q, q < n → (∀ k, k < n → (rs.getD q 0).testBit k = false) ∨ ∃ c, prop ks ps c = true ∧ ∀ k, k < n → (rs.getD q 0).testBit k = (c.testBit q && (c.testBit k && (decide (k ≠ q) && undB ps k q)))
theorem PartOf.past {ks ps : List Int} {n : Nat} {rs : List Nat} (h : PartOf ks ps n rs) (hf : ShF ks ps n) (hn : n ≤ 32) : PastOk ks ps n (pfun rs) := PastOk.of hf hn h.2.2
theorem getD_snoc2 (rs : List Nat) (x q : Nat) : (rs ++ [x]).getD q 0 = if q < rs.length then rs.getD q 0 else if q = rs.length then x else 0 := by
  simp only [List.getD_eq_getElem?_getD, List.getElem?_append]
  split
  · rfl
  · rename_i h
    by_cases e : q = rs.length
    · subst e; simp
    · rw [if_neg e, List.getElem?_eq_none (by simp; omega)]; rfl
theorem PartOf.nil (ks ps : List Int) (n : Nat) : PartOf ks ps n [] := ⟨Nat.zero_le _, (fun x h => nomatch h), fun q _ => .inl fun k _ => by simp⟩
theorem PartOf.snoc {ks ps : List Int} {n : Nat} {rs : List Nat} (h : PartOf ks ps n rs) (hl : rs.length < n) {x : Nat} (hx : x < 2 ^ n)
    (hp : (∀ k, k < n → x.testBit k = false) ∨ ∃ c, prop ks ps c = true ∧ ∀ k, k < n → x.testBit k = (c.testBit rs.length && (c.testBit k && (decide (k ≠ rs.length) && undB ps k rs.length)))) : PartOf ks ps n (rs ++ [x]) := by
  refine ⟨by rw [List.length_append, List.length_singleton]; omega, fun y hy => ?_, fun q hq => ?_⟩
  · rw [List.mem_append, List.mem_singleton] at hy
    rcases hy with hy | rfl
    · exact h.2.1 y hy
    · exact hx
  · rw [getD_snoc2]
    by_cases h1 : q < rs.length
    · rw [if_pos h1]; exact h.2.2 q hq
    · rw [if_neg h1]
      by_cases e : q = rs.length
      · subst e; rw [if_pos rfl]; exact hp
      · rw [if_neg e]; exact .inl fun k _ => Nat.zero_testBit k
end Go.Proofs.Ytaolebdcmdmnjaa
