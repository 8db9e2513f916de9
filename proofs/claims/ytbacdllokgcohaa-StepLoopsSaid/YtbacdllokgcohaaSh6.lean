/-
  Ways up, a step at a time: plain, no program in it.
-/
import Derived.Test.YtbacdllokgcohaaEnt6
import Derived.Test.YtbacdllokgcohaaOwnSome
import Derived.Test.YtbacdllokgcohaaSh1b
import Derived.Test.YtbacdllokgcohaaCA
import Derived.Test.YtbacdllokgcohaaSh2
namespace Go.Proofs.Ytbacdllokgcohaa
set_option maxRecDepth 100000

section
variable {ks ps : List Int} {n : Nat}
/-- what is known of a way up that has come to a place -/
def upB (ps : List Int) (a t : Int) : Bool := if 0 ≤ a then undB ps a.toNat t else decide (t = -1)
theorem undB_self (ps : List Int) (k : Nat) : undB ps k k = true := by unfold undB; cases k <;> simp [undF]
theorem undB_top (ps : List Int) (k : Nat) : undB ps k (-1) = true := by unfold undB; cases k <;> simp [undF]
theorem und_bd {k : Nat} {t : Int} (hu : Und ps k t) : -1 ≤ t := by
  induction hu with
  | self k => omega
  | top k => omega
  | up k q a e _ ih => exact ih
theorem upB_step (h : ShF ks ps n) {k : Nat} (hk : k < n) {t : Int} (hne : (k : Int) ≠ t) : upB ps (ps.getD k 0) t = undB ps k t := by
  unfold upB
  have hp := h.pa k hk
  split
  · rename_i h0
    have hq : (ps.getD k 0).toNat < n := by omega
    rw [Bool.eq_iff_iff, undB_iff h hq, undB_iff h hk]
    constructor
    · intro hu
      exact .up k _ t (by omega) hu
    · intro hu
      by_cases ht : t = -1
      · subst ht; exact .top _
      · have := und_bd hu
        obtain ⟨q, e, hq⟩ := und_step hu hne (by omega)
        rw [e, Int.toNat_natCast]; exact hq
  · rename_i h0
    rw [Bool.eq_iff_iff, undB_iff h hk, decide_eq_true_eq]
    constructor
    · intro e; subst e; exact .top k
    · intro hu
      cases hu with
      | self => exact absurd rfl hne
      | top => rfl
      | up _ q _ e _ => omega
theorem upB_end {a t : Int} (ha : -1 ≤ a) (h : a < 0 ∨ a = t) : upB ps a t = decide (a = t) := by
  unfold upB
  by_cases h0 : 0 ≤ a
  · have e : a = t := by omega
    rw [if_pos h0, decide_eq_true e]
    have : undB ps a.toNat a = true := by
      have := undB_self ps a.toNat
      rwa [Int.toNat_of_nonneg h0] at this
    rw [← e]; exact this
  · have e : a = -1 := by omega
    subst e
    rw [if_neg (by omega), Bool.eq_iff_iff, decide_eq_true_eq, decide_eq_true_eq]
    omega
/-- the domain, looked for from a place on -/
def domU (ks ps : List Int) (t : Nat) (a : Int) : Int := if 0 ≤ a then (if ks.getD a.toNat 0 = 1 ∧ a.toNat ≠ t ∧ undB ps t a = true then a else domF ks ps t a.toNat a.toNat) else -1
theorem domF_stab (h : ShF ks ps n) (t : Nat) : ∀ f f' k : Nat, k ≤ f → k ≤ f' → k < n → domF ks ps t f k = domF ks ps t f' k
  | 0, 0, k, _, _, _ => rfl
  | 0, f' + 1, k, h1, _, hk => by
    have := h.pa k hk
    have hz : k = 0 := by omega
    subst hz
    unfold domF
    rw [if_pos (by omega)]
  | f + 1, 0, k, _, h1, hk => by
    have := h.pa k hk
    have hz : k = 0 := by omega
    subst hz
    unfold domF
    rw [if_pos (by omega)]
  | f + 1, f' + 1, k, h1, h2, hk => by
    have := h.pa k hk
    unfold domF
    split
    · rfl
    · split
      · rfl
      · exact domF_stab h t f f' _ (by omega) (by omega) (by omega)
theorem domU_step (h : ShF ks ps n) (t : Nat) {k : Nat} (hk : k < n) {f : Nat} (hf : k ≤ f) : domU ks ps t (ps.getD k 0) = domF ks ps t f k := by
  have hp := h.pa k hk
  rw [domF_stab h t f (k + 1) k hf (by omega) hk]
  unfold domU
  rw [domF]
  by_cases h0 : ps.getD k 0 < 0
  · rw [if_neg (by omega), if_pos h0]
  · rw [if_pos (by omega), if_neg h0]
    split
    · rfl
    · exact domF_stab h t _ _ _ (Nat.le_refl _) (by omega) (by omega)
theorem domU_dom (h : ShF ks ps n) (t : Nat) {k : Nat} (hk : k < n) : domU ks ps t (ps.getD k 0) = domL ks ps n k t := domU_step h t hk (by omega)
theorem domU_hit {t : Nat} {a : Int} (h0 : 0 ≤ a) (hc : ks.getD a.toNat 0 = 1 ∧ a.toNat ≠ t ∧ undB ps t a = true) : domU ks ps t a = a := by
  unfold domU; rw [if_pos h0, if_pos hc]
theorem domU_miss (h : ShF ks ps n) {t : Nat} {k : Nat} (hk : k < n) (hc : ¬ (ks.getD k 0 = 1 ∧ k ≠ t ∧ undB ps t k = true)) : domU ks ps t (ps.getD k 0) = domU ks ps t k := by
  rw [domU_step h t hk (Nat.le_refl k)]
  conv => rhs; unfold domU
  rw [if_pos (by omega), Int.toNat_natCast, if_neg hc]
/-- what the statements make is well -/
theorem ShF.val (h : ShF ks ps n) (h0 : 0 < n) (hn : n ≤ 24) : valB ks ps = true := by
  have hsz : szN ks ps = n := by unfold szN; rw [h.kl, h.pl]; omega
  unfold valB
  rw [h.kl, h.pl, Bool.and_eq_true, Bool.and_eq_true, Bool.and_eq_true, Bool.and_eq_true]
  refine ⟨⟨⟨⟨by simp, decide_eq_true (by omega)⟩, decide_eq_true hn⟩, ?_⟩, ?_⟩
  · rw [List.all_eq_true]
    intro k hk
    have hk := List.mem_range.1 hk
    have h1 := h.kd k hk
    have h2 := h.pa k hk
    unfold fitS
    have e1 : decide (ks.getD k 0 < 1) = false := decide_eq_false (by omega)
    have e2 : decide (4 < ks.getD k 0) = false := decide_eq_false (by omega)
    have e3 : decide (ps.getD k 0 < -1) = false := decide_eq_false (by omega)
    have e4 : decide ((k : Int) ≤ ps.getD k 0) = false := decide_eq_false (by omega)
    rw [e1, e2, e3, e4]
    cases hh : hl ks k
    · obtain ⟨q, e, hq, _⟩ := h.hi k hk hh
      rw [e, Int.toNat_natCast, hq]; simp
    · by_cases h0 : ps.getD k 0 < 0
      · rw [decide_eq_true h0]; simp
      · have := h.up k (ps.getD k 0).toNat hk (by omega)
        rw [this]; simp
  · rw [List.all_eq_true]
    intro i hi
    have hi := List.mem_range.1 hi
    unfold iniB
    rw [hsz, Bool.not_eq_true', Bool.and_eq_false_iff]
    by_cases hz : 0 < (kidsTo ps ((i : Int) - 1) n).length
    · right
      obtain ⟨k, hk⟩ := List.exists_mem_of_length_pos hz
      obtain ⟨hkn, e⟩ := mem_kidsTo.1 hk
      have hex : ∃ j, j < n ∧ isKid ks ps ((i : Int) - 1) j = true := by
        cases hh : hl ks k
        · obtain ⟨q, e2, _, j, hj, hkj⟩ := h.hi k hkn hh
          have : (i : Int) - 1 = q := by omega
          rw [this]; exact ⟨j, hj, hkj⟩
        · refine ⟨k, hkn, ?_⟩
          unfold isKid
          rw [e, hh]; simp
      rw [ini_iniN hex]
      exact decide_eq_false (by omega)
    · left; exact decide_eq_false hz
end
end Go.Proofs.Ytbacdllokgcohaa
/-
  Packages shape and enter: there, Under, properly, has, told, inside.
-/
namespace Go.Proofs.Ytbacdllokgcohaa
set_option maxRecDepth 100000
open Go.ChangeShapes Go.WideShapes Go.ChangeAt Go.RowKit

section
variable {ks ps : List Int} {A B : Option Addr} {n c d : Nat}
theorem there_any (k : Nat) (w : World) (hn : n ≤ 100) (hk : k < n) :
    Calls Try.prog 63 #[.agg #[.slice A n c, .slice B n d], .int .i64 k] w fun e w' => e = .returned (.bool true) ∧ Below w.heap.size w w' := by
  have x0 := box_0 w 25 (.slice A n c) (.slice B n d)
  have x1 := box_1 w 25 (.slice A n c) (.slice B n d)
  have HZ := Lib.hid (box_b w (.cells #[.slice A n c, .slice B n d] 25))
  have SZ := fun W => size_any 25 A B n c n d W (by omega) (by omega)
  rw [Nat.min_self] at SZ
  have SZ := Lib.hid SZ
  have hki : (k : Int) < n := by omega
  go_enter Try.func63, Try.ntmps63
  go_wp2_with (go_at_call 97; refine (SZ.out _).mono ?_; rintro e w1 ⟨rfl, hb1⟩)
  go_ret
  exact ⟨rfl, below_then HZ.out hb1 HZ.out.size⟩
set_option maxHeartbeats 1000000 in
theorem Under_any (k : Nat) (t : Int) (w : World) (h : IntsAt w (.slice A n c) ks ∧ IntsAt w (.slice B n d) ps) (hf : ShF ks ps n) (hn : n ≤ 100) (hk : k < n) :
    Calls Try.prog 101 #[.agg #[.slice A n c, .slice B n d], .int .i64 k, .int .i64 t] w fun e w' => e = .returned (.bool (undB ps k t)) ∧ Below w.heap.size w w' := by
  have x0 := box_0 w 25 (.slice A n c) (.slice B n d)
  have x1 := box_1 w 25 (.slice A n c) (.slice B n d)
  have hz := box_b w (.cells #[.slice A n c, .slice B n d] 25)
  have hlt : w.heap.size < (w.alloc (.cells #[.slice A n c, .slice B n d] 25)).heap.size := by simp
  have S1 := Lib.hid (shp_below h hz)
  have HZ := Lib.hid hz
  have HF := Lib.hid hf
  clear h hz hf
  go_enter Try.func101, Try.ntmps101
  go_upto_region 1 with (fail)
  generalize w.alloc (.cells #[.slice A n c, .slice B n d] 25) = w0 at *
  have TH := Lib.hid (fun W => there_any (A := A) (B := B) (c := c) (d := d) k W hn hk)
  have PA := Lib.hid (fun W (hW : Below w0.heap.size w0 W) (q : Nat) (hq : q < n) => parent_any ps A B n c n d q W (shp_below S1.out hW).2 HF.out.pl.symm hq (by omega))
  go_wp2_with (go_at_call 63; refine (TH.out _).mono ?_; rintro e w1 ⟨rfl, hb1⟩)
  have HB1 := Lib.hid hb1
  clear hb1
  go_loopw [1] (fun i wr => ∃ a : Int, i = .int .i64 a ∧ Hid (-1 ≤ a ∧ a < n ∧ upB ps a t = undB ps k t) ∧ Hid (Below w0.heap.size w0 wr)) (fun i _ => (intOf i + 1).toNat)
  case atStart => exact ⟨k, rfl, ⟨by omega, by omega, by unfold upB; rw [if_pos (by omega), Int.toNat_natCast]⟩, HB1.out⟩
  case round =>
    obtain ⟨a, rfl, HA, HB⟩ := hrel
    have z0 := (HB.out.cell (p := ⟨w.heap.size, 0, none⟩) hlt).trans x0
    have z1 := (HB.out.cell (p := ⟨w.heap.size, 1, none⟩) hlt).trans x1
    by_cases h0 : 0 ≤ a
    · by_cases hat : a = t
      · have HE : Hid (undB ps k t = true) := by show _ = _; rw [← HA.out.2.2, upB_end HA.out.1 (.inr hat), decide_eq_true hat]
        have g1 : (a != t) = false := by simp [hat]
        have g2 : (a == t) = true := by simp [hat]
        clear HA
        go_wp2
        go_ret
        exact ⟨ret_bool HE.out.symm, below_then HZ.out HB.out HZ.out.size⟩
      · obtain ⟨q, rfl⟩ : ∃ q : Nat, a = q := ⟨a.toNat, by omega⟩
        have hq : q < n := by have := HA.out.2.1; omega
        have PQ := Lib.hid (PA.out _ HB.out q hq)
        have hpq := HF.out.pa q hq
        have epar : par ps q = ps.getD q 0 := by unfold par; omega
        rw [epar] at PQ
        have HS : Hid (upB ps (ps.getD q 0) t = undB ps k t) := by
          show _ = _
          rw [upB_step HF.out hq hat, ← HA.out.2.2]
          unfold upB; rw [if_pos h0, Int.toNat_natCast]
        have HP := Lib.hid hpq
        have g1 : ((q : Int) != t) = true := by simpa using hat
        clear HA hpq epar
        generalize ps.getD q 0 = p at *
        go_wp2_with (go_at_call 64; refine PQ.out.mono ?_; rintro e w2 ⟨rfl, hb2⟩)
        go_roundw
        case rel => exact ⟨p, rfl, ⟨HP.out.1, by have := HP.out.2; omega, HS.out⟩, below_then HB.out hb2 HB.out.size⟩
        case measure => have := HP.out; simp [intOf]; omega
    · have HE : Hid (undB ps k t = (a == t)) := by
        show _ = _
        rw [← HA.out.2.2, upB_end HA.out.1 (.inl (by omega))]
        rfl
      clear HA
      generalize hg : (a == t) = g at *
      have HG := Lib.hid hg
      clear hg
      go_wp2
      go_ret
      exact ⟨ret_bool (by rw [HE.out, HG.out]), below_then HZ.out HB.out HZ.out.size⟩
theorem properly_any (k : Nat) (t : Int) (w : World) (h : IntsAt w (.slice A n c) ks ∧ IntsAt w (.slice B n d) ps) (hf : ShF ks ps n) (hn : n ≤ 100) (hk : k < n) :
    Calls Try.prog 106 #[.agg #[.slice A n c, .slice B n d], .int .i64 k, .int .i64 t] w fun e w' => e = .returned (.bool (decide ((k : Int) ≠ t) && undB ps k t)) ∧ Below w.heap.size w w' := by
  have x0 := box_0 w 25 (.slice A n c) (.slice B n d)
  have x1 := box_1 w 25 (.slice A n c) (.slice B n d)
  have hz := box_b w (.cells #[.slice A n c, .slice B n d] 25)
  have UN := Lib.hid (Under_any k t _ (shp_below h hz) hf hn hk)
  have HZ := Lib.hid hz
  clear h hz hf
  by_cases hkt : (k : Int) = t
  · have g1 : ((k : Int) != t) = false := by simp [hkt]
    have HE : Hid ((decide ((k : Int) ≠ t) && undB ps k t) = false) := by show _ = _; rw [decide_eq_false (fun h => h hkt), Bool.false_and]
    go_enter Try.func106, Try.ntmps106
    go_wp2
    go_ret
    exact ⟨ret_bool HE.out.symm, HZ.out⟩
  · have g1 : ((k : Int) != t) = true := by simpa using hkt
    have HE : Hid ((decide ((k : Int) ≠ t) && undB ps k t) = undB ps k t) := by show _ = _; rw [decide_eq_true hkt, Bool.true_and]
    go_enter Try.func106, Try.ntmps106
    go_wp2_with (go_at_call 101; refine UN.out.mono ?_; rintro e w1 ⟨rfl, hb1⟩)
    go_ret
    exact ⟨ret_bool HE.out.symm, below_then HZ.out hb1 HZ.out.size⟩
theorem hasE_any (s k : Nat) (w : World) (hs : s < 4294967296) (hk : k < 32) :
    Calls Try.prog 135 #[.int .u32 s, .int .i64 k] w fun e w' => e = .returned (.bool (s.testBit k)) ∧ w = w' := by
  have HV := Lib.hid (has_shr s k hs hk)
  go_enter Try.func135, Try.ntmps135
  go_wp2
  go_ret
  exact ⟨ret_bool HV.out, rfl⟩
end
end Go.Proofs.Ytbacdllokgcohaa
/-
  The document's shapes: Kids, Initial.
-/
namespace Go.Proofs.Ytbacdllokgcohaa
set_option maxRecDepth 100000
open Go.ChangeShapes Go.WideShapes Go.ChangeAt Go.RowKit

theorem kidsTo_filter (ps : List Int) (a : Int) : ∀ n, kidsTo ps a n = (List.range n).filter fun k => ps.getD k 0 == a
  | 0 => rfl
  | n + 1 => by
    have e : kidsTo ps a (n + 1) = if ps.getD n 0 = a then kidsTo ps a n ++ [n] else kidsTo ps a n := rfl
    rw [List.range_succ, List.filter_append, ← kidsTo_filter ps a n, e]
    by_cases h : ps.getD n 0 = a
    · rw [if_pos h]
      have : (ps.getD n 0 == a) = true := by simpa using h
      rw [List.filter_cons, this]; rfl
    · rw [if_neg h]
      have : (ps.getD n 0 == a) = false := by simpa using h
      rw [List.filter_cons, this]; simp
theorem find_congr {p q : Nat → Bool} : ∀ {l : List Nat}, (∀ x ∈ l, p x = q x) → l.find? p = l.find? q
  | [], _ => rfl
  | a :: l, h => by
    rw [List.find?_cons, List.find?_cons, h a (by simp), find_congr fun x hx => h x (by simp [hx])]
end Go.Proofs.Ytbacdllokgcohaa
