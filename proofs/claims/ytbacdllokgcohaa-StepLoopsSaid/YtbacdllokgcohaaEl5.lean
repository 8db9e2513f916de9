/-
  Package shape: Domain.
-/
import Derived.Test.YtbacdllokgcohaaEl1
import Derived.Laws.BitsAllLaws
namespace Go.Proofs.Ytbacdllokgcohaa
set_option maxRecDepth 100000
open Go.ChangeShapes Go.WideShapes Go.ChangeAt Go.RowKit

section
variable {ks ps : List Int} {A B : Option Addr} {n c d : Nat}
set_option maxHeartbeats 2000000 in
theorem Domain_any (k t : Nat) (w : World) (h : IntsAt w (.slice A n c) ks ∧ IntsAt w (.slice B n d) ps) (hf : ShF ks ps n) (hn : n ≤ 100) (hk : k < n) (ht : t < n) :
    Calls Try.prog 65 #[.agg #[.slice A n c, .slice B n d], .int .i64 k, .int .i64 t] w fun e w' => e = .returned (.int .i64 (domL ks ps n k t)) ∧ Below w.heap.size w w' := by
  have x0 := box_0 w 25 (.slice A n c) (.slice B n d)
  have x1 := box_1 w 25 (.slice A n c) (.slice B n d)
  have hz := box_b w (.cells #[.slice A n c, .slice B n d] 25)
  have hlt : w.heap.size < (w.alloc (.cells #[.slice A n c, .slice B n d] 25)).heap.size := by simp
  have S1 := Lib.hid (shp_below h hz)
  have HZ := Lib.hid hz
  have HF := Lib.hid hf
  have HD := Lib.hid (domU_dom hf t hk)
  have hpk := hf.pa k hk
  have epar0 : par ps k = ps.getD k 0 := by unfold par; omega
  clear h hz hf
  go_enter Try.func65, Try.ntmps65
  go_upto_region 1 with (fail)
  generalize w.alloc (.cells #[.slice A n c, .slice B n d] 25) = w0 at *
  have TH := Lib.hid (fun W => there_any (A := A) (B := B) (c := c) (d := d) k W hn hk)
  have PA := Lib.hid (fun W (hW : Below w0.heap.size w0 W) (q : Nat) (hq : q < n) => parent_any ps A B n c n d q W (shp_below S1.out hW).2 HF.out.pl.symm hq (by omega))
  have UN := Lib.hid (fun W (hW : Below w0.heap.size w0 W) (a : Int) => Under_any t a W (shp_below S1.out hW) HF.out hn ht)
  have PA0 := Lib.hid (fun W (hW : Below w0.heap.size w0 W) => by have := PA.out W hW k hk; rw [epar0] at this; exact this)
  have HPK := Lib.hid hpk
  clear epar0 hpk
  generalize hp0 : ps.getD k 0 = p0 at *
  have HP0 := Lib.hid hp0
  clear hp0
  go_wp2_with (first
    | (go_at_call 63; refine (TH.out _).mono ?_; rintro e w1 ⟨rfl, hb1⟩; have y0 := (hb1.cell (p := ⟨w.heap.size, 0, none⟩) hlt).trans x0; have y1 := (hb1.cell (p := ⟨w.heap.size, 1, none⟩) hlt).trans x1)
    | (go_at_call 64; refine (PA0.out _ hb1).mono ?_; rintro e w2 ⟨rfl, hb2⟩))
  have HB2 := Lib.hid (below_then hb1 hb2 hb1.size)
  clear hb1 hb2 y0 y1
  go_loopw [7] (fun i wr => ∃ a : Int, i = .int .i64 a ∧ Hid (-1 ≤ a ∧ a < n ∧ domU ks ps t a = domL ks ps n k t) ∧ Hid (Below w0.heap.size w0 wr)) (fun i _ => (intOf i + 1).toNat)
  case atStart => exact ⟨p0, rfl, ⟨HPK.out.1, by have := HPK.out.2; omega, HD.out⟩, HB2.out⟩
  case round =>
    obtain ⟨a, rfl, HA, HB⟩ := hrel
    have z0 := (HB.out.cell (p := ⟨w.heap.size, 0, none⟩) hlt).trans x0
    have z1 := (HB.out.cell (p := ⟨w.heap.size, 1, none⟩) hlt).trans x1
    by_cases h0 : 0 ≤ a
    · obtain ⟨q, rfl⟩ : ∃ q : Nat, a = q := ⟨a.toNat, by omega⟩
      have hq : q < n := by have := HA.out.2.1; omega
      have hqi : (q : Int) < n := by omega
      obtain ⟨b, off, rfl, hb, hx, _⟩ := ints_cell (shp_below S1.out HB.out).1 (k := q) (by rw [HF.out.kl]; exact hq)
      have hpq := HF.out.pa q hq
      have epar : par ps q = ps.getD q 0 := by unfold par; omega
      have HPQ := Lib.hid hpq
      have HMS : Hid (¬ (ks.getD q 0 = 1 ∧ q ≠ t ∧ undB ps t q = true) → domU ks ps t (ps.getD q 0) = domL ks ps n k t) := fun hc => by rw [domU_miss HF.out hq hc]; exact HA.out.2.2
      have HHT : Hid (ks.getD q 0 = 1 ∧ q ≠ t ∧ undB ps t q = true → (q : Int) = domL ks ps n k t) := fun hc => by
        rw [← HA.out.2.2, domU_hit h0 (by rw [Int.toNat_natCast]; exact hc)]
      have PQ := Lib.hid (fun W (hW : Below w0.heap.size w0 W) => by have := PA.out W hW q hq; rw [epar] at this; exact this)
      have UQ := Lib.hid (UN.out wr HB.out q)
      clear HA hpq epar
      generalize ps.getD q 0 = p at *
      generalize ks.getD q 0 = z at *
      generalize undB ps t q = un at *
      by_cases hz1 : z = 1
      · subst hz1
        by_cases hqt2 : (q : Int) = t
        · have g2 : ((q : Int) != t) = false := by simp [hqt2]
          have HS := Lib.hid (HMS.out (fun hc => hc.2.1 (by omega)))
          clear HMS HHT hqt2
          go_wp2_with (go_at_call 64; refine (PQ.out _ HB.out).mono ?_; rintro e w3 ⟨rfl, hb3⟩)
          go_roundw
          case rel => exact ⟨p, rfl, ⟨HPQ.out.1, by have := HPQ.out.2; omega, HS.out⟩, below_then HB.out hb3 HB.out.size⟩
          case measure => have := HPQ.out; simp [intOf]; omega
        · have g2 : ((q : Int) != t) = true := by simpa using hqt2
          cases un
          · have HS := Lib.hid (HMS.out (fun hc => by simp at hc))
            clear HMS HHT
            go_wp2_with (first
              | (go_at_call 101; refine UQ.out.mono ?_; rintro e w4 ⟨rfl, hb4⟩; have HB4 := Lib.hid (below_then HB.out hb4 HB.out.size); have y40 := (HB4.out.cell (p := ⟨w.heap.size, 0, none⟩) hlt).trans x0; have y41 := (HB4.out.cell (p := ⟨w.heap.size, 1, none⟩) hlt).trans x1)
              | (go_at_call 64; refine (PQ.out _ HB4.out).mono ?_; rintro e w3 ⟨rfl, hb3⟩))
            go_roundw
            case rel => exact ⟨p, rfl, ⟨HPQ.out.1, by have := HPQ.out.2; omega, HS.out⟩, below_then HB4.out hb3 HB4.out.size⟩
            case measure => have := HPQ.out; simp [intOf]; omega
          · have HS := Lib.hid (HHT.out ⟨rfl, by omega, rfl⟩)
            clear HMS HHT
            go_wp2_with (go_at_call 101; refine UQ.out.mono ?_; rintro e w4 ⟨rfl, hb4⟩)
            go_ret
            exact ⟨ret_int HS.out, below_then HZ.out (below_then HB.out hb4 HB.out.size) HZ.out.size⟩
      · have g1 : (z == 1) = false := by simpa using hz1
        have HS := Lib.hid (HMS.out (fun hc => hz1 hc.1))
        clear HMS HHT
        go_wp2_with (go_at_call 64; refine (PQ.out _ HB.out).mono ?_; rintro e w3 ⟨rfl, hb3⟩)
        go_roundw
        case rel => exact ⟨p, rfl, ⟨HPQ.out.1, by have := HPQ.out.2; omega, HS.out⟩, below_then HB.out hb3 HB.out.size⟩
        case measure => have := HPQ.out; simp [intOf]; omega
    · have HS : Hid ((-1 : Int) = domL ks ps n k t) := by
        show _ = _
        rw [← HA.out.2.2]
        unfold domU
        rw [if_neg h0]
      clear HA
      go_wp2
      go_ret
      exact ⟨ret_int HS.out, below_then HZ.out HB.out HZ.out.size⟩
end
end Go.Proofs.Ytbacdllokgcohaa
/-
  The shapes that the statements are made of: all that is known of them. Printed by gen_shog.py out of XShOf.
-/
namespace Go.Proofs.Ytbacdllokgcohaa
set_option maxRecDepth 100000
open Go.ChangeShapes Go.WideShapes Go.ChangeAt Go.RowKit

/-- a place that is no history, where it is told so -/
def nHi (ks : List Int) (p : Int) (b : Bool) : Prop := b = false → parOk ks p ∨ p < -1
theorem nHi.of {ks ps : List Int} {k q : Nat} (h : ShW ks ps k) (hq : q < ks.length) : nHi ks q (decide ((3 : Int) ≤ ks.getD q 0)) := fun hb => .inl (parOk.of h hq (by have := of_decide_eq_false hb; omega))
end Go.Proofs.Ytbacdllokgcohaa
/-
  What the statements' sets are: plain, and what the calls answer as lists that can be read.
-/
namespace Go.Proofs.Ytbacdllokgcohaa
set_option maxRecDepth 100000
open Go.ChangeShapes Go.WideShapes Go.ChangeAt Go.RowKit

section
variable {ks ps : List Int} {n : Nat}
theorem leave_lt (h : ShF ks ps n) {s : Nat} {d : Int} : ∀ k ∈ leaveL ps n s d, k < n := fun k hk => ((mem_leaveL h).1 hk).1
theorem leave_len (h : ShF ks ps n) (s : Nat) (d : Int) : (leaveL ps n s d).length ≤ n := nodup_len n _ (leaveL_nodup s d) (leave_lt h)
theorem leave_part (h : ShF ks ps n) (s : Nat) (d : Int) : setN (leaveL ps n s d) &&& s = setN (leaveL ps n s d) := by
  apply Nat.eq_of_testBit_eq
  intro i
  rw [Nat.testBit_and, setN_bit]
  by_cases hm : i ∈ leaveL ps n s d
  · rw [decide_eq_true hm, ((mem_leaveL h).1 hm).2.1]; rfl
  · rw [decide_eq_false hm]; rfl
theorem enter_in (h : ShF ks ps n) {past : Nat → Nat} (hp : PastOk ks ps n past) {t : Nat} {d : Int} (ht : t < n) (hu : Und ps t d) (hne : (t : Int) ≠ d) {k : Nat} (hm : k ∈ enterL ks ps n past d t) : k < n ∧ (k : Int) ≠ d ∧ Und ps k d := by
  obtain ⟨⟨j, hj, hk, hS⟩, _⟩ := enterL_LC h hp ht hu hne
  exact enterL_und h hj hk hS hm
theorem enter_len (h : ShF ks ps n) {past : Nat → Nat} (hp : PastOk ks ps n past) {t : Nat} {d : Int} (ht : t < n) (hu : Und ps t d) (hne : (t : Int) ≠ d) : (enterL ks ps n past d t).length ≤ n :=
  nodup_len n _ (enterL_LC h hp ht hu hne).2.1 fun _ hk => (enter_in h hp ht hu hne hk).1
theorem setN_lt32 {l : List Nat} (h : ∀ k ∈ l, k < n) (hn : n ≤ 32) : setN l < 4294967296 := setN_lt (n := 32) fun k hk => by have := h k hk; omega
end
theorem kids_ints {w : World} {base : Nat} {v : Value} {l : List Nat} (h : OwnI w base v (l.map fun k : Nat => (k : Int))) (hk : ∀ k ∈ l, k < 1000) (hl : l.length ≤ 1000) :
    ∃ A c, v = .slice A l.length c ∧ IntsAt w (.slice A l.length c) (l.map fun k : Nat => (k : Int)) := by
  have h1 := OwnN.of h
  obtain ⟨A, c, rfl⟩ := own_slice h1
  exact ⟨A, c, rfl, nat_ints h1 hk hl⟩
/-- a list that a call answers, as it can be read -/
def ListTo (l : List Nat) (w : World) (e : Ending) (w' : World) : Prop := ∃ A c, e = .returned (.slice A l.length c) ∧ IntsAt w' (.slice A l.length c) (l.map fun k : Nat => (k : Int)) ∧ Below w.heap.size w w'
theorem KidsTo.list {l : List Nat} {w : World} {e : Ending} {w' : World} (h : KidsTo l w e w') (hk : ∀ k ∈ l, k < 1000) (hl : l.length ≤ 1000) : ListTo l w e w' := by
  obtain ⟨v, rfl, ho, hb⟩ := h
  obtain ⟨A, c, rfl, hi⟩ := kids_ints ho hk hl
  exact ⟨A, c, rfl, hi, hb⟩
section
variable {ks ps : List Int} {A B : Option Addr} {n c d : Nat}
theorem Leave_list (s : Nat) (t : Int) (w : World) (h : IntsAt w (.slice A n c) ks ∧ IntsAt w (.slice B n d) ps) (hf : ShF ks ps n) (h0 : 0 < n) (hn : n ≤ 24) (hs : s < 4294967296) :
    Calls Try.prog 66 #[.agg #[.slice A n c, .slice B n d], .int .u32 s, .int .i64 t] w (ListTo (leaveL ps n s t) w) :=
  (Leave_any s t w h hf h0 hn hs).mono fun _ _ hk => hk.list (fun k hm => by have := leave_lt hf k hm; omega) (by have := leave_len hf s t; omega)
theorem Enter_list (t : Nat) (dm : Int) (v : Value) (rs : List Nat) (w : World) (h : IntsAt w (.slice A n c) ks ∧ IntsAt w (.slice B n d) ps) (hf : ShF ks ps n) (hn : n ≤ 24) (hu : U32sAt w v rs) (hp : PastOk ks ps n (pfun rs))
    (ht : t < n) (htd : Und ps t dm) (hne : (t : Int) ≠ dm) :
    Calls Try.prog 68 #[.agg #[.slice A n c, .slice B n d], .int .i64 dm, .int .i64 t, v] w (ListTo (enterL ks ps n (pfun rs) dm t) w) :=
  (Enter_any t dm v rs w h hf hn hu hp ht htd hne).mono fun _ _ hk => hk.list (fun k hm => by have := (enter_in hf hp ht htd hne hm).1; omega) (by have := enter_len hf hp ht htd hne; omega)
theorem Start_list (w : World) (h : IntsAt w (.slice A n c) ks ∧ IntsAt w (.slice B n d) ps) (hf : ShF ks ps n) (h0 : 0 < n) (hn : n ≤ 24) :
    Calls Try.prog 35 #[.agg #[.slice A n c, .slice B n d]] w (ListTo (inS ks ps n (iniN ks ps n (-1))) w) := by
  have hik := iniN_kid hf.tp
  exact (Start_any w h hf h0 hn).mono fun _ _ hk => hk.list (fun k hm => by have := (inS_und hf hik.1 (kid_hl hik.2) hm).1; omega) (by have := inS_len hf hik.1 (kid_hl hik.2); omega)
end
end Go.Proofs.Ytbacdllokgcohaa
/-
  The statements' count; what is left of a set.
-/
namespace Go.Proofs.Ytbacdllokgcohaa
set_option maxRecDepth 100000
open Go.ChangeShapes Go.WideShapes Go.ChangeAt Go.RowKit

/-- what is in one set and not in another -/
def adn (a b : Nat) : Nat := a &&& (4294967295 - b)
theorem adn_bit {a b : Nat} (ha : a < 4294967296) (hb : b < 4294967296) (j : Nat) : (adn a b).testBit j = (a.testBit j && !b.testBit j) := by
  unfold adn
  rw [Nat.testBit_and, show 4294967295 - b = 2 ^ 32 - (b + 1) by omega, Nat.testBit_two_pow_sub_succ (show b < 2 ^ 32 from hb)]
  by_cases hj : j < 32
  · rw [decide_eq_true hj, Bool.true_and]
  · rw [Nat.testBit_lt_two_pow (Nat.lt_of_lt_of_le ha (Nat.pow_le_pow_right (n := 2) (by omega) (show 32 ≤ j by omega)))]; simp
theorem adn_lt {a b : Nat} (ha : a < 4294967296) : adn a b < 4294967296 := Nat.lt_of_le_of_lt Nat.and_le_left ha
theorem adn_u32 {a b : Nat} (ha : a < 4294967296) (hb : b < 4294967296) : bits .andNot .u32 (a : Int) (b : Int) = ((adn a b : Nat) : Int) := u32_andNot_nat a b ha hb
/-- the same, with what a slice may be cut to -/
def ListToC (l : List Nat) (w : World) (e : Ending) (w' : World) : Prop := ∃ A c, e = .returned (.slice A l.length c) ∧ l.length ≤ c ∧ IntsAt w' (.slice A l.length c) (l.map fun k : Nat => (k : Int)) ∧ Below w.heap.size w w'
theorem KidsTo.listC {l : List Nat} {w : World} {e : Ending} {w' : World} (h : KidsTo l w e w') (hk : ∀ k ∈ l, k < 1000) (hl : l.length ≤ 1000) : ListToC l w e w' := by
  obtain ⟨v, rfl, ho, hb⟩ := h
  have h1 := OwnN.of ho
  obtain ⟨A, c, rfl⟩ := own_slice h1
  exact ⟨A, c, rfl, own_cap h1, nat_ints h1 hk hl, hb⟩
theorem Enter_listC {ks ps : List Int} {A B : Option Addr} {n c d : Nat} (t : Nat) (dm : Int) (v : Value) (rs : List Nat) (w : World) (h : IntsAt w (.slice A n c) ks ∧ IntsAt w (.slice B n d) ps) (hf : ShF ks ps n) (hn : n ≤ 24) (hu : U32sAt w v rs) (hp : PastOk ks ps n (pfun rs))
    (ht : t < n) (htd : Und ps t dm) (hne : (t : Int) ≠ dm) :
    Calls Try.prog 68 #[.agg #[.slice A n c, .slice B n d], .int .i64 dm, .int .i64 t, v] w (ListToC (enterL ks ps n (pfun rs) dm t) w) :=
  (Enter_any t dm v rs w h hf hn hu hp ht htd hne).mono fun _ _ hk => hk.listC (fun k hm => by have := (enter_in hf hp ht htd hne hm).1; omega) (by have := enter_len hf hp ht htd hne; omega)
end Go.Proofs.Ytbacdllokgcohaa
