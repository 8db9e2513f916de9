/-
  Package shape: Domain.
-/
import Derived.Test.YtaolebdcmdmnjaaEl2
namespace Go.Proofs.Ytaolebdcmdmnjaa
set_option maxRecDepth 100000
open Go.ChangeShapes Go.WideShapes Go.ChangeAt Go.RowKit

section
variable {ks ps : List Int} {A B : Option Addr} {n c d : Nat}
set_option maxHeartbeats 2000000 in
theorem Domain_any (k t : Nat) (w : World) (h : IntsAt w (.slice A n c) ks ∧ IntsAt w (.slice B n d) ps) (hf : ShF ks ps n) (hn : n ≤ 100) (hk : k < n) (ht : t < n) :
    Calls Try.prog 18 #[.agg #[.slice A n c, .slice B n d], .int .i64 k, .int .i64 t] w fun e w' => e = .returned (.int .i64 (domL ks ps n k t)) ∧ Below w.heap.size w w' := by
  have x0 := box_0 w 24 (.slice A n c) (.slice B n d)
  have x1 := box_1 w 24 (.slice A n c) (.slice B n d)
  have hz := box_b w (.cells #[.slice A n c, .slice B n d] 24)
  have hlt : w.heap.size < (w.alloc (.cells #[.slice A n c, .slice B n d] 24)).heap.size := by simp
  have S1 := Lib.hid (shp_below h hz)
  have HZ := Lib.hid hz
  have HF := Lib.hid hf
  have HD := Lib.hid (domU_dom hf t hk)
  have hpk := hf.pa k hk
  have epar0 : par ps k = ps.getD k 0 := by unfold par; omega
  clear h hz hf
  go_enter Try.func18, Try.ntmps18
  go_upto_region 1 with (fail)
  generalize w.alloc (.cells #[.slice A n c, .slice B n d] 24) = w0 at *
  have TH := Lib.hid (fun W => there_any (A := A) (B := B) (c := c) (d := d) k W hn hk)
  have PA := Lib.hid (fun W (hW : Below w0.heap.size w0 W) (q : Nat) (hq : q < n) => parent_any ps A B n c n d q W (shp_below S1.out hW).2 HF.out.pl.symm hq (by omega))
  have UN := Lib.hid (fun W (hW : Below w0.heap.size w0 W) (a : Int) => Under_any t a W (shp_below S1.out hW) HF.out hn ht)
  have PA0 := Lib.hid (fun W (hW : Below w0.heap.size w0 W) => by have := PA.out W hW k hk; rw [epar0] at this; exact this)
  have HPK := Lib.hid hpk
  clear epar0 hpk
  generalize hp0 : ps.getD k 0 = p0 at *
  have HP0 := Lib.hid hp0
  clear hp0
  go_wp2_with (first
    | (go_at_call 43; refine (TH.out _).mono ?_; rintro e w1 ⟨rfl, hb1⟩; have y0 := (hb1.cell (p := ⟨w.heap.size, 0, none⟩) hlt).trans x0; have y1 := (hb1.cell (p := ⟨w.heap.size, 1, none⟩) hlt).trans x1)
    | (go_at_call 44; refine (PA0.out _ hb1).mono ?_; rintro e w2 ⟨rfl, hb2⟩))
  have HB2 := Lib.hid (below_then hb1 hb2 hb1.size)
  clear hb1 hb2 y0 y1
  go_loopw [7] (fun i wr => ∃ a : Int, i = .int .i64 a ∧ Hid (-1 ≤ a ∧ a < n ∧ domU ks ps t a = domL ks ps n k t) ∧ Hid (Below w0.heap.size w0 wr)) (fun i _ => (intOf i + 1).toNat)
  case atStart => exact ⟨p0, rfl, ⟨HPK.out.1, by have := HPK.out.2; omega, HD.out⟩, HB2.out⟩
  case round =>
    obtain ⟨a, rfl, HA, HB⟩ := hrel
    have z0 := (HB.out.cell (p := ⟨w.heap.size, 0, none⟩) hlt).trans x0
    have z1 := (HB.out.cell (p := ⟨w.heap.size, 1, none⟩) hlt).trans x1
    by_cases h0 : 0 ≤ a
    · obtain ⟨q, rfl⟩ : ∃ q : Nat, a = q := ⟨a.toNat, by omega⟩
      have hq : q < n := by have := HA.out.2.1; omega
      have hqi : (q : Int) < n := by omega
      obtain ⟨b, off, rfl, hb, hx, _⟩ := ints_cell (shp_below S1.out HB.out).1 (k := q) (by rw [HF.out.kl]; exact hq)
      have hpq := HF.out.pa q hq
      have epar : par ps q = ps.getD q 0 := by unfold par; omega
      have HPQ := Lib.hid hpq
      have HMS : Hid (¬ (ks.getD q 0 = 1 ∧ q ≠ t ∧ undB ps t q = true) → domU ks ps t (ps.getD q 0) = domL ks ps n k t) := fun hc => by rw [domU_miss HF.out hq hc]; exact HA.out.2.2
      have HHT : Hid (ks.getD q 0 = 1 ∧ q ≠ t ∧ undB ps t q = true → (q : Int) = domL ks ps n k t) := fun hc => by
        rw [← HA.out.2.2, domU_hit h0 (by rw [Int.toNat_natCast]; exact hc)]
      have PQ := Lib.hid (fun W (hW : Below w0.heap.size w0 W) => by have := PA.out W hW q hq; rw [epar] at this; exact this)
      have UQ := Lib.hid (UN.out wr HB.out q)
      clear HA hpq epar
      generalize ps.getD q 0 = p at *
      generalize ks.getD q 0 = z at *
      generalize undB ps t q = un at *
      by_cases hz1 : z = 1
      · subst hz1
        by_cases hqt2 : (q : Int) = t
        · have g2 : ((q : Int) != t) = false := by simp [hqt2]
          have HS := Lib.hid (HMS.out (fun hc => hc.2.1 (by omega)))
          clear HMS HHT hqt2
          go_wp2_with (go_at_call 44; refine (PQ.out _ HB.out).mono ?_; rintro e w3 ⟨rfl, hb3⟩)
          go_roundw
          case rel => exact ⟨p, rfl, ⟨HPQ.out.1, by have := HPQ.out.2; omega, HS.out⟩, below_then HB.out hb3 HB.out.size⟩
          case measure => have := HPQ.out; simp [intOf]; omega
        · have g2 : ((q : Int) != t) = true := by simpa using hqt2
          cases un
          · have HS := Lib.hid (HMS.out (fun hc => by simp at hc))
            clear HMS HHT
            go_wp2_with (first
              | (go_at_call 23; refine UQ.out.mono ?_; rintro e w4 ⟨rfl, hb4⟩; have HB4 := Lib.hid (below_then HB.out hb4 HB.out.size); have y40 := (HB4.out.cell (p := ⟨w.heap.size, 0, none⟩) hlt).trans x0; have y41 := (HB4.out.cell (p := ⟨w.heap.size, 1, none⟩) hlt).trans x1)
              | (go_at_call 44; refine (PQ.out _ HB4.out).mono ?_; rintro e w3 ⟨rfl, hb3⟩))
            go_roundw
            case rel => exact ⟨p, rfl, ⟨HPQ.out.1, by have := HPQ.out.2; omega, HS.out⟩, below_then HB4.out hb3 HB4.out.size⟩
            case measure => have := HPQ.out; simp [intOf]; omega
          · have HS := Lib.hid (HHT.out ⟨rfl, by omega, rfl⟩)
            clear HMS HHT
            go_wp2_with (go_at_call 23; refine UQ.out.mono ?_; rintro e w4 ⟨rfl, hb4⟩)
            go_ret
            exact ⟨ret_int HS.out, below_then HZ.out (below_then HB.out hb4 HB.out.size) HZ.out.size⟩
      · have g1 : (z == 1) = false := by simpa using hz1
        have HS := Lib.hid (HMS.out (fun hc => hz1 hc.1))
        clear HMS HHT
        go_wp2_with (go_at_call 44; refine (PQ.out _ HB.out).mono ?_; rintro e w3 ⟨rfl, hb3⟩)
        go_roundw
        case rel => exact ⟨p, rfl, ⟨HPQ.out.1, by have := HPQ.out.2; omega, HS.out⟩, below_then HB.out hb3 HB.out.size⟩
        case measure => have := HPQ.out; simp [intOf]; omega
    · have HS : Hid ((-1 : Int) = domL ks ps n k t) := by
        show _ = _
        rw [← HA.out.2.2]
        unfold domU
        rw [if_neg h0]
      clear HA
      go_wp2
      go_ret
      exact ⟨ret_int HS.out, below_then HZ.out HB.out HZ.out.size⟩
end
end Go.Proofs.Ytaolebdcmdmnjaa
