/-
  A help of the statements: Rules, of two lists of the same rules.
-/
import Derived.Test.YtgemciecdplcgaaDoorPol5
import Derived.Test.YtgemciecdplcgaaDoorClose
import Derived.Deep.RegionHeld3
namespace Go.Proofs.YtgemciecdplcgaaDoor
set_option maxRecDepth 100000
open Go.ChangeShapes Go.WideShapes Go.ChangeAt Go.RowKit

theorem below_drew {B : Nat} {a w : World} (h : Below B a w) : Below B a w.drew := ⟨h.os, h.tape, h.output, h.size, h.block⟩
set_option maxHeartbeats 4000000 in
theorem Rules_any (acc1 acc2 : List RL) (A1 A2 : Option Addr) (c1 c2 : Nat) (w : World) (h1 : RIn w A1 acc1) (h2 : RIn w A2 acc2) (he : acc1.map er = acc2.map er) (hn : acc1.length ≤ 1000) (hll : ∀ x ∈ acc1, x.1.list.length ≤ 4096) (_hc1 : acc1.length ≤ c1) (_hc2 : acc2.length ≤ c2) :
    Calls Tryd.prog 13 #[.slice A1 acc1.length c1, .slice A2 acc2.length c2] w (TrueOn w) := by
  have hl : acc2.length = acc1.length := by have := congrArg List.length he; simpa using this.symm
  have H1 := Lib.hid h1
  have H2 := Lib.hid h2
  have HE := Lib.hid he
  have HLL := Lib.hid hll
  have HL := Lib.hid hl
  rw [hl] at _hc2 ⊢
  clear h1 h2 he hll hl
  go_enter Tryd.func13, Tryd.ntmps13
  go_upto_region 4 with fail
  go_loopw [5, 13] (fun _ i wr => ∃ k : Nat, k ≤ acc1.length ∧ i = .int .i64 k ∧ Below w.heap.size w wr) (fun _ i _ => acc1.length - (intOf i).toNat)
  case atStart => exact ⟨0, Nat.zero_le _, rfl, Below.refl _ _⟩
  case round =>
    obtain ⟨k, hk, rfl, hbw⟩ := hrel
    by_cases hlt : k < acc1.length
    · have hlt2 : k < acc2.length := by have := HL.out; omega
      obtain ⟨g1, rfl, hg1, hc1, B1, d1, e1, hL1⟩ := H1.out k hlt
      obtain ⟨g2, rfl, hg2, hc2, B2, d2, e2, hL2⟩ := H2.out k hlt2
      have hllk := HLL.out _ (List.getElem_mem hlt)
      have hee : er acc1[k] = er acc2[k] := by
        have := congrArg (fun l => l[k]?) HE.out
        simp only [List.getElem?_map, List.getElem?_eq_getElem hlt, List.getElem?_eq_getElem hlt2, Option.map_some, Option.some.injEq] at this
        exact this
      have hL1 := hL1.below hbw
      have hL2 := hL2.below hbw
      have q := fun f u hf hu => (hbw.cell (p := ⟨g1, k * 11 + f, none⟩) hg1).trans (hc1 f u hf hu)
      have p := fun f u hf hu => (hbw.cell (p := ⟨g2, k * 11 + f, none⟩) hg2).trans (hc2 f u hf hu)
      have hbz := hbw.size
      clear hc1 hc2 H1 H2
      generalize acc1[k] = x at *
      generalize acc2[k] = y at *
      obtain ⟨⟨kd, nm, l, rn, rm, rf, rt, rb, ra, ri⟩, ln, L⟩ := x
      obtain ⟨s, ln2, L2⟩ := y
      have e3 : (⟨kd, nm, l, rn, rm, rf, rt, rb, ra, ri⟩ : Ru) = s := congrArg Prod.fst hee
      have e4 : ln = ln2 := congrArg Prod.snd hee
      subst e3 e4
      obtain rfl : L = .slice B1 l.length d1 := e1
      obtain rfl : L2 = .slice B2 l.length d2 := e2
      simp only at hL1 hL2 hllk
      clear hee
      have q0 := q 0 _ (by omega) rfl; have q1 := q 1 _ (by omega) rfl; have q2 := q 2 _ (by omega) rfl; have q3 := q 3 _ (by omega) rfl; have q4 := q 4 _ (by omega) rfl; have q5 := q 5 _ (by omega) rfl; have q6 := q 6 _ (by omega) rfl; have q7 := q 7 _ (by omega) rfl; have q8 := q 8 _ (by omega) rfl; have q9 := q 9 _ (by omega) rfl; have q10 := q 10 _ (by omega) rfl
      have p0 := p 0 _ (by omega) rfl; have p1 := p 1 _ (by omega) rfl; have p2 := p 2 _ (by omega) rfl; have p3 := p 3 _ (by omega) rfl; have p4 := p 4 _ (by omega) rfl; have p5 := p 5 _ (by omega) rfl; have p6 := p 6 _ (by omega) rfl; have p7 := p 7 _ (by omega) rfl; have p8 := p 8 _ (by omega) rfl; have p9 := p 9 _ (by omega) rfl; have p10 := p 10 _ (by omega) rfl
      simp only [Nat.add_zero] at q0 p0
      clear q p
      have KR : Calls Tryd.prog 23 #[.agg #[.int .i64 kd, .string (bs nm), .slice B1 l.length d1, .int .i64 rn, .int .i64 rm, .string (bs rf), .string (bs rt), .string (bs rb), .string (bs ra), .string (bs ri), .int .i64 ln], .agg #[.int .i64 kd, .string (bs nm), .slice B2 l.length d2, .int .i64 rn, .int .i64 rm, .string (bs rf), .string (bs rt), .string (bs rb), .string (bs ra), .string (bs ri), .int .i64 ln]] wr.drew fun e w' => e = .returned (.bool true) ∧ Below wr.heap.size wr w' :=
        (keepRule ⟨kd, nm, l, rn, rm, rf, rt, rb, ra, ri⟩ B1 B2 d1 d2 ln ln wr.drew (by simp only; omega) hL1 hL2).mono fun e w' h => ⟨h.1, ⟨h.2.os, h.2.tape, h.2.output, h.2.size, h.2.block⟩⟩
      have hgl1 : g1 < wr.heap.size := by omega
      have hgl2 : g2 < wr.heap.size := by omega
      have HSS : ∀ w', Below wr.heap.size wr w' → w'.cell? ⟨g1, k * 11, none⟩ = some (.int .i64 kd) ∧ w'.cell? ⟨g1, k * 11 + 1, none⟩ = some (.string (bs nm)) ∧ w'.cell? ⟨g1, k * 11 + 2, none⟩ = some (.slice B1 l.length d1) ∧ w'.cell? ⟨g1, k * 11 + 3, none⟩ = some (.int .i64 rn) ∧ w'.cell? ⟨g1, k * 11 + 4, none⟩ = some (.int .i64 rm) ∧ w'.cell? ⟨g1, k * 11 + 5, none⟩ = some (.string (bs rf)) ∧ w'.cell? ⟨g1, k * 11 + 6, none⟩ = some (.string (bs rt)) ∧ w'.cell? ⟨g1, k * 11 + 7, none⟩ = some (.string (bs rb)) ∧ w'.cell? ⟨g1, k * 11 + 8, none⟩ = some (.string (bs ra)) ∧ w'.cell? ⟨g1, k * 11 + 9, none⟩ = some (.string (bs ri)) ∧ w'.cell? ⟨g1, k * 11 + 10, none⟩ = some (.int .i64 ln) ∧ w'.cell? ⟨g2, k * 11, none⟩ = some (.int .i64 kd) ∧ w'.cell? ⟨g2, k * 11 + 1, none⟩ = some (.string (bs nm)) ∧ w'.cell? ⟨g2, k * 11 + 2, none⟩ = some (.slice B2 l.length d2) ∧ w'.cell? ⟨g2, k * 11 + 3, none⟩ = some (.int .i64 rn) ∧ w'.cell? ⟨g2, k * 11 + 4, none⟩ = some (.int .i64 rm) ∧ w'.cell? ⟨g2, k * 11 + 5, none⟩ = some (.string (bs rf)) ∧ w'.cell? ⟨g2, k * 11 + 6, none⟩ = some (.string (bs rt)) ∧ w'.cell? ⟨g2, k * 11 + 7, none⟩ = some (.string (bs rb)) ∧ w'.cell? ⟨g2, k * 11 + 8, none⟩ = some (.string (bs ra)) ∧ w'.cell? ⟨g2, k * 11 + 9, none⟩ = some (.string (bs ri)) ∧ w'.cell? ⟨g2, k * 11 + 10, none⟩ = some (.int .i64 ln) := fun w' hb => ⟨(hb.cell (p := ⟨g1, k * 11, none⟩) hgl1).trans q0, (hb.cell (p := ⟨g1, k * 11 + 1, none⟩) hgl1).trans q1, (hb.cell (p := ⟨g1, k * 11 + 2, none⟩) hgl1).trans q2, (hb.cell (p := ⟨g1, k * 11 + 3, none⟩) hgl1).trans q3, (hb.cell (p := ⟨g1, k * 11 + 4, none⟩) hgl1).trans q4, (hb.cell (p := ⟨g1, k * 11 + 5, none⟩) hgl1).trans q5, (hb.cell (p := ⟨g1, k * 11 + 6, none⟩) hgl1).trans q6, (hb.cell (p := ⟨g1, k * 11 + 7, none⟩) hgl1).trans q7, (hb.cell (p := ⟨g1, k * 11 + 8, none⟩) hgl1).trans q8, (hb.cell (p := ⟨g1, k * 11 + 9, none⟩) hgl1).trans q9, (hb.cell (p := ⟨g1, k * 11 + 10, none⟩) hgl1).trans q10, (hb.cell (p := ⟨g2, k * 11, none⟩) hgl2).trans p0, (hb.cell (p := ⟨g2, k * 11 + 1, none⟩) hgl2).trans p1, (hb.cell (p := ⟨g2, k * 11 + 2, none⟩) hgl2).trans p2, (hb.cell (p := ⟨g2, k * 11 + 3, none⟩) hgl2).trans p3, (hb.cell (p := ⟨g2, k * 11 + 4, none⟩) hgl2).trans p4, (hb.cell (p := ⟨g2, k * 11 + 5, none⟩) hgl2).trans p5, (hb.cell (p := ⟨g2, k * 11 + 6, none⟩) hgl2).trans p6, (hb.cell (p := ⟨g2, k * 11 + 7, none⟩) hgl2).trans p7, (hb.cell (p := ⟨g2, k * 11 + 8, none⟩) hgl2).trans p8, (hb.cell (p := ⟨g2, k * 11 + 9, none⟩) hgl2).trans p9, (hb.cell (p := ⟨g2, k * 11 + 10, none⟩) hgl2).trans p10⟩
      have hbD : Below wr.heap.size wr wr.drew := below_drew (Below.refl wr.heap.size wr)
      clear q0 p0 q1 p1 q2 p2 q3 p3 q4 p4 q5 p5 q6 p6 q7 p7 q8 p8 q9 p9 q10 p10
      go_upto_region 6 with fail
      go_region_held3 (fun w' => w'.cell? ⟨g1, k * 11, none⟩ = some (.int .i64 kd) ∧ w'.cell? ⟨g1, k * 11 + 1, none⟩ = some (.string (bs nm)) ∧ w'.cell? ⟨g1, k * 11 + 2, none⟩ = some (.slice B1 l.length d1) ∧ w'.cell? ⟨g1, k * 11 + 3, none⟩ = some (.int .i64 rn) ∧ w'.cell? ⟨g1, k * 11 + 4, none⟩ = some (.int .i64 rm) ∧ w'.cell? ⟨g1, k * 11 + 5, none⟩ = some (.string (bs rf)) ∧ w'.cell? ⟨g1, k * 11 + 6, none⟩ = some (.string (bs rt)) ∧ w'.cell? ⟨g1, k * 11 + 7, none⟩ = some (.string (bs rb)) ∧ w'.cell? ⟨g1, k * 11 + 8, none⟩ = some (.string (bs ra)) ∧ w'.cell? ⟨g1, k * 11 + 9, none⟩ = some (.string (bs ri)) ∧ w'.cell? ⟨g1, k * 11 + 10, none⟩ = some (.int .i64 ln) ∧ w'.cell? ⟨g2, k * 11, none⟩ = some (.int .i64 kd) ∧ w'.cell? ⟨g2, k * 11 + 1, none⟩ = some (.string (bs nm)) ∧ w'.cell? ⟨g2, k * 11 + 2, none⟩ = some (.slice B2 l.length d2) ∧ w'.cell? ⟨g2, k * 11 + 3, none⟩ = some (.int .i64 rn) ∧ w'.cell? ⟨g2, k * 11 + 4, none⟩ = some (.int .i64 rm) ∧ w'.cell? ⟨g2, k * 11 + 5, none⟩ = some (.string (bs rf)) ∧ w'.cell? ⟨g2, k * 11 + 6, none⟩ = some (.string (bs rt)) ∧ w'.cell? ⟨g2, k * 11 + 7, none⟩ = some (.string (bs rb)) ∧ w'.cell? ⟨g2, k * 11 + 8, none⟩ = some (.string (bs ra)) ∧ w'.cell? ⟨g2, k * 11 + 9, none⟩ = some (.string (bs ri)) ∧ w'.cell? ⟨g2, k * 11 + 10, none⟩ = some (.int .i64 ln))
        (first | exact HSS _ hbD | exact HSS _ (by assumption))
        (first
          | (go_at_call 23; refine KR.mono ?_; rintro e w9 ⟨rfl, hb9⟩))
      all_goals
        go_wp2
        go_roundw
        case rel => exact ⟨k + 1, by omega, by go_num, below_then hbw hb9 hbz⟩
        case measure => simp [intOf]; omega
    · go_wp2
      go_ret
      exact ⟨rfl, hbw⟩
end Go.Proofs.YtgemciecdplcgaaDoor
