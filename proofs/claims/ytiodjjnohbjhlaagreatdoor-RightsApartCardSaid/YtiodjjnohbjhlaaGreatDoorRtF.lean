/-
  Package rights: take: an Ssd, a Dsd (printed by gen_rtd.py).
-/
import Derived.Test.YtiodjjnohbjhlaaGreatDoorRtD
namespace Go.Proofs.YtiodjjnohbjhlaaGreatDoor
set_option maxRecDepth 100000
open Go.ChangeShapes Go.WideShapes Go.ChangeAt Go.RowKit Go.Maps Go.WideMaps Go.ChangeMaps

section
variable (names : List Tx) (bl : List Nat) (w0 w : World) (b o m : Nat) (r : Rt) (vU vP vS vD vA : Value) (rn rm : Int) (nm rf rt rb ra ri : Tx) (l : List Tx) (B : Option Addr) (c : Nat) (ln : Int)
set_option maxHeartbeats 4000000 in
theorem take_stat (R : RtA w0 w b o r vU vP vS vD vA m) (hO : OrdAt w0 o names bl) (hL : ListAt w B c l) (hl : l.length ≤ 4096) (hn : r.stat.length ≤ 30) :
    Calls Tryz.prog 37 #[.pointer (some ⟨b, 0, none⟩), .agg #[.int .i64 4, .string (bs nm), .slice B l.length c, .int .i64 rn, .int .i64 rm, .string (bs rf), .string (bs rt), .string (bs rb), .string (bs ra), .string (bs ri), .int .i64 ln]] w
      (TakTo (sttE names r.stat ⟨4, nm, l, rn, rm, rf, rt, rb, ra, ri⟩) w0 w b o { r with stat := r.stat ++ [(rn, (rtSet names l 0).getD 0)] } m) := by
  obtain ⟨AS9, cS9, rfl⟩ := own_slice R.oS
  have RA := heap_alloc_new w (.cells #[.int .i64 4, .string (bs nm), .slice B l.length c, .int .i64 rn, .int .i64 rm, .string (bs rf), .string (bs rt), .string (bs rb), .string (bs ra), .string (bs ri), .int .i64 ln] 39)
  have hb1 := rbox w (.cells #[.int .i64 4, .string (bs nm), .slice B l.length c, .int .i64 rn, .int .i64 rm, .string (bs rf), .string (bs rt), .string (bs rb), .string (bs ra), .string (bs ri), .int .i64 ln] 39)
  have HR := Lib.hid (R.below hb1)
  have H0 := Lib.hid hb1
  have HL := Lib.hid (hL.below hb1)
  clear hb1 R hL
  go_enter Tryz.func37, Tryz.ntmps37
  go_upto_region 1 with fail
  have HRA := Lib.hid RA
  have q0 := row_q0 RA
  clear RA
  obtain ⟨gb, hgb⟩ : ∃ gb, gb = w.heap.size := ⟨_, rfl⟩
  rw [← hgb] at HRA q0 ⊢
  have HGB := Lib.hid hgb
  clear hgb
  generalize w.alloc (.cells #[.int .i64 4, .string (bs nm), .slice B l.length c, .int .i64 rn, .int .i64 rm, .string (bs rf), .string (bs rt), .string (bs rb), .string (bs ra), .string (bs ri), .int .i64 ln] 39) = w1 at *
  go_upto_region 7 with fail
  have HB := Lib.hid (Below.refl w1.heap.size w1)
  have q1 := row_q1 HRA.out; have q2 := row_q2 HRA.out; have q3 := row_q3 HRA.out; have q4 := row_q4 HRA.out; have q5 := row_q5 HRA.out; have q6 := row_q6 HRA.out; have q7 := row_q7 HRA.out; have q8 := row_q8 HRA.out; have q9 := row_q9 HRA.out; have q10 := row_q10 HRA.out
  have r1 := HR.out.q3
  have WH : Hid (∀ W, Below w1.heap.size w1 W → Calls Tryz.prog 80 #[.pointer (some ⟨b, 0, none⟩), .slice AS9 r.stat.length cS9, .agg #[.int .i64 4, .string (bs nm), .slice B l.length c, .int .i64 rn, .int .i64 rm, .string (bs rf), .string (bs rt), .string (bs rb), .string (bs ra), .string (bs ri), .int .i64 ln]] W
      (GrwTo (sttE names r.stat ⟨4, nm, l, rn, rm, rf, rt, rb, ra, ri⟩) w0.heap.size (.slice AS9 r.stat.length cS9) (fun w' v => OwnDS w' w0.heap.size v (r.stat ++ [(rn, (rtSet names l 0).getD 0)])) W)) := fun W hW => by
    have RW := HR.out.below hW
    exact withSet_any names bl r.stat AS9 cS9 w0.heap.size b o 4 rn rm nm rf rt rb ra ri l B c ln W RW.q0 RW.lt (hO.below RW.be) (HL.out.below hW) hl RW.oS RW.be.size hn
  generalize sttE names r.stat ⟨4, nm, l, rn, rm, rf, rt, rb, ra, ri⟩ = E at *
  by_cases hE : E = 0
  · have HE : Hid (E = 0) := hE
    clear hE
    go_region_with (go_at_call 80; refine (WH.out _ (by first | exact Below.refl _ _ | exact below_drew (Below.refl _ _))).mono ?_; intro e w3 h3; obtain ⟨w2, g2, cp2, n2, hb2', hg2, e9, ho2, hat2⟩ := h3.ok HE.out; subst e9; have hb2 : Below w1.heap.size w1 w2 := (by first | exact hb2' | exact below_then (below_drew (Below.refl _ _)) hb2' (Nat.le_refl _)); have r9 := (HR.out.below hb2).row1 hg2 (rt_row_ne (HR.out.below hb2).oS (HR.out.below hb2).row (by decide)); have s1 := cell_of_row w3 b 3 _ _ _ r9; have f1 : w3.frozen? ⟨b, 3, none⟩ = false := (by simp [World.frozen?, r9]); have R5 := Lib.hid (HR.out.stat' hb2 hg2 ho2 (own_hk hat2)); clear h3 r9)
    all_goals
      go_wp2
      go_ret
      first | exact takTo_ok HE.out R5.out | exact takTo_ok HE.out (R5.out.below (below_drew (Below.refl _ _)))
  · have HE : Hid (E ≠ 0) := hE
    clear hE
    go_region_with (go_at_call 80; refine (WH.out _ (by first | exact Below.refl _ _ | exact below_drew (Below.refl _ _))).mono ?_; intro e w2 h2; obtain ⟨e9, hb2'⟩ := h2.no HE.out; subst e9; have hb2 : Below w1.heap.size w1 w2 := (by first | exact hb2' | exact below_then (below_drew (Below.refl _ _)) hb2' (Nat.le_refl _)); have R2 := HR.out.below hb2; have s1 := R2.q3; have f1 := R2.fz 3; have R5 := Lib.hid (R2.be0 3 (.slice none 0 0)); have K5 := Lib.hid (tak_keep (b := b) (j := 3) (v := .slice none 0 0) H0.out hb2); clear h2 R2)
    all_goals
      go_wp2
      go_ret
      first | exact takTo_no HE.out R5.out K5.out | exact takTo_no HE.out (below_drew R5.out) K5.out
set_option maxHeartbeats 4000000 in
theorem take_dyn (R : RtA w0 w b o r vU vP vS vD vA m) (hO : OrdAt w0 o names bl) (hL : ListAt w B c l) (hl : l.length ≤ 4096) (hn : r.dyn.length ≤ 30) :
    Calls Tryz.prog 37 #[.pointer (some ⟨b, 0, none⟩), .agg #[.int .i64 5, .string (bs nm), .slice B l.length c, .int .i64 rn, .int .i64 rm, .string (bs rf), .string (bs rt), .string (bs rb), .string (bs ra), .string (bs ri), .int .i64 ln]] w
      (TakTo (sttE names r.dyn ⟨5, nm, l, rn, rm, rf, rt, rb, ra, ri⟩) w0 w b o { r with dyn := r.dyn ++ [(rn, (rtSet names l 0).getD 0)] } m) := by
  obtain ⟨AD9, cD9, rfl⟩ := own_slice R.oD
  have RA := heap_alloc_new w (.cells #[.int .i64 5, .string (bs nm), .slice B l.length c, .int .i64 rn, .int .i64 rm, .string (bs rf), .string (bs rt), .string (bs rb), .string (bs ra), .string (bs ri), .int .i64 ln] 39)
  have hb1 := rbox w (.cells #[.int .i64 5, .string (bs nm), .slice B l.length c, .int .i64 rn, .int .i64 rm, .string (bs rf), .string (bs rt), .string (bs rb), .string (bs ra), .string (bs ri), .int .i64 ln] 39)
  have HR := Lib.hid (R.below hb1)
  have H0 := Lib.hid hb1
  have HL := Lib.hid (hL.below hb1)
  clear hb1 R hL
  go_enter Tryz.func37, Tryz.ntmps37
  go_upto_region 1 with fail
  have HRA := Lib.hid RA
  have q0 := row_q0 RA
  clear RA
  obtain ⟨gb, hgb⟩ : ∃ gb, gb = w.heap.size := ⟨_, rfl⟩
  rw [← hgb] at HRA q0 ⊢
  have HGB := Lib.hid hgb
  clear hgb
  generalize w.alloc (.cells #[.int .i64 5, .string (bs nm), .slice B l.length c, .int .i64 rn, .int .i64 rm, .string (bs rf), .string (bs rt), .string (bs rb), .string (bs ra), .string (bs ri), .int .i64 ln] 39) = w1 at *
  go_upto_region 9 with fail
  have HB := Lib.hid (Below.refl w1.heap.size w1)
  have q1 := row_q1 HRA.out; have q2 := row_q2 HRA.out; have q3 := row_q3 HRA.out; have q4 := row_q4 HRA.out; have q5 := row_q5 HRA.out; have q6 := row_q6 HRA.out; have q7 := row_q7 HRA.out; have q8 := row_q8 HRA.out; have q9 := row_q9 HRA.out; have q10 := row_q10 HRA.out
  have r1 := HR.out.q4
  have WH : Hid (∀ W, Below w1.heap.size w1 W → Calls Tryz.prog 80 #[.pointer (some ⟨b, 0, none⟩), .slice AD9 r.dyn.length cD9, .agg #[.int .i64 5, .string (bs nm), .slice B l.length c, .int .i64 rn, .int .i64 rm, .string (bs rf), .string (bs rt), .string (bs rb), .string (bs ra), .string (bs ri), .int .i64 ln]] W
      (GrwTo (sttE names r.dyn ⟨5, nm, l, rn, rm, rf, rt, rb, ra, ri⟩) w0.heap.size (.slice AD9 r.dyn.length cD9) (fun w' v => OwnDS w' w0.heap.size v (r.dyn ++ [(rn, (rtSet names l 0).getD 0)])) W)) := fun W hW => by
    have RW := HR.out.below hW
    exact withSet_any names bl r.dyn AD9 cD9 w0.heap.size b o 5 rn rm nm rf rt rb ra ri l B c ln W RW.q0 RW.lt (hO.below RW.be) (HL.out.below hW) hl RW.oD RW.be.size hn
  generalize sttE names r.dyn ⟨5, nm, l, rn, rm, rf, rt, rb, ra, ri⟩ = E at *
  by_cases hE : E = 0
  · have HE : Hid (E = 0) := hE
    clear hE
    go_region_with (go_at_call 80; refine (WH.out _ (by first | exact Below.refl _ _ | exact below_drew (Below.refl _ _))).mono ?_; intro e w3 h3; obtain ⟨w2, g2, cp2, n2, hb2', hg2, e9, ho2, hat2⟩ := h3.ok HE.out; subst e9; have hb2 : Below w1.heap.size w1 w2 := (by first | exact hb2' | exact below_then (below_drew (Below.refl _ _)) hb2' (Nat.le_refl _)); have r9 := (HR.out.below hb2).row1 hg2 (rt_row_ne (HR.out.below hb2).oD (HR.out.below hb2).row (by decide)); have s1 := cell_of_row w3 b 4 _ _ _ r9; have f1 : w3.frozen? ⟨b, 4, none⟩ = false := (by simp [World.frozen?, r9]); have R5 := Lib.hid (HR.out.dyn' hb2 hg2 ho2 (own_hk hat2)); clear h3 r9)
    all_goals
      go_wp2
      go_ret
      first | exact takTo_ok HE.out R5.out | exact takTo_ok HE.out (R5.out.below (below_drew (Below.refl _ _)))
  · have HE : Hid (E ≠ 0) := hE
    clear hE
    go_region_with (go_at_call 80; refine (WH.out _ (by first | exact Below.refl _ _ | exact below_drew (Below.refl _ _))).mono ?_; intro e w2 h2; obtain ⟨e9, hb2'⟩ := h2.no HE.out; subst e9; have hb2 : Below w1.heap.size w1 w2 := (by first | exact hb2' | exact below_then (below_drew (Below.refl _ _)) hb2' (Nat.le_refl _)); have R2 := HR.out.below hb2; have s1 := R2.q4; have f1 := R2.fz 4; have R5 := Lib.hid (R2.be0 4 (.slice none 0 0)); have K5 := Lib.hid (tak_keep (b := b) (j := 4) (v := .slice none 0 0) H0.out hb2); clear h2 R2)
    all_goals
      go_wp2
      go_ret
      first | exact takTo_no HE.out R5.out K5.out | exact takTo_no HE.out (below_drew R5.out) K5.out
end
end Go.Proofs.YtiodjjnohbjhlaaGreatDoor
