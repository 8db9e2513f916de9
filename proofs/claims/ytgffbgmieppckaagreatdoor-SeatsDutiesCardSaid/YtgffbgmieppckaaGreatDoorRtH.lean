import Derived.Test.YtgffbgmieppckaaGreatDoorRtD
namespace Go.Proofs.YtgffbgmieppckaaGreatDoor
set_option maxRecDepth 100000
open Go.ChangeShapes Go.WideShapes Go.ChangeAt Go.RowKit Go.Maps Go.WideMaps Go.ChangeMaps
section
variable (names : List Tx) (bl : List Nat) (w0 w : World) (b o m : Nat) (r : Rt) (vU vP vS vD vA : Value) (rn rm : Int) (nm rf rt rb ra ri : Tx) (l : List Tx) (B : Option Addr) (c : Nat) (ln : Int)
set_option maxHeartbeats 4000000 in
theorem take_perm (R : RtA w0 w b o r vU vP vS vD vA m) (hO : OrdAt w0 o names bl) (hL : ListAt w B c l) (hl : l.length ≤ 4096) (hn : r.perms.length ≤ 30) :
  Calls Tryz.prog 73 #[.pointer (some ⟨b, 0, none⟩), .agg #[.int .i64 3, .string (bs nm), .slice B l.length c, .int .i64 rn, .int .i64 rm, .string (bs rf), .string (bs rt), .string (bs rb), .string (bs ra), .string (bs ri), .int .i64 ln]] w
   (TakTo (hldE names r.perms ⟨3, nm, l, rn, rm, rf, rt, rb, ra, ri⟩ 24) w0 w b o { r with perms := r.perms ++ [(nm, (rtSet names l 0).getD 0)] } m) := by
 obtain ⟨AP9, cP9, rfl⟩ := own_slice R.oP
 have RA := heap_alloc_new w (.cells #[.int .i64 3, .string (bs nm), .slice B l.length c, .int .i64 rn, .int .i64 rm, .string (bs rf), .string (bs rt), .string (bs rb), .string (bs ra), .string (bs ri), .int .i64 ln] 31)
 have hb1 := rbox w (.cells #[.int .i64 3, .string (bs nm), .slice B l.length c, .int .i64 rn, .int .i64 rm, .string (bs rf), .string (bs rt), .string (bs rb), .string (bs ra), .string (bs ri), .int .i64 ln] 31)
 have HR := Lib.hid (R.below hb1)
 have H0 := Lib.hid hb1
 have HL := Lib.hid (hL.below hb1)
 clear hb1 R hL
 go_enter Tryz.func73, Tryz.ntmps73
 go_upto_region 1 with fail
 have HRA := Lib.hid RA
 have q0 := row_q0 RA
 clear RA
 obtain ⟨gb, hgb⟩ : ∃ gb, gb = w.heap.size := ⟨_, rfl⟩
 rw [← hgb] at HRA q0 ⊢
 have HGB := Lib.hid hgb
 clear hgb
 generalize w.alloc (.cells #[.int .i64 3, .string (bs nm), .slice B l.length c, .int .i64 rn, .int .i64 rm, .string (bs rf), .string (bs rt), .string (bs rb), .string (bs ra), .string (bs ri), .int .i64 ln] 31) = w1 at *
 go_upto_region 5 with fail
 have HB := Lib.hid (Below.refl w1.heap.size w1)
 obtain ⟨q1, q2, q3, q4, q5, q6, q7, q8, q9, q10⟩ := row_qs1 HRA.out
 have r1 := HR.out.q2
 have WH : Hid (∀ W, Below w1.heap.size w1 W → Calls Tryz.prog 142 #[.pointer (some ⟨b, 0, none⟩), .slice AP9 r.perms.length cP9, .agg #[.int .i64 3, .string (bs nm), .slice B l.length c, .int .i64 rn, .int .i64 rm, .string (bs rf), .string (bs rt), .string (bs rb), .string (bs ra), .string (bs ri), .int .i64 ln], .int .i64 24] W
   (GrwTo (hldE names r.perms ⟨3, nm, l, rn, rm, rf, rt, rb, ra, ri⟩ 24) w0.heap.size (.slice AP9 r.perms.length cP9) (fun w' v => OwnH w' w0.heap.size v (r.perms ++ [(nm, (rtSet names l 0).getD 0)])) W)) := fun W hW => by
  have RW := HR.out.below hW
  exact withHolder_any names bl r.perms AP9 cP9 w0.heap.size b o 24 3 rn rm nm rf rt rb ra ri l B c ln W RW.q0 RW.lt (hO.below RW.be) (HL.out.below hW) hl RW.oP RW.be.size hn
 generalize hldE names r.perms ⟨3, nm, l, rn, rm, rf, rt, rb, ra, ri⟩ 24 = E at *
 by_cases hE : E = 0
 ·have HE : Hid (E = 0) := hE
  clear hE
  go_region_with (go_at_call 142; refine (WH.out _ (by first | exact Below.refl _ _ | exact below_drew (Below.refl _ _))).mono ?_; intro e w3 h3; obtain ⟨w2, g2, cp2, n2, hb2', hg2, e9, ho2, hat2⟩ := h3.ok HE.out; subst e9; have hb2 : Below w1.heap.size w1 w2 := (by first | exact hb2' | exact below_then (below_drew (Below.refl _ _)) hb2' (Nat.le_refl _)); have r9 := (HR.out.below hb2).row1 hg2 (rt_row_ne (HR.out.below hb2).oP (HR.out.below hb2).row (by decide)); have s1 := cell_of_row w3 b 2 _ _ _ r9; have f1 : w3.frozen? ⟨b, 2, none⟩ = false := (by simp [World.frozen?, r9]); have R5 := Lib.hid (HR.out.perms' hb2 hg2 ho2 (own_hk hat2)); clear h3 r9)
  all_goals
   go_wp2
   go_ret
   first | exact takTo_ok HE.out R5.out | exact takTo_ok HE.out (R5.out.below (below_drew (Below.refl _ _)))
 ·have HE : Hid (E ≠ 0) := hE
  clear hE
  go_region_with (go_at_call 142; refine (WH.out _ (by first | exact Below.refl _ _ | exact below_drew (Below.refl _ _))).mono ?_; intro e w2 h2; obtain ⟨e9, hb2'⟩ := h2.no HE.out; subst e9; have hb2 : Below w1.heap.size w1 w2 := (by first | exact hb2' | exact below_then (below_drew (Below.refl _ _)) hb2' (Nat.le_refl _)); have R2 := HR.out.below hb2; have s1 := R2.q2; have f1 := R2.fz 2; have R5 := Lib.hid (R2.be0 2 (.slice none 0 0)); have K5 := Lib.hid (tak_keep (b := b) (j := 2) (v := .slice none 0 0) H0.out hb2); clear h2 R2)
  all_goals
   go_wp2
   go_ret
   first | exact takTo_no HE.out R5.out K5.out | exact takTo_no HE.out (below_drew R5.out) K5.out
end
section
variable (names : List Tx) (bl : List Nat) (w0 w : World) (b o m : Nat) (r : Rt) (vU vP vS vD vA : Value) (rn rm : Int) (nm rf rt rb ra ri : Tx) (l : List Tx) (B : Option Addr) (c : Nat) (ln : Int)
set_option maxHeartbeats 4000000 in
theorem take_stat (R : RtA w0 w b o r vU vP vS vD vA m) (hO : OrdAt w0 o names bl) (hL : ListAt w B c l) (hl : l.length ≤ 4096) (hn : r.stat.length ≤ 30) :
  Calls Tryz.prog 73 #[.pointer (some ⟨b, 0, none⟩), .agg #[.int .i64 4, .string (bs nm), .slice B l.length c, .int .i64 rn, .int .i64 rm, .string (bs rf), .string (bs rt), .string (bs rb), .string (bs ra), .string (bs ri), .int .i64 ln]] w
   (TakTo (sttE names r.stat ⟨4, nm, l, rn, rm, rf, rt, rb, ra, ri⟩) w0 w b o { r with stat := r.stat ++ [(rn, (rtSet names l 0).getD 0)] } m) := by
 obtain ⟨AS9, cS9, rfl⟩ := own_slice R.oS
 have RA := heap_alloc_new w (.cells #[.int .i64 4, .string (bs nm), .slice B l.length c, .int .i64 rn, .int .i64 rm, .string (bs rf), .string (bs rt), .string (bs rb), .string (bs ra), .string (bs ri), .int .i64 ln] 31)
 have hb1 := rbox w (.cells #[.int .i64 4, .string (bs nm), .slice B l.length c, .int .i64 rn, .int .i64 rm, .string (bs rf), .string (bs rt), .string (bs rb), .string (bs ra), .string (bs ri), .int .i64 ln] 31)
 have HR := Lib.hid (R.below hb1)
 have H0 := Lib.hid hb1
 have HL := Lib.hid (hL.below hb1)
 clear hb1 R hL
 go_enter Tryz.func73, Tryz.ntmps73
 go_upto_region 1 with fail
 have HRA := Lib.hid RA
 have q0 := row_q0 RA
 clear RA
 obtain ⟨gb, hgb⟩ : ∃ gb, gb = w.heap.size := ⟨_, rfl⟩
 rw [← hgb] at HRA q0 ⊢
 have HGB := Lib.hid hgb
 clear hgb
 generalize w.alloc (.cells #[.int .i64 4, .string (bs nm), .slice B l.length c, .int .i64 rn, .int .i64 rm, .string (bs rf), .string (bs rt), .string (bs rb), .string (bs ra), .string (bs ri), .int .i64 ln] 31) = w1 at *
 go_upto_region 7 with fail
 have HB := Lib.hid (Below.refl w1.heap.size w1)
 obtain ⟨q1, q2, q3, q4, q5, q6, q7, q8, q9, q10⟩ := row_qs1 HRA.out
 have r1 := HR.out.q3
 have WH : Hid (∀ W, Below w1.heap.size w1 W → Calls Tryz.prog 143 #[.pointer (some ⟨b, 0, none⟩), .slice AS9 r.stat.length cS9, .agg #[.int .i64 4, .string (bs nm), .slice B l.length c, .int .i64 rn, .int .i64 rm, .string (bs rf), .string (bs rt), .string (bs rb), .string (bs ra), .string (bs ri), .int .i64 ln]] W
   (GrwTo (sttE names r.stat ⟨4, nm, l, rn, rm, rf, rt, rb, ra, ri⟩) w0.heap.size (.slice AS9 r.stat.length cS9) (fun w' v => OwnDS w' w0.heap.size v (r.stat ++ [(rn, (rtSet names l 0).getD 0)])) W)) := fun W hW => by
  have RW := HR.out.below hW
  exact withSet_any names bl r.stat AS9 cS9 w0.heap.size b o 4 rn rm nm rf rt rb ra ri l B c ln W RW.q0 RW.lt (hO.below RW.be) (HL.out.below hW) hl RW.oS RW.be.size hn
 generalize sttE names r.stat ⟨4, nm, l, rn, rm, rf, rt, rb, ra, ri⟩ = E at *
 by_cases hE : E = 0
 ·have HE : Hid (E = 0) := hE
  clear hE
  go_region_with (go_at_call 143; refine (WH.out _ (by first | exact Below.refl _ _ | exact below_drew (Below.refl _ _))).mono ?_; intro e w3 h3; obtain ⟨w2, g2, cp2, n2, hb2', hg2, e9, ho2, hat2⟩ := h3.ok HE.out; subst e9; have hb2 : Below w1.heap.size w1 w2 := (by first | exact hb2' | exact below_then (below_drew (Below.refl _ _)) hb2' (Nat.le_refl _)); have r9 := (HR.out.below hb2).row1 hg2 (rt_row_ne (HR.out.below hb2).oS (HR.out.below hb2).row (by decide)); have s1 := cell_of_row w3 b 3 _ _ _ r9; have f1 : w3.frozen? ⟨b, 3, none⟩ = false := (by simp [World.frozen?, r9]); have R5 := Lib.hid (HR.out.stat' hb2 hg2 ho2 (own_hk hat2)); clear h3 r9)
  all_goals
   go_wp2
   go_ret
   first | exact takTo_ok HE.out R5.out | exact takTo_ok HE.out (R5.out.below (below_drew (Below.refl _ _)))
 ·have HE : Hid (E ≠ 0) := hE
  clear hE
  go_region_with (go_at_call 143; refine (WH.out _ (by first | exact Below.refl _ _ | exact below_drew (Below.refl _ _))).mono ?_; intro e w2 h2; obtain ⟨e9, hb2'⟩ := h2.no HE.out; subst e9; have hb2 : Below w1.heap.size w1 w2 := (by first | exact hb2' | exact below_then (below_drew (Below.refl _ _)) hb2' (Nat.le_refl _)); have R2 := HR.out.below hb2; have s1 := R2.q3; have f1 := R2.fz 3; have R5 := Lib.hid (R2.be0 3 (.slice none 0 0)); have K5 := Lib.hid (tak_keep (b := b) (j := 3) (v := .slice none 0 0) H0.out hb2); clear h2 R2)
  all_goals
   go_wp2
   go_ret
   first | exact takTo_no HE.out R5.out K5.out | exact takTo_no HE.out (below_drew R5.out) K5.out
set_option maxHeartbeats 4000000 in
theorem take_dyn (R : RtA w0 w b o r vU vP vS vD vA m) (hO : OrdAt w0 o names bl) (hL : ListAt w B c l) (hl : l.length ≤ 4096) (hn : r.dyn.length ≤ 30) :
  Calls Tryz.prog 73 #[.pointer (some ⟨b, 0, none⟩), .agg #[.int .i64 5, .string (bs nm), .slice B l.length c, .int .i64 rn, .int .i64 rm, .string (bs rf), .string (bs rt), .string (bs rb), .string (bs ra), .string (bs ri), .int .i64 ln]] w
   (TakTo (sttE names r.dyn ⟨5, nm, l, rn, rm, rf, rt, rb, ra, ri⟩) w0 w b o { r with dyn := r.dyn ++ [(rn, (rtSet names l 0).getD 0)] } m) := by
 obtain ⟨AD9, cD9, rfl⟩ := own_slice R.oD
 have RA := heap_alloc_new w (.cells #[.int .i64 5, .string (bs nm), .slice B l.length c, .int .i64 rn, .int .i64 rm, .string (bs rf), .string (bs rt), .string (bs rb), .string (bs ra), .string (bs ri), .int .i64 ln] 31)
 have hb1 := rbox w (.cells #[.int .i64 5, .string (bs nm), .slice B l.length c, .int .i64 rn, .int .i64 rm, .string (bs rf), .string (bs rt), .string (bs rb), .string (bs ra), .string (bs ri), .int .i64 ln] 31)
 have HR := Lib.hid (R.below hb1)
 have H0 := Lib.hid hb1
 have HL := Lib.hid (hL.below hb1)
 clear hb1 R hL
 go_enter Tryz.func73, Tryz.ntmps73
 go_upto_region 1 with fail
 have HRA := Lib.hid RA
 have q0 := row_q0 RA
 clear RA
 obtain ⟨gb, hgb⟩ : ∃ gb, gb = w.heap.size := ⟨_, rfl⟩
 rw [← hgb] at HRA q0 ⊢
 have HGB := Lib.hid hgb
 clear hgb
 generalize w.alloc (.cells #[.int .i64 5, .string (bs nm), .slice B l.length c, .int .i64 rn, .int .i64 rm, .string (bs rf), .string (bs rt), .string (bs rb), .string (bs ra), .string (bs ri), .int .i64 ln] 31) = w1 at *
 go_upto_region 9 with fail
 have HB := Lib.hid (Below.refl w1.heap.size w1)
 obtain ⟨q1, q2, q3, q4, q5, q6, q7, q8, q9, q10⟩ := row_qs1 HRA.out
 have r1 := HR.out.q4
 have WH : Hid (∀ W, Below w1.heap.size w1 W → Calls Tryz.prog 143 #[.pointer (some ⟨b, 0, none⟩), .slice AD9 r.dyn.length cD9, .agg #[.int .i64 5, .string (bs nm), .slice B l.length c, .int .i64 rn, .int .i64 rm, .string (bs rf), .string (bs rt), .string (bs rb), .string (bs ra), .string (bs ri), .int .i64 ln]] W
   (GrwTo (sttE names r.dyn ⟨5, nm, l, rn, rm, rf, rt, rb, ra, ri⟩) w0.heap.size (.slice AD9 r.dyn.length cD9) (fun w' v => OwnDS w' w0.heap.size v (r.dyn ++ [(rn, (rtSet names l 0).getD 0)])) W)) := fun W hW => by
  have RW := HR.out.below hW
  exact withSet_any names bl r.dyn AD9 cD9 w0.heap.size b o 5 rn rm nm rf rt rb ra ri l B c ln W RW.q0 RW.lt (hO.below RW.be) (HL.out.below hW) hl RW.oD RW.be.size hn
 generalize sttE names r.dyn ⟨5, nm, l, rn, rm, rf, rt, rb, ra, ri⟩ = E at *
 by_cases hE : E = 0
 ·have HE : Hid (E = 0) := hE
  clear hE
  go_region_with (go_at_call 143; refine (WH.out _ (by first | exact Below.refl _ _ | exact below_drew (Below.refl _ _))).mono ?_; intro e w3 h3; obtain ⟨w2, g2, cp2, n2, hb2', hg2, e9, ho2, hat2⟩ := h3.ok HE.out; subst e9; have hb2 : Below w1.heap.size w1 w2 := (by first | exact hb2' | exact below_then (below_drew (Below.refl _ _)) hb2' (Nat.le_refl _)); have r9 := (HR.out.below hb2).row1 hg2 (rt_row_ne (HR.out.below hb2).oD (HR.out.below hb2).row (by decide)); have s1 := cell_of_row w3 b 4 _ _ _ r9; have f1 : w3.frozen? ⟨b, 4, none⟩ = false := (by simp [World.frozen?, r9]); have R5 := Lib.hid (HR.out.dyn' hb2 hg2 ho2 (own_hk hat2)); clear h3 r9)
  all_goals
   go_wp2
   go_ret
   first | exact takTo_ok HE.out R5.out | exact takTo_ok HE.out (R5.out.below (below_drew (Below.refl _ _)))
 ·have HE : Hid (E ≠ 0) := hE
  clear hE
  go_region_with (go_at_call 143; refine (WH.out _ (by first | exact Below.refl _ _ | exact below_drew (Below.refl _ _))).mono ?_; intro e w2 h2; obtain ⟨e9, hb2'⟩ := h2.no HE.out; subst e9; have hb2 : Below w1.heap.size w1 w2 := (by first | exact hb2' | exact below_then (below_drew (Below.refl _ _)) hb2' (Nat.le_refl _)); have R2 := HR.out.below hb2; have s1 := R2.q4; have f1 := R2.fz 4; have R5 := Lib.hid (R2.be0 4 (.slice none 0 0)); have K5 := Lib.hid (tak_keep (b := b) (j := 4) (v := .slice none 0 0) H0.out hb2); clear h2 R2)
  all_goals
   go_wp2
   go_ret
   first | exact takTo_no HE.out R5.out K5.out | exact takTo_no HE.out (below_drew R5.out) K5.out
end
theorem ll_row_ne {w : World} {base b : Nat} {v : Value} {L : List (List Tx)} {cs : Array Value} {fz : Nat × Nat} (h : OwnLL w base v L) (r : w.heap[b]? = some (.cells cs 148 fz)) : v.ownBlock ≠ some b := by
 obtain ⟨_, _, ho, _⟩ := h
 exact rt_row_ne ho r (by decide)
section
variable (names : List Tx) (bl : List Nat) (w0 w : World) (b o m : Nat) (r : Rt) (vU vP vS vD vA : Value) (rn rm : Int) (nm rf rt rb ra ri : Tx) (l : List Tx) (B : Option Addr) (c : Nat) (ln : Int)
set_option maxHeartbeats 4000000 in
theorem take_apart (R : RtA w0 w b o r vU vP vS vD vA m) (hL : ListAt w B c l) (hl : l.length ≤ 4096) (hn : r.apart.length ≤ 30) :
  Calls Tryz.prog 73 #[.pointer (some ⟨b, 0, none⟩), .agg #[.int .i64 6, .string (bs nm), .slice B l.length c, .int .i64 rn, .int .i64 rm, .string (bs rf), .string (bs rt), .string (bs rb), .string (bs ra), .string (bs ri), .int .i64 ln]] w
   (TakTo (tskE r.apart) w0 w b o { r with apart := r.apart ++ [l] } m) := by
 obtain ⟨AA9, cA9, rfl⟩ := ownLL_slice R.oA
 have RA := heap_alloc_new w (.cells #[.int .i64 6, .string (bs nm), .slice B l.length c, .int .i64 rn, .int .i64 rm, .string (bs rf), .string (bs rt), .string (bs rb), .string (bs ra), .string (bs ri), .int .i64 ln] 31)
 have hb1 := rbox w (.cells #[.int .i64 6, .string (bs nm), .slice B l.length c, .int .i64 rn, .int .i64 rm, .string (bs rf), .string (bs rt), .string (bs rb), .string (bs ra), .string (bs ri), .int .i64 ln] 31)
 have HR := Lib.hid (R.below hb1)
 have H0 := Lib.hid hb1
 have HL := Lib.hid (hL.below hb1)
 clear hb1 R hL
 go_enter Tryz.func73, Tryz.ntmps73
 go_upto_region 1 with fail
 have HRA := Lib.hid RA
 have q0 := row_q0 RA
 clear RA
 obtain ⟨gb, hgb⟩ : ∃ gb, gb = w.heap.size := ⟨_, rfl⟩
 rw [← hgb] at HRA q0 ⊢
 have HGB := Lib.hid hgb
 clear hgb
 generalize w.alloc (.cells #[.int .i64 6, .string (bs nm), .slice B l.length c, .int .i64 rn, .int .i64 rm, .string (bs rf), .string (bs rt), .string (bs rb), .string (bs ra), .string (bs ri), .int .i64 ln] 31) = w1 at *
 go_upto_region 11 with fail
 have HB := Lib.hid (Below.refl w1.heap.size w1)
 obtain ⟨q1, q2, q3, q4, q5, q6, q7, q8, q9, q10⟩ := row_qs1 HRA.out
 have r1 := HR.out.q5
 have WH : Hid (∀ W, Below w1.heap.size w1 W → Calls Tryz.prog 144 #[.slice AA9 r.apart.length cA9, .agg #[.int .i64 6, .string (bs nm), .slice B l.length c, .int .i64 rn, .int .i64 rm, .string (bs rf), .string (bs rt), .string (bs rb), .string (bs ra), .string (bs ri), .int .i64 ln]] W
   (GrwTo (tskE r.apart) w0.heap.size (.slice AA9 r.apart.length cA9) (fun w' v => OwnLL w' w0.heap.size v (r.apart ++ [l])) W)) := fun W hW => by
  have RW := HR.out.below hW
  exact withTasks_any r.apart AA9 cA9 w0.heap.size 6 rn rm nm rf rt rb ra ri l B c ln W (HL.out.below hW) hl RW.oA RW.be.size hn
 generalize tskE r.apart = E at *
 by_cases hE : E = 0
 ·have HE : Hid (E = 0) := hE
  clear hE
  go_region_with (go_at_call 144; refine (WH.out _ (by first | exact Below.refl _ _ | exact below_drew (Below.refl _ _))).mono ?_; intro e w3 h3; obtain ⟨w2, g2, cp2, n2, hb2', hg2, e9, ho2, hat2⟩ := h3.ok HE.out; subst e9; have hb2 : Below w1.heap.size w1 w2 := (by first | exact hb2' | exact below_then (below_drew (Below.refl _ _)) hb2' (Nat.le_refl _)); have r9 := (HR.out.below hb2).row1 hg2 (ll_row_ne (HR.out.below hb2).oA (HR.out.below hb2).row); have s1 := cell_of_row w3 b 5 _ _ _ r9; have f1 : w3.frozen? ⟨b, 5, none⟩ = false := (by simp [World.frozen?, r9]); have R5 := Lib.hid (HR.out.apart' hb2 hg2 ho2); clear h3 r9)
  all_goals
   go_wp2
   go_ret
   first | exact takTo_ok HE.out R5.out | exact takTo_ok HE.out (R5.out.below (below_drew (Below.refl _ _)))
 ·have HE : Hid (E ≠ 0) := hE
  clear hE
  go_region_with (go_at_call 144; refine (WH.out _ (by first | exact Below.refl _ _ | exact below_drew (Below.refl _ _))).mono ?_; intro e w2 h2; obtain ⟨e9, hb2'⟩ := h2.no HE.out; subst e9; have hb2 : Below w1.heap.size w1 w2 := (by first | exact hb2' | exact below_then (below_drew (Below.refl _ _)) hb2' (Nat.le_refl _)); have R2 := HR.out.below hb2; have s1 := R2.q5; have f1 := R2.fz 5; have R5 := Lib.hid (R2.be0 5 (.slice none 0 0)); have K5 := Lib.hid (tak_keep (b := b) (j := 5) (v := .slice none 0 0) H0.out hb2); clear h2 R2)
  all_goals
   go_wp2
   go_ret
   first | exact takTo_no HE.out R5.out K5.out | exact takTo_no HE.out (below_drew R5.out) K5.out
set_option maxHeartbeats 4000000 in
theorem take_lend (R : RtA w0 w b o r vU vP vS vD vA m) (hO : OrdAt w0 o names bl) (hn : r.loans.length ≤ 1000) (hnm : nm.length ≤ 1048576) :
  Calls Tryz.prog 73 #[.pointer (some ⟨b, 0, none⟩), .agg #[.int .i64 7, .string (bs nm), .slice B l.length c, .int .i64 rn, .int .i64 rm, .string (bs rf), .string (bs rt), .string (bs rb), .string (bs ra), .string (bs ri), .int .i64 ln]] w
   (TakTo (lonE names r.loans nm) w0 w b o { r with loans := r.loans ++ [(nm, rn, rm)] } m) := by
 have RA := heap_alloc_new w (.cells #[.int .i64 7, .string (bs nm), .slice B l.length c, .int .i64 rn, .int .i64 rm, .string (bs rf), .string (bs rt), .string (bs rb), .string (bs ra), .string (bs ri), .int .i64 ln] 31)
 have hb1 := rbox w (.cells #[.int .i64 7, .string (bs nm), .slice B l.length c, .int .i64 rn, .int .i64 rm, .string (bs rf), .string (bs rt), .string (bs rb), .string (bs ra), .string (bs ri), .int .i64 ln] 31)
 have HR := Lib.hid (R.below hb1)
 have H0 := Lib.hid hb1
 clear hb1 R
 go_enter Tryz.func73, Tryz.ntmps73
 go_upto_region 1 with fail
 have HRA := Lib.hid RA
 have q0 := row_q0 RA
 clear RA
 obtain ⟨gb, hgb⟩ : ∃ gb, gb = w.heap.size := ⟨_, rfl⟩
 rw [← hgb] at HRA q0 ⊢
 have HGB := Lib.hid hgb
 clear hgb
 generalize w.alloc (.cells #[.int .i64 7, .string (bs nm), .slice B l.length c, .int .i64 rn, .int .i64 rm, .string (bs rf), .string (bs rt), .string (bs rb), .string (bs ra), .string (bs ri), .int .i64 ln] 31) = w1 at *
 go_upto_region 13 with fail
 obtain ⟨q1, q2, q3, q4, q5, q6, q7, q8, q9, q10⟩ := row_qs1 HRA.out
 have TL := Lib.hid (takeLoan_any names bl r.loans b o m 7 rn rm nm rf rt rb ra ri l B c ln w1 HR.out.q0 HR.out.q6 HR.out.lt (hO.below HR.out.be) HR.out.mp hn hnm)
 generalize lonE names r.loans nm = E at *
 by_cases hE : E = 0
 ·have HE : Hid (E = 0) := hE
  clear hE
  go_wp2_with (go_at_call 145; refine TL.out.mono ?_; intro e w3 h3; obtain ⟨e9, w2, hb2, hg2, ho2⟩ := h3.ok HE.out; subst e9; have R5 := Lib.hid (HR.out.loans' hb2 hg2 ho2); clear h3)
  go_ret
  exact takTo_ok HE.out R5.out
 ·have HE : Hid (E ≠ 0) := hE
  clear hE
  go_wp2_with (go_at_call 145; refine TL.out.mono ?_; intro e w3 h3; obtain ⟨e9, hb2⟩ := h3.no HE.out; subst e9; have R5 := Lib.hid (HR.out.below hb2).be; have K5 := Lib.hid (tak_keep0 (b := b) H0.out hb2); clear h3)
  go_ret
  exact takTo_no HE.out R5.out K5.out
set_option maxHeartbeats 4000000 in
theorem take_other (kd : Int) (hk : kd < 2 ∨ 7 < kd) (R : RtA w0 w b o r vU vP vS vD vA m) :
  Calls Tryz.prog 73 #[.pointer (some ⟨b, 0, none⟩), .agg #[.int .i64 kd, .string (bs nm), .slice B l.length c, .int .i64 rn, .int .i64 rm, .string (bs rf), .string (bs rt), .string (bs rb), .string (bs ra), .string (bs ri), .int .i64 ln]] w
   (TakTo 0 w0 w b o r m) := by
 have RA := heap_alloc_new w (.cells #[.int .i64 kd, .string (bs nm), .slice B l.length c, .int .i64 rn, .int .i64 rm, .string (bs rf), .string (bs rt), .string (bs rb), .string (bs ra), .string (bs ri), .int .i64 ln] 31)
 have hb1 := rbox w (.cells #[.int .i64 kd, .string (bs nm), .slice B l.length c, .int .i64 rn, .int .i64 rm, .string (bs rf), .string (bs rt), .string (bs rb), .string (bs ra), .string (bs ri), .int .i64 ln] 31)
 have HR := Lib.hid (R.below hb1)
 have k2 : (kd == 2) = false := beq_eq_false_iff_ne.2 (by omega)
 have k3 : (kd == 3) = false := beq_eq_false_iff_ne.2 (by omega)
 have k4 : (kd == 4) = false := beq_eq_false_iff_ne.2 (by omega)
 have k5 : (kd == 5) = false := beq_eq_false_iff_ne.2 (by omega)
 have k6 : (kd == 6) = false := beq_eq_false_iff_ne.2 (by omega)
 have k7 : (kd == 7) = false := beq_eq_false_iff_ne.2 (by omega)
 clear hb1 R hk
 go_enter Tryz.func73, Tryz.ntmps73
 go_upto_region 1 with fail
 have q0 := row_q0 RA
 clear RA
 generalize w.alloc (.cells #[.int .i64 kd, .string (bs nm), .slice B l.length c, .int .i64 rn, .int .i64 rm, .string (bs rf), .string (bs rt), .string (bs rb), .string (bs ra), .string (bs ri), .int .i64 ln] 31) = w1 at *
 go_wp2
 go_ret
 exact takTo_ok rfl HR.out
end
structure RtI (r : Rt) (k : Nat) : Prop where
 nu : r.users.length ≤ 12
 np : r.perms.length ≤ 24
 ns : r.stat.length ≤ 8
 nd : r.dyn.length ≤ 8
 na : r.apart.length ≤ 8
 nl : r.loans.length ≤ k
 su : ∀ p ∈ r.users, p.2 < 16777216
 sp : ∀ p ∈ r.perms, p.2 < 16777216
 ss : ∀ p ∈ r.stat, p.2 < 16777216
 sd : ∀ p ∈ r.dyn, p.2 < 16777216
theorem rtI_nil : RtI {} 0 := ⟨Nat.zero_le _, Nat.zero_le _, Nat.zero_le _, Nat.zero_le _, Nat.zero_le _, Nat.zero_le _, (fun p h => by cases h), (fun p h => by cases h), (fun p h => by cases h), (fun p h => by cases h)⟩
theorem RtI.more {r : Rt} {k : Nat} (h : RtI r k) : RtI r (k + 1) := ⟨h.nu, h.np, h.ns, h.nd, h.na, Nat.le_succ_of_le h.nl, h.su, h.sp, h.ss, h.sd⟩
theorem rtSet_d {names : List Tx} (hn : names.length ≤ 24) (l : List Tx) : (rtSet names l 0).getD 0 < 16777216 := by
 cases hs : rtSet names l 0 with
 | none => show 0 < _; omega
 | some s => exact rtSet_lt hn (by omega) hs
theorem hldE_lt {names : List Tx} {l : List (Tx × Nat)} {x : Ru} {most : Nat} (h : hldE names l x most = 0) : l.length < most := by
 unfold hldE at h
 split at h
 ·cases h
 ·split at h
  ·cases h
  ·omega
theorem sttE_lt {names : List Tx} {l : List (Int × Nat)} {x : Ru} (h : sttE names l x = 0) : l.length < 8 := by
 unfold sttE at h
 split at h
 ·cases h
 ·omega
theorem mem_snoc {α : Type} {P : α → Prop} {l : List α} {x : α} (h : ∀ p ∈ l, P p) (hx : P x) : ∀ p ∈ l ++ [x], P p := fun p hp => by
 rcases List.mem_append.1 hp with hp | hp
 ·exact h p hp
 ·rw [List.mem_singleton.1 hp]; exact hx
theorem rtE2 {names : List Tx} {r : Rt} {x : Ru} (h : x.kind = 2) : rtE names r x = hldE names r.users x 12 ∧ rtN names r x = { r with users := r.users ++ [(x.name, (rtSet names x.list 0).getD 0)] } := by
 constructor <;> simp [rtE, rtN, h]
theorem rtE3 {names : List Tx} {r : Rt} {x : Ru} (h : x.kind = 3) : rtE names r x = hldE names r.perms x 24 ∧ rtN names r x = { r with perms := r.perms ++ [(x.name, (rtSet names x.list 0).getD 0)] } := by
 constructor <;> simp [rtE, rtN, h]
theorem rtE4 {names : List Tx} {r : Rt} {x : Ru} (h : x.kind = 4) : rtE names r x = sttE names r.stat x ∧ rtN names r x = { r with stat := r.stat ++ [(x.n, (rtSet names x.list 0).getD 0)] } := by
 constructor <;> simp [rtE, rtN, h]
theorem rtE5 {names : List Tx} {r : Rt} {x : Ru} (h : x.kind = 5) : rtE names r x = sttE names r.dyn x ∧ rtN names r x = { r with dyn := r.dyn ++ [(x.n, (rtSet names x.list 0).getD 0)] } := by
 constructor <;> simp [rtE, rtN, h]
theorem rtE6 {names : List Tx} {r : Rt} {x : Ru} (h : x.kind = 6) : rtE names r x = tskE r.apart ∧ rtN names r x = { r with apart := r.apart ++ [x.list] } := by
 constructor <;> simp [rtE, rtN, tskE, h]
theorem rtE7 {names : List Tx} {r : Rt} {x : Ru} (h : x.kind = 7) : rtE names r x = lonE names r.loans x.name ∧ rtN names r x = { r with loans := r.loans ++ [(x.name, x.n, x.m)] } := by
 constructor <;> simp [rtE, rtN, lonE, h]
theorem rtE0 {names : List Tx} {r : Rt} {x : Ru} (h : x.kind < 2 ∨ 7 < x.kind) : rtE names r x = 0 ∧ rtN names r x = r := by
 have h2 : ¬ x.kind = 2 := by omega
 have h3 : ¬ x.kind = 3 := by omega
 have h4 : ¬ x.kind = 4 := by omega
 have h5 : ¬ x.kind = 5 := by omega
 have h6 : ¬ x.kind = 6 := by omega
 have h7 : ¬ x.kind = 7 := by omega
 constructor <;> simp [rtE, rtN, h2, h3, h4, h5, h6, h7]
theorem kinds27 (k : Int) : k = 2 ∨ k = 3 ∨ k = 4 ∨ k = 5 ∨ k = 6 ∨ k = 7 ∨ (k < 2 ∨ 7 < k) := by omega
theorem RtI.next {names : List Tx} (hn : names.length ≤ 24) {r : Rt} {k : Nat} {x : Ru} (h : RtI r k) (hE : rtE names r x = 0) : RtI (rtN names r x) (k + 1) := by
 rcases kinds27 x.kind with hk | hk | hk | hk | hk | hk | hk
 ·obtain ⟨e1, e2⟩ := rtE2 (names := names) (r := r) hk
  rw [e1] at hE; rw [e2]
  have := hldE_lt hE
  exact ⟨by simp; omega, h.np, h.ns, h.nd, h.na, h.more.nl, mem_snoc h.su (rtSet_d hn _), h.sp, h.ss, h.sd⟩
 ·obtain ⟨e1, e2⟩ := rtE3 (names := names) (r := r) hk
  rw [e1] at hE; rw [e2]
  have := hldE_lt hE
  exact ⟨h.nu, by simp; omega, h.ns, h.nd, h.na, h.more.nl, h.su, mem_snoc h.sp (rtSet_d hn _), h.ss, h.sd⟩
 ·obtain ⟨e1, e2⟩ := rtE4 (names := names) (r := r) hk
  rw [e1] at hE; rw [e2]
  have := sttE_lt hE
  exact ⟨h.nu, h.np, by simp; omega, h.nd, h.na, h.more.nl, h.su, h.sp, mem_snoc h.ss (rtSet_d hn _), h.sd⟩
 ·obtain ⟨e1, e2⟩ := rtE5 (names := names) (r := r) hk
  rw [e1] at hE; rw [e2]
  have := sttE_lt hE
  exact ⟨h.nu, h.np, h.ns, by simp; omega, h.na, h.more.nl, h.su, h.sp, h.ss, mem_snoc h.sd (rtSet_d hn _)⟩
 ·obtain ⟨e1, e2⟩ := rtE6 (names := names) (r := r) hk
  rw [e1] at hE; rw [e2]
  have : r.apart.length < 8 := by
   unfold tskE at hE
   split at hE
   ·cases hE
   ·omega
  exact ⟨h.nu, h.np, h.ns, h.nd, by simp; omega, h.more.nl, h.su, h.sp, h.ss, h.sd⟩
 ·obtain ⟨_, e2⟩ := rtE7 (names := names) (r := r) hk
  rw [e2]
  exact ⟨h.nu, h.np, h.ns, h.nd, h.na, by have := h.nl; simp; omega, h.su, h.sp, h.ss, h.sd⟩
 ·rw [(rtE0 (names := names) (r := r) hk).2]; exact h.more
theorem rtake_any (names : List Tx) (bl : List Nat) (w0 w : World) (b o m : Nat) (r : Rt) (vU vP vS vD vA : Value) (x : Ru) (B : Option Addr) (c : Nat) (ln : Int) (k : Nat) (R : RtA w0 w b o r vU vP vS vD vA m) (hI : RtI r k) (hk : k ≤ 1000) (hO : OrdAt w0 o names bl) (hL : ListAt w B c x.list) (hl : x.list.length ≤ 4096) (hnm : x.name.length ≤ 1048576) :
  Calls Tryz.prog 73 #[.pointer (some ⟨b, 0, none⟩), ruV x (.slice B x.list.length c) ln] w (TakTo (rtE names r x) w0 w b o (rtN names r x) m) := by
 obtain ⟨kd, nm, l, rn, rm, rf, rt, rb, ra, ri⟩ := x
 rcases kinds27 kd with hk | hk | hk | hk | hk | hk | hk
 ·obtain ⟨e1, e2⟩ := rtE2 (names := names) (r := r) (x := ⟨kd, nm, l, rn, rm, rf, rt, rb, ra, ri⟩) hk
  rw [e1, e2]; subst hk
  exact take_user names bl w0 w b o m r vU vP vS vD vA rn rm nm rf rt rb ra ri l B c ln R hO hL hl (Nat.le_trans hI.nu (by decide))
 ·obtain ⟨e1, e2⟩ := rtE3 (names := names) (r := r) (x := ⟨kd, nm, l, rn, rm, rf, rt, rb, ra, ri⟩) hk
  rw [e1, e2]; subst hk
  exact take_perm names bl w0 w b o m r vU vP vS vD vA rn rm nm rf rt rb ra ri l B c ln R hO hL hl (Nat.le_trans hI.np (by decide))
 ·obtain ⟨e1, e2⟩ := rtE4 (names := names) (r := r) (x := ⟨kd, nm, l, rn, rm, rf, rt, rb, ra, ri⟩) hk
  rw [e1, e2]; subst hk
  exact take_stat names bl w0 w b o m r vU vP vS vD vA rn rm nm rf rt rb ra ri l B c ln R hO hL hl (Nat.le_trans hI.ns (by decide))
 ·obtain ⟨e1, e2⟩ := rtE5 (names := names) (r := r) (x := ⟨kd, nm, l, rn, rm, rf, rt, rb, ra, ri⟩) hk
  rw [e1, e2]; subst hk
  exact take_dyn names bl w0 w b o m r vU vP vS vD vA rn rm nm rf rt rb ra ri l B c ln R hO hL hl (Nat.le_trans hI.nd (by decide))
 ·obtain ⟨e1, e2⟩ := rtE6 (names := names) (r := r) (x := ⟨kd, nm, l, rn, rm, rf, rt, rb, ra, ri⟩) hk
  rw [e1, e2]; subst hk
  exact take_apart w0 w b o m r vU vP vS vD vA rn rm nm rf rt rb ra ri l B c ln R hL hl (Nat.le_trans hI.na (by decide))
 ·obtain ⟨e1, e2⟩ := rtE7 (names := names) (r := r) (x := ⟨kd, nm, l, rn, rm, rf, rt, rb, ra, ri⟩) hk
  rw [e1, e2]; subst hk
  exact take_lend names bl w0 w b o m r vU vP vS vD vA rn rm nm rf rt rb ra ri l B c ln R hO (Nat.le_trans hI.nl hk) hnm
 ·obtain ⟨e1, e2⟩ := rtE0 (names := names) (r := r) (x := ⟨kd, nm, l, rn, rm, rf, rt, rb, ra, ri⟩) hk
  rw [e1, e2]
  exact take_other w0 w b o m r vU vP vS vD vA rn rm nm rf rt rb ra ri l B c ln kd hk R
theorem has_at (l : List (Tx × Nat)) (x : Tx) : (∃ k, ∃ h : k < l.length, hI l x = k ∧ rtHas l x = l[k].2) ∨ (hI l x = -1 ∧ rtHas l x = 0) := by
 unfold rtHas hI
 cases hf : l.find? fun h => h.1 == x with
 | none =>
  right
  refine ⟨fI_miss fun j hj => ?_, rfl⟩
  have := List.find?_eq_none.1 hf l[j] (List.getElem_mem hj)
  simpa using this
 | some h =>
  left
  obtain ⟨hp, i, hi, he, hn⟩ := List.find?_eq_some_iff_getElem.1 hf
  refine ⟨i, hi, fI_hit hi (by rw [he]; exact hp) (fun j hj => by have := hn j hj; simpa using this), by rw [he]⟩
set_option maxHeartbeats 1000000 in
theorem rolesOf_any (l : List (Tx × Nat)) (x : Tx) (A : Option Addr) (c : Nat) (w : World) (h : HAt w A c l) (hl : l.length ≤ 1000) :
  Calls Tryz.prog 110 #[.slice A l.length c, .string (bs x)] w fun e w' => e = .returned (.int .u32 (rtHas l x : Nat)) ∧ Below w.heap.size w w' := by
 have FV := Lib.hid (fnd_any l x A c w h (by omega))
 have HH := Lib.hid h
 have hcc := h.1
 clear h
 rcases has_at l x with ⟨k, hk, e1, e2⟩ | ⟨e1, e2⟩
 ·rw [e1] at FV
  rw [e2]
  have hk0 : ¬ ((k : Int) < 0) := by omega
  have hki : (k : Int) < l.length := by omega
  have HX := Lib.hid (HH.out.2 k hk)
  clear e1 e2
  go_enter Tryz.func110, Tryz.ntmps110
  generalize l[k] = p at *
  obtain ⟨g, rfl, hgl, _, x2⟩ := HX.out
  go_wp2_with (go_at_call 164; refine FV.out.mono ?_; rintro e w2 ⟨rfl, hb2⟩; have y2 := (hb2.cell (p := ⟨g, k * 2 + 1, none⟩) hgl).trans x2)
  go_ret
  exact ⟨rfl, hb2⟩
 ·rw [e1] at FV
  rw [e2]
  clear e1 e2
  go_enter Tryz.func110, Tryz.ntmps110
  go_wp2_with (go_at_call 164; refine FV.out.mono ?_; rintro e w2 ⟨rfl, hb2⟩)
  go_ret
  exact ⟨rfl, hb2⟩
theorem Has_any (l : List (Tx × Nat)) (x : Tx) (A : Option Addr) (c b : Nat) (w : World) (hc : w.cell? ⟨b, 1, none⟩ = some (.slice A l.length c)) (h : HAt w A c l) (hl : l.length ≤ 1000) :
  Calls Tryz.prog 39 #[.pointer (some ⟨b, 0, none⟩), .string (bs x)] w fun e w' => e = .returned (.int .u32 (rtHas l x : Nat)) ∧ Below w.heap.size w w' := by
 have RO := Lib.hid (rolesOf_any l x A c w h hl)
 clear h
 go_enter Tryz.func39, Tryz.ntmps39
 go_wp2_with (go_at_call 110; refine RO.out.mono ?_; rintro e w2 ⟨rfl, hb2⟩)
 go_ret
 exact ⟨rfl, hb2⟩
theorem rtHas_lt {l : List (Tx × Nat)} (h : ∀ p ∈ l, p.2 < 16777216) (x : Tx) : rtHas l x < 16777216 := by
 rcases has_at l x with ⟨k, hk, _, e⟩ | ⟨_, e⟩
 ·rw [e]; exact h _ (List.getElem_mem hk)
 ·rw [e]; omega
end Go.Proofs.YtgffbgmieppckaaGreatDoor
