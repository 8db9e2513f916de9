/-
  Package rights: take.
-/
import Derived.Test.YtiodjjnohbjhlaaGreatDoorRtC
import Derived.Deep.RegionHeld3
namespace Go.Proofs.YtiodjjnohbjhlaaGreatDoor
set_option maxRecDepth 100000
open Go.ChangeShapes Go.WideShapes Go.ChangeAt Go.RowKit Go.Maps Go.WideMaps Go.ChangeMaps

structure TakTo (E : Int) (w0 w : World) (b o : Nat) (r' : Rt) (m : Nat) (e : Ending) (w' : World) : Prop where
  no : E ≠ 0 → e = .returned (eV E) ∧ Below w0.heap.size w0 w' ∧ ∀ g, g < w.heap.size → g ≠ b → w'.heap[g]? = w.heap[g]?
  ok : E = 0 → e = .returned .nilIface ∧ ∃ vU vP vS vD vA, RtA w0 w' b o r' vU vP vS vD vA m
theorem takTo_no {E : Int} {w0 w : World} {b o : Nat} {r' : Rt} {m : Nat} {w' : World} (hk : E ≠ 0) (hb : Below w0.heap.size w0 w') (hg : ∀ g, g < w.heap.size → g ≠ b → w'.heap[g]? = w.heap[g]?) : TakTo E w0 w b o r' m (.returned (eV E)) w' := ⟨fun _ => ⟨rfl, hb, hg⟩, fun h => absurd h hk⟩
theorem takTo_ok {E : Int} {w0 w : World} {b o : Nat} {r' : Rt} {m : Nat} {w' : World} {vU vP vS vD vA : Value} (h : E = 0) (hR : RtA w0 w' b o r' vU vP vS vD vA m) : TakTo E w0 w b o r' m (.returned .nilIface) w' := ⟨fun h9 => absurd h h9, fun _ => ⟨rfl, vU, vP, vS, vD, vA, hR⟩⟩
theorem tak_keep {w w1 w2 : World} {b j : Nat} {v : Value} (h0 : Below w.heap.size w w1) (hb : Below w1.heap.size w1 w2) : ∀ g, g < w.heap.size → g ≠ b → (w2.setCell ⟨b, j, none⟩ v).heap[g]? = w.heap[g]? := fun g hg hne =>
  (RowKit.Below.heap_setCell _ _ _ _ hne).trans ((hb.block g (Nat.lt_of_lt_of_le hg h0.size)).trans (h0.block g hg))
theorem tak_keep0 {w w1 w2 : World} {b : Nat} (h0 : Below w.heap.size w w1) (hb : Below w1.heap.size w1 w2) : ∀ g, g < w.heap.size → g ≠ b → w2.heap[g]? = w.heap[g]? := fun g hg _ =>
  (hb.block g (Nat.lt_of_lt_of_le hg h0.size)).trans (h0.block g hg)
theorem own_hk {v : Value} {g n cp k : Nat} (h : v.ownBlock = some g ∨ k ≤ g) : ∀ g', (Value.slice (some ⟨g, 0, none⟩) n cp).ownBlock = some g' → v.ownBlock = some g' ∨ k ≤ g' := fun g' e => by
  have e1 : g = g' := by simpa [Value.ownBlock] using e
  subst e1
  exact h
section
variable (names : List Tx) (bl : List Nat) (w0 w : World) (b o m : Nat) (r : Rt) (vU vP vS vD vA : Value) (rn rm : Int) (nm rf rt rb ra ri : Tx) (l : List Tx) (B : Option Addr) (c : Nat) (ln : Int)
set_option maxHeartbeats 4000000 in
theorem take_user (R : RtA w0 w b o r vU vP vS vD vA m) (hO : OrdAt w0 o names bl) (hL : ListAt w B c l) (hl : l.length ≤ 4096) (hn : r.users.length ≤ 30) :
    Calls Tryz.prog 37 #[.pointer (some ⟨b, 0, none⟩), .agg #[.int .i64 2, .string (bs nm), .slice B l.length c, .int .i64 rn, .int .i64 rm, .string (bs rf), .string (bs rt), .string (bs rb), .string (bs ra), .string (bs ri), .int .i64 ln]] w
      (TakTo (hldE names r.users ⟨2, nm, l, rn, rm, rf, rt, rb, ra, ri⟩ 12) w0 w b o { r with users := r.users ++ [(nm, (rtSet names l 0).getD 0)] } m) := by
  obtain ⟨AU, cU, rfl⟩ := own_slice R.oU
  have RA := heap_alloc_new w (.cells #[.int .i64 2, .string (bs nm), .slice B l.length c, .int .i64 rn, .int .i64 rm, .string (bs rf), .string (bs rt), .string (bs rb), .string (bs ra), .string (bs ri), .int .i64 ln] 39)
  have hb1 := rbox w (.cells #[.int .i64 2, .string (bs nm), .slice B l.length c, .int .i64 rn, .int .i64 rm, .string (bs rf), .string (bs rt), .string (bs rb), .string (bs ra), .string (bs ri), .int .i64 ln] 39)
  have HR := Lib.hid (R.below hb1)
  have H0 := Lib.hid hb1
  have HL := Lib.hid (hL.below hb1)
  clear hb1 R hL
  go_enter Tryz.func37, Tryz.ntmps37
  go_upto_region 1 with fail
  have HRA := Lib.hid RA
  have q0 := row_q0 RA
  clear RA
  obtain ⟨gb, hgb⟩ : ∃ gb, gb = w.heap.size := ⟨_, rfl⟩
  rw [← hgb] at HRA q0 ⊢
  have HGB := Lib.hid hgb
  clear hgb
  generalize w.alloc (.cells #[.int .i64 2, .string (bs nm), .slice B l.length c, .int .i64 rn, .int .i64 rm, .string (bs rf), .string (bs rt), .string (bs rb), .string (bs ra), .string (bs ri), .int .i64 ln] 39) = w1 at *
  go_upto_region 3 with fail
  have HB := Lib.hid (Below.refl w1.heap.size w1)
  have q1 := row_q1 HRA.out; have q2 := row_q2 HRA.out; have q3 := row_q3 HRA.out; have q4 := row_q4 HRA.out; have q5 := row_q5 HRA.out; have q6 := row_q6 HRA.out; have q7 := row_q7 HRA.out; have q8 := row_q8 HRA.out; have q9 := row_q9 HRA.out; have q10 := row_q10 HRA.out
  have r1 := HR.out.q1
  have WH : Hid (∀ W, Below w1.heap.size w1 W → Calls Tryz.prog 79 #[.pointer (some ⟨b, 0, none⟩), .slice AU r.users.length cU, .agg #[.int .i64 2, .string (bs nm), .slice B l.length c, .int .i64 rn, .int .i64 rm, .string (bs rf), .string (bs rt), .string (bs rb), .string (bs ra), .string (bs ri), .int .i64 ln], .int .i64 12] W
      (GrwTo (hldE names r.users ⟨2, nm, l, rn, rm, rf, rt, rb, ra, ri⟩ 12) w0.heap.size (.slice AU r.users.length cU) (fun w' v => OwnH w' w0.heap.size v (r.users ++ [(nm, (rtSet names l 0).getD 0)])) W)) := fun W hW => by
    have RW := HR.out.below hW
    exact withHolder_any names bl r.users AU cU w0.heap.size b o 12 2 rn rm nm rf rt rb ra ri l B c ln W RW.q0 RW.lt (hO.below RW.be) (HL.out.below hW) hl RW.oU RW.be.size hn
  generalize hldE names r.users ⟨2, nm, l, rn, rm, rf, rt, rb, ra, ri⟩ 12 = E at *
  by_cases hE : E = 0
  · have HE : Hid (E = 0) := hE
    clear hE
    go_region_with (go_at_call 79; refine (WH.out _ (by first | exact Below.refl _ _ | exact below_drew (Below.refl _ _))).mono ?_; intro e w3 h3; obtain ⟨w2, g2, cp2, n2, hb2', hg2, e9, ho2, hat2⟩ := h3.ok HE.out; subst e9; have hb2 : Below w1.heap.size w1 w2 := (by first | exact hb2' | exact below_then (below_drew (Below.refl _ _)) hb2' (Nat.le_refl _)); have r9 := (HR.out.below hb2).row1 hg2 (rt_row_ne (HR.out.below hb2).oU (HR.out.below hb2).row (by decide)); have s1 := cell_of_row w3 b 1 _ _ _ r9; have f1 : w3.frozen? ⟨b, 1, none⟩ = false := (by simp [World.frozen?, r9]); have R5 := Lib.hid (HR.out.users' hb2 hg2 ho2 (own_hk hat2)); clear h3 r9)
    all_goals
      go_wp2
      go_ret
      first | exact takTo_ok HE.out R5.out | exact takTo_ok HE.out (R5.out.below (below_drew (Below.refl _ _)))
  · have HE : Hid (E ≠ 0) := hE
    clear hE
    go_region_with (go_at_call 79; refine (WH.out _ (by first | exact Below.refl _ _ | exact below_drew (Below.refl _ _))).mono ?_; intro e w2 h2; obtain ⟨e9, hb2'⟩ := h2.no HE.out; subst e9; have hb2 : Below w1.heap.size w1 w2 := (by first | exact hb2' | exact below_then (below_drew (Below.refl _ _)) hb2' (Nat.le_refl _)); have R2 := HR.out.below hb2; have s1 := R2.q1; have f1 := R2.fz 1; have R5 := Lib.hid (R2.be0 1 (.slice none 0 0)); have K5 := Lib.hid (tak_keep (b := b) (j := 1) (v := .slice none 0 0) H0.out hb2); clear h2 R2)
    all_goals
      go_wp2
      go_ret
      first | exact takTo_no HE.out R5.out K5.out | exact takTo_no HE.out (below_drew R5.out) K5.out
end
end Go.Proofs.YtiodjjnohbjhlaaGreatDoor
