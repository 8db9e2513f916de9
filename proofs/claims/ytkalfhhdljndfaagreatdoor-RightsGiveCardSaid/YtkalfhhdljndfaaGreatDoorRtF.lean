/-
  Package rights: one field of rights in the making is stored: the others stay (printed by gen_rtc.py).
-/
import Derived.Test.YtkalfhhdljndfaaGreatDoorRtB
import Derived.Deep.RegionHeld3
namespace Go.Proofs.YtkalfhhdljndfaaGreatDoor
set_option maxRecDepth 100000
open Go.ChangeShapes Go.WideShapes Go.ChangeAt Go.RowKit Go.Maps Go.WideMaps Go.ChangeMaps

section
variable {w0 W W1 W2 : World} {b o m : Nat} {r : Rt} {vU vP vS vD vA : Value}
theorem rtKeep {base e s n : Nat} {v : Value} {xs : List Value} {row : Option Nat} {cs : Array Value} {t : TypeId} {fz : Nat × Nat} (h : W1.ownsRow base e s v n xs) (hg : W1.grownBy W2 row) (hu : v.ownBlock = none ∨ v.ownBlock ≠ row) (r2 : W2.heap[b]? = some (.cells cs t fz)) (hne : t ≠ e) (j : Nat) (x : Value) :
    (W2.setCell ⟨b, j, none⟩ x).ownsRow base e s v n xs :=
  World.ownsRow.kept (World.ownsRow.kept h hg hu) (grown_setCell _ _ _ _) (.inr (rt_row_ne (World.ownsRow.kept h hg hu) r2 hne))
theorem rtPut {base e s n : Nat} {v : Value} {xs : List Value} {cs : Array Value} {t : TypeId} {fz : Nat × Nat} (h : W2.ownsRow base e s v n xs) (r2 : W2.heap[b]? = some (.cells cs t fz)) (hne : t ≠ e) (j : Nat) (x : Value) :
    (W2.setCell ⟨b, j, none⟩ x).ownsRow base e s v n xs := World.ownsRow.kept h (grown_setCell _ _ _ _) (.inr (rt_row_ne h r2 hne))
theorem rtPutLL {base : Nat} {v : Value} {L : List (List Tx)} {cs : Array Value} {fz : Nat × Nat} (h : OwnLL W2 base v L) (r2 : W2.heap[b]? = some (.cells cs 124 fz)) (j : Nat) (x : Value) :
    OwnLL (W2.setCell ⟨b, j, none⟩ x) base v L := h.kept (grown_setCell _ _ _ _) (fun u n xs hu => .inr (rt_row_ne hu r2 (by decide))) (fun u n xs hu => .inr (rt_row_ne hu r2 (by decide)))
theorem rtKeepLL {base e1 s1 n1 : Nat} {v u1 : Value} {xs1 : List Value} {L : List (List Tx)} {cs : Array Value} {fz : Nat × Nat} (h : OwnLL W1 base v L) (hg : W1.grownBy W2 u1.ownBlock) (hu : W1.ownsRow base e1 s1 u1 n1 xs1) (h1 : 36 ≠ e1) (h2 : 9 ≠ e1) (r2 : W2.heap[b]? = some (.cells cs 124 fz)) (j : Nat) (x : Value) :
    OwnLL (W2.setCell ⟨b, j, none⟩ x) base v L := rtPutLL (h.kept hg (fun _ _ _ h9 => rt_rows h9 hu h1) (fun _ _ _ h9 => rt_rows h9 hu h2)) r2 j x
theorem rtKeepM {m n b : Nat} {D : DataW Unit} {base e1 s1 n1 : Nat} {u1 : Value} {xs1 : List Value} {cs : Array Value} {fz : Nat × Nat} {t : TypeId} (h : W1.ownsMap Tryz.prog 9 loanR m n D) (hg : W1.grownBy W2 u1.ownBlock) (hu : W1.ownsRow base e1 s1 u1 n1 xs1) (r2 : W2.heap[b]? = some (.cells cs t fz)) (j : Nat) (x : Value) :
    (W2.setCell ⟨b, j, none⟩ x).ownsMap Tryz.prog 9 loanR m n D := by
  have hm : W2.ownsMap Tryz.prog 9 loanR m n D := by
    refine World.ownsMap.kept h hg fun e => ?_
    obtain ⟨es, cl, h1, _⟩ := h
    exact rt_row_map hu h1 e.symm
  refine World.ownsMap.kept hm (grown_setCell _ _ _ _) fun e => ?_
  obtain ⟨es, cl, h1, _⟩ := hm
  injection e with e
  subst e
  rw [h1] at r2
  cases r2
theorem RtA.row1 (R : RtA w0 W1 b o r vU vP vS vD vA m) {row : Option Nat} (hg : W1.grownBy W2 row) (hne : row ≠ some b) : W2.heap[b]? = some (.cells #[.pointer (some ⟨o, 0, none⟩), vU, vP, vS, vD, vA, .map (some m)] 124 (0, 0)) :=
  (hg.block b R.lt (fun e => hne e.symm)).trans R.row
theorem RtA.be1 (R : RtA w0 W1 b o r vU vP vS vD vA m) {row : Option Nat} (hg : W1.grownBy W2 row) (hlo : ∀ g, row = some g → w0.heap.size ≤ g) (j : Nat) (v : Value) : Below w0.heap.size w0 (W2.setCell ⟨b, j, none⟩ v) :=
  (R.be.grown hg R.be.size hlo).grown (grown_setCell _ _ _ _) (R.be.grown hg R.be.size hlo).size (fun g e => by cases e; exact R.lo)
/-- an error: what is stored then is of no matter -/
theorem RtA.be0 (R : RtA w0 W b o r vU vP vS vD vA m) (j : Nat) (v : Value) : Below w0.heap.size w0 (W.setCell ⟨b, j, none⟩ v) := R.be.grown (grown_setCell _ _ _ _) R.be.size (fun g e => by cases e; exact R.lo)
theorem RtA.users' (R : RtA w0 W b o r vU vP vS vD vA m) (hb : Below W.heap.size W W1) (hg : W1.grownBy W2 vU.ownBlock) {v' : Value} {x : Tx × Nat} (ho : OwnH W2 w0.heap.size v' (r.users ++ [x])) (hk : ∀ g, v'.ownBlock = some g → vU.ownBlock = some g ∨ W.heap.size ≤ g) :
    RtA w0 (W2.setCell ⟨b, 1, none⟩ v') b o { r with users := r.users ++ [x] } v' vP vS vD vA m := by
  have R1 := R.below hb
  have r2 := R1.row1 hg (rt_row_ne R1.oU R1.row (by decide))
  exact ⟨heap_set (j := 1) r2 v', R.lo, rtPut ho r2 (by decide) _ _, rtKeep R1.oP hg (ap_or fun g e1 e2 => R1.apU g e2 e1) r2 (by decide) _ _, fun g e1 e2 => (hk g e1).elim (fun h => R1.apU g h e2) fun h => absurd (World.ownsRow.lt R.oP g e2).2 (by omega), rtKeep R1.oS hg (rt_rows R1.oS R1.oU (by decide)) r2 (by decide) _ _, rtKeep R1.oD hg (rt_rows R1.oD R1.oU (by decide)) r2 (by decide) _ _, R1.apS, rtKeepLL R1.oA hg R1.oU (by decide) (by decide) r2 _ _, rtKeepM R1.mp hg R1.oU r2 _ _, R.mlo, R1.be1 hg (fun g e => (World.ownsRow.lt R1.oU g e).1) _ _⟩
theorem RtA.perms' (R : RtA w0 W b o r vU vP vS vD vA m) (hb : Below W.heap.size W W1) (hg : W1.grownBy W2 vP.ownBlock) {v' : Value} {x : Tx × Nat} (ho : OwnH W2 w0.heap.size v' (r.perms ++ [x])) (hk : ∀ g, v'.ownBlock = some g → vP.ownBlock = some g ∨ W.heap.size ≤ g) :
    RtA w0 (W2.setCell ⟨b, 2, none⟩ v') b o { r with perms := r.perms ++ [x] } vU v' vS vD vA m := by
  have R1 := R.below hb
  have r2 := R1.row1 hg (rt_row_ne R1.oP R1.row (by decide))
  exact ⟨heap_set (j := 2) r2 v', R.lo, rtKeep R1.oU hg (ap_or fun g e1 e2 => R1.apU g e1 e2) r2 (by decide) _ _, rtPut ho r2 (by decide) _ _, fun g e1 e2 => (hk g e2).elim (fun h => R1.apU g e1 h) fun h => absurd (World.ownsRow.lt R.oU g e1).2 (by omega), rtKeep R1.oS hg (rt_rows R1.oS R1.oP (by decide)) r2 (by decide) _ _, rtKeep R1.oD hg (rt_rows R1.oD R1.oP (by decide)) r2 (by decide) _ _, R1.apS, rtKeepLL R1.oA hg R1.oP (by decide) (by decide) r2 _ _, rtKeepM R1.mp hg R1.oP r2 _ _, R.mlo, R1.be1 hg (fun g e => (World.ownsRow.lt R1.oP g e).1) _ _⟩
theorem RtA.stat' (R : RtA w0 W b o r vU vP vS vD vA m) (hb : Below W.heap.size W W1) (hg : W1.grownBy W2 vS.ownBlock) {v' : Value} {x : Int × Nat} (ho : OwnDS W2 w0.heap.size v' (r.stat ++ [x])) (hk : ∀ g, v'.ownBlock = some g → vS.ownBlock = some g ∨ W.heap.size ≤ g) :
    RtA w0 (W2.setCell ⟨b, 3, none⟩ v') b o { r with stat := r.stat ++ [x] } vU vP v' vD vA m := by
  have R1 := R.below hb
  have r2 := R1.row1 hg (rt_row_ne R1.oS R1.row (by decide))
  exact ⟨heap_set (j := 3) r2 v', R.lo, rtKeep R1.oU hg (rt_rows R1.oU R1.oS (by decide)) r2 (by decide) _ _, rtKeep R1.oP hg (rt_rows R1.oP R1.oS (by decide)) r2 (by decide) _ _, R1.apU, rtPut ho r2 (by decide) _ _, rtKeep R1.oD hg (ap_or fun g e1 e2 => R1.apS g e2 e1) r2 (by decide) _ _, fun g e1 e2 => (hk g e1).elim (fun h => R1.apS g h e2) fun h => absurd (World.ownsRow.lt R.oD g e2).2 (by omega), rtKeepLL R1.oA hg R1.oS (by decide) (by decide) r2 _ _, rtKeepM R1.mp hg R1.oS r2 _ _, R.mlo, R1.be1 hg (fun g e => (World.ownsRow.lt R1.oS g e).1) _ _⟩
theorem RtA.dyn' (R : RtA w0 W b o r vU vP vS vD vA m) (hb : Below W.heap.size W W1) (hg : W1.grownBy W2 vD.ownBlock) {v' : Value} {x : Int × Nat} (ho : OwnDS W2 w0.heap.size v' (r.dyn ++ [x])) (hk : ∀ g, v'.ownBlock = some g → vD.ownBlock = some g ∨ W.heap.size ≤ g) :
    RtA w0 (W2.setCell ⟨b, 4, none⟩ v') b o { r with dyn := r.dyn ++ [x] } vU vP vS v' vA m := by
  have R1 := R.below hb
  have r2 := R1.row1 hg (rt_row_ne R1.oD R1.row (by decide))
  exact ⟨heap_set (j := 4) r2 v', R.lo, rtKeep R1.oU hg (rt_rows R1.oU R1.oD (by decide)) r2 (by decide) _ _, rtKeep R1.oP hg (rt_rows R1.oP R1.oD (by decide)) r2 (by decide) _ _, R1.apU, rtKeep R1.oS hg (ap_or fun g e1 e2 => R1.apS g e1 e2) r2 (by decide) _ _, rtPut ho r2 (by decide) _ _, fun g e1 e2 => (hk g e2).elim (fun h => R1.apS g e1 h) fun h => absurd (World.ownsRow.lt R.oS g e1).2 (by omega), rtKeepLL R1.oA hg R1.oD (by decide) (by decide) r2 _ _, rtKeepM R1.mp hg R1.oD r2 _ _, R.mlo, R1.be1 hg (fun g e => (World.ownsRow.lt R1.oD g e).1) _ _⟩
theorem RtA.apart' (R : RtA w0 W b o r vU vP vS vD vA m) (hb : Below W.heap.size W W1) (hg : W1.grownBy W2 vA.ownBlock) {v' : Value} {x : List Tx} (ho : OwnLL W2 w0.heap.size v' (r.apart ++ [x])) :
    RtA w0 (W2.setCell ⟨b, 5, none⟩ v') b o { r with apart := r.apart ++ [x] } vU vP vS vD v' m := by
  have R1 := R.below hb
  obtain ⟨cs, _, hoA, _⟩ := R1.oA
  have r2 := R1.row1 hg (rt_row_ne hoA R1.row (by decide))
  exact ⟨heap_set (j := 5) r2 v', R.lo, rtKeep R1.oU hg (rt_rows R1.oU hoA (by decide)) r2 (by decide) _ _, rtKeep R1.oP hg (rt_rows R1.oP hoA (by decide)) r2 (by decide) _ _, R1.apU, rtKeep R1.oS hg (rt_rows R1.oS hoA (by decide)) r2 (by decide) _ _, rtKeep R1.oD hg (rt_rows R1.oD hoA (by decide)) r2 (by decide) _ _, R1.apS, rtPutLL ho r2 _ _, rtKeepM R1.mp hg hoA r2 _ _, R.mlo, R1.be1 hg (fun g e => (World.ownsRow.lt hoA g e).1) _ _⟩
theorem RtA.loans' (R : RtA w0 W b o r vU vP vS vD vA m) (hb : Below W.heap.size W W1) (hg : W1.grownBy W2 (some m)) {x : Tx × Int × Int} (ho : W2.ownsMap Tryz.prog 9 loanR m (r.loans.length + 1) (loanD (r.loans ++ [x]))) :
    RtA w0 W2 b o { r with loans := r.loans ++ [x] } vU vP vS vD vA m := by
  have R1 := R.below hb
  have hm : ∀ {base e s n : Nat} {v : Value} {xs : List Value}, W1.ownsRow base e s v n xs → v.ownBlock = none ∨ v.ownBlock ≠ some m := fun h => by
    obtain ⟨es, cl, h1, _⟩ := R1.mp
    exact .inr (rt_row_map h h1)
  have hne : some m ≠ some b := fun e => by
    injection e with e
    obtain ⟨es, cl, h1, _⟩ := R1.mp
    rw [e, R1.row] at h1
    cases h1
  exact ⟨R1.row1 hg hne, R.lo, World.ownsRow.kept R1.oU hg (hm R1.oU), World.ownsRow.kept R1.oP hg (hm R1.oP), R1.apU, World.ownsRow.kept R1.oS hg (hm R1.oS), World.ownsRow.kept R1.oD hg (hm R1.oD), R1.apS,
    R1.oA.kept hg (fun _ _ _ h => hm h) (fun _ _ _ h => hm h), by rw [List.length_append]; exact ho, R.mlo, R1.be.grown hg R1.be.size (fun g e => by cases e; exact R.mlo)⟩
end
end Go.Proofs.YtkalfhhdljndfaaGreatDoor
/-
  Package rights: take.
-/
namespace Go.Proofs.YtkalfhhdljndfaaGreatDoor
set_option maxRecDepth 100000
open Go.ChangeShapes Go.WideShapes Go.ChangeAt Go.RowKit Go.Maps Go.WideMaps Go.ChangeMaps

structure TakTo (E : Int) (w0 w : World) (b o : Nat) (r' : Rt) (m : Nat) (e : Ending) (w' : World) : Prop where
  no : E ≠ 0 → e = .returned (eV E) ∧ Below w0.heap.size w0 w' ∧ ∀ g, g < w.heap.size → g ≠ b → w'.heap[g]? = w.heap[g]?
  ok : E = 0 → e = .returned .nilIface ∧ ∃ vU vP vS vD vA, RtA w0 w' b o r' vU vP vS vD vA m
theorem takTo_no {E : Int} {w0 w : World} {b o : Nat} {r' : Rt} {m : Nat} {w' : World} (hk : E ≠ 0) (hb : Below w0.heap.size w0 w') (hg : ∀ g, g < w.heap.size → g ≠ b → w'.heap[g]? = w.heap[g]?) : TakTo E w0 w b o r' m (.returned (eV E)) w' := ⟨fun _ => ⟨rfl, hb, hg⟩, fun h => absurd h hk⟩
theorem takTo_ok {E : Int} {w0 w : World} {b o : Nat} {r' : Rt} {m : Nat} {w' : World} {vU vP vS vD vA : Value} (h : E = 0) (hR : RtA w0 w' b o r' vU vP vS vD vA m) : TakTo E w0 w b o r' m (.returned .nilIface) w' := ⟨fun h9 => absurd h h9, fun _ => ⟨rfl, vU, vP, vS, vD, vA, hR⟩⟩
theorem tak_keep {w w1 w2 : World} {b j : Nat} {v : Value} (h0 : Below w.heap.size w w1) (hb : Below w1.heap.size w1 w2) : ∀ g, g < w.heap.size → g ≠ b → (w2.setCell ⟨b, j, none⟩ v).heap[g]? = w.heap[g]? := fun g hg hne =>
  (RowKit.Below.heap_setCell _ _ _ _ hne).trans ((hb.block g (Nat.lt_of_lt_of_le hg h0.size)).trans (h0.block g hg))
theorem tak_keep0 {w w1 w2 : World} {b : Nat} (h0 : Below w.heap.size w w1) (hb : Below w1.heap.size w1 w2) : ∀ g, g < w.heap.size → g ≠ b → w2.heap[g]? = w.heap[g]? := fun g hg _ =>
  (hb.block g (Nat.lt_of_lt_of_le hg h0.size)).trans (h0.block g hg)
theorem own_hk {v : Value} {g n cp k : Nat} (h : v.ownBlock = some g ∨ k ≤ g) : ∀ g', (Value.slice (some ⟨g, 0, none⟩) n cp).ownBlock = some g' → v.ownBlock = some g' ∨ k ≤ g' := fun g' e => by
  have e1 : g = g' := by simpa [Value.ownBlock] using e
  subst e1
  exact h
section
variable (names : List Tx) (bl : List Nat) (w0 w : World) (b o m : Nat) (r : Rt) (vU vP vS vD vA : Value) (rn rm : Int) (nm rf rt rb ra ri : Tx) (l : List Tx) (B : Option Addr) (c : Nat) (ln : Int)
set_option maxHeartbeats 4000000 in
theorem take_user (R : RtA w0 w b o r vU vP vS vD vA m) (hO : OrdAt w0 o names bl) (hL : ListAt w B c l) (hl : l.length ≤ 4096) (hn : r.users.length ≤ 30) :
    Calls Tryz.prog 54 #[.pointer (some ⟨b, 0, none⟩), .agg #[.int .i64 2, .string (bs nm), .slice B l.length c, .int .i64 rn, .int .i64 rm, .string (bs rf), .string (bs rt), .string (bs rb), .string (bs ra), .string (bs ri), .int .i64 ln]] w
      (TakTo (hldE names r.users ⟨2, nm, l, rn, rm, rf, rt, rb, ra, ri⟩ 12) w0 w b o { r with users := r.users ++ [(nm, (rtSet names l 0).getD 0)] } m) := by
  obtain ⟨AU, cU, rfl⟩ := own_slice R.oU
  have RA := heap_alloc_new w (.cells #[.int .i64 2, .string (bs nm), .slice B l.length c, .int .i64 rn, .int .i64 rm, .string (bs rf), .string (bs rt), .string (bs rb), .string (bs ra), .string (bs ri), .int .i64 ln] 39)
  have hb1 := rbox w (.cells #[.int .i64 2, .string (bs nm), .slice B l.length c, .int .i64 rn, .int .i64 rm, .string (bs rf), .string (bs rt), .string (bs rb), .string (bs ra), .string (bs ri), .int .i64 ln] 39)
  have HR := Lib.hid (R.below hb1)
  have H0 := Lib.hid hb1
  have HL := Lib.hid (hL.below hb1)
  clear hb1 R hL
  go_enter Tryz.func54, Tryz.ntmps54
  go_upto_region 1 with fail
  have HRA := Lib.hid RA
  have q0 := row_q0 RA
  clear RA
  obtain ⟨gb, hgb⟩ : ∃ gb, gb = w.heap.size := ⟨_, rfl⟩
  rw [← hgb] at HRA q0 ⊢
  have HGB := Lib.hid hgb
  clear hgb
  generalize w.alloc (.cells #[.int .i64 2, .string (bs nm), .slice B l.length c, .int .i64 rn, .int .i64 rm, .string (bs rf), .string (bs rt), .string (bs rb), .string (bs ra), .string (bs ri), .int .i64 ln] 39) = w1 at *
  go_upto_region 3 with fail
  have HB := Lib.hid (Below.refl w1.heap.size w1)
  have q1 := row_q1 HRA.out; have q2 := row_q2 HRA.out; have q3 := row_q3 HRA.out; have q4 := row_q4 HRA.out; have q5 := row_q5 HRA.out; have q6 := row_q6 HRA.out; have q7 := row_q7 HRA.out; have q8 := row_q8 HRA.out; have q9 := row_q9 HRA.out; have q10 := row_q10 HRA.out
  have r1 := HR.out.q1
  have WH : Hid (∀ W, Below w1.heap.size w1 W → Calls Tryz.prog 114 #[.pointer (some ⟨b, 0, none⟩), .slice AU r.users.length cU, .agg #[.int .i64 2, .string (bs nm), .slice B l.length c, .int .i64 rn, .int .i64 rm, .string (bs rf), .string (bs rt), .string (bs rb), .string (bs ra), .string (bs ri), .int .i64 ln], .int .i64 12] W
      (GrwTo (hldE names r.users ⟨2, nm, l, rn, rm, rf, rt, rb, ra, ri⟩ 12) w0.heap.size (.slice AU r.users.length cU) (fun w' v => OwnH w' w0.heap.size v (r.users ++ [(nm, (rtSet names l 0).getD 0)])) W)) := fun W hW => by
    have RW := HR.out.below hW
    exact withHolder_any names bl r.users AU cU w0.heap.size b o 12 2 rn rm nm rf rt rb ra ri l B c ln W RW.q0 RW.lt (hO.below RW.be) (HL.out.below hW) hl RW.oU RW.be.size hn
  generalize hldE names r.users ⟨2, nm, l, rn, rm, rf, rt, rb, ra, ri⟩ 12 = E at *
  by_cases hE : E = 0
  · have HE : Hid (E = 0) := hE
    clear hE
    go_region_with (go_at_call 114; refine (WH.out _ (by first | exact Below.refl _ _ | exact below_drew (Below.refl _ _))).mono ?_; intro e w3 h3; obtain ⟨w2, g2, cp2, n2, hb2', hg2, e9, ho2, hat2⟩ := h3.ok HE.out; subst e9; have hb2 : Below w1.heap.size w1 w2 := (by first | exact hb2' | exact below_then (below_drew (Below.refl _ _)) hb2' (Nat.le_refl _)); have r9 := (HR.out.below hb2).row1 hg2 (rt_row_ne (HR.out.below hb2).oU (HR.out.below hb2).row (by decide)); have s1 := cell_of_row w3 b 1 _ _ _ r9; have f1 : w3.frozen? ⟨b, 1, none⟩ = false := (by simp [World.frozen?, r9]); have R5 := Lib.hid (HR.out.users' hb2 hg2 ho2 (own_hk hat2)); clear h3 r9)
    all_goals
      go_wp2
      go_ret
      first | exact takTo_ok HE.out R5.out | exact takTo_ok HE.out (R5.out.below (below_drew (Below.refl _ _)))
  · have HE : Hid (E ≠ 0) := hE
    clear hE
    go_region_with (go_at_call 114; refine (WH.out _ (by first | exact Below.refl _ _ | exact below_drew (Below.refl _ _))).mono ?_; intro e w2 h2; obtain ⟨e9, hb2'⟩ := h2.no HE.out; subst e9; have hb2 : Below w1.heap.size w1 w2 := (by first | exact hb2' | exact below_then (below_drew (Below.refl _ _)) hb2' (Nat.le_refl _)); have R2 := HR.out.below hb2; have s1 := R2.q1; have f1 := R2.fz 1; have R5 := Lib.hid (R2.be0 1 (.slice none 0 0)); have K5 := Lib.hid (tak_keep (b := b) (j := 1) (v := .slice none 0 0) H0.out hb2); clear h2 R2)
    all_goals
      go_wp2
      go_ret
      first | exact takTo_no HE.out R5.out K5.out | exact takTo_no HE.out (below_drew R5.out) K5.out
end
end Go.Proofs.YtkalfhhdljndfaaGreatDoor
/-
  Package rights: take: a permission (printed by gen_rtd.py).
-/
namespace Go.Proofs.YtkalfhhdljndfaaGreatDoor
set_option maxRecDepth 100000
open Go.ChangeShapes Go.WideShapes Go.ChangeAt Go.RowKit Go.Maps Go.WideMaps Go.ChangeMaps

section
variable (names : List Tx) (bl : List Nat) (w0 w : World) (b o m : Nat) (r : Rt) (vU vP vS vD vA : Value) (rn rm : Int) (nm rf rt rb ra ri : Tx) (l : List Tx) (B : Option Addr) (c : Nat) (ln : Int)
set_option maxHeartbeats 4000000 in
theorem take_perm (R : RtA w0 w b o r vU vP vS vD vA m) (hO : OrdAt w0 o names bl) (hL : ListAt w B c l) (hl : l.length ≤ 4096) (hn : r.perms.length ≤ 30) :
    Calls Tryz.prog 54 #[.pointer (some ⟨b, 0, none⟩), .agg #[.int .i64 3, .string (bs nm), .slice B l.length c, .int .i64 rn, .int .i64 rm, .string (bs rf), .string (bs rt), .string (bs rb), .string (bs ra), .string (bs ri), .int .i64 ln]] w
      (TakTo (hldE names r.perms ⟨3, nm, l, rn, rm, rf, rt, rb, ra, ri⟩ 24) w0 w b o { r with perms := r.perms ++ [(nm, (rtSet names l 0).getD 0)] } m) := by
  obtain ⟨AP9, cP9, rfl⟩ := own_slice R.oP
  have RA := heap_alloc_new w (.cells #[.int .i64 3, .string (bs nm), .slice B l.length c, .int .i64 rn, .int .i64 rm, .string (bs rf), .string (bs rt), .string (bs rb), .string (bs ra), .string (bs ri), .int .i64 ln] 39)
  have hb1 := rbox w (.cells #[.int .i64 3, .string (bs nm), .slice B l.length c, .int .i64 rn, .int .i64 rm, .string (bs rf), .string (bs rt), .string (bs rb), .string (bs ra), .string (bs ri), .int .i64 ln] 39)
  have HR := Lib.hid (R.below hb1)
  have H0 := Lib.hid hb1
  have HL := Lib.hid (hL.below hb1)
  clear hb1 R hL
  go_enter Tryz.func54, Tryz.ntmps54
  go_upto_region 1 with fail
  have HRA := Lib.hid RA
  have q0 := row_q0 RA
  clear RA
  obtain ⟨gb, hgb⟩ : ∃ gb, gb = w.heap.size := ⟨_, rfl⟩
  rw [← hgb] at HRA q0 ⊢
  have HGB := Lib.hid hgb
  clear hgb
  generalize w.alloc (.cells #[.int .i64 3, .string (bs nm), .slice B l.length c, .int .i64 rn, .int .i64 rm, .string (bs rf), .string (bs rt), .string (bs rb), .string (bs ra), .string (bs ri), .int .i64 ln] 39) = w1 at *
  go_upto_region 5 with fail
  have HB := Lib.hid (Below.refl w1.heap.size w1)
  have q1 := row_q1 HRA.out; have q2 := row_q2 HRA.out; have q3 := row_q3 HRA.out; have q4 := row_q4 HRA.out; have q5 := row_q5 HRA.out; have q6 := row_q6 HRA.out; have q7 := row_q7 HRA.out; have q8 := row_q8 HRA.out; have q9 := row_q9 HRA.out; have q10 := row_q10 HRA.out
  have r1 := HR.out.q2
  have WH : Hid (∀ W, Below w1.heap.size w1 W → Calls Tryz.prog 114 #[.pointer (some ⟨b, 0, none⟩), .slice AP9 r.perms.length cP9, .agg #[.int .i64 3, .string (bs nm), .slice B l.length c, .int .i64 rn, .int .i64 rm, .string (bs rf), .string (bs rt), .string (bs rb), .string (bs ra), .string (bs ri), .int .i64 ln], .int .i64 24] W
      (GrwTo (hldE names r.perms ⟨3, nm, l, rn, rm, rf, rt, rb, ra, ri⟩ 24) w0.heap.size (.slice AP9 r.perms.length cP9) (fun w' v => OwnH w' w0.heap.size v (r.perms ++ [(nm, (rtSet names l 0).getD 0)])) W)) := fun W hW => by
    have RW := HR.out.below hW
    exact withHolder_any names bl r.perms AP9 cP9 w0.heap.size b o 24 3 rn rm nm rf rt rb ra ri l B c ln W RW.q0 RW.lt (hO.below RW.be) (HL.out.below hW) hl RW.oP RW.be.size hn
  generalize hldE names r.perms ⟨3, nm, l, rn, rm, rf, rt, rb, ra, ri⟩ 24 = E at *
  by_cases hE : E = 0
  · have HE : Hid (E = 0) := hE
    clear hE
    go_region_with (go_at_call 114; refine (WH.out _ (by first | exact Below.refl _ _ | exact below_drew (Below.refl _ _))).mono ?_; intro e w3 h3; obtain ⟨w2, g2, cp2, n2, hb2', hg2, e9, ho2, hat2⟩ := h3.ok HE.out; subst e9; have hb2 : Below w1.heap.size w1 w2 := (by first | exact hb2' | exact below_then (below_drew (Below.refl _ _)) hb2' (Nat.le_refl _)); have r9 := (HR.out.below hb2).row1 hg2 (rt_row_ne (HR.out.below hb2).oP (HR.out.below hb2).row (by decide)); have s1 := cell_of_row w3 b 2 _ _ _ r9; have f1 : w3.frozen? ⟨b, 2, none⟩ = false := (by simp [World.frozen?, r9]); have R5 := Lib.hid (HR.out.perms' hb2 hg2 ho2 (own_hk hat2)); clear h3 r9)
    all_goals
      go_wp2
      go_ret
      first | exact takTo_ok HE.out R5.out | exact takTo_ok HE.out (R5.out.below (below_drew (Below.refl _ _)))
  · have HE : Hid (E ≠ 0) := hE
    clear hE
    go_region_with (go_at_call 114; refine (WH.out _ (by first | exact Below.refl _ _ | exact below_drew (Below.refl _ _))).mono ?_; intro e w2 h2; obtain ⟨e9, hb2'⟩ := h2.no HE.out; subst e9; have hb2 : Below w1.heap.size w1 w2 := (by first | exact hb2' | exact below_then (below_drew (Below.refl _ _)) hb2' (Nat.le_refl _)); have R2 := HR.out.below hb2; have s1 := R2.q2; have f1 := R2.fz 2; have R5 := Lib.hid (R2.be0 2 (.slice none 0 0)); have K5 := Lib.hid (tak_keep (b := b) (j := 2) (v := .slice none 0 0) H0.out hb2); clear h2 R2)
    all_goals
      go_wp2
      go_ret
      first | exact takTo_no HE.out R5.out K5.out | exact takTo_no HE.out (below_drew R5.out) K5.out
end
end Go.Proofs.YtkalfhhdljndfaaGreatDoor
/-
  Package rights: take: an Ssd, a Dsd (printed by gen_rtd.py).
-/
namespace Go.Proofs.YtkalfhhdljndfaaGreatDoor
set_option maxRecDepth 100000
open Go.ChangeShapes Go.WideShapes Go.ChangeAt Go.RowKit Go.Maps Go.WideMaps Go.ChangeMaps

section
variable (names : List Tx) (bl : List Nat) (w0 w : World) (b o m : Nat) (r : Rt) (vU vP vS vD vA : Value) (rn rm : Int) (nm rf rt rb ra ri : Tx) (l : List Tx) (B : Option Addr) (c : Nat) (ln : Int)
set_option maxHeartbeats 4000000 in
theorem take_stat (R : RtA w0 w b o r vU vP vS vD vA m) (hO : OrdAt w0 o names bl) (hL : ListAt w B c l) (hl : l.length ≤ 4096) (hn : r.stat.length ≤ 30) :
    Calls Tryz.prog 54 #[.pointer (some ⟨b, 0, none⟩), .agg #[.int .i64 4, .string (bs nm), .slice B l.length c, .int .i64 rn, .int .i64 rm, .string (bs rf), .string (bs rt), .string (bs rb), .string (bs ra), .string (bs ri), .int .i64 ln]] w
      (TakTo (sttE names r.stat ⟨4, nm, l, rn, rm, rf, rt, rb, ra, ri⟩) w0 w b o { r with stat := r.stat ++ [(rn, (rtSet names l 0).getD 0)] } m) := by
  obtain ⟨AS9, cS9, rfl⟩ := own_slice R.oS
  have RA := heap_alloc_new w (.cells #[.int .i64 4, .string (bs nm), .slice B l.length c, .int .i64 rn, .int .i64 rm, .string (bs rf), .string (bs rt), .string (bs rb), .string (bs ra), .string (bs ri), .int .i64 ln] 39)
  have hb1 := rbox w (.cells #[.int .i64 4, .string (bs nm), .slice B l.length c, .int .i64 rn, .int .i64 rm, .string (bs rf), .string (bs rt), .string (bs rb), .string (bs ra), .string (bs ri), .int .i64 ln] 39)
  have HR := Lib.hid (R.below hb1)
  have H0 := Lib.hid hb1
  have HL := Lib.hid (hL.below hb1)
  clear hb1 R hL
  go_enter Tryz.func54, Tryz.ntmps54
  go_upto_region 1 with fail
  have HRA := Lib.hid RA
  have q0 := row_q0 RA
  clear RA
  obtain ⟨gb, hgb⟩ : ∃ gb, gb = w.heap.size := ⟨_, rfl⟩
  rw [← hgb] at HRA q0 ⊢
  have HGB := Lib.hid hgb
  clear hgb
  generalize w.alloc (.cells #[.int .i64 4, .string (bs nm), .slice B l.length c, .int .i64 rn, .int .i64 rm, .string (bs rf), .string (bs rt), .string (bs rb), .string (bs ra), .string (bs ri), .int .i64 ln] 39) = w1 at *
  go_upto_region 7 with fail
  have HB := Lib.hid (Below.refl w1.heap.size w1)
  have q1 := row_q1 HRA.out; have q2 := row_q2 HRA.out; have q3 := row_q3 HRA.out; have q4 := row_q4 HRA.out; have q5 := row_q5 HRA.out; have q6 := row_q6 HRA.out; have q7 := row_q7 HRA.out; have q8 := row_q8 HRA.out; have q9 := row_q9 HRA.out; have q10 := row_q10 HRA.out
  have r1 := HR.out.q3
  have WH : Hid (∀ W, Below w1.heap.size w1 W → Calls Tryz.prog 115 #[.pointer (some ⟨b, 0, none⟩), .slice AS9 r.stat.length cS9, .agg #[.int .i64 4, .string (bs nm), .slice B l.length c, .int .i64 rn, .int .i64 rm, .string (bs rf), .string (bs rt), .string (bs rb), .string (bs ra), .string (bs ri), .int .i64 ln]] W
      (GrwTo (sttE names r.stat ⟨4, nm, l, rn, rm, rf, rt, rb, ra, ri⟩) w0.heap.size (.slice AS9 r.stat.length cS9) (fun w' v => OwnDS w' w0.heap.size v (r.stat ++ [(rn, (rtSet names l 0).getD 0)])) W)) := fun W hW => by
    have RW := HR.out.below hW
    exact withSet_any names bl r.stat AS9 cS9 w0.heap.size b o 4 rn rm nm rf rt rb ra ri l B c ln W RW.q0 RW.lt (hO.below RW.be) (HL.out.below hW) hl RW.oS RW.be.size hn
  generalize sttE names r.stat ⟨4, nm, l, rn, rm, rf, rt, rb, ra, ri⟩ = E at *
  by_cases hE : E = 0
  · have HE : Hid (E = 0) := hE
    clear hE
    go_region_with (go_at_call 115; refine (WH.out _ (by first | exact Below.refl _ _ | exact below_drew (Below.refl _ _))).mono ?_; intro e w3 h3; obtain ⟨w2, g2, cp2, n2, hb2', hg2, e9, ho2, hat2⟩ := h3.ok HE.out; subst e9; have hb2 : Below w1.heap.size w1 w2 := (by first | exact hb2' | exact below_then (below_drew (Below.refl _ _)) hb2' (Nat.le_refl _)); have r9 := (HR.out.below hb2).row1 hg2 (rt_row_ne (HR.out.below hb2).oS (HR.out.below hb2).row (by decide)); have s1 := cell_of_row w3 b 3 _ _ _ r9; have f1 : w3.frozen? ⟨b, 3, none⟩ = false := (by simp [World.frozen?, r9]); have R5 := Lib.hid (HR.out.stat' hb2 hg2 ho2 (own_hk hat2)); clear h3 r9)
    all_goals
      go_wp2
      go_ret
      first | exact takTo_ok HE.out R5.out | exact takTo_ok HE.out (R5.out.below (below_drew (Below.refl _ _)))
  · have HE : Hid (E ≠ 0) := hE
    clear hE
    go_region_with (go_at_call 115; refine (WH.out _ (by first | exact Below.refl _ _ | exact below_drew (Below.refl _ _))).mono ?_; intro e w2 h2; obtain ⟨e9, hb2'⟩ := h2.no HE.out; subst e9; have hb2 : Below w1.heap.size w1 w2 := (by first | exact hb2' | exact below_then (below_drew (Below.refl _ _)) hb2' (Nat.le_refl _)); have R2 := HR.out.below hb2; have s1 := R2.q3; have f1 := R2.fz 3; have R5 := Lib.hid (R2.be0 3 (.slice none 0 0)); have K5 := Lib.hid (tak_keep (b := b) (j := 3) (v := .slice none 0 0) H0.out hb2); clear h2 R2)
    all_goals
      go_wp2
      go_ret
      first | exact takTo_no HE.out R5.out K5.out | exact takTo_no HE.out (below_drew R5.out) K5.out
set_option maxHeartbeats 4000000 in
theorem take_dyn (R : RtA w0 w b o r vU vP vS vD vA m) (hO : OrdAt w0 o names bl) (hL : ListAt w B c l) (hl : l.length ≤ 4096) (hn : r.dyn.length ≤ 30) :
    Calls Tryz.prog 54 #[.pointer (some ⟨b, 0, none⟩), .agg #[.int .i64 5, .string (bs nm), .slice B l.length c, .int .i64 rn, .int .i64 rm, .string (bs rf), .string (bs rt), .string (bs rb), .string (bs ra), .string (bs ri), .int .i64 ln]] w
      (TakTo (sttE names r.dyn ⟨5, nm, l, rn, rm, rf, rt, rb, ra, ri⟩) w0 w b o { r with dyn := r.dyn ++ [(rn, (rtSet names l 0).getD 0)] } m) := by
  obtain ⟨AD9, cD9, rfl⟩ := own_slice R.oD
  have RA := heap_alloc_new w (.cells #[.int .i64 5, .string (bs nm), .slice B l.length c, .int .i64 rn, .int .i64 rm, .string (bs rf), .string (bs rt), .string (bs rb), .string (bs ra), .string (bs ri), .int .i64 ln] 39)
  have hb1 := rbox w (.cells #[.int .i64 5, .string (bs nm), .slice B l.length c, .int .i64 rn, .int .i64 rm, .string (bs rf), .string (bs rt), .string (bs rb), .string (bs ra), .string (bs ri), .int .i64 ln] 39)
  have HR := Lib.hid (R.below hb1)
  have H0 := Lib.hid hb1
  have HL := Lib.hid (hL.below hb1)
  clear hb1 R hL
  go_enter Tryz.func54, Tryz.ntmps54
  go_upto_region 1 with fail
  have HRA := Lib.hid RA
  have q0 := row_q0 RA
  clear RA
  obtain ⟨gb, hgb⟩ : ∃ gb, gb = w.heap.size := ⟨_, rfl⟩
  rw [← hgb] at HRA q0 ⊢
  have HGB := Lib.hid hgb
  clear hgb
  generalize w.alloc (.cells #[.int .i64 5, .string (bs nm), .slice B l.length c, .int .i64 rn, .int .i64 rm, .string (bs rf), .string (bs rt), .string (bs rb), .string (bs ra), .string (bs ri), .int .i64 ln] 39) = w1 at *
  go_upto_region 9 with fail
  have HB := Lib.hid (Below.refl w1.heap.size w1)
  have q1 := row_q1 HRA.out; have q2 := row_q2 HRA.out; have q3 := row_q3 HRA.out; have q4 := row_q4 HRA.out; have q5 := row_q5 HRA.out; have q6 := row_q6 HRA.out; have q7 := row_q7 HRA.out; have q8 := row_q8 HRA.out; have q9 := row_q9 HRA.out; have q10 := row_q10 HRA.out
  have r1 := HR.out.q4
  have WH : Hid (∀ W, Below w1.heap.size w1 W → Calls Tryz.prog 115 #[.pointer (some ⟨b, 0, none⟩), .slice AD9 r.dyn.length cD9, .agg #[.int .i64 5, .string (bs nm), .slice B l.length c, .int .i64 rn, .int .i64 rm, .string (bs rf), .string (bs rt), .string (bs rb), .string (bs ra), .string (bs ri), .int .i64 ln]] W
      (GrwTo (sttE names r.dyn ⟨5, nm, l, rn, rm, rf, rt, rb, ra, ri⟩) w0.heap.size (.slice AD9 r.dyn.length cD9) (fun w' v => OwnDS w' w0.heap.size v (r.dyn ++ [(rn, (rtSet names l 0).getD 0)])) W)) := fun W hW => by
    have RW := HR.out.below hW
    exact withSet_any names bl r.dyn AD9 cD9 w0.heap.size b o 5 rn rm nm rf rt rb ra ri l B c ln W RW.q0 RW.lt (hO.below RW.be) (HL.out.below hW) hl RW.oD RW.be.size hn
  generalize sttE names r.dyn ⟨5, nm, l, rn, rm, rf, rt, rb, ra, ri⟩ = E at *
  by_cases hE : E = 0
  · have HE : Hid (E = 0) := hE
    clear hE
    go_region_with (go_at_call 115; refine (WH.out _ (by first | exact Below.refl _ _ | exact below_drew (Below.refl _ _))).mono ?_; intro e w3 h3; obtain ⟨w2, g2, cp2, n2, hb2', hg2, e9, ho2, hat2⟩ := h3.ok HE.out; subst e9; have hb2 : Below w1.heap.size w1 w2 := (by first | exact hb2' | exact below_then (below_drew (Below.refl _ _)) hb2' (Nat.le_refl _)); have r9 := (HR.out.below hb2).row1 hg2 (rt_row_ne (HR.out.below hb2).oD (HR.out.below hb2).row (by decide)); have s1 := cell_of_row w3 b 4 _ _ _ r9; have f1 : w3.frozen? ⟨b, 4, none⟩ = false := (by simp [World.frozen?, r9]); have R5 := Lib.hid (HR.out.dyn' hb2 hg2 ho2 (own_hk hat2)); clear h3 r9)
    all_goals
      go_wp2
      go_ret
      first | exact takTo_ok HE.out R5.out | exact takTo_ok HE.out (R5.out.below (below_drew (Below.refl _ _)))
  · have HE : Hid (E ≠ 0) := hE
    clear hE
    go_region_with (go_at_call 115; refine (WH.out _ (by first | exact Below.refl _ _ | exact below_drew (Below.refl _ _))).mono ?_; intro e w2 h2; obtain ⟨e9, hb2'⟩ := h2.no HE.out; subst e9; have hb2 : Below w1.heap.size w1 w2 := (by first | exact hb2' | exact below_then (below_drew (Below.refl _ _)) hb2' (Nat.le_refl _)); have R2 := HR.out.below hb2; have s1 := R2.q4; have f1 := R2.fz 4; have R5 := Lib.hid (R2.be0 4 (.slice none 0 0)); have K5 := Lib.hid (tak_keep (b := b) (j := 4) (v := .slice none 0 0) H0.out hb2); clear h2 R2)
    all_goals
      go_wp2
      go_ret
      first | exact takTo_no HE.out R5.out K5.out | exact takTo_no HE.out (below_drew R5.out) K5.out
end
end Go.Proofs.YtkalfhhdljndfaaGreatDoor
