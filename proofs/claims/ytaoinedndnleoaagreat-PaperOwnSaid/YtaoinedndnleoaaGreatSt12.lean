import Derived.Test.YtaoinedndnleoaaGreatSt10
import Derived.StillTailTactics
namespace Go.Proofs.YtaoinedndnleoaaGreat
set_option maxRecDepth 100000
open Go.ChangeShapes Go.WideShapes Go.ChangeAt Go.RowKit
def autL (c : Ch) (x : Cf) : List Nat := sortD (lvT c) (enL c x.set 10 [])
def stepC (c : Ch) (n : Nat) (now : Int) (x : Cf) (i : Nat) : Cf := movC c.kinds c.parents n x (frT c i) (toT c i) now
def runC (c : Ch) (n : Nat) (now : Int) : Nat → Cf → List Nat → Option (Cf × List Nat)
 | 0, x, out => match autL c x with
  | [] => some (x, out)
  | _ :: _ => none
 | f + 1, x, out => match autL c x with
  | [] => some (x, out)
  | i :: _ => runC c n now f (stepC c n now x i) (out ++ [i])
def RunInv (c : Ch) (n : Nat) (now : Int) (I : Cf → Prop) : Prop := ∀ x, I x → CfOk n x ∧ (enL c x.set 10 []).length ≤ 19 ∧ ∀ i ∈ enL c x.set 10 [], PastOk c.kinds c.parents n (pfun (rememL c.kinds c.parents n x.set x.past (leaveL c.parents n x.set (domL c.kinds c.parents n (frT c i) (toT c i))))) ∧ I (stepC c n now x i)
theorem run_cellU2 {P : Program} {fn : Func} {p u u' : Tmp} {ty : TypeId} (h : fn.results = #[.cell p ty, .tmp u, .tmp u']) (tmps : Array Value) (w : World) (g : Nat) (t : TypeId) (cs : Array Value) (fr : Nat × Nat) (d : TypeDesc)
  (hp : tmps.getD p undef = .pointer (some ⟨g, 0, none⟩)) (hg : w.heap[g]? = some (.cells cs t fr))
  (hu : P.underlying ty = some d) (hd : (match d with | .struct _ | .array _ _ => true | _ => false) = true) (hi : (P.info? ty).map (·.size) = some cs.size) :
  (results fn tmps).run P w = .ok (.tuple #[.agg cs, tmps.getD u undef, tmps.getD u' undef]) w := by
 have hp' : tmps[p]?.getD undef = .pointer (some ⟨g, 0, none⟩) := by simpa using hp
 simp [results, h, hp', asAddr, run_loadVar_row w g t ty cs fr d hg hu hd hi]
abbrev sets3 (W : World) (b : Nat) (v0 v1 v2 : Value) : World := ((W.setCell ⟨b, 0, none⟩ v0).setCell ⟨b, 1, none⟩ v1).setCell ⟨b, 2, none⟩ v2
theorem sets3_block (W : World) (b : Nat) (v0 v1 v2 : Value) {g : Nat} (hg : g < W.heap.size) (hne : g ≠ b) : (sets3 W b v0 v1 v2).heap[g]? = W.heap[g]? := by
 show (((W.setCell ⟨b, 0, none⟩ v0).setCell ⟨b, 1, none⟩ v1).setCell ⟨b, 2, none⟩ v2).heap[g]? = _
 rw [(grown_setCell _ _ _ _).block g (by simpa [World.setCell] using hg) (by simpa using hne), (grown_setCell _ _ _ _).block g (by simpa [World.setCell] using hg) (by simpa using hne), (grown_setCell _ _ _ _).block g hg (by simpa using hne)]
theorem sets3_size (W : World) (b : Nat) (v0 v1 v2 : Value) : (sets3 W b v0 v1 v2).heap.size = W.heap.size := by simp [World.setCell]
theorem sets3_row {W : World} {b : Nat} {a0 a1 a2 : Value} {t : TypeId} (h : W.heap[b]? = some (.cells #[a0, a1, a2] t (0, 0))) (v0 v1 v2 : Value) : (sets3 W b v0 v1 v2).heap[b]? = some (.cells #[v0, v1, v2] t (0, 0)) := by
 have e := heap_set (j := 2) (heap_set (j := 1) (heap_set (j := 0) h v0) v1) v2
 simpa using e
theorem sets3_own {W : World} {b base e s n : Nat} {v : Value} {xs : List Value} (h : W.ownsRow base e s v n xs) (hb : b < base) (v0 v1 v2 : Value) : (sets3 W b v0 v1 v2).ownsRow base e s v n xs := by
 have st : ∀ {X : World} (j : Nat) (u : Value), X.ownsRow base e s v n xs → (X.setCell ⟨b, j, none⟩ u).ownsRow base e s v n xs := fun j u hX =>
  World.ownsRow.kept hX (grown_setCell _ _ _ _) (.inr fun e => by have := (World.ownsRow.lt hX _ e).1; omega)
 exact st _ _ (st _ _ (st _ _ h))
theorem sets3_below {n b : Nat} {W0 W : World} (h : Below n W0 W) (hn : n ≤ W0.heap.size) (hb : n ≤ b) (v0 v1 v2 : Value) : Below n W0 (sets3 W b v0 v1 v2) := by
 have st : ∀ {X : World} (j : Nat) (u : Value), Below n W0 X → Below n W0 (X.setCell ⟨b, j, none⟩ u) := fun j u hX => hX.grown (grown_setCell _ b j u) (Nat.le_trans hn hX.size) (fun k e => by cases e; exact hb)
 exact st _ _ (st _ _ (st _ _ h))
theorem sets3_cfr {W : World} {b base n g3 gS : Nat} {x : Cf} (h : CfR base W n x (.slice (some ⟨g3, 0, none⟩) n n) gS) (h3 : g3 ≠ b) (hS : gS ≠ b) (v0 v1 v2 : Value) : CfR base (sets3 W b v0 v1 v2) n x (.slice (some ⟨g3, 0, none⟩) n n) gS := by
 refine ⟨h.ok, ?_, h.lo, (sets3_block W b v0 v1 v2 (Array.getElem?_eq_some_iff.1 h.rS).1 hS).trans h.rS⟩
 obtain ⟨A, c9, e9, hl, hc⟩ := h.uP
 refine ⟨A, c9, e9, hl, fun k hk => ?_⟩
 obtain ⟨b', off, e2, hb, hx9, hwf⟩ := hc k hk
 injection e9 with e1
 have hbg : b' = g3 := by rw [e2] at e1; injection e1 with e1; injection e1 with e1; exact e1.symm
 exact ⟨b', off, e2, Nat.lt_of_lt_of_eq hb (sets3_size W b v0 v1 v2).symm, (World.cell?_of_block (a := ⟨b', off + k, none⟩) (sets3_block W b v0 v1 v2 hb (by rw [hbg]; exact h3))).trans hx9, hwf⟩
theorem cfr_grown {W X : World} {base n g3 gS : Nat} {x : Cf} {row : Option Nat} (h : CfR base W n x (.slice (some ⟨g3, 0, none⟩) n n) gS) (hg : W.grownBy X row) (h3 : row ≠ some g3) (hS : row ≠ some gS) : CfR base X n x (.slice (some ⟨g3, 0, none⟩) n n) gS := by
 refine ⟨h.ok, ?_, h.lo, (hg.block gS (Array.getElem?_eq_some_iff.1 h.rS).1 (fun e => hS e.symm)).trans h.rS⟩
 obtain ⟨A, c9, e9, hl, hc⟩ := h.uP
 refine ⟨A, c9, e9, hl, fun k hk => ?_⟩
 obtain ⟨b', off, e2, hb, hx9, hwf⟩ := hc k hk
 injection e9 with e1
 have hbg : b' = g3 := by rw [e2] at e1; injection e1 with e1; injection e1 with e1; exact e1.symm
 exact ⟨b', off, e2, Nat.lt_of_lt_of_le hb hg.size, (World.cell?_of_block (a := ⟨b', off + k, none⟩) (hg.block b' hb (fun e => h3 (by rw [← e, hbg])))).trans hx9, hwf⟩
def lenV : Value → Nat
 | .slice _ m _ => m
 | _ => 0
abbrev cfZ : Value := .agg #[.int .u32 0, .slice none 0 0, .slice none 0 0]
def RunTo (n : Nat) (o : Option (Cf × List Nat)) (w : World) (e : Ending) (w' : World) : Prop := Below w.heap.size w w' ∧ match o with
 | none => e = .returned (.tuple #[cfZ, .slice none 0 0, .iface 50 (.int .i64 10)])
 | some (y, out) => ∃ g3 gS v, e = .returned (.tuple #[cfV y (.slice (some ⟨g3, 0, none⟩) n n) gS n, v, .nilIface]) ∧ w.heap.size ≤ g3 ∧ CfR w.heap.size w' n y (.slice (some ⟨g3, 0, none⟩) n n) gS ∧ OwnI w' w.heap.size v (out.map fun k : Nat => (k : Int))
set_option maxHeartbeats 8000000 in
theorem run_any (c : Ch) (n : Nat) (AN AK AP AT A7 A8 : Option Addr) (cN cK cP cT c7 c8 : Nat) (x : Cf) (now : Int) (I : Cf → Prop) (w : World) (h : ChW w c n AK AP AT cK cP cT) (hU : U32sAt w (.slice A7 n c7) x.past) (hS : IntsAt w (.slice A8 n c8) x.since)
  (hw : (Lit.int .i64 now).wf = true) (hI : RunInv c n now I) (hx : I x) :
  Calls Tryz.prog 21 #[chV AN AK AP AT c.names.length cN n cK n cP c.trans.length cT, .agg #[.int .u32 (x.set : Nat), .slice A7 n c7, .slice A8 n c8], .int .i64 now] w (RunTo n (runC c n now 16 x []) w) := by
 obtain ⟨RC, RX, RR, hB0'⟩ := rows3 w (.cells #[.slice AN c.names.length cN, .slice AK n cK, .slice AP n cP, .slice AT c.trans.length cT] 30) (.cells #[.int .u32 (x.set : Nat), .slice A7 n c7, .slice A8 n c8] 40) (.cells #[.int .u32 0, .slice none 0 0, .slice none 0 0] 40)
 have hB0 : Below w.heap.size w (((w.alloc (.cells #[.slice AN c.names.length cN, .slice AK n cK, .slice AP n cP, .slice AT c.trans.length cT] 30)).alloc (.cells #[.int .u32 (x.set : Nat), .slice A7 n c7, .slice A8 n c8] 40)).alloc (.cells #[.int .u32 0, .slice none 0 0, .slice none 0 0] 40)) := ((((Below.refl _ _).alloc (Nat.le_refl _) _).alloc (by simp) _).alloc (by simp; omega) _)
 have RC : (((w.alloc (.cells #[.slice AN c.names.length cN, .slice AK n cK, .slice AP n cP, .slice AT c.trans.length cT] 30)).alloc (.cells #[.int .u32 (x.set : Nat), .slice A7 n c7, .slice A8 n c8] 40)).alloc (.cells #[.int .u32 0, .slice none 0 0, .slice none 0 0] 40)).heap[w.heap.size]? = _ := RC
 have RX : (((w.alloc (.cells #[.slice AN c.names.length cN, .slice AK n cK, .slice AP n cP, .slice AT c.trans.length cT] 30)).alloc (.cells #[.int .u32 (x.set : Nat), .slice A7 n c7, .slice A8 n c8] 40)).alloc (.cells #[.int .u32 0, .slice none 0 0, .slice none 0 0] 40)).heap[w.heap.size + 1]? = _ := RX
 have RR : (((w.alloc (.cells #[.slice AN c.names.length cN, .slice AK n cK, .slice AP n cP, .slice AT c.trans.length cT] 30)).alloc (.cells #[.int .u32 (x.set : Nat), .slice A7 n c7, .slice A8 n c8] 40)).alloc (.cells #[.int .u32 0, .slice none 0 0, .slice none 0 0] 40)).heap[w.heap.size + 2]? = _ := RR
 have HH := Lib.hid h
 have hxo := (hI x hx).1
 have OW := Lib.hid (fun W (hW : Below w.heap.size w W) => by have := own_any AN AK AP AT c.names.length cN n cK n cP c.trans.length cT x.set A7 A8 c7 c8 x.past x.since W h.nn (by rw [hxo.lp]; exact hU.below hW) (by rw [hxo.ls]; exact hS.below hW) (by rw [hxo.lp]; exact Nat.le_refl _) (by rw [hxo.ls]; exact Nat.le_refl _); rwa [padL_self hxo.lp, padI_self hxo.ls, hxo.lp, hxo.ls] at this)
 have HB0 := Lib.hid hB0
 have HI := Lib.hid hI
 have hnn := h.nn
 have htl := h.tl
 have htc := h.tc
 clear h hU hS hB0 hB0' hI
 go_enter Tryz.func21, Tryz.ntmps21
 go_upto_region 1 with fail
 generalize ((w.alloc (.cells #[.slice AN c.names.length cN, .slice AK n cK, .slice AP n cP, .slice AT c.trans.length cT] 30)).alloc (.cells #[.int .u32 (x.set : Nat), .slice A7 n c7, .slice A8 n c8] 40)).alloc (.cells #[.int .u32 0, .slice none 0 0, .slice none 0 0] 40) = w0 at *
 have hL2 : w.heap.size + 2 < w0.heap.size := (Array.getElem?_eq_some_iff.1 RR).1
 have c0 := cell_of_row _ _ 0 _ _ _ RC; have c1 := cell_of_row _ _ 1 _ _ _ RC; have c2 := cell_of_row _ _ 2 _ _ _ RC; have c3 := cell_of_row _ _ 3 _ _ _ RC
 have x0 := cell_of_row _ _ 0 _ _ _ RX; have x1 := cell_of_row _ _ 1 _ _ _ RX; have x2 := cell_of_row _ _ 2 _ _ _ RX
 have HRC := Lib.hid RC
 have HRX := Lib.hid RX
 have HRR := Lib.hid RR
 go_upto_region 2 with (go_at_call 52; refine (OW.out _ HB0.out).mono ?_; rintro e w1 ⟨hb1, gP, gS, rfl, ⟨hlP, hlS⟩, hrP, hrS⟩; have r4 := (hb1.block _ (by omega : w.heap.size + 1 < w0.heap.size)).trans HRX.out; have d0 := cell_of_row _ _ 0 _ _ _ r4; have d1 := cell_of_row _ _ 1 _ _ _ r4; have d2 := cell_of_row _ _ 2 _ _ _ r4; have f0 := fzc_of r4 0; have f1 := fzc_of r4 1; have f2 := fzc_of r4 2; have HR4 := Lib.hid r4; have HRP := Lib.hid hrP; have HRS := Lib.hid hrS; have HB1 := Lib.hid hb1; clear hb1 hrP hrS r4)
 have hs1 := HB1.out.size
 have hgPl := (Array.getElem?_eq_some_iff.1 HRP.out).1
 have hgSl := (Array.getElem?_eq_some_iff.1 HRS.out).1
 have ho : ∀ g, g < w1.heap.size → g ≠ w.heap.size + 1 → (((w1.setCell ⟨w.heap.size + 1, 0, none⟩ (.int .u32 (x.set : Nat))).setCell ⟨w.heap.size + 1, 1, none⟩ (.slice (some ⟨gP, 0, none⟩) n n)).setCell ⟨w.heap.size + 1, 2, none⟩ (.slice (some ⟨gS, 0, none⟩) n n)).heap[g]? = w1.heap[g]? := fun g hg hne => by
  rw [(grown_setCell _ _ _ _).block g (by simpa [World.setCell] using hg) (by simpa using hne), (grown_setCell _ _ _ _).block g (by simpa [World.setCell] using hg) (by simpa using hne), (grown_setCell _ _ _ _).block g hg (by simpa using hne)]
 have hX2 := heap_set (j := 2) (heap_set (j := 1) (heap_set (j := 0) HR4.out (.int .u32 (x.set : Nat))) (.slice (some ⟨gP, 0, none⟩) n n)) (.slice (some ⟨gS, 0, none⟩) n n)
 have HX2 : Hid ((((w1.setCell ⟨w.heap.size + 1, 0, none⟩ (.int .u32 (x.set : Nat))).setCell ⟨w.heap.size + 1, 1, none⟩ (.slice (some ⟨gP, 0, none⟩) n n)).setCell ⟨w.heap.size + 1, 2, none⟩ (.slice (some ⟨gS, 0, none⟩) n n)).heap[w.heap.size + 1]? = some (.cells #[.int .u32 (x.set : Nat), .slice (some ⟨gP, 0, none⟩) n n, .slice (some ⟨gS, 0, none⟩) n n] 40 (0, 0))) := by show _ = _; simpa using hX2
 have hss : (((w1.setCell ⟨w.heap.size + 1, 0, none⟩ (.int .u32 (x.set : Nat))).setCell ⟨w.heap.size + 1, 1, none⟩ (.slice (some ⟨gP, 0, none⟩) n n)).setCell ⟨w.heap.size + 1, 2, none⟩ (.slice (some ⟨gS, 0, none⟩) n n)).heap.size = w1.heap.size := by simp [World.setCell]
 have hbw1 := below_then HB0.out HB1.out HB0.out.size
 have HB2 : Hid (Below w.heap.size w (((w1.setCell ⟨w.heap.size + 1, 0, none⟩ (.int .u32 (x.set : Nat))).setCell ⟨w.heap.size + 1, 1, none⟩ (.slice (some ⟨gP, 0, none⟩) n n)).setCell ⟨w.heap.size + 1, 2, none⟩ (.slice (some ⟨gS, 0, none⟩) n n))) := set_below (set_below (set_below hbw1 hbw1.size (by omega)) (by simpa [World.setCell] using hbw1.size) (by omega)) (by simpa [World.setCell] using hbw1.size) (by omega)
 have HCR : Hid (CfR w0.heap.size (((w1.setCell ⟨w.heap.size + 1, 0, none⟩ (.int .u32 (x.set : Nat))).setCell ⟨w.heap.size + 1, 1, none⟩ (.slice (some ⟨gP, 0, none⟩) n n)).setCell ⟨w.heap.size + 1, 2, none⟩ (.slice (some ⟨gS, 0, none⟩) n n)) n x (.slice (some ⟨gP, 0, none⟩) n n) gS) := by
  refine ⟨hxo, ?_, hlS, (ho gS hgSl (by omega)).trans HRS.out⟩
  have hrow := (ho gP hgPl (by omega)).trans HRP.out
  refine ⟨some ⟨gP, 0, none⟩, n, by rw [hxo.lp], by rw [hxo.lp]; unfold maxLen; omega, fun k hk => ⟨gP, 0, rfl, (Array.getElem?_eq_some_iff.1 hrow).1, ?_, ?_⟩⟩
  ·rw [cell_of_row _ _ _ _ _ _ hrow, Nat.zero_add]; simpa using ucl_at x.past k hk
  ·exact Nat.lt_of_lt_of_le (hxo.pl _ (List.getElem_mem hk)) (Nat.pow_le_pow_right (n := 2) (by omega) (show n ≤ 32 by omega))
 have HC2 : Hid ((((w1.setCell ⟨w.heap.size + 1, 0, none⟩ (.int .u32 (x.set : Nat))).setCell ⟨w.heap.size + 1, 1, none⟩ (.slice (some ⟨gP, 0, none⟩) n n)).setCell ⟨w.heap.size + 1, 2, none⟩ (.slice (some ⟨gS, 0, none⟩) n n)).heap[w.heap.size]? = some (.cells #[.slice AN c.names.length cN, .slice AK n cK, .slice AP n cP, .slice AT c.trans.length cT] 30 (0, 0))) := (ho _ (by omega) (by omega)).trans ((HB1.out.block _ (by omega)).trans HRC.out)
 have HR2 : Hid ((((w1.setCell ⟨w.heap.size + 1, 0, none⟩ (.int .u32 (x.set : Nat))).setCell ⟨w.heap.size + 1, 1, none⟩ (.slice (some ⟨gP, 0, none⟩) n n)).setCell ⟨w.heap.size + 1, 2, none⟩ (.slice (some ⟨gS, 0, none⟩) n n)).heap[w.heap.size + 2]? = some (.cells #[.int .u32 0, .slice none 0 0, .slice none 0 0] 40 (0, 0))) := (ho _ (by omega) (by omega)).trans ((HB1.out.block _ (by omega)).trans HRR.out)
 have hs2 := Nat.le_of_eq hss.symm
 clear hX2 ho hss hbw1
 go_wp2
 clear c0 c1 c2 c3 x0 x1 x2 d0 d1 d2 f0 f1 f2 RC RX RR HR4 HRP HRS HB1 HRC HRX HRR OW hgPl hgSl
 generalize ((w1.setCell ⟨w.heap.size + 1, 0, none⟩ (.int .u32 (x.set : Nat))).setCell ⟨w.heap.size + 1, 1, none⟩ (.slice (some ⟨gP, 0, none⟩) n n)).setCell ⟨w.heap.size + 1, 2, none⟩ (.slice (some ⟨gS, 0, none⟩) n n) = w2 at *
 go_loopw [9] (fun v wr => ∃ (f : Nat) (y : Cf) (out : List Nat) (gP gS : Nat), out.length + f = 16 ∧ Hid (runC c n now 16 x [] = runC c n now f y out) ∧ Hid (I y) ∧ Hid (wr.heap[w.heap.size]? = some (.cells #[.slice AN c.names.length cN, .slice AK n cK, .slice AP n cP, .slice AT c.trans.length cT] 30 (0, 0))) ∧ Hid (wr.heap[w.heap.size + 1]? = some (.cells #[.int .u32 (y.set : Nat), .slice (some ⟨gP, 0, none⟩) n n, .slice (some ⟨gS, 0, none⟩) n n] 40 (0, 0))) ∧ Hid (wr.heap[w.heap.size + 2]? = some (.cells #[.int .u32 0, .slice none 0 0, .slice none 0 0] 40 (0, 0))) ∧ Hid (w0.heap.size ≤ gP) ∧
  Hid (CfR w0.heap.size wr n y (.slice (some ⟨gP, 0, none⟩) n n) gS) ∧ Hid (OwnI wr w0.heap.size v (out.map fun k : Nat => (k : Int))) ∧ Hid (Below w.heap.size w wr) ∧ Hid (w0.heap.size ≤ wr.heap.size)) (fun v _ => 17 - lenV v)
 case atStart => exact ⟨16, x, [], gP, gS, rfl, rfl, hx, HC2.out, HX2.out, HR2.out, hlP, HCR.out, World.ownsRow_nil _ _ _ _, HB2.out, Nat.le_trans hs1 hs2⟩
 case round =>
  obtain ⟨f, y, out, gP, gS, hf, HE, HIy, HC, HX, HR, HgP, HCf, HO, HB, HZ⟩ := hrel
  obtain ⟨hyo, hfew, hnext⟩ := HI.out y HIy.out
  have hbz := HB.out.size
  have hCw := HH.out.below HB.out
  have hxl := (Array.getElem?_eq_some_iff.1 HR.out).1
  have c0 := cell_of_row _ _ 0 _ _ _ HC.out; have c1 := cell_of_row _ _ 1 _ _ _ HC.out; have c2 := cell_of_row _ _ 2 _ _ _ HC.out; have c3 := cell_of_row _ _ 3 _ _ _ HC.out
  have x0 := cell_of_row _ _ 0 _ _ _ HX.out; have x1 := cell_of_row _ _ 1 _ _ _ HX.out; have x2 := cell_of_row _ _ 2 _ _ _ HX.out
  have EN := Lib.hid (enabled_any c n AN AK AP AT (some ⟨gP, 0, none⟩) (some ⟨gS, 0, none⟩) cN cK cP cT n n n n y.set 10 [] wr hCw (Nat.lt_of_lt_of_le hyo.st (Nat.pow_le_pow_right (n := 2) (by omega) (show n ≤ 32 by omega))) hfew)
  have hau : sortD (lvT c) (enL c y.set 10 []) = autL c y := rfl
  rw [hau] at EN
  have hal : (autL c y).length ≤ 19 := by show (sortD _ _).length ≤ 19; rw [sortD_len]; exact hfew
  have HNX : Hid (∀ i ∈ autL c y, PastOk c.kinds c.parents n (pfun (rememL c.kinds c.parents n y.set y.past (leaveL c.parents n y.set (domL c.kinds c.parents n (frT c i) (toT c i))))) ∧ I (stepC c n now y i)) := fun i hi => hnext i ((sortD_mem _ _ i).1 hi)
  have HAI : Hid (∀ i ∈ autL c y, i < c.trans.length) := fun i hi => enK_lt c y.set 10 [] c.trans.length i ((sortD_mem _ _ i).1 hi)
  have hrun : ∀ f, runC c n now f y out = match autL c y with
   | [] => some (y, out)
   | i :: _ => (match f with
    | 0 => none
    | f + 1 => runC c n now f (stepC c n now y i) (out ++ [i])) := fun f => by
   cases f with
   | zero => rw [runC]
   | succ f => rw [runC]
  have HRU := Lib.hid (HE.out.trans (hrun f))
  obtain ⟨Av, cv, rfl⟩ := own_slice HO.out
  clear hnext hau hrun hfew HE
  generalize autL c y = au at *
  go_upto_region 4 with (go_at_call 19; refine EN.out.mono ?_; rintro e w3 ⟨hb3, v3, rfl, hO3⟩; obtain ⟨Al, cl, rfl⟩ := own_slice hO3; have HB3 := Lib.hid hb3; have HO3 := Lib.hid hO3; clear hb3 hO3)
  have hs3 := HB3.out.size
  have HC3 := Lib.hid ((HB3.out.block _ (by omega)).trans HC.out)
  have HX3 := Lib.hid ((HB3.out.block _ (by omega)).trans HX.out)
  have HR3 := Lib.hid ((HB3.out.block _ (by omega)).trans HR.out)
  have HCf3 := Lib.hid (HCf.out.below HB3.out)
  have HOv3 := Lib.hid (own_below HO.out HB3.out HZ.out)
  have HBw3 := Lib.hid (below_then HB.out HB3.out hbz)
  have hzz := HZ.out
  clear c0 c1 c2 c3 x0 x1 x2 HC HX HR HCf HO HB EN
  have hlm : ((au.map fun k : Nat => (k : Int)).length : Int) = au.length := by rw [List.length_map]
  have hlo : ((out.map fun k : Nat => (k : Int)).length : Int) = out.length := by rw [List.length_map]
  cases au with
  | nil =>
   have HRU2 : Hid (runC c n now 16 x [] = some (y, out)) := HRU.out
   have x0 := cell_of_row _ _ 0 _ _ _ HX3.out; have x1 := cell_of_row _ _ 1 _ _ _ HX3.out; have x2 := cell_of_row _ _ 2 _ _ _ HX3.out
   have d0 := cell_of_row _ _ 0 _ _ _ HR3.out; have d1 := cell_of_row _ _ 1 _ _ _ HR3.out; have d2 := cell_of_row _ _ 2 _ _ _ HR3.out
   have f0 := fzc_of HR3.out 0; have f1 := fzc_of HR3.out 1; have f2 := fzc_of HR3.out 2
   have hlS2 := HCf3.out.lo
   have hgP2 := HgP.out
   go_wp2
   (try simp only [Exit.inBlock, Exit.then])
   refine bodyPost_ret (run_cellU2 rfl _ _ (w.heap.size + 2) _ _ _ _ rfl (sets3_row HR3.out _ _ _) Tryz.underlying40 rfl (by kernel_rfl)) rfl ?_
   rw [HRU2.out]
   refine ⟨sets3_below HBw3.out (Nat.le_refl _) (by omega) _ _ _, gP, gS, _, rfl, by omega, (sets3_cfr HCf3.out (by omega) (by omega) _ _ _).base (by omega), ?_⟩
   have h9 : OwnI w3 w0.heap.size (.slice Av (out.map fun k : Nat => (k : Int)).length cv) (out.map fun k : Nat => (k : Int)) := HOv3.out
   rw [List.length_map] at h9
   show OwnI _ _ (.slice Av out.length cv) _
   exact own_mono2 (sets3_own h9 (by omega) _ _ _) (by omega)
  | cons i r =>
   obtain ⟨hpast, hIn⟩ := HNX.out i List.mem_cons_self
   have hil := HAI.out i List.mem_cons_self
   cases f with
   | zero =>
    have HRU2 : Hid (runC c n now 16 x [] = none) := HRU.out
    have d0 := cell_of_row _ _ 0 _ _ _ HR3.out; have d1 := cell_of_row _ _ 1 _ _ _ HR3.out; have d2 := cell_of_row _ _ 2 _ _ _ HR3.out
    have f0 := fzc_of HR3.out 0; have f1 := fzc_of HR3.out 1; have f2 := fzc_of HR3.out 2
    have hge : (16 : Int) ≤ out.length := by omega
    go_wp2
    (try simp only [Exit.inBlock, Exit.then])
    refine bodyPost_ret (run_cellU2 rfl _ _ (w.heap.size + 2) _ _ _ _ rfl (sets3_row HR3.out _ _ _) Tryz.underlying40 rfl (by kernel_rfl)) rfl ?_
    rw [HRU2.out]
    exact ⟨sets3_below HBw3.out (Nat.le_refl _) (by omega) _ _ _, rfl⟩
   | succ f =>
    have HRU2 : Hid (runC c n now 16 x [] = runC c n now f (stepC c n now y i) (out ++ [i])) := HRU.out
    obtain ⟨f_, t_, ef, hfn, et, htn⟩ := HH.out.ft _ (List.getElem_mem hil)
    have hstep : stepC c n now y i = movC c.kinds c.parents n y f_ t_ now := by unfold stepC; rw [frT_at hil ef, toT_at hil et]
    rw [hstep] at HRU2 hIn
    rw [frT_at hil ef, toT_at hil et] at hpast
    have hCw3 := HH.out.below HBw3.out
    obtain ⟨gT, rfl, hgT, hc⟩ := hCw3.tr i hil
    have r0 := hc 0 _ (by omega) rfl; have r1 := hc 1 _ (by omega) rfl; have r2 := hc 2 _ (by omega) rfl; have r3 := hc 3 _ (by omega) rfl; have r4 := hc 4 _ (by omega) rfl; have r5 := hc 5 _ (by omega) rfl; have r6 := hc 6 _ (by omega) rfl
    simp only [Nat.add_zero] at r0
    rw [ef] at r1
    rw [et] at r2
    have hgTw : gT < w.heap.size := by
     obtain ⟨gT', e9, h9, _⟩ := HH.out.tr i hil
     injection e9 with e9
     injection e9 with e9
     omega
    obtain ⟨gl, cl', el, hgl0, hgl, _, hcl⟩ := own_form HO3.out (by simp)
    injection el with el
    subst el
    have l0 : w3.cell? ⟨gl, 0, none⟩ = some (.int .i64 (i : Nat)) := hcl 0 _ (by simp [icells])
    have c0 := cell_of_row _ _ 0 _ _ _ HC3.out; have c1 := cell_of_row _ _ 1 _ _ _ HC3.out; have c2 := cell_of_row _ _ 2 _ _ _ HC3.out; have c3 := cell_of_row _ _ 3 _ _ _ HC3.out
    have x0 := cell_of_row _ _ 0 _ _ _ HX3.out; have x1 := cell_of_row _ _ 1 _ _ _ HX3.out; have x2 := cell_of_row _ _ 2 _ _ _ HX3.out
    have MV := Lib.hid (fun W (hW : Below w3.heap.size w3 W) => moved_any AN AK AP (some ⟨gT, 0, none⟩) c.names.length cN cK cP c.trans.length cT y (some ⟨gP, 0, none⟩) (some ⟨gS, 0, none⟩) n n c.trans[i].kind c.trans[i].time now f_ t_ (bs c.trans[i].event) (bs c.trans[i].perm) (bs c.trans[i].task) W ⟨hCw3.kp.1.below hW, hCw3.kp.2.below hW⟩ hCw3.sh hCw3.n0 hCw3.nn hyo (HCf3.out.uP.below hW) ((HCf3.out.ints (by omega)).below hW) hfn htn hw hpast)
    have hnot : ¬ (16 : Int) ≤ out.length := by omega
    have hii : (i : Int) < c.trans.length := by omega
    have hal0 : (0 : Int) < ((i :: r).map fun k : Nat => (k : Int)).length := by simp
    clear hc hstep hpast ef et hCw3 HRU
    generalize c.trans[i] = tr at *
    obtain ⟨tk, tf, tt, te, tp, ta, ti⟩ := tr
    simp only at r0 r1 r2 r3 r4 r5 r6 MV
    generalize movC c.kinds c.parents n y f_ t_ now = y2 at *
    have hL1 : w.heap.size + 1 < w3.heap.size := by omega
    go_upto_region 8 with fail
    go_still_tail 10, (by kernel_rfl)
    go_upto_region 9 with (go_at_call 39; refine (MV.out _ (by first | exact Below.refl _ _ | exact below_drew (Below.refl _ _))).mono ?_; rintro e w7 ⟨hb7', g3, gS2, rfl, hg3', hR7'⟩; have hb7 : Below w3.heap.size w3 w7 := (by first | exact hb7' | exact below_then (below_drew (Below.refl _ _)) hb7' (Nat.le_refl _)); have hg3 : w3.heap.size ≤ g3 := hg3'; have hR7 : CfR w3.heap.size w7 n y2 (.slice (some ⟨g3, 0, none⟩) n n) gS2 := hR7'; have rr7 := (hb7.block _ hL1).trans HX3.out; have d0 := cell_of_row _ _ 0 _ _ _ rr7; have d1 := cell_of_row _ _ 1 _ _ _ rr7; have d2 := cell_of_row _ _ 2 _ _ _ rr7; have f0 := fzc_of rr7 0; have f1 := fzc_of rr7 1; have f2 := fzc_of rr7 2)
    have hs7 := hb7.size
    have hlS2 := hR7.lo
    have HX7 := Lib.hid (sets3_row rr7 (.int .u32 (y2.set : Nat)) (.slice (some ⟨g3, 0, none⟩) n n) (.slice (some ⟨gS2, 0, none⟩) n n))
    have HB7 := Lib.hid (sets3_below (b := w.heap.size + 1) (below_then HBw3.out hb7 HBw3.out.size) (Nat.le_refl _) (by omega) (.int .u32 (y2.set : Nat)) (.slice (some ⟨g3, 0, none⟩) n n) (.slice (some ⟨gS2, 0, none⟩) n n))
    have HC7 := Lib.hid ((sets3_block w7 (w.heap.size + 1) (.int .u32 (y2.set : Nat)) (.slice (some ⟨g3, 0, none⟩) n n) (.slice (some ⟨gS2, 0, none⟩) n n) (g := w.heap.size) (by omega) (by omega)).trans ((hb7.block _ (by omega)).trans HC3.out))
    have HR7r := Lib.hid ((sets3_block w7 (w.heap.size + 1) (.int .u32 (y2.set : Nat)) (.slice (some ⟨g3, 0, none⟩) n n) (.slice (some ⟨gS2, 0, none⟩) n n) (g := w.heap.size + 2) (by omega) (by omega)).trans ((hb7.block _ (by omega)).trans HR3.out))
    have HCf7 := Lib.hid (sets3_cfr (b := w.heap.size + 1) hR7 (by omega) (by omega) (.int .u32 (y2.set : Nat)) (.slice (some ⟨g3, 0, none⟩) n n) (.slice (some ⟨gS2, 0, none⟩) n n))
    have hgl7 : (sets3 w7 (w.heap.size + 1) (.int .u32 (y2.set : Nat)) (.slice (some ⟨g3, 0, none⟩) n n) (.slice (some ⟨gS2, 0, none⟩) n n)).cell? ⟨gl, 0, none⟩ = some (.int .i64 (i : Nat)) := (World.cell?_of_block (a := ⟨gl, 0, none⟩) (sets3_block w7 (w.heap.size + 1) _ _ _ (g := gl) (by omega) (by omega))).trans ((hb7.cell (p := ⟨gl, 0, none⟩) hgl).trans l0)
    have h9 : OwnI w3 w0.heap.size (.slice Av (out.map fun k : Nat => (k : Int)).length cv) (out.map fun k : Nat => (k : Int)) := HOv3.out
    rw [List.length_map] at h9
    have hAv : ∀ g, (Value.slice Av out.length cv).ownBlock = some g → w0.heap.size ≤ g ∧ g < w3.heap.size := fun g e => World.ownsRow.lt h9 g e
    have hO7 : World.ownsRow (sets3 w7 (w.heap.size + 1) (.int .u32 (y2.set : Nat)) (.slice (some ⟨g3, 0, none⟩) n n) (.slice (some ⟨gS2, 0, none⟩) n n)) w0.heap.size 3 1 (.slice Av out.length cv) out.length (icells (out.map fun k : Nat => (k : Int))) := by
     have h8 := sets3_own (b := w.heap.size + 1) (own_below h9 hb7 (by omega)) (by omega) (.int .u32 (y2.set : Nat)) (.slice (some ⟨g3, 0, none⟩) n n) (.slice (some ⟨gS2, 0, none⟩) n n)
     rwa [List.length_map] at h8
    have HO7 := Lib.hid hO7
    have hz7 := sets3_size w7 (w.heap.size + 1) (.int .u32 (y2.set : Nat)) (.slice (some ⟨g3, 0, none⟩) n n) (.slice (some ⟨gS2, 0, none⟩) n n)
    obtain ⟨i0, hi, hz0, hz1, hz2⟩ := info_parts Tryz.infoInt
    clear hb7 hb7' hg3' hR7' hR7 rr7 d0 d1 d2 f0 f1 f2 c0 c1 c2 c3 x0 x1 x2 l0 h9 hO7 r0 r1 r2 r3 r4 r5 r6 MV
    have hz9 : w0.heap.size ≤ w7.heap.size := by omega
    have hgSx := HCf7.out.lo
    obtain ⟨X, hX⟩ : ∃ X, X = sets3 w7 (w.heap.size + 1) (.int .u32 (y2.set : Nat)) (.slice (some ⟨g3, 0, none⟩) n n) (.slice (some ⟨gS2, 0, none⟩) n n) := ⟨_, rfl⟩
    rw [← hX] at HX7 HB7 HC7 HR7r HCf7 hgl7 HO7 hz7
    rw [show ((w7.setCell ⟨w.heap.size + 1, 0, none⟩ (.int .u32 (y2.set : Nat))).setCell ⟨w.heap.size + 1, 1, none⟩ (.slice (some ⟨g3, 0, none⟩) n n)).setCell ⟨w.heap.size + 1, 2, none⟩ (.slice (some ⟨gS2, 0, none⟩) n n) = X from hX.symm]
    clear hX
    have hXz : w0.heap.size ≤ X.heap.size := by omega
    have HZ7 := Lib.hid hz7
    clear hz7
    go_wp2_with (at_builtin; go_must (refine wpList_append_own _ rfl (.tmp 38) (.tmp 42) 22 rfl w0.heap.size 3 i0 _ 1 8 Tryz.underlying22 hi hz0 hz1 hz2 rfl (by decide) _ _ _ rfl (World.ownsRow.alloc HO7.out _) ⟨X.heap.size, 0, none⟩ 1 1 (icells [(i : Int)]) rfl rfl (cells_new _ _ _) (icells_one _) (by unfold maxLen; omega) (by omega) (by simp; omega) ?_); intro v' w9 hown' hg' _)
    have hg2 := (World.grownBy_alloc X (.cells #[.int .i64 (i : Int)] 3) _).andThen hg' (fun j e => .inr e)
    have hOn : OwnI w9 w0.heap.size v' ((out ++ [i]).map fun k : Nat => (k : Int)) := by
     rw [List.map_append]
     refine ownI_app ?_
     rw [List.length_map]
     exact hown'
    obtain ⟨A', c', rfl⟩ := own_slice hOn
    have hz7 := HZ7.out
    have hne : ∀ g, g < w0.heap.size ∨ w3.heap.size ≤ g → (Value.slice Av out.length cv).ownBlock ≠ some g := fun g h1 e => by have := hAv g e; omega
    have hrw : ∀ g, g < w0.heap.size → w9.heap[g]? = X.heap[g]? := fun g h1 => hg2.block g (by omega) (fun e => hne g (.inl h1) e.symm)
    go_roundw
    case rel =>
     refine ⟨f, y2, out ++ [i], g3, gS2, by simp; omega, HRU2.out, hIn, (hrw _ (by omega)).trans HC7.out, (hrw _ (by omega)).trans HX7.out, (hrw _ (by omega)).trans HR7r.out, (show w0.heap.size ≤ g3 by omega), (cfr_grown HCf7.out hg2 (hne g3 (.inr hg3)) (hne gS2 (.inr hlS2))).base (by omega), hOn, HB7.out.grown hg2 HB7.out.size (fun g e => by have := hAv g e; omega), Nat.le_trans hXz hg2.size⟩
    case measure => simp [lenV]; omega
def cf0 (n : Nat) : Cf := ⟨0, padL n [], padI n []⟩
theorem cf0_ok (n : Nat) : CfOk n (cf0 n) := by
 refine ⟨by simp [cf0, padL], by simp [cf0, padI], Nat.two_pow_pos n, fun p hp => ?_, fun z hz => ?_⟩
 ·simp only [cf0, padL, List.nil_append, List.length_nil, Nat.sub_zero] at hp
  rw [(List.mem_replicate.1 hp).2]; exact Nat.two_pow_pos n
 ·simp only [cf0, padI, List.nil_append, List.length_nil, Nat.sub_zero] at hz
  rw [(List.mem_replicate.1 hz).2]; decide
theorem cf0_at {n base gP gS : Nat} {W : World} (hn : n ≤ 24) (hS : base ≤ gS) (rP : W.heap[gP]? = some (.cells (ucl (padL n [])).toArray 37 (0, 0))) (rS : W.heap[gS]? = some (.cells (icells (padI n [])).toArray 3 (0, 0))) : CfR base W n (cf0 n) (.slice (some ⟨gP, 0, none⟩) n n) gS := by
 refine ⟨cf0_ok n, ?_, hS, rS⟩
 have hl : (cf0 n).past.length = n := (cf0_ok n).lp
 refine ⟨some ⟨gP, 0, none⟩, n, by rw [hl], by rw [hl]; unfold maxLen; omega, fun k hk => ⟨gP, 0, rfl, (Array.getElem?_eq_some_iff.1 rP).1, ?_, ?_⟩⟩
 ·rw [cell_of_row _ _ _ _ _ _ rP, Nat.zero_add, List.getElem?_toArray]; exact ucl_at (padL n []) k hk
 ·exact Nat.lt_of_lt_of_le ((cf0_ok n).pl _ (List.getElem_mem hk)) (Nat.pow_le_pow_right (n := 2) (by omega) (show n ≤ 32 by omega))
def begC (c : Ch) (n : Nat) (now : Int) : Cf := entC now (cf0 n) (inS c.kinds c.parents n (iniN c.kinds c.parents n (-1)))
set_option maxHeartbeats 8000000 in
theorem begin_any (c : Ch) (n : Nat) (AN AK AP AT : Option Addr) (cN cK cP cT : Nat) (now : Int) (I : Cf → Prop) (w : World) (h : ChW w c n AK AP AT cK cP cT) (hN : ListAt w AN cN c.names) (hv : validB c = true) (hnl : c.names.length ≤ 24)
  (hw : (Lit.int .i64 now).wf = true) (hI : RunInv c n now I) (hx : I (begC c n now)) :
  Calls Tryz.prog 41 #[chV AN AK AP AT c.names.length cN n cK n cP c.trans.length cT, .int .i64 now] w (RunTo n (runC c n now 16 (begC c n now) []) w) := by
 have RC0 : ((w.alloc (.cells #[.slice AN c.names.length cN, .slice AK n cK, .slice AP n cP, .slice AT c.trans.length cT] 30)).alloc (.cells #[.int .u32 0, .slice none 0 0, .slice none 0 0] 40)).heap[w.heap.size]? = _ := (heap_alloc_old _ _ (by simp)).trans (heap_alloc_new _ _)
 have RR0 : ((w.alloc (.cells #[.slice AN c.names.length cN, .slice AK n cK, .slice AP n cP, .slice AT c.trans.length cT] 30)).alloc (.cells #[.int .u32 0, .slice none 0 0, .slice none 0 0] 40)).heap[w.heap.size + 1]? = some (.cells #[.int .u32 0, .slice none 0 0, .slice none 0 0] 40 (0, 0)) := by
  have := heap_alloc_new (w.alloc (.cells #[.slice AN c.names.length cN, .slice AK n cK, .slice AP n cP, .slice AT c.trans.length cT] 30)) (.cells #[.int .u32 0, .slice none 0 0, .slice none 0 0] 40)
  simpa using this
 have hB0 : Below w.heap.size w ((w.alloc (.cells #[.slice AN c.names.length cN, .slice AK n cK, .slice AP n cP, .slice AT c.trans.length cT] 30)).alloc (.cells #[.int .u32 0, .slice none 0 0, .slice none 0 0] 40)) := ((Below.refl _ _).alloc (Nat.le_refl _) _).alloc (by simp) _
 have HB0 := Lib.hid hB0
 have HH := Lib.hid h
 have hnn := h.nn
 have hik := iniN_kid h.sh.tp
 have HEL : Hid (∀ k ∈ inS c.kinds c.parents n (iniN c.kinds c.parents n (-1)), k < n) := fun k hm => (inS_und h.sh hik.1 (kid_hl hik.2) hm).1
 have hEn : (inS c.kinds c.parents n (iniN c.kinds c.parents n (-1))).length ≤ 1000 := by have := inS_len h.sh hik.1 (kid_hl hik.2); omega
 have VA := CValid_yes c AN AK AP AT cN cK cP cT _ (hN.below hB0) (by rw [h.sh.kl, h.sh.pl]; exact ⟨h.kp.1.below hB0, h.kp.2.below hB0⟩) (h.tr.below hB0) h.tc hnl hv
 rw [h.sh.kl, h.sh.pl] at VA
 have VA := Lib.hid VA
 clear hB0 h hik hN hv
 go_enter Tryz.func41, Tryz.ntmps41
 go_upto_region 1 with fail
 generalize (w.alloc (.cells #[.slice AN c.names.length cN, .slice AK n cK, .slice AP n cP, .slice AT c.trans.length cT] 30)).alloc (.cells #[.int .u32 0, .slice none 0 0, .slice none 0 0] 40) = w0 at *
 have k0 := cell_of_row _ _ 0 _ _ _ RC0; have k1 := cell_of_row _ _ 1 _ _ _ RC0; have k2 := cell_of_row _ _ 2 _ _ _ RC0; have k3 := cell_of_row _ _ 3 _ _ _ RC0
 have hl1 : w.heap.size + 1 < w0.heap.size := (Array.getElem?_eq_some_iff.1 RR0).1
 go_upto_region 3 with (go_at_call 77; refine VA.out.mono ?_; rintro e w1 ⟨rfl, hb1⟩; have HB1 := Lib.hid hb1; clear hb1)
 have RC := (HB1.out.block _ (by omega)).trans RC0
 have RR := (HB1.out.block _ hl1).trans RR0
 have hs1 := HB1.out.size
 have hbw := below_then HB0.out HB1.out HB0.out.size
 have HBW := Lib.hid hbw
 have HRR := Lib.hid RR
 have c0 := cell_of_row _ _ 0 _ _ _ RC; have c1 := cell_of_row _ _ 1 _ _ _ RC; have c2 := cell_of_row _ _ 2 _ _ _ RC; have c3 := cell_of_row _ _ 3 _ _ _ RC
 have hL0 : w.heap.size < w1.heap.size := by omega
 have hL1 : w.heap.size + 1 < w1.heap.size := by omega
 have hm0 : w.heap.size ≠ w.heap.size + 1 := by omega
 clear RC RR RC0 RR0 k0 k1 k2 k3 VA hbw
 have OW := Lib.hid (fun W (hW : Below w1.heap.size w1 W) => own_any AN AK AP AT c.names.length cN n cK n cP c.trans.length cT 0 none none 0 0 [] [] W hnn ⟨none, 0, rfl, Nat.zero_le _, fun k hk => by simp at hk⟩ ⟨none, 0, rfl, Nat.zero_le _, fun k hk => by simp at hk⟩ (Nat.zero_le _) (Nat.zero_le _))
 have SB := Lib.hid (fun W (hW : Below w1.heap.size w1 W) => Start_B W ⟨HH.out.kp.1.below (below_then HBW.out hW HBW.out.size), HH.out.kp.2.below (below_then HBW.out hW HBW.out.size)⟩ HH.out.sh HH.out.n0 hnn)
 have RN := Lib.hid (fun W (hW : Below w1.heap.size w1 W) (gP gS : Nat) (hR : CfR w1.heap.size W n (begC c n now) (.slice (some ⟨gP, 0, none⟩) n n) gS) => run_any c n AN AK AP AT (some ⟨gP, 0, none⟩) (some ⟨gS, 0, none⟩) cN cK cP cT n n (begC c n now) now I W (HH.out.below (below_then HBW.out hW HBW.out.size)) hR.uP (hR.ints (by omega)) hw hI hx)
 generalize runC c n now 16 (begC c n now) [] = o at *
 rcases o with _ | ⟨y, out⟩
 ·go_region_held3 (fun w' => w'.cell? ⟨w.heap.size, 0, none⟩ = some (.slice AN c.names.length cN) ∧ w'.cell? ⟨w.heap.size, 1, none⟩ = some (.slice AK n cK) ∧ w'.cell? ⟨w.heap.size, 2, none⟩ = some (.slice AP n cP) ∧ w'.cell? ⟨w.heap.size, 3, none⟩ = some (.slice AT c.trans.length cT))
   (first | exact ⟨c0, c1, c2, c3⟩ | exact ⟨(hb2.cell (p := ⟨w.heap.size, 0, none⟩) hL0).trans c0, (hb2.cell (p := ⟨w.heap.size, 1, none⟩) hL0).trans c1, (hb2.cell (p := ⟨w.heap.size, 2, none⟩) hL0).trans c2, (hb2.cell (p := ⟨w.heap.size, 3, none⟩) hL0).trans c3⟩ | exact ⟨(hb3.cell (p := ⟨w.heap.size, 0, none⟩) hL0).trans c0, (hb3.cell (p := ⟨w.heap.size, 1, none⟩) hL0).trans c1, (hb3.cell (p := ⟨w.heap.size, 2, none⟩) hL0).trans c2, (hb3.cell (p := ⟨w.heap.size, 3, none⟩) hL0).trans c3⟩ | exact ⟨(hb4.cell (p := ⟨w.heap.size, 0, none⟩) hL0).trans c0, (hb4.cell (p := ⟨w.heap.size, 1, none⟩) hL0).trans c1, (hb4.cell (p := ⟨w.heap.size, 2, none⟩) hL0).trans c2, (hb4.cell (p := ⟨w.heap.size, 3, none⟩) hL0).trans c3⟩ | exact ⟨(hb9.cell (p := ⟨w.heap.size, 0, none⟩) hL0).trans c0, (hb9.cell (p := ⟨w.heap.size, 1, none⟩) hL0).trans c1, (hb9.cell (p := ⟨w.heap.size, 2, none⟩) hL0).trans c2, (hb9.cell (p := ⟨w.heap.size, 3, none⟩) hL0).trans c3⟩ | exact ⟨(sets3_cell w9 _ _ _ _ _ _ hz0 hm0).trans ((hb9.cell (p := ⟨w.heap.size, 0, none⟩) hL0).trans c0), (sets3_cell w9 _ _ _ _ _ _ hz0 hm0).trans ((hb9.cell (p := ⟨w.heap.size, 1, none⟩) hL0).trans c1), (sets3_cell w9 _ _ _ _ _ _ hz0 hm0).trans ((hb9.cell (p := ⟨w.heap.size, 2, none⟩) hL0).trans c2), (sets3_cell w9 _ _ _ _ _ _ hz0 hm0).trans ((hb9.cell (p := ⟨w.heap.size, 3, none⟩) hL0).trans c3)⟩ | go_keep)
   (first
   | (go_at_call 52; refine (OW.out _ (by first | exact Below.refl _ _ | exact below_drew (Below.refl _ _))).mono ?_; rintro e w2 ⟨hb2', gP, gS, rfl, ⟨hlP', hlS'⟩, hrP, hrS⟩; have hlP : w1.heap.size ≤ gP := hlP'; have hlS : w1.heap.size ≤ gS := hlS'; have hb2 : Below w1.heap.size w1 w2 := (by first | exact hb2' | exact below_then (below_drew (Below.refl _ _)) hb2' (Nat.le_refl _)))
   | (go_at_call 78; refine (SB.out _ hb2).mono ?_; rintro e w3 ⟨A9, c9, rfl, hi9, ha9, hb3'⟩; have hb3 : Below w1.heap.size w1 w3 := below_then hb2 hb3' hb2.size)
   | (go_at_call 73; refine (entered_any n ⟨0, padL n [], padI n []⟩ (.slice (some ⟨gP, 0, none⟩) n n) gS w1.heap.size (inS c.kinds c.parents n (iniN c.kinds c.parents n (-1))) A9 c9 now w3 hnn ((cf0_at hnn hlS hrP hrS).below hb3') hb3.size hi9 HEL.out (fun b off e => by have h1 := ha9 b off e; have h2 := (Array.getElem?_eq_some_iff.1 hrS).1; omega) hEn hw).mono ?_; rintro e w4 ⟨hb4', rfl, hR4⟩; have hb4 : Below w1.heap.size w1 w4 := hb3.trans hb4')
   | (go_at_call 21; refine (RN.out w4 hb4 gP gS hR4).mono ?_; rintro e w9 ⟨hb9', h9⟩; have hb9 : Below w1.heap.size w1 w9 := below_then hb4 hb9' hb4.size; subst h9; have rr9 := (hb9.block _ hL1).trans HRR.out; have d0 := cell_of_row _ _ 0 _ _ _ rr9; have d1 := cell_of_row _ _ 1 _ _ _ rr9; have d2 := cell_of_row _ _ 2 _ _ _ rr9; have f0 := fzc_of rr9 0; have f1 := fzc_of rr9 1; have f2 := fzc_of rr9 2; have hz1 := (Array.getElem?_eq_some_iff.1 rr9).1; have hz0 : w.heap.size < w9.heap.size := (by omega)))
  go_wp2
  (try simp only [Exit.inBlock, Exit.then])
  refine bodyPost_ret (run_cellU2 rfl _ _ (w.heap.size + 1) _ _ _ _ rfl (sets3_row rr9 _ _ _) Tryz.underlying40 rfl (by kernel_rfl)) rfl ?_
  exact ⟨sets3_below (below_then HBW.out hb9 HBW.out.size) (Nat.le_refl _) (by omega) _ _ _, rfl⟩
 ·go_region_held3 (fun w' => w'.cell? ⟨w.heap.size, 0, none⟩ = some (.slice AN c.names.length cN) ∧ w'.cell? ⟨w.heap.size, 1, none⟩ = some (.slice AK n cK) ∧ w'.cell? ⟨w.heap.size, 2, none⟩ = some (.slice AP n cP) ∧ w'.cell? ⟨w.heap.size, 3, none⟩ = some (.slice AT c.trans.length cT))
   (first | exact ⟨c0, c1, c2, c3⟩ | exact ⟨(hb2.cell (p := ⟨w.heap.size, 0, none⟩) hL0).trans c0, (hb2.cell (p := ⟨w.heap.size, 1, none⟩) hL0).trans c1, (hb2.cell (p := ⟨w.heap.size, 2, none⟩) hL0).trans c2, (hb2.cell (p := ⟨w.heap.size, 3, none⟩) hL0).trans c3⟩ | exact ⟨(hb3.cell (p := ⟨w.heap.size, 0, none⟩) hL0).trans c0, (hb3.cell (p := ⟨w.heap.size, 1, none⟩) hL0).trans c1, (hb3.cell (p := ⟨w.heap.size, 2, none⟩) hL0).trans c2, (hb3.cell (p := ⟨w.heap.size, 3, none⟩) hL0).trans c3⟩ | exact ⟨(hb4.cell (p := ⟨w.heap.size, 0, none⟩) hL0).trans c0, (hb4.cell (p := ⟨w.heap.size, 1, none⟩) hL0).trans c1, (hb4.cell (p := ⟨w.heap.size, 2, none⟩) hL0).trans c2, (hb4.cell (p := ⟨w.heap.size, 3, none⟩) hL0).trans c3⟩ | exact ⟨(hb9.cell (p := ⟨w.heap.size, 0, none⟩) hL0).trans c0, (hb9.cell (p := ⟨w.heap.size, 1, none⟩) hL0).trans c1, (hb9.cell (p := ⟨w.heap.size, 2, none⟩) hL0).trans c2, (hb9.cell (p := ⟨w.heap.size, 3, none⟩) hL0).trans c3⟩ | exact ⟨(sets3_cell w9 _ _ _ _ _ _ hz0 hm0).trans ((hb9.cell (p := ⟨w.heap.size, 0, none⟩) hL0).trans c0), (sets3_cell w9 _ _ _ _ _ _ hz0 hm0).trans ((hb9.cell (p := ⟨w.heap.size, 1, none⟩) hL0).trans c1), (sets3_cell w9 _ _ _ _ _ _ hz0 hm0).trans ((hb9.cell (p := ⟨w.heap.size, 2, none⟩) hL0).trans c2), (sets3_cell w9 _ _ _ _ _ _ hz0 hm0).trans ((hb9.cell (p := ⟨w.heap.size, 3, none⟩) hL0).trans c3)⟩ | go_keep)
   (first
   | (go_at_call 52; refine (OW.out _ (by first | exact Below.refl _ _ | exact below_drew (Below.refl _ _))).mono ?_; rintro e w2 ⟨hb2', gP, gS, rfl, ⟨hlP', hlS'⟩, hrP, hrS⟩; have hlP : w1.heap.size ≤ gP := hlP'; have hlS : w1.heap.size ≤ gS := hlS'; have hb2 : Below w1.heap.size w1 w2 := (by first | exact hb2' | exact below_then (below_drew (Below.refl _ _)) hb2' (Nat.le_refl _)))
   | (go_at_call 78; refine (SB.out _ hb2).mono ?_; rintro e w3 ⟨A9, c9, rfl, hi9, ha9, hb3'⟩; have hb3 : Below w1.heap.size w1 w3 := below_then hb2 hb3' hb2.size)
   | (go_at_call 73; refine (entered_any n ⟨0, padL n [], padI n []⟩ (.slice (some ⟨gP, 0, none⟩) n n) gS w1.heap.size (inS c.kinds c.parents n (iniN c.kinds c.parents n (-1))) A9 c9 now w3 hnn ((cf0_at hnn hlS hrP hrS).below hb3') hb3.size hi9 HEL.out (fun b off e => by have h1 := ha9 b off e; have h2 := (Array.getElem?_eq_some_iff.1 hrS).1; omega) hEn hw).mono ?_; rintro e w4 ⟨hb4', rfl, hR4⟩; have hb4 : Below w1.heap.size w1 w4 := hb3.trans hb4')
   | (go_at_call 21; refine (RN.out w4 hb4 gP gS hR4).mono ?_; rintro e w9 ⟨hb9', g3, gS2, v9, rfl, hg3', hR9, hO9⟩; have hb9 : Below w1.heap.size w1 w9 := below_then hb4 hb9' hb4.size; have hz4 := hb4.size; have rr9 := (hb9.block _ hL1).trans HRR.out; have d0 := cell_of_row _ _ 0 _ _ _ rr9; have d1 := cell_of_row _ _ 1 _ _ _ rr9; have d2 := cell_of_row _ _ 2 _ _ _ rr9; have f0 := fzc_of rr9 0; have f1 := fzc_of rr9 1; have f2 := fzc_of rr9 2; have hz1 := (Array.getElem?_eq_some_iff.1 rr9).1; have hz0 : w.heap.size < w9.heap.size := (by omega)))
  go_wp2
  (try simp only [Exit.inBlock, Exit.then])
  refine bodyPost_ret (run_cellU2 rfl _ _ (w.heap.size + 1) _ _ _ _ rfl (sets3_row rr9 _ _ _) Tryz.underlying40 rfl (by kernel_rfl)) rfl ?_
  have hlo9 := hR9.lo
  refine ⟨sets3_below (below_then HBW.out hb9 HBW.out.size) (Nat.le_refl _) (by omega) _ _ _, g3, gS2, v9, rfl, by omega, (sets3_cfr hR9 (by omega) (by omega) _ _ _).base (by omega), ?_⟩
  exact own_mono2 (sets3_own hO9 (by omega) _ _ _) (by omega)
end Go.Proofs.YtaoinedndnleoaaGreat
