import Derived.Test.YtaoinedndnleoaaGreatSh7
import Derived.Test.YtaoinedndnleoaaGreatSm0
import Derived.Test.YtaoinedndnleoaaGreatCh9
import Derived.Test.YtaoinedndnleoaaGreatSt1
import Derived.Test.YtaoinedndnleoaaGreatCh3
import Derived.Test.YtaoinedndnleoaaGreatSh1b
import Derived.Deep.RegionHeld3
namespace Go.Proofs.YtaoinedndnleoaaGreat
set_option maxRecDepth 100000
open Go.ChangeShapes Go.WideShapes Go.ChangeAt Go.RowKit
theorem tAt_ofD {w : World} {base cap : Nat} {A : Option Addr} {l : List Tr} (h : OwnTD w base (.slice A l.length cap) l) : TAt w A l := fun j hj => by
 obtain ⟨g, cap', e, _, hl, _, hc⟩ := own_form h (by omega)
 have eA : A = some ⟨g, 0, none⟩ := by injection e
 exact ⟨g, eA, hl, fun f u hf hu => hc _ _ (by rw [tcells_at l j f hj hf]; exact hu)⟩
theorem far2D {W : World} {g b j i i' : Nat} {v v' : Value} (hg : g < W.heap.size) (hne : g ≠ b) : ((W.setCell ⟨b, i, none⟩ v).setCell ⟨b, i', none⟩ v').cell? ⟨g, j, none⟩ = W.cell? ⟨g, j, none⟩ := by
 refine (World.cell?_of_block (a := ⟨g, j, none⟩) ((grown_setCell _ b i' v').block g (by simpa [World.setCell] using hg) (by simpa using hne))).trans (World.cell?_of_block (a := ⟨g, j, none⟩) ((grown_setCell W b i v).block g hg (by simpa using hne)))
theorem farRow2D {W : World} {g b i i' : Nat} {v v' : Value} {o : Obj} (h : W.heap[g]? = some o) (hne : g ≠ b) : ((W.setCell ⟨b, i, none⟩ v).setCell ⟨b, i', none⟩ v').heap[g]? = some o := by
 have hg := (Array.getElem?_eq_some_iff.1 h).1
 exact (((grown_setCell _ b i' v').block g (by simpa [World.setCell] using hg) (by simpa using hne)).trans ((grown_setCell W b i v).block g hg (by simpa using hne))).trans h
theorem gr1Z {w X : World} {o : Obj} {row : Option Nat} (h : (w.alloc o).grownBy X row) : w.grownBy X row := (World.grownBy_alloc w o row).andThen h (fun j e => .inr e)
def MineTo (c : Ch) (w : World) (e : Ending) (w' : World) : Prop := Below w.heap.size w w' ∧ ∃ vN vK vP vT, e = .returned (.agg #[vN, vK, vP, vT]) ∧ ChAt w.heap.size w' c vN vK vP vT
theorem put_rowD {W : World} {b j base e s n : Nat} {v x : Value} {xs : List Value} (h : W.ownsRow base e s v n xs) (hb : b < base) : (W.setCell ⟨b, j, none⟩ x).ownsRow base e s v n xs :=
 World.ownsRow.kept h (grown_setCell _ _ _ _) (.inr fun e => by have := (World.ownsRow.lt h _ e).1; omega)
set_option maxHeartbeats 8000000 in
theorem Mine_any (c : Ch) (gN : Nat) (AK AP AT : Option Addr) (cN cK cP cT : Nat) (w : World) (hN : ListAt w (some ⟨gN, 0, none⟩) cN c.names) (hK : IntsAt w (.slice AK c.kinds.length cK) c.kinds) (hP : IntsAt w (.slice AP c.parents.length cP) c.parents)
  (hT : TAt w AT c.trans) (htc : c.trans.length ≤ cT) (hf : ChF c) :
  Calls Tryz.prog 33 #[.agg #[.slice (some ⟨gN, 0, none⟩) c.names.length cN, .slice AK c.kinds.length cK, .slice AP c.parents.length cP, .slice AT c.trans.length cT]] w (MineTo c w) := by
 obtain ⟨RC, RX, RR, hB0'⟩ := rows3 w (.cells #[.slice (some ⟨gN, 0, none⟩) c.names.length cN, .slice AK c.kinds.length cK, .slice AP c.parents.length cP, .slice AT c.trans.length cT] 34) (.cells #[.slice none 0 0, .slice none 0 0, .slice none 0 0, .slice none 0 0] 30) (.cells #[.slice none 0 0, .slice none 0 0, .slice none 0 0, .slice none 0 0] 30)
 have hB0 : Below w.heap.size w (((w.alloc (.cells #[.slice (some ⟨gN, 0, none⟩) c.names.length cN, .slice AK c.kinds.length cK, .slice AP c.parents.length cP, .slice AT c.trans.length cT] 34)).alloc (.cells #[.slice none 0 0, .slice none 0 0, .slice none 0 0, .slice none 0 0] 30)).alloc (.cells #[.slice none 0 0, .slice none 0 0, .slice none 0 0, .slice none 0 0] 30)) := ((((Below.refl _ _).alloc (Nat.le_refl _) _).alloc (by simp) _).alloc (by simp; omega) _)
 have RC : (((w.alloc (.cells #[.slice (some ⟨gN, 0, none⟩) c.names.length cN, .slice AK c.kinds.length cK, .slice AP c.parents.length cP, .slice AT c.trans.length cT] 34)).alloc (.cells #[.slice none 0 0, .slice none 0 0, .slice none 0 0, .slice none 0 0] 30)).alloc (.cells #[.slice none 0 0, .slice none 0 0, .slice none 0 0, .slice none 0 0] 30)).heap[w.heap.size]? = _ := RC
 have RX : (((w.alloc (.cells #[.slice (some ⟨gN, 0, none⟩) c.names.length cN, .slice AK c.kinds.length cK, .slice AP c.parents.length cP, .slice AT c.trans.length cT] 34)).alloc (.cells #[.slice none 0 0, .slice none 0 0, .slice none 0 0, .slice none 0 0] 30)).alloc (.cells #[.slice none 0 0, .slice none 0 0, .slice none 0 0, .slice none 0 0] 30)).heap[w.heap.size + 1]? = _ := RX
 have RR : (((w.alloc (.cells #[.slice (some ⟨gN, 0, none⟩) c.names.length cN, .slice AK c.kinds.length cK, .slice AP c.parents.length cP, .slice AT c.trans.length cT] 34)).alloc (.cells #[.slice none 0 0, .slice none 0 0, .slice none 0 0, .slice none 0 0] 30)).alloc (.cells #[.slice none 0 0, .slice none 0 0, .slice none 0 0, .slice none 0 0] 30)).heap[w.heap.size + 2]? = some (.cells #[.slice none 0 0, .slice none 0 0, .slice none 0 0, .slice none 0 0] 30 (0, 0)) := RR
 have hnl := hf.nl
 have hkl : c.kinds.length ≤ 24 := by have := hf.kl; omega
 have hpl : c.parents.length ≤ 24 := by have := hf.pl; omega
 have htl := hf.tl
 have HF := Lib.hid hf
 clear hf
 have HB0 := Lib.hid hB0
 have CL := Lib.hid (fun W (hW : Below w.heap.size w W) => CopyTx_any c.names gN cN W (hN.below hW) (by omega))
 have CK := Lib.hid (fun W (hW : Below w.heap.size w W) => CopyI_any c.kinds AK cK W (hK.below hW) (by omega))
 have CP := Lib.hid (fun W (hW : Below w.heap.size w W) => CopyI_any c.parents AP cP W (hP.below hW) (by omega))
 have HT := Lib.hid (fun W (hW : Below w.heap.size w W) => hT.below hW)
 clear hB0 hB0' hN hK hP hT
 go_enter Tryz.func33, Tryz.ntmps33
 go_upto_region 2 with fail
 generalize ((w.alloc (.cells #[.slice (some ⟨gN, 0, none⟩) c.names.length cN, .slice AK c.kinds.length cK, .slice AP c.parents.length cP, .slice AT c.trans.length cT] 34)).alloc (.cells #[.slice none 0 0, .slice none 0 0, .slice none 0 0, .slice none 0 0] 30)).alloc (.cells #[.slice none 0 0, .slice none 0 0, .slice none 0 0, .slice none 0 0] 30) = w1 at *
 have hl2 : w.heap.size + 2 < w1.heap.size := (Array.getElem?_eq_some_iff.1 RR).1
 have c0 := cell_of_row _ _ 0 _ _ _ RC
 go_upto_region 3 with (go_at_call 64; refine (CL.out _ HB0.out).mono ?_; rintro e w2 ⟨vN, rfl, hoN, hb2⟩; obtain ⟨AN2, cN2, rfl⟩ := own_slice hoN; have RX2 := (hb2.block _ (by omega)).trans RX; have RR2 := (hb2.block _ hl2).trans RR; have RC2 := (hb2.block _ (by omega)).trans RC; have z1 := fz_of RR2 0; have z2 := cell_of_row _ _ 0 _ _ _ RR2)
 have HW0 : Hid (Below w.heap.size w (w2.setCell ⟨w.heap.size + 1 + 1, 0, none⟩ (.slice AN2 c.names.length cN2))) := (below_then HB0.out hb2 HB0.out.size).grown (grown_setCell _ _ _ _) (below_then HB0.out hb2 HB0.out.size).size (fun g e => by cases e; omega)
 have hs1 : w.heap.size + 3 ≤ w1.heap.size := by omega
 have HCA : Hid (CA w (w2.setCell ⟨w.heap.size + 1 + 1, 0, none⟩ (.slice AN2 c.names.length cN2)) (w.heap.size + 2) { names := c.names, kinds := [], parents := [], trans := [] } (.slice AN2 c.names.length cN2) (.slice none 0 0) (.slice none 0 0) (.slice none 0 0)) :=
  ⟨heap_set (j := 0) RR2 _, by omega, own_mono2 (put_rowD hoN (by omega)) (by omega), World.ownsRow_nil _ _ _ _, World.ownsRow_nil _ _ _ _, (fun g e => by cases e), World.ownsRow_nil _ _ _ _, HW0.out⟩
 have RC3 : Hid ((w2.setCell ⟨w.heap.size + 1 + 1, 0, none⟩ (.slice AN2 c.names.length cN2)).heap[w.heap.size]? = some (.cells #[.slice (some ⟨gN, 0, none⟩) c.names.length cN, .slice AK c.kinds.length cK, .slice AP c.parents.length cP, .slice AT c.trans.length cT] 34 (0, 0))) := (((grown_setCell _ _ _ _).block w.heap.size (Array.getElem?_eq_some_iff.1 RC2).1 (by simp; omega)).trans RC2)
 have RX3 : Hid ((w2.setCell ⟨w.heap.size + 1 + 1, 0, none⟩ (.slice AN2 c.names.length cN2)).heap[w.heap.size + 1]? = some (.cells #[.slice none 0 0, .slice none 0 0, .slice none 0 0, .slice none 0 0] 30 (0, 0))) := (((grown_setCell _ _ _ _).block (w.heap.size + 1) (Array.getElem?_eq_some_iff.1 RX2).1 (by simp)).trans RX2)
 clear RC RX RR RC2 RX2 RR2 hoN z1 z2 c0 CL hb2
 generalize w2.setCell ⟨w.heap.size + 1 + 1, 0, none⟩ (.slice AN2 c.names.length cN2) = w3 at *
 clear w2
 have c1 := cell_of_row _ _ 1 _ _ _ RC3.out; have c2 := cell_of_row _ _ 2 _ _ _ RC3.out
 have hl3 : w.heap.size < w3.heap.size := (Array.getElem?_eq_some_iff.1 RC3.out).1
 have hlx : w.heap.size + 1 < w3.heap.size := (Array.getElem?_eq_some_iff.1 RX3.out).1
 have hlc : w.heap.size + 2 < w3.heap.size := (Array.getElem?_eq_some_iff.1 HCA.out.row).1
 have hne : w.heap.size ≠ w.heap.size + 1 + 1 := by omega
 go_cut [18] (fun _ wx => Hid (Below w.heap.size w wx) ∧ Hid (wx.heap[w.heap.size]? = some (.cells #[.slice (some ⟨gN, 0, none⟩) c.names.length cN, .slice AK c.kinds.length cK, .slice AP c.parents.length cP, .slice AT c.trans.length cT] 34 (0, 0))) ∧
  Hid (wx.heap[w.heap.size + 1]? = some (.cells #[.slice none 0 0, .slice none 0 0, .slice none 0 0, .slice none 0 0] 30 (0, 0))) ∧ Hid (∃ vK vP, CA w wx (w.heap.size + 2) { names := c.names, kinds := c.kinds, parents := c.parents, trans := [] } (.slice AN2 c.names.length cN2) vK vP (.slice none 0 0)))
 case first =>
  go_region_held3 (fun w' => w'.cell? ⟨w.heap.size, 1, none⟩ = some (.slice AK c.kinds.length cK) ∧ w'.cell? ⟨w.heap.size, 2, none⟩ = some (.slice AP c.parents.length cP))
   (first | exact ⟨c1, c2⟩ | exact ⟨(hb5.cell (p := ⟨w.heap.size, 1, none⟩) hl3).trans c1, (hb5.cell (p := ⟨w.heap.size, 2, none⟩) hl3).trans c2⟩ | exact ⟨(hb6.cell (p := ⟨w.heap.size, 1, none⟩) hl3).trans c1, (hb6.cell (p := ⟨w.heap.size, 2, none⟩) hl3).trans c2⟩ | exact ⟨k1, k2⟩ | go_keep)
   (first
     | (go_at_call_of 35 (Value.slice AK c.kinds.length cK); refine (CK.out _ (by first | exact HW0.out | exact below_drew HW0.out)).mono ?_; rintro e w5 ⟨vK, rfl, hoK, hb5'⟩; have hb5 : Below w3.heap.size w3 w5 := (by first | exact hb5' | exact below_then (below_drew (Below.refl _ _)) hb5' (Nat.le_refl _)); obtain ⟨A5, c5, rfl⟩ := own_slice hoK)
     | (go_at_call_of 35 (Value.slice AP c.parents.length cP); refine (CP.out _ (below_then HW0.out hb5 HW0.out.size)).mono ?_; rintro e w6 ⟨vP, rfl, hoP, hb6'⟩; have hb6 : Below w3.heap.size w3 w6 := below_then hb5 hb6' hb5.size; obtain ⟨A6, c6, rfl⟩ := own_slice hoP; have HC6 := HCA.out.below hb6; have hr6 := HC6.row; have z1 := fz_of hr6 1; have z2 := fz_of hr6 2; have z3 := cell_of_row _ _ 1 _ _ _ hr6; have z4 := cell_of_row _ _ 2 _ _ _ hr6; have hl6 : w.heap.size < w6.heap.size := Nat.lt_of_lt_of_le hl3 hb6.size; have k1 : ((w6.setCell ⟨w.heap.size + 2, 1, none⟩ (.slice A5 c.kinds.length c5)).setCell ⟨w.heap.size + 2, 2, none⟩ (.slice A6 c.parents.length c6)).cell? ⟨w.heap.size, 1, none⟩ = some (.slice AK c.kinds.length cK) := (far2D hl6 (by omega)).trans ((hb6.cell (p := ⟨w.heap.size, 1, none⟩) hl3).trans c1); have k2 : ((w6.setCell ⟨w.heap.size + 2, 1, none⟩ (.slice A5 c.kinds.length c5)).setCell ⟨w.heap.size + 2, 2, none⟩ (.slice A6 c.parents.length c6)).cell? ⟨w.heap.size, 2, none⟩ = some (.slice AP c.parents.length cP) := (far2D hl6 (by omega)).trans ((hb6.cell (p := ⟨w.heap.size, 2, none⟩) hl3).trans c2)))
  all_goals
   have hK6 : OwnI w6 w.heap.size (.slice A5 c.kinds.length c5) c.kinds := own_mono2 (own_below hoK hb6' (by first | exact hb5.size | exact hb5'.size)) (by first | exact HW0.out.size | (simp; exact HW0.out.size))
   have hP6 : OwnI w6 w.heap.size (.slice A6 c.parents.length c6) c.parents := own_mono2 hoP (below_then HW0.out hb5 HW0.out.size).size
   have hap : ∀ g, (Value.slice A5 c.kinds.length c5).ownBlock = some g → (Value.slice A6 c.parents.length c6).ownBlock = some g → False := fun g e1 e2 => by
    have h1 := (World.ownsRow.lt hoK g e1).2; have h2 := (World.ownsRow.lt hoP g e2).1; omega
   have r3 := heap_set (j := 1) hr6 (.slice A5 c.kinds.length c5)
   have HC7 : CA w ((w6.setCell ⟨w.heap.size + 2, 1, none⟩ (.slice A5 c.kinds.length c5)).setCell ⟨w.heap.size + 2, 2, none⟩ (.slice A6 c.parents.length c6)) (w.heap.size + 2) { names := c.names, kinds := c.kinds, parents := c.parents, trans := [] } (.slice AN2 c.names.length cN2) (.slice A5 c.kinds.length c5) (.slice A6 c.parents.length c6) (.slice none 0 0) :=
    ⟨heap_set (j := 2) r3 _, by omega, put2 (put2 HC6.oN hr6 (by decide) _ _) r3 (by decide) _ _, put2 (put2 hK6 hr6 (by decide) _ _) r3 (by decide) _ _, put2 (put2 hP6 hr6 (by decide) _ _) r3 (by decide) _ _, hap, World.ownsRow_nil _ _ _ _, (HC6.be.grown (grown_setCell _ _ _ _) HC6.be.size (fun g e => by cases e; omega)).grown (grown_setCell _ _ _ _) (by simpa [World.setCell] using HC6.be.size) (fun g e => by cases e; omega)⟩
   have hRC7 := farRow2D (b := w.heap.size + 2) (i := 1) (i' := 2) (v := .slice A5 c.kinds.length c5) (v' := .slice A6 c.parents.length c6) ((hb6.block _ hl3).trans RC3.out) (by omega)
   have hRX7 := farRow2D (b := w.heap.size + 2) (i := 1) (i' := 2) (v := .slice A5 c.kinds.length c5) (v' := .slice A6 c.parents.length c6) ((hb6.block _ hlx).trans RX3.out) (by omega)
   go_wp2_with fail
   go_meet
   exact ⟨HC7.be, hRC7, hRX7, _, _, HC7⟩
 case rest =>
 obtain ⟨HB3, HC3, HX3, HE3⟩ := hcut
 obtain ⟨vK, vP, HA3⟩ := HE3.out
 have HA3 := Lib.hid HA3
 clear HE3 RC3 RX3 HCA HW0 c1 c2 hl3 hlx hlc CK CP HB3
 have c3 := cell_of_row _ _ 3 _ _ _ HC3.out
 go_upto_region 5 with fail
 have HA0 : Hid (CA w wc (w.heap.size + 2) { names := c.names, kinds := c.kinds, parents := c.parents, trans := c.trans.take 0 } (.slice AN2 c.names.length cN2) vK vP (.slice none 0 0)) := HA3.out
 go_loopw [23] (fun i wy => ∃ (k : Nat) (vT : Value), k ≤ c.trans.length ∧ i = .int .i64 k ∧ Hid (CA w wy (w.heap.size + 2) { names := c.names, kinds := c.kinds, parents := c.parents, trans := c.trans.take k } (.slice AN2 c.names.length cN2) vK vP vT) ∧ Hid (wy.heap[w.heap.size + 1]? = some (.cells #[.slice none 0 0, .slice none 0 0, .slice none 0 0, .slice none 0 0] 30 (0, 0)))) (fun i _ => c.trans.length - (intOf i).toNat)
 case atStart => exact ⟨0, _, Nat.zero_le _, rfl, HA0, HX3⟩
 case round =>
  clear HA0 HA3 HC3 HX3 c3
  obtain ⟨k, vT, hk, rfl, HA, HX⟩ := hrel
  by_cases hlt : k < c.trans.length
  ·obtain ⟨g, rfl, hgl, hc⟩ := HT.out w (Below.refl _ _) k hlt
   have hbw := HA.out.be
   have q := fun f u hf hu => (hbw.cell (p := ⟨g, k * 7 + f, none⟩) hgl).trans (hc f u hf hu)
   have HSN : Hid (c.trans.take (k + 1) = c.trans.take k ++ [c.trans[k]]) := by show _ = _; rw [List.take_succ_eq_append_getElem hlt]
   have hTl : (c.trans.take k).length = k := by rw [List.length_take]; omega
   have HTL := Lib.hid hTl
   clear hc hTl
   generalize c.trans[k] = t at *
   obtain ⟨tk, tf, tt, te, tp, ta, ti⟩ := t
   have q0 := q 0 _ (by omega) rfl; have q1 := q 1 _ (by omega) rfl; have q2 := q 2 _ (by omega) rfl; have q3 := q 3 _ (by omega) rfl; have q4 := q 4 _ (by omega) rfl; have q5 := q 5 _ (by omega) rfl; have q6 := q 6 _ (by omega) rfl
   simp only [Nat.add_zero] at q0
   clear q
   go_upto_region 7 with fail
   have hbx := box_b wr (.cells #[.int .i64 tk, .int .i64 tf, .int .i64 tt, .string (bs te), .string (bs tp), .string (bs ta), .int .i64 ti] 97)
   have RT := heap_alloc_new wr (.cells #[.int .i64 tk, .int .i64 tf, .int .i64 tt, .string (bs te), .string (bs tp), .string (bs ta), .int .i64 ti] 97)
   have HA2 := Lib.hid (HA.out.below hbx)
   have HX2 : Hid ((wr.alloc (.cells #[.int .i64 tk, .int .i64 tf, .int .i64 tt, .string (bs te), .string (bs tp), .string (bs ta), .int .i64 ti] 97)).heap[w.heap.size + 1]? = some (.cells #[.slice none 0 0, .slice none 0 0, .slice none 0 0, .slice none 0 0] 30 (0, 0))) := (heap_alloc_old wr _ (Array.getElem?_eq_some_iff.1 HX.out).1).trans HX.out
   clear q0 q1 q2 q3 q4 q5 q6 HA HX hbx hbw
   generalize wr.heap.size = gx at *
   generalize wr.alloc (.cells #[.int .i64 tk, .int .i64 tf, .int .i64 tt, .string (bs te), .string (bs tp), .string (bs ta), .int .i64 ti] 97) = wt at *
   have x0 := cell_of_row _ _ 0 _ _ _ RT; have x1 := cell_of_row _ _ 1 _ _ _ RT; have x2 := cell_of_row _ _ 2 _ _ _ RT; have x3 := cell_of_row _ _ 3 _ _ _ RT; have x4 := cell_of_row _ _ 4 _ _ _ RT; have x5 := cell_of_row _ _ 5 _ _ _ RT; have x6 := cell_of_row _ _ 6 _ _ _ RT
   have s3 := HA2.out.q3
   have hsz := HA2.out.be.size
   have hoT : wt.ownsRow w.heap.size 52 7 vT k (tcells (c.trans.take k)) := by have := HA2.out.oT; unfold OwnT at this; simp only [HTL.out] at this; exact this
   obtain ⟨AT2, cT2, rfl⟩ := own_slice hoT
   obtain ⟨i1, ii, tz0, tz1, tz2⟩ := info_parts Tryz.infoTran
   clear RT
   go_wp2_with (at_builtin; go_must (refine wpList_append_own _ rfl (.tmp 28) (.tmp 30) 28 rfl w.heap.size 52 i1 _ 7 80 Tryz.underlying28 ii tz0 tz1 tz2 rfl (by decide) _ _ _ rfl (World.ownsRow.alloc hoT _) ⟨wt.heap.size, 0, none⟩ 1 1 (tcells [(⟨tk, tf, tt, te, tp, ta, ti⟩ : Tr)]) rfl rfl (cells_new _ _ _) (t_oneA _) (by unfold maxLen; omega) (by omega) (by simp; omega) ?_); intro v6 w6 hown6 hg6 _; obtain ⟨A6, c6, rfl⟩ := own_slice hown6; have hr9 := HA2.out.row1 (gr1Z hg6) (own_row_ne HA2.out.oT HA2.out.row (by decide)); have z1 := fz_of hr9 3; have z2 := cell_of_row _ _ 3 _ _ _ hr9; have HA9 := Lib.hid (HA2.out.trans (x := ⟨tk, tf, tt, te, tp, ta, ti⟩) (gr1Z hg6) (ownT_snocA (by simp only [HTL.out]; exact hown6))); have HX9 := Lib.hid (ru_keepA (b := w.heap.size + 2) (j := 3) (v := .slice A6 (k + 1) c6) HX2.out (gr1Z hg6) (own_row_ne HA2.out.oT HX2.out (by decide)) (by omega)))
   go_roundw
   case rel => exact ⟨k + 1, _, by omega, by go_num, by rw [HSN.out]; exact HA9, HX9⟩
   case measure => simp [intOf]; omega
  ·have HAE : Hid (CA w wr (w.heap.size + 2) c (.slice AN2 c.names.length cN2) vK vP vT) := by have := HA.out; rwa [List.take_of_length_le (by omega)] at this
   clear HA
   have s0 := HAE.out.q0; have s1 := HAE.out.q1; have s2 := HAE.out.q2; have s3 := HAE.out.q3
   obtain ⟨A2, c4, rfl⟩ := own_slice HAE.out.oK
   obtain ⟨A3, c5, rfl⟩ := own_slice HAE.out.oP
   obtain ⟨A4, c6, rfl⟩ := own_slice HAE.out.oT
   have z0 := fz_of HX.out 0; have z1 := fz_of HX.out 1; have z2 := fz_of HX.out 2; have z3 := fz_of HX.out 3
   have e0 := cell_of_row _ _ 0 _ _ _ HX.out; have e1 := cell_of_row _ _ 1 _ _ _ HX.out; have e2 := cell_of_row _ _ 2 _ _ _ HX.out; have e3 := cell_of_row _ _ 3 _ _ _ HX.out
   go_wp2_with fail
   (try simp only [Exit.inBlock, Exit.then])
   have ct := ch_tell (.slice AN2 c.names.length cN2) (.slice A2 c.kinds.length c4) (.slice A3 c.parents.length c5) (.slice A4 c.trans.length c6) HX.out
   refine bodyPost_ret (results_cell_row rfl _ _ (w.heap.size + 1) _ _ _ _ rfl ct.1 Tryz.underlying30 rfl (by kernel_rfl)) rfl ?_
   have r1 := heap_set (j := 0) HX.out (.slice AN2 c.names.length cN2)
   have r2 := heap_set (j := 1) r1 (.slice A2 c.kinds.length c4)
   have r3 := heap_set (j := 2) r2 (.slice A3 c.parents.length c5)
   refine ⟨HAE.out.be.grown ct.2 HAE.out.be.size (fun g e => by cases e; omega), _, _, _, _, rfl, put2 (put2 (put2 (put2 HAE.out.oN HX.out (by decide) _ _) r1 (by decide) _ _) r2 (by decide) _ _) r3 (by decide) _ _, put2 (put2 (put2 (put2 HAE.out.oK HX.out (by decide) _ _) r1 (by decide) _ _) r2 (by decide) _ _) r3 (by decide) _ _, put2 (put2 (put2 (put2 HAE.out.oP HX.out (by decide) _ _) r1 (by decide) _ _) r2 (by decide) _ _) r3 (by decide) _ _, HAE.out.ap, put2 (put2 (put2 (put2 HAE.out.oT HX.out (by decide) _ _) r1 (by decide) _ _) r2 (by decide) _ _) r3 (by decide) _ _⟩
end Go.Proofs.YtaoinedndnleoaaGreat
