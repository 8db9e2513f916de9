import Derived.Test.YtgffbgmieppckaaGreatDoorSe7
import Derived.Test.YtgffbgmieppckaaGreatDoorSe1
namespace Go.Proofs.YtgffbgmieppckaaGreatDoor
set_option maxRecDepth 100000
open Go.ChangeShapes Go.WideShapes Go.ChangeAt Go.RowKit
def prA (ns : List Tx) (bl : List Nat) (r : Rt) (gs : List Gr) (s : Se) : Se := { s with act := s.act &&& holdsP ns bl r gs s.user }
def prL (ns : List Tx) (bl : List Nat) (r : Rt) (gs : List Gr) (ss : List Se) : List Int := (ss.filter fun s => decide (s.act &&& holdsP ns bl r gs s.user ≠ s.act)).map fun s => s.num
theorem Chg.new {S : Nat → Prop} {w w1 w' : World} {row : Option Nat} (h : Chg S w w1) (hg : w1.grownBy w' row) (hr : ∀ k, row = some k → w.heap.size ≤ k) : Chg S w w' :=
 ⟨hg.os.trans h.os, hg.tape.trans h.tape, hg.output.trans h.output, Nat.le_trans h.size hg.size, fun k hk hn => (hg.block k (Nat.lt_of_lt_of_le hk h.size) (fun e => by have := hr k e.symm; omega)).trans (h.block k hk hn)⟩
theorem Chg.belows {S : Nat → Prop} {w w1 w' : World} (h : Chg S w w1) (hb : Below w1.heap.size w1 w') : Chg S w w' :=
 ⟨hb.os.trans h.os, hb.tape.trans h.tape, hb.output.trans h.output, Nat.le_trans h.size hb.size, fun k hk hn => (hb.block k (Nat.lt_of_lt_of_le hk h.size)).trans (h.block k hk hn)⟩
theorem own_row_ty {W : World} {base s n : Nat} {e : TypeId} {v : Value} {xs : List Value} (h : W.ownsRow base e s v n xs) {k : Nat} (hk : v.ownBlock = some k) : ∃ cur, W.heap[k]? = some (.cells cur e (0, 0)) := by
 rcases h.2 with ⟨rfl, _⟩ | ⟨g, cap, cur, rfl, _, hg, _⟩
 ·simp [Value.ownBlock] at hk
 ·simp [Value.ownBlock] at hk; subst hk; exact ⟨cur, hg⟩
section
variable {W W' : World} {b bg : Nat} {v vg : Value} {ss : List Se} {gs : List Gr} {last lg : Int}
theorem SeM.grow {row : Option Nat} (h : SeM W b v ss last) (hg : W.grownBy W' row) (h1 : row ≠ some b) (h2 : v.ownBlock = none ∨ v.ownBlock ≠ row) : SeM W' b v ss last :=
 ⟨(hg.block b h.lt (fun e => h1 e.symm)).trans h.row, World.ownsRow.kept h.own hg h2⟩
theorem GrM.seats (h : GrM W bg vg gs lg) (s : SeM W b v ss last) (c : Chg (gOwn b v) W W') : GrM W' bg vg gs lg := by
 have n1 : ¬ gOwn b v bg := by
  rintro (e | e)
  ·have := s.row; rw [← e, h.row] at this; injection this with this; injection this with _ ht _; exact absurd ht (by decide)
  ·obtain ⟨cur, hc⟩ := own_row_ty s.own e; rw [h.row] at hc; injection hc with hc; injection hc with _ ht _; exact absurd ht (by decide)
 have n2 : ∀ k, vg.ownBlock = some k → ¬ gOwn b v k := by
  intro k hk
  obtain ⟨cur, hc⟩ := own_row_ty h.own hk
  rintro (e | e)
  ·have := s.row; rw [← e, hc] at this; injection this with this; injection this with _ ht _; exact absurd ht (by decide)
  ·obtain ⟨cur2, hc2⟩ := own_row_ty s.own e; rw [hc] at hc2; injection hc2 with hc2; injection hc2 with _ ht _; exact absurd ht (by decide)
 refine ⟨(c.block _ h.lt n1).trans h.row, h.own.1, ?_⟩
 rcases h.own.2 with h0 | ⟨g, cap, cur, rfl, hb, hgg, rest⟩
 ·exact .inl h0
 ·exact .inr ⟨g, cap, cur, rfl, hb, (c.block g (Array.getElem?_eq_some_iff.1 hgg).1 (n2 g rfl)).trans hgg, rest⟩
theorem SeM.grants (s : SeM W b v ss last) (h : GrM W bg vg gs lg) (c : Chg (gOwn bg vg) W W') : SeM W' b v ss last := by
 have n1 : ¬ gOwn bg vg b := by
  rintro (e | e)
  ·have := s.row; rw [e, h.row] at this; injection this with this; injection this with _ ht _; exact absurd ht (by decide)
  ·obtain ⟨cur, hc⟩ := own_row_ty h.own e; rw [s.row] at hc; injection hc with hc; injection hc with _ ht _; exact absurd ht (by decide)
 have n2 : ∀ k, v.ownBlock = some k → ¬ gOwn bg vg k := by
  intro k hk
  obtain ⟨cur, hc⟩ := own_row_ty s.own hk
  rintro (e | e)
  ·rw [e, h.row] at hc; injection hc with hc; injection hc with _ ht _; exact absurd ht (by decide)
  ·obtain ⟨cur2, hc2⟩ := own_row_ty h.own e; rw [hc] at hc2; injection hc2 with hc2; injection hc2 with _ ht _; exact absurd ht (by decide)
 refine ⟨(c.block _ s.lt n1).trans s.row, s.own.1, ?_⟩
 rcases s.own.2 with h0 | ⟨g, cap, cur, rfl, hb, hgg, rest⟩
 ·exact .inl h0
 ·exact .inr ⟨g, cap, cur, rfl, hb, (c.block g (Array.getElem?_eq_some_iff.1 hgg).1 (n2 g rfl)).trans hgg, rest⟩
end
def PruTo (L : List Int) (ss' : List Se) (w0 : World) (b : Nat) (v : Value) (last : Int) (e : Ending) (w' : World) : Prop := ∃ A c, e = .returned (.slice A L.length c) ∧ OwnN w' w0.heap.size (.slice A L.length c) L ∧ SeTo w0 b v ss' last w'
section
variable {w4 : World} {rb o : Nat} {ns : List Tx} {bl : List Nat} {r : Rt} (R : RtS w4 rb o ns bl r) {b bg : Nat} {v vg : Value} {ss : List Se} {gs : List Gr} {last lg : Int} {w : World}
theorem step_list {f : Se → Se} {k : Nat} (h : k < ss.length) : (ss.take (k + 1)).map f ++ ss.drop (k + 1) = ((ss.take k).map f ++ ss.drop k).set k (f ss[k]) := by
 rw [List.set_append_right _ _ (by simp; omega), List.take_succ_eq_append_getElem h, List.map_append, List.drop_eq_getElem_cons h]
 have e : k - ((ss.take k).map f).length = 0 := by simp; omega
 rw [e, List.append_assoc]
 rfl
set_option maxHeartbeats 8000000 in
include R in
theorem Prune_any (h : SeM w b v ss last) (hG : GrM w bg vg gs lg) (hw : Below w4.heap.size w4 w) (hbb : w4.heap.size ≤ b) (hvb : ∀ k, v.ownBlock = some k → w4.heap.size ≤ k) (hl : ss.length ≤ 1000) (hgl : gs.length ≤ 1000) (ha : ∀ s ∈ ss, s.act < 16777216) :
  Calls Tryz.prog 54 #[.pointer (some ⟨b, 0, none⟩), .pointer (some ⟨rb, 0, none⟩), .pointer (some ⟨bg, 0, none⟩)] w (PruTo (prL ns bl r gs ss) (ss.map (prA ns bl r gs)) w b v last) := by
 obtain ⟨i1, ii, iz0, iz1, iz2⟩ := info_parts Tryz.infoIntG
 obtain ⟨A, c, rfl⟩ := own_slice h.own
 have hcc := own_cap h.own
 have q0 := h.q0
 have HM := Lib.hid h
 have HS4 : Hid (∀ k, gOwn b (.slice A ss.length c) k → w4.heap.size ≤ k) := fun k hk => hk.elim (fun e => by omega) (hvb k)
 have HO : Hid (∀ wr u, Chg (gOwn b (.slice A ss.length c)) w wr → Calls Tryz.prog 31 #[.pointer (some ⟨bg, 0, none⟩), .pointer (some ⟨rb, 0, none⟩), .string (bs u)] wr (HolTo (holdsP ns bl r gs u) wr)) := fun wr u hc => Holds_any R.B (hG.seats h hc) (hw.trans (hc.below hw.size HS4.out)) hgl u
 have HHL : Hid (∀ u, holdsP ns bl r gs u < 16777216) := fun u => downTo_lo R.B.lo _ _
 have HEQ : Hid (∀ s, prA ns bl r gs s = { s with act := s.act &&& holdsP ns bl r gs s.user }) := fun s => rfl
 have HPL : Hid (∀ k (h : k < ss.length), prL ns bl r gs (ss.take (k + 1)) = if ss[k].act &&& holdsP ns bl r gs ss[k].user = ss[k].act then prL ns bl r gs (ss.take k) else prL ns bl r gs (ss.take k) ++ [ss[k].num]) := fun k h => by
  unfold prL
  rw [List.take_succ_eq_append_getElem h, List.filter_append, List.map_append]
  by_cases e : ss[k].act &&& holdsP ns bl r gs ss[k].user = ss[k].act
  ·rw [if_pos e]; simp [e]
  ·rw [if_neg e]; simp [e]
 have HP0 : Hid (prL ns bl r gs (ss.take 0) = []) := by show _ = _; rw [List.take_zero]; rfl
 have HPN : Hid (prL ns bl r gs (ss.take ss.length) = prL ns bl r gs ss) := by show _ = _; rw [List.take_length]
 have HLL : Hid (∀ k, (prL ns bl r gs (ss.take k)).length ≤ 1000) := fun k => by
  show (List.map _ (List.filter _ _)).length ≤ 1000
  rw [List.length_map]
  exact Nat.le_trans (List.length_filter_le _ _) (by rw [List.length_take]; omega)
 clear R h hG hw hbb hvb hgl
 unfold HolTo at HO
 generalize prA ns bl r gs = fA at *
 generalize hpl : prL ns bl r gs = fL at *
 clear hpl
 go_enter Tryz.func54, Tryz.ntmps54
 go_upto_region 3 with fail
 clear q0
 go_loopw [7, 16] (fun sl i wr => ∃ (k : Nat) (AG : Option Addr) (cG : Nat), k ≤ ss.length ∧ sl = .slice AG (fL (ss.take k)).length cG ∧ i = .int .i64 k ∧ Hid (OwnN wr w.heap.size (.slice AG (fL (ss.take k)).length cG) (fL (ss.take k))) ∧ Hid (SeM wr b (.slice A ss.length c) ((ss.take k).map fA ++ ss.drop k) last) ∧ Hid (Chg (gOwn b (.slice A ss.length c)) w wr)) (fun _ i _ => ss.length - (intOf i).toNat)
 case atStart => exact ⟨0, none, 0, Nat.zero_le _, by rw [HP0.out]; rfl, rfl, by show World.ownsRow _ _ _ _ _ _ _; rw [HP0.out]; exact World.ownsRow_nil _ _ _ _, by have := HM.out; rw [List.take_zero, List.drop_zero]; exact this, Chg.of_below (Below.refl _ _)⟩
 case round =>
  obtain ⟨k, AG, cG, hk, rfl, rfl, HN, HMK, HC⟩ := hrel
  have hz0 := HC.out.size
  by_cases hlt : k < ss.length
  ·have hli : (k : Int) < ss.length := by omega
   have hll : ((ss.take k).map fA ++ ss.drop k).length = ss.length := by simp; omega
   have hgk : ((ss.take k).map fA ++ ss.drop k)[k]'(by omega) = ss[k] := by
    rw [List.getElem_append_right (by simp; omega)]
    simp only [List.getElem_drop, List.length_map, List.length_take]
    congr 1
    omega
   have hown := HMK.out.own
   obtain ⟨g', cap', e', _, hgl', _, hcl'⟩ := own_form hown (by rw [hll]; omega)
   have eA : A = some ⟨g', 0, none⟩ := by injection e'
   subst eA
   clear e'
   have hq : ∀ f u, f < 3 → (scell ss[k])[f]? = some u → wr.cell? ⟨g', k * 3 + f, none⟩ = some u := fun f u hf hu => hcl' _ _ (by rw [secells_at _ k f (by omega) hf, hgk]; exact hu)
   have q0 := hq 0 _ (by omega) rfl; have q1 := hq 1 _ (by omega) rfl; have q2 := hq 2 _ (by omega) rfl
   simp only [Nat.add_zero] at q0
   have hgw : g' < w.heap.size := (HM.out.own.lt g' rfl).2
   have hsa := ha ss[k] (List.getElem_mem hlt)
   have HPK := Lib.hid (HPL.out k hlt)
   have HSL := Lib.hid (step_list (f := fA) hlt)
   rw [HEQ.out ss[k]] at HSL
   have hlk := HLL.out k
   have HGK := Lib.hid hgk
   clear hown hcl' hq hgk
   generalize ss[k] = x at *
   obtain ⟨xn, xu, xa⟩ := x
   simp only at q0 q1 q2 hsa HPK HSL
   have hhu := HHL.out xu
   have HX := Lib.hid (heap_alloc_new wr (.cells #[.int .i64 xn, .string (bs xu), .int .u32 (xa : Nat)] 106))
   have HBX := Lib.hid (rbox wr (.cells #[.int .i64 xn, .string (bs xu), .int .u32 (xa : Nat)] 106))
   go_upto_region 5 with fail
   have hlx : wr.heap.size < (wr.alloc (.cells #[.int .i64 xn, .string (bs xu), .int .u32 (xa : Nat)] 106)).heap.size := by simp
   generalize wr.alloc (.cells #[.int .i64 xn, .string (bs xu), .int .u32 (xa : Nat)] 106) = w2 at *
   have HC2 := Lib.hid (HC.out.belows HBX.out)
   have HO2 : Hid (∀ W, Below w2.heap.size w2 W → Calls Tryz.prog 31 #[.pointer (some ⟨bg, 0, none⟩), .pointer (some ⟨rb, 0, none⟩), .string (bs xu)] W fun e w' => e = .returned (.int .u32 (holdsP ns bl r gs xu : Nat)) ∧ Below W.heap.size W w') := fun W hW => HO.out W xu (HC2.out.belows hW)
   have hand := and_val32 _ _ hsa hhu
   have x0 := tq0 HX.out; have x1 := tq1 HX.out; have x2 := tq2 HX.out
   clear q0 q1 q2
   generalize hgx : wr.heap.size = gx at *
   have HGX := Lib.hid hgx
   clear hgx
   generalize holdsP ns bl r gs xu = hd at *
   generalize hxu : bs xu = ub at *
   generalize hz9 : xa &&& hd = z at *
   go_region_held3 (fun w' => w'.cell? ⟨gx, 1, none⟩ = some (.string ub) ∧ w'.cell? ⟨gx, 2, none⟩ = some (.int .u32 (xa : Nat)))
    (first | exact ⟨x1, x2⟩ | exact ⟨(hb3.cell (p := ⟨gx, 1, none⟩) hlx).trans x1, (hb3.cell (p := ⟨gx, 2, none⟩) hlx).trans x2⟩ | go_keep)
    ((go_at_call 31; refine (HO2.out _ (by first | exact Below.refl _ _ | exact below_drew (Below.refl _ _))).mono ?_; rintro e W3 ⟨rfl, hb3'⟩; have hb3 : Below w2.heap.size w2 W3 := (by first | exact hb3' | exact below_then (below_drew (Below.refl _ _)) hb3' (Nat.le_refl _))))
   have y0 := (hb3.cell (p := ⟨gx, 0, none⟩) hlx).trans x0
   have y2 := (hb3.cell (p := ⟨gx, 2, none⟩) hlx).trans x2
   have y0d : W3.drew.cell? ⟨gx, 0, none⟩ = some (.int .i64 xn) := y0
   have y2d : W3.drew.cell? ⟨gx, 2, none⟩ = some (.int .u32 (xa : Nat)) := y2
   have hb3d : Below w2.heap.size w2 W3.drew := below_drew hb3
   have HB3 : Hid (Below wr.heap.size wr W3) := by show Below _ _ _; rw [HGX.out]; exact below_then HBX.out hb3 (Nat.le_of_lt hlx)
   have hz1 : w.heap.size ≤ wr.heap.size := by rw [HGX.out]; exact hz0
   have HMK3 := Lib.hid (HMK.out.below HB3.out)
   have hgl3 : gx ≤ W3.heap.size := Nat.le_trans (Nat.le_of_lt hlx) hb3.size
   have HLL9 := Lib.hid hll
   by_cases hzx : z = xa
   ·subst hzx
    have hne : (((z : Nat) : Int) != (z : Nat)) = false := by simp
    have e9 : fL (ss.take (k + 1)) = fL (ss.take k) := by rw [HPK.out, if_pos rfl]
    have e8 : (ss.take (k + 1)).map fA ++ ss.drop (k + 1) = (ss.take k).map fA ++ ss.drop k := by
     rw [HSL.out, ← HGK.out, List.set_getElem_self]
    have E9 := Lib.hid e9
    have E8 := Lib.hid e8
    clear e9 e8 HPK HSL HGK hll
    go_wp2
    go_roundw
    case rel =>
     refine ⟨k + 1, AG, cG, by omega, by rw [E9.out], by go_num, ?_, ?_, ?_⟩
     ·show OwnN _ _ _ _
      rw [E9.out]
      first | exact own_below HN.out HB3.out hz1 | exact own_below HN.out (below_drew HB3.out) hz1
     ·show SeM _ _ _ _ _
      rw [E8.out]
      exact HMK3.out
     ·exact HC.out.belows HB3.out
    case measure => simp [intOf]; omega
   ·have hne : (((z : Nat) : Int) != (xa : Nat)) = true := by simpa using fun h => hzx (by omega)
    rw [if_neg hzx] at HPK
    have h2 := seM_set2 (a := z) HMK.out HB3.out (by rw [hll]; exact hlt)
    rw [HGK.out] at h2
    have HM4 : Hid (SeM (W3.setCell ⟨g', k * 3 + 2, none⟩ (.int .u32 (z : Nat))) b (.slice (some ⟨g', 0, none⟩) ss.length c) ((ss.take (k + 1)).map fA ++ ss.drop (k + 1)) last) := by
     show SeM _ _ _ _ _
     rw [HSL.out]
     exact h2.1
    have HC4 : Hid (Chg (gOwn b (.slice (some ⟨g', 0, none⟩) ss.length c)) w (W3.setCell ⟨g', k * 3 + 2, none⟩ (.int .u32 (z : Nat)))) := HC.out.trans h2.2
    have HN3 : Hid (OwnN W3 w.heap.size (.slice AG (fL (ss.take k)).length cG) (fL (ss.take k))) := own_below HN.out HB3.out hz1
    have HN4 : Hid (OwnN (W3.setCell ⟨g', k * 3 + 2, none⟩ (.int .u32 (z : Nat))) w.heap.size (.slice AG (fL (ss.take k)).length cG) (fL (ss.take k))) := World.ownsRow.kept HN3.out (grown_setCell _ _ _ _) (.inr fun e => by have := (HN3.out.lt _ e).1; omega)
    obtain ⟨u9, _, t2, f2⟩ := own_cellsS (j := k * 3 + 2) (show W3.ownsRow 0 106 3 (.slice (some ⟨g', 0, none⟩) ss.length c) ss.length (secells ((ss.take k).map fA ++ ss.drop k)) from by have := HMK3.out.own; unfold OwnSe at this; rwa [hll] at this) (by omega)
    have p0 := HMK3.out.q0
    have y4 : (W3.setCell ⟨g', k * 3 + 2, none⟩ (.int .u32 (z : Nat))).cell? ⟨gx, 0, none⟩ = some (.int .i64 xn) := by
     rw [← y0]
     exact World.cell?_of_block (Below.heap_setCell _ ⟨g', k * 3 + 2, none⟩ _ gx (by show gx ≠ g'; omega))
    have HZ4 : Hid (w.heap.size ≤ (W3.setCell ⟨g', k * 3 + 2, none⟩ (.int .u32 (z : Nat))).heap.size) := HC4.out.size
    clear h2 HN HN3 HMK HMK3 HSL HGK hll
    go_upto_region 8 with fail
    clear t2 f2 y0 y2 y0d y2d p0
    generalize W3.setCell ⟨g', k * 3 + 2, none⟩ (.int .u32 (z : Nat)) = w4' at *
    go_wp2_with (at_builtin; go_must (refine wpList_append_own _ rfl (.tmp 41) (.tmp 44) 22 rfl w.heap.size 3 i1 _ 1 8 Tryz.underlying22 ii iz0 iz1 iz2 rfl (by decide) _ (fL (ss.take k)).length ((fL (ss.take k)).map fun n => Value.int .i64 n) rfl (HN4.out.alloc _) ⟨w4'.heap.size, 0, none⟩ 1 1 [.int .i64 xn] rfl rfl (cells_new _ _ _) (by intro u hu; simp at hu; subst hu; rfl) (by unfold maxLen; omega) (by omega) (by simp; have := HZ4.out; omega) ?_); intro v' w5 hown' hg' _; obtain ⟨A5, c5, rfl⟩ := own_slice hown')
    have hAG : ∀ j, Value.ownBlock (.slice AG (fL (ss.take k)).length cG) = some j → w.heap.size ≤ j := fun j e => (HN4.out.lt j e).1
    have HM5 : Hid (SeM w5 b (.slice (some ⟨g', 0, none⟩) ss.length c) ((ss.take (k + 1)).map fA ++ ss.drop (k + 1)) last) := (HM4.out.below (rbox w4' _)).grow hg' (fun e => by have := hAG b e; have := HM.out.lt; omega) (.inr fun e => by have := hAG g' e.symm; omega)
    have HC5 : Hid (Chg (gOwn b (.slice (some ⟨g', 0, none⟩) ss.length c)) w w5) := (HC4.out.belows (rbox w4' _)).new hg' hAG
    go_roundw
    case rel =>
     refine ⟨k + 1, A5, c5, by omega, by rw [HPK.out, List.length_append]; rfl, by go_num, ?_, HM5.out, HC5.out⟩
     show World.ownsRow _ _ _ _ _ _ _
     rw [HPK.out, List.length_append, List.map_append]
     exact hown'
    case measure => simp [intOf]; omega
  ·have hli : ¬ (k : Int) < ss.length := by omega
   obtain rfl : k = ss.length := by omega
   rw [HPN.out] at HN
   have h9 := HMK.out
   rw [List.take_length, List.drop_length, List.append_nil] at h9
   have HM9 := Lib.hid h9
   clear h9 HPN HMK
   go_wp2
   go_ret
   exact ⟨AG, cG, rfl, HN.out, _, HM9.out, HC.out, fun _ e => .inl e⟩
end
end Go.Proofs.YtgffbgmieppckaaGreatDoor
