import Derived.Test.YtaoinedndnleoaaGreatSt8
import Derived.Deep.RegionHeld3
namespace Go.Proofs.YtaoinedndnleoaaGreat
set_option maxRecDepth 100000
open Go.ChangeShapes Go.WideShapes Go.ChangeAt Go.RowKit
def enB (c : Ch) (s : Nat) (kd : Int) (ev : Tx) (i : Nat) : Bool := match c.trans[i]? with
 | some t => (t.kind == kd) && ((kd != 9) || (t.event == ev)) && s.testBit t.from_.toNat
 | none => false
def enK (c : Ch) (s : Nat) (kd : Int) (ev : Tx) (k : Nat) : List Nat := (List.range k).filter (enB c s kd ev)
def enL (c : Ch) (s : Nat) (kd : Int) (ev : Tx) : List Nat := enK c s kd ev c.trans.length
theorem enK_succ (c : Ch) (s : Nat) (kd : Int) (ev : Tx) (k : Nat) : enK c s kd ev (k + 1) = if enB c s kd ev k = true then enK c s kd ev k ++ [k] else enK c s kd ev k := by
 unfold enK
 rw [List.range_succ, List.filter_append, List.filter_cons, List.filter_nil]
 split
 ·rfl
 ·rw [List.append_nil]
theorem enK_len (c : Ch) (s : Nat) (kd : Int) (ev : Tx) (k : Nat) : (enK c s kd ev k).length ≤ k := by
 have := List.length_filter_le (enB c s kd ev) (List.range k)
 rw [List.length_range] at this
 exact this
theorem enK_lt (c : Ch) (s : Nat) (kd : Int) (ev : Tx) (k : Nat) : ∀ i ∈ enK c s kd ev k, i < k := fun _ hi => List.mem_range.1 (List.mem_filter.1 hi).1
theorem beq_txs (a b : Tx) : ((bs a).toList == (bs b).toList) = (a == b) := by rw [Lib.toList_data, Lib.toList_data, list_bs, list_bs]
theorem ownI_app {X : World} {base : Nat} {v : Value} {l : List Int} {x : Int} (h : X.ownsRow base 3 1 v (l.length + 1) (icells l ++ icells [x])) : OwnI X base v (l ++ [x]) := by
 unfold OwnI
 rw [List.length_append]
 unfold icells at *
 rw [List.map_append]
 exact h
def EnTo (l : List Nat) (w : World) (e : Ending) (w' : World) : Prop := Below w.heap.size w w' ∧ ∃ v, e = .returned v ∧ OwnI w' w.heap.size v (l.map fun k : Nat => (k : Int))
set_option maxHeartbeats 8000000 in
theorem enabled_any (c : Ch) (n : Nat) (AN AK AP AT A7 A8 : Option Addr) (cN cK cP cT n7 c7 n8 c8 : Nat) (s : Nat) (kd : Int) (ev : Tx) (w : World) (h : ChW w c n AK AP AT cK cP cT) (hs : s < 4294967296) (hfew : (enL c s kd ev).length ≤ 19) :
  Calls Tryz.prog 19 #[chV AN AK AP AT c.names.length cN n cK n cP c.trans.length cT, .agg #[.int .u32 s, .slice A7 n7 c7, .slice A8 n8 c8], .int .i64 kd, .string (bs ev)] w (EnTo (sortD (lvT c) (enL c s kd ev)) w) := by
 have RC : ((w.alloc (.cells #[.slice AN c.names.length cN, .slice AK n cK, .slice AP n cP, .slice AT c.trans.length cT] 30)).alloc (.cells #[.int .u32 s, .slice A7 n7 c7, .slice A8 n8 c8] 40)).heap[w.heap.size]? = _ := (heap_alloc_old _ _ (by simp)).trans (heap_alloc_new _ _)
 have RX : ((w.alloc (.cells #[.slice AN c.names.length cN, .slice AK n cK, .slice AP n cP, .slice AT c.trans.length cT] 30)).alloc (.cells #[.int .u32 s, .slice A7 n7 c7, .slice A8 n8 c8] 40)).heap[w.heap.size + 1]? = some (.cells #[.int .u32 s, .slice A7 n7 c7, .slice A8 n8 c8] 40 (0, 0)) := by
  have := heap_alloc_new (w.alloc (.cells #[.slice AN c.names.length cN, .slice AK n cK, .slice AP n cP, .slice AT c.trans.length cT] 30)) (.cells #[.int .u32 s, .slice A7 n7 c7, .slice A8 n8 c8] 40)
  simpa using this
 have hB0 : Below w.heap.size w ((w.alloc (.cells #[.slice AN c.names.length cN, .slice AK n cK, .slice AP n cP, .slice AT c.trans.length cT] 30)).alloc (.cells #[.int .u32 s, .slice A7 n7 c7, .slice A8 n8 c8] 40)) := ((Below.refl _ _).alloc (Nat.le_refl _) _).alloc (by simp) _
 have HW := Lib.hid (h.below hB0)
 have HB0 := Lib.hid hB0
 have htl := h.tl
 have htc := h.tc
 clear h hB0
 go_enter Tryz.func19, Tryz.ntmps19
 go_upto_region 1 with fail
 generalize (w.alloc (.cells #[.slice AN c.names.length cN, .slice AK n cK, .slice AP n cP, .slice AT c.trans.length cT] 30)).alloc (.cells #[.int .u32 s, .slice A7 n7 c7, .slice A8 n8 c8] 40) = w0 at *
 have hl1 : w.heap.size + 1 < w0.heap.size := (Array.getElem?_eq_some_iff.1 RX).1
 have HRW : Hid (∀ W, Below w0.heap.size w0 W → W.heap[w.heap.size]? = some (.cells #[.slice AN c.names.length cN, .slice AK n cK, .slice AP n cP, .slice AT c.trans.length cT] 30 (0, 0)) ∧ W.heap[w.heap.size + 1]? = some (.cells #[.int .u32 s, .slice A7 n7 c7, .slice A8 n8 c8] 40 (0, 0))) := fun W hW =>
  ⟨(hW.block _ (by omega)).trans RC, (hW.block _ hl1).trans RX⟩
 have c3 := cell_of_row _ _ 3 _ _ _ RC
 obtain ⟨i0, hi, hz0, hz1, hz2⟩ := info_parts Tryz.infoInt
 clear RC RX
 go_upto_region 3 with fail
 clear c3
 go_loopw [9, 15] (fun v i wr => ∃ k : Nat, k ≤ c.trans.length ∧ i = .int .i64 k ∧ Hid (OwnI wr w0.heap.size v ((enK c s kd ev k).map fun k : Nat => (k : Int))) ∧ Hid (Below w0.heap.size w0 wr)) (fun _ i _ => c.trans.length - (intOf i).toNat)
 case atStart => exact ⟨0, Nat.zero_le _, rfl, World.ownsRow_nil _ _ _ _, Below.refl _ _⟩
 case round =>
  obtain ⟨k, hk, rfl, HO, HB⟩ := hrel
  obtain ⟨rc, rx⟩ := HRW.out _ HB.out
  have hbz := HB.out.size
  by_cases hlt : k < c.trans.length
  ·obtain ⟨f, g9, ef, hfn, _, _⟩ := HW.out.ft _ (List.getElem_mem hlt)
   obtain ⟨gT, rfl, hgT, hc⟩ := HW.out.tr k hlt
   have q := fun j u hj hu => (HB.out.cell (p := ⟨gT, k * 7 + j, none⟩) hgT).trans (hc j u hj hu)
   have hen := enK_succ c s kd ev k
   have heb : enB c s kd ev k = ((c.trans[k].kind == kd) && ((kd != 9) || (c.trans[k].event == ev)) && s.testBit f) := by
    unfold enB; rw [List.getElem?_eq_getElem hlt]; show ((c.trans[k].kind == kd) && ((kd != 9) || (c.trans[k].event == ev)) && s.testBit (c.trans[k].from_).toNat) = _; rw [ef]; rfl
   have hel := enK_len c s kd ev k
   have hnn := HW.out.nn
   have r0 := q 0 _ (by omega) rfl; have r1 := q 1 _ (by omega) rfl; have r2 := q 2 _ (by omega) rfl; have r3 := q 3 _ (by omega) rfl; have r4 := q 4 _ (by omega) rfl; have r5 := q 5 _ (by omega) rfl; have r6 := q 6 _ (by omega) rfl
   simp only [Nat.add_zero] at r0
   rw [ef] at r1
   clear q hc ef
   rw [heb] at hen
   clear heb
   have hbt := beq_txs c.trans[k].event ev
   generalize c.trans[k] = t at *
   obtain ⟨tk, tf, tt, te, tp, ta, ti⟩ := t
   simp only at hen hbt r0 r2 r3 r4 r5 r6
   go_upto_region 5 with fail
   have hbx := box_b wr (.cells #[.int .i64 tk, .int .i64 f, .int .i64 tt, .string (bs te), .string (bs tp), .string (bs ta), .int .i64 ti] 52)
   have RT := heap_alloc_new wr (.cells #[.int .i64 tk, .int .i64 f, .int .i64 tt, .string (bs te), .string (bs tp), .string (bs ta), .int .i64 ti] 52)
   have HBt := Lib.hid (below_then HB.out hbx hbz)
   have HOt := Lib.hid (own_below HO.out hbx hbz)
   clear r0 r1 r2 r3 r4 r5 r6 rc rx hbx HO HB
   generalize wr.heap.size = gt at *
   generalize wr.alloc (.cells #[.int .i64 tk, .int .i64 f, .int .i64 tt, .string (bs te), .string (bs tp), .string (bs ta), .int .i64 ti] 52) = wt at *
   obtain ⟨rc, rx⟩ := HRW.out _ HBt.out
   have c0 := cell_of_row _ _ 0 _ _ _ rc; have c1 := cell_of_row _ _ 1 _ _ _ rc; have c2 := cell_of_row _ _ 2 _ _ _ rc; have c3 := cell_of_row _ _ 3 _ _ _ rc
   have x0 := cell_of_row _ _ 0 _ _ _ rx; have x1 := cell_of_row _ _ 1 _ _ _ rx; have x2 := cell_of_row _ _ 2 _ _ _ rx
   have z0 := tr_q0 RT; have z1 := tr_q1 RT; have z3 := tr_q3 RT
   have IN := Lib.hid (fun W => in_any AN AK AP (some ⟨gT, 0, none⟩) c.names.length cN n cK n cP c.trans.length cT s f (.slice A7 n7 c7) (.slice A8 n8 c8) W hs hfn hnn)
   have htz := HBt.out.size
   generalize (te == ev) = b3 at *
   generalize hb1 : (tk == kd) = b1 at *
   generalize hb2 : (kd != 9) = b2 at *
   generalize s.testBit f = b4 at *
   clear rc rx RT
   cases b1
   ·rw [Bool.false_and, Bool.false_and, if_neg (by simp)] at hen
    have HEN := Lib.hid hen
    clear hen
    go_wp2
    go_roundw
    case rel => exact ⟨k + 1, by omega, by go_num, by show OwnI _ _ _ _; rw [HEN.out]; exact HOt.out, HBt.out⟩
    case measure => simp [intOf]; omega
   ·cases b2
    ·cases b3
     ·have HEN : Hid (enK c s kd ev (k + 1) = enK c s kd ev k) := by show _ = _; rw [hen, if_neg (by simp)]
      clear hen
      go_wp2
      go_roundw
      case rel => exact ⟨k + 1, by omega, by go_num, by show OwnI _ _ _ _; rw [HEN.out]; exact HOt.out, HBt.out⟩
      case measure => simp [intOf]; omega
     ·cases b4
      ·have HEN : Hid (enK c s kd ev (k + 1) = enK c s kd ev k) := by show _ = _; rw [hen, if_neg (by simp)]
       clear hen
       go_wp2_with (go_at_call 38; refine (IN.out _).mono ?_; rintro e w5 ⟨rfl, hb5⟩)
       go_roundw
       case rel => exact ⟨k + 1, by omega, by go_num, by show OwnI _ _ _ _; rw [HEN.out]; exact own_below HOt.out hb5 htz, below_then HBt.out hb5 htz⟩
       case measure => simp [intOf]; omega
      ·have HEN : Hid (enK c s kd ev (k + 1) = enK c s kd ev k ++ [k]) := by show _ = _; rw [hen, if_pos (by simp)]
       clear hen
       go_wp2_with (first
        | (go_at_call 38; refine (IN.out _).mono ?_; rintro e w5 ⟨rfl, hb5⟩; have HO5 := Lib.hid (own_below HOt.out hb5 htz); have HB5 := Lib.hid (below_then HBt.out hb5 htz); have hbz5 := HB5.out.size; clear hb5)
        | (at_builtin; go_must (refine wpList_append_own _ rfl (.tmp 41) (.tmp 43) 22 rfl w0.heap.size 3 i0 _ 1 8 Tryz.underlying22 hi hz0 hz1 hz2 rfl (by decide) _ _ _ rfl (World.ownsRow.alloc HO5.out _) ⟨w5.heap.size, 0, none⟩ 1 1 (icells [(k : Int)]) rfl rfl (cells_new _ _ _) (icells_one _) (by rw [List.length_map]; unfold maxLen; omega) (by rw [List.length_map]; omega) (by simp; omega) ?_); intro v' w6 hown' hg' _))
       have hg2 := (World.grownBy_alloc w5 (.cells #[.int .i64 (k : Int)] 3) _).andThen hg' (fun j e => .inr e)
       have HB6 := Lib.hid (HB5.out.grown hg2 hbz5 (fun j e => (World.ownsRow.lt HO5.out j e).1))
       go_roundw
       case rel => exact ⟨k + 1, by omega, by go_num, by show OwnI _ _ _ _; rw [HEN.out, List.map_append]; exact ownI_app hown', HB6.out⟩
       case measure => simp [intOf]; omega
    ·cases b4
     ·have HEN : Hid (enK c s kd ev (k + 1) = enK c s kd ev k) := by show _ = _; rw [hen, if_neg (by simp)]
      clear hen
      go_wp2_with (go_at_call 38; refine (IN.out _).mono ?_; rintro e w5 ⟨rfl, hb5⟩)
      go_roundw
      case rel => exact ⟨k + 1, by omega, by go_num, by show OwnI _ _ _ _; rw [HEN.out]; exact own_below HOt.out hb5 htz, below_then HBt.out hb5 htz⟩
      case measure => simp [intOf]; omega
     ·have HEN : Hid (enK c s kd ev (k + 1) = enK c s kd ev k ++ [k]) := by show _ = _; rw [hen, if_pos (by simp)]
      clear hen
      go_wp2_with (first
       | (go_at_call 38; refine (IN.out _).mono ?_; rintro e w5 ⟨rfl, hb5⟩; have HO5 := Lib.hid (own_below HOt.out hb5 htz); have HB5 := Lib.hid (below_then HBt.out hb5 htz); have hbz5 := HB5.out.size; clear hb5)
       | (at_builtin; go_must (refine wpList_append_own _ rfl (.tmp 41) (.tmp 43) 22 rfl w0.heap.size 3 i0 _ 1 8 Tryz.underlying22 hi hz0 hz1 hz2 rfl (by decide) _ _ _ rfl (World.ownsRow.alloc HO5.out _) ⟨w5.heap.size, 0, none⟩ 1 1 (icells [(k : Int)]) rfl rfl (cells_new _ _ _) (icells_one _) (by rw [List.length_map]; unfold maxLen; omega) (by rw [List.length_map]; omega) (by simp; omega) ?_); intro v' w6 hown' hg' _))
      have hg2 := (World.grownBy_alloc w5 (.cells #[.int .i64 (k : Int)] 3) _).andThen hg' (fun j e => .inr e)
      have HB6 := Lib.hid (HB5.out.grown hg2 hbz5 (fun j e => (World.ownsRow.lt HO5.out j e).1))
      go_roundw
      case rel => exact ⟨k + 1, by omega, by go_num, by show OwnI _ _ _ _; rw [HEN.out, List.map_append]; exact ownI_app hown', HB6.out⟩
      case measure => simp [intOf]; omega
  ·have ek : k = c.trans.length := by omega
   subst ek
   have hO0 := HO.out
   clear HO
   obtain ⟨A0, cp0, rfl⟩ := own_slice hO0
   obtain ⟨v, hv0⟩ : ∃ v, v = Value.slice A0 ((enK c s kd ev c.trans.length).map fun k : Nat => (k : Int)).length cp0 := ⟨_, rfl⟩
   rw [← hv0] at hO0 ⊢
   have hO : OwnI wr w0.heap.size v ((enL c s kd ev).map fun k : Nat => (k : Int)) := hO0
   clear hv0 hO0
   obtain ⟨rc, _⟩ := HRW.out _ HB.out
   have hlts := enK_lt c s kd ev c.trans.length
   have SS : Hid (Calls Tryz.prog 45 #[v, .func (.func 46) #[] #[.pointer (some ⟨w.heap.size, 0, none⟩)]] wr fun e w' => e = .returned (.tuple #[]) ∧ (Below w0.heap.size wr w' ∧ OwnI w' w0.heap.size v ((sortD (lvT c) (enL c s kd ev)).map fun k : Nat => (k : Int)))) := by
    show Calls _ _ _ _ _
    obtain ⟨A, cp, hv⟩ := own_slice hO
    rw [List.length_map] at hv
    by_cases h0 : (enL c s kd ev).length = 0
    ·have he : enL c s kd ev = [] := List.eq_nil_of_length_eq_zero h0
     refine stable_of v 0 w.heap.size wr (by omega) A cp (by rw [hv, h0]) (fun _ w' => Below w0.heap.size wr w' ∧ OwnI w' w0.heap.size v ((sortD (lvT c) (enL c s kd ev)).map fun k : Nat => (k : Int))) ?_
     rw [hv, h0]
     refine (insSort_nil A cp w.heap.size wr).mono ?_
     rintro e w' ⟨rfl, rfl⟩
     refine ⟨rfl, Below.refl _ _, ?_⟩
     rw [hv, h0] at hO
     rw [he] at hO ⊢
     exact hO
    ·obtain ⟨g, cap', e', _, _, _, _⟩ := own_form hO (by rw [List.length_map]; omega)
     rw [hv] at e'
     injection e' with e1 e2 e3
     subst e1
     have hN : NAt wr w0.heap.size g cp (enL c s kd ev) := by
      unfold NAt
      rw [hv] at hO
      have := hO
      unfold OwnI at this
      rwa [List.length_map] at this
     refine stable_of v (enL c s kd ev).length w.heap.size wr hfew _ cp hv (fun _ w' => Below w0.heap.size wr w' ∧ OwnI w' w0.heap.size v ((sortD (lvT c) (enL c s kd ev)).map fun k : Nat => (k : Int))) ?_
     rw [hv]
     refine (insSort_any (lvT c) w0.heap.size g cp w.heap.size (enL c s kd ev) wr hN hbz (by omega) (fun W hW a ha b hb => ?_)).mono ?_
     ·have hBW : Below w0.heap.size w0 W := HB.out.trans hW
      exact cmpT_any c n AN AK AP AT cN cK cP cT w.heap.size a b W (HW.out.below hBW) (hlts a ha) (hlts b hb) (HRW.out W hBW).1
     ·rintro e w' ⟨rfl, hb', hn'⟩
      refine ⟨rfl, hb', ?_⟩
      unfold NAt at hn'
      rw [sortD_len] at hn'
      unfold OwnI
      rw [List.length_map, sortD_len]
      exact hn'
   clear hO rc hlts
   go_wp2_with (go_at_call 45; refine SS.out.mono ?_; rintro e w5 ⟨rfl, hq1, hq2⟩)
   go_ret
   exact ⟨below_then HB0.out (HB.out.trans hq1) HB0.out.size, _, rfl, own_mono2 hq2 (by omega)⟩
theorem run_cellU {P : Program} {fn : Func} {p u : Tmp} {ty : TypeId} (h : fn.results = #[.cell p ty, .tmp u]) (tmps : Array Value) (w : World) (g : Nat) (t : TypeId) (cs : Array Value) (fr : Nat × Nat) (d : TypeDesc)
  (hp : tmps.getD p undef = .pointer (some ⟨g, 0, none⟩)) (hg : w.heap[g]? = some (.cells cs t fr))
  (hu : P.underlying ty = some d) (hd : (match d with | .struct _ | .array _ _ => true | _ => false) = true) (hi : (P.info? ty).map (·.size) = some cs.size) :
  (results fn tmps).run P w = .ok (.tuple #[.agg cs, tmps.getD u undef]) w := by
 have hp' : tmps[p]?.getD undef = .pointer (some ⟨g, 0, none⟩) := by simpa using hp
 simp [results, h, hp', asAddr, run_loadVar_row w g t ty cs fr d hg hu hd hi]
def TakTo (n : Nat) (y : Cf) (w : World) (e : Ending) (w' : World) : Prop := Below w.heap.size w w' ∧ ∃ g3 gS, e = .returned (.tuple #[cfV y (.slice (some ⟨g3, 0, none⟩) n n) gS n, .nilIface]) ∧ w.heap.size ≤ g3 ∧ CfR w.heap.size w' n y (.slice (some ⟨g3, 0, none⟩) n n) gS
end Go.Proofs.YtaoinedndnleoaaGreat
