import Derived.Test.YtaoinedndnleoaaGreatOwnSome
import Derived.Maps.Range
import Derived.BigQuiet
import Derived.Test.YtaoinedndnleoaaGreatArgI
import Derived.Deep.AppendLies
namespace Go.Proofs.YtaoinedndnleoaaGreat
set_option maxRecDepth 100000
open Go.ChangeShapes Go.WideShapes Go.ChangeAt Go.RowKit
theorem Tryz.infoInt : (Tryz.prog.info? 3).map (fun i => (i.zero, i.size, i.bytes)) = some (some (.int .i64 0), 1, 8) := by kernel_rfl
theorem own_mono2 {w : World} {base base' e size n : Nat} {v : Value} {xs : List Value} (h : w.ownsRow base e size v n xs) (hle : base' ≤ base) : w.ownsRow base' e size v n xs :=
 ⟨h.1, h.2.elim .inl fun ⟨g, cap, cur, e, hb, r⟩ => .inr ⟨g, cap, cur, e, Nat.le_trans hle hb, r⟩⟩
def icells (l : List Int) : List Value := l.map (Value.int .i64)
def OwnI (w : World) (base : Nat) (v : Value) (l : List Int) : Prop := w.ownsRow base 3 1 v l.length (icells l)
section
variable (ks ps : List Int) (A B : Option Addr) (n c m d : Nat) (w : World)
set_option maxHeartbeats 1000000 in
theorem Initial_any (a : Int) (h : IntsAt w (.slice A n c) ks ∧ IntsAt w (.slice B m d) ps) (hn : n = ks.length) (hm : m = ps.length) (hn2 : n ≤ 100) (hm2 : m ≤ 100) :
  Calls Tryz.prog 114 #[.agg #[.slice A n c, .slice B m d], .int .i64 a] w fun e w' => e = .returned (.int .i64 (iniTo ks ps a (szN ks ps))) ∧ Below w.heap.size w w' := by
 have x0 := box_0 w 27 (.slice A n c) (.slice B m d)
 have x1 := box_1 w 27 (.slice A n c) (.slice B m d)
 have hz := box_b w (.cells #[.slice A n c, .slice B m d] 27)
 have S1 := Lib.hid (shp_below h hz)
 have HZ := Lib.hid hz
 have hlt : w.heap.size < (w.alloc (.cells #[.slice A n c, .slice B m d] 27)).heap.size := by simp
 have SZ := Lib.hid (fun W => size_any 27 A B n c m d W (by omega) (by omega))
 have HN : Hid (szN ks ps = min n m) := by show _ = _; rw [hn, hm]; rfl
 have H1 := Lib.hid hn
 have H2 := Lib.hid hm
 clear h hz hn hm
 go_enter Tryz.func114, Tryz.ntmps114
 go_wp2_with (go_at_call 53; refine (SZ.out _).mono ?_; rintro e w1 ⟨rfl, hb1⟩)
 have y0 := (hb1.cell (p := ⟨w.heap.size, 0, none⟩) hlt).trans x0
 have y1 := (hb1.cell (p := ⟨w.heap.size, 1, none⟩) hlt).trans x1
 have S2 := Lib.hid (shp_below S1.out hb1)
 have HZ2 := Lib.hid (below_then HZ.out hb1 HZ.out.size)
 have hlt2 : w.heap.size < w1.heap.size := Nat.lt_of_lt_of_le hlt hb1.size
 clear S1 HZ x0 x1 hb1 hlt SZ
 have hqm : min n m ≤ m := Nat.min_le_right _ _
 have hqn : min n m ≤ n := Nat.min_le_left _ _
 generalize min n m = q at *
 go_loopw [5, 8] (fun _ i wr => ∃ k : Nat, k ≤ q ∧ i = .int .i64 k ∧ Hid (Below w1.heap.size w1 wr) ∧ Hid (∀ j, j < k → isKid ks ps a j = false)) (fun _ i _ => q - (intOf i).toNat)
 case atStart => exact ⟨0, Nat.zero_le _, rfl, Below.refl _ _, fun j hj => by omega⟩
 case round =>
  obtain ⟨k, hk, rfl, HB, HI⟩ := hrel
  have z0 := (HB.out.cell (p := ⟨w.heap.size, 0, none⟩) hlt2).trans y0
  have z1 := (HB.out.cell (p := ⟨w.heap.size, 1, none⟩) hlt2).trans y1
  by_cases hlt : k < q
  ·have hkm : (k : Int) < m := by omega
   obtain ⟨b, off, rfl, hb, hx, hw⟩ := ints_cell (HB.out |> shp_below S2.out).2 (k := k) (by have := H2.out; omega)
   have HO := Lib.hid (holds_any ks A (some ⟨b, off, none⟩) n c m d k wr (shp_below S2.out HB.out).1 H1.out (by omega) (by omega))
   have HT : Hid (isKid ks ps a k = false → ∀ j, j < k + 1 → isKid ks ps a j = false) := fun hh j hj => by
    by_cases e : j = k
    ·subst e; exact hh
    ·exact HI.out j (by omega)
   have HH : Hid (isKid ks ps a k = true → iniTo ks ps a q = k) := fun hh => ini_hit hlt hh HI.out
   have HD : Hid (isKid ks ps a k = (ps.getD k 0 == a && hl ks k)) := rfl
   clear HI hw
   generalize ps.getD k 0 = z at *
   generalize hl ks k = hb2 at *
   rcases bor_cases (a := z == a) with g | g
   ·cases hb2
    ·have HT2 := Lib.hid (HT.out (by rw [HD.out, g]; rfl))
     clear HT HH HD
     go_wp2_with (go_at_call 87; refine HO.out.mono ?_; rintro e w2 ⟨rfl, hb2⟩)
     go_roundw
     case rel => exact ⟨k + 1, by omega, by go_num, below_then HB.out hb2 HB.out.size, HT2⟩
     case measure => simp [intOf]; omega
    ·have HE := Lib.hid (HH.out (by rw [HD.out, g]; rfl))
     clear HT HH HD
     go_wp2_with (go_at_call 87; refine HO.out.mono ?_; rintro e w2 ⟨rfl, hb2⟩)
     go_ret
     exact ⟨ret_int (by rw [HN.out, HE.out]), below_then HZ2.out (below_then HB.out hb2 HB.out.size) HZ2.out.size⟩
   ·have HT2 := Lib.hid (HT.out (by rw [HD.out, g]; rfl))
    clear HT HH HD HO
    go_wp2
    go_roundw
    case rel => exact ⟨k + 1, by omega, by go_num, HB, HT2⟩
    case measure => simp [intOf]; omega
  ·have HE : Hid (iniTo ks ps a q = -1) := ini_miss fun j hj => HI.out j (by omega)
   clear HI
   go_wp2
   go_ret
   exact ⟨ret_int (by rw [HN.out, HE.out]), below_then HZ2.out HB.out HZ2.out.size⟩
def KidsTo (l : List Nat) (w : World) (e : Ending) (w' : World) : Prop := ∃ v, e = .returned v ∧ OwnI w' w.heap.size v (l.map fun k : Nat => (k : Int)) ∧ Below w.heap.size w w'
theorem kidsTo_mk {l l' : List Nat} {w w' : World} {v : Value} (e : l' = l) (h : OwnI w' w.heap.size v (l'.map fun k : Nat => (k : Int))) (hb : Below w.heap.size w w') : KidsTo l w (.returned v) w' := by
 subst e; exact ⟨v, rfl, h, hb⟩
theorem icells_snoc (l : List Nat) (k : Nat) : icells ((l ++ [k]).map fun k : Nat => (k : Int)) = icells (l.map fun k : Nat => (k : Int)) ++ [.int .i64 (k : Int)] := by simp [icells]
set_option maxHeartbeats 1000000 in
theorem Kids_any (a : Int) (h : IntsAt w (.slice A n c) ks ∧ IntsAt w (.slice B m d) ps) (hn : n = ks.length) (hm : m = ps.length) (hn2 : n ≤ 100) (hm2 : m ≤ 100) :
  Calls Tryz.prog 131 #[.agg #[.slice A n c, .slice B m d], .int .i64 a] w (KidsTo (kidsTo ps a (szN ks ps)) w) := by
 obtain ⟨i0, hi, hz0, hz1, hz2⟩ := info_parts Tryz.infoInt
 have x0 := box_0 w 27 (.slice A n c) (.slice B m d)
 have x1 := box_1 w 27 (.slice A n c) (.slice B m d)
 have hz := box_b w (.cells #[.slice A n c, .slice B m d] 27)
 have S1 := Lib.hid (shp_below h hz)
 have HZ := Lib.hid hz
 have hlt : w.heap.size < (w.alloc (.cells #[.slice A n c, .slice B m d] 27)).heap.size := by simp
 have SZ := Lib.hid (fun W => size_any 27 A B n c m d W (by omega) (by omega))
 have HN : Hid (szN ks ps = min n m) := by show _ = _; rw [hn, hm]; rfl
 have H1 := Lib.hid hn
 have H2 := Lib.hid hm
 clear h hz hn hm
 go_enter Tryz.func131, Tryz.ntmps131
 go_wp2_with (go_at_call 53; refine (SZ.out _).mono ?_; rintro e w1 ⟨rfl, hb1⟩)
 have y0 := (hb1.cell (p := ⟨w.heap.size, 0, none⟩) hlt).trans x0
 have y1 := (hb1.cell (p := ⟨w.heap.size, 1, none⟩) hlt).trans x1
 have S2 := Lib.hid (shp_below S1.out hb1)
 have HZ2 := Lib.hid (below_then HZ.out hb1 HZ.out.size)
 have hlt2 : w.heap.size < w1.heap.size := Nat.lt_of_lt_of_le hlt hb1.size
 clear S1 HZ x0 x1 hb1 hlt SZ
 have hqm : min n m ≤ m := Nat.min_le_right _ _
 have hqn : min n m ≤ n := Nat.min_le_left _ _
 generalize min n m = q at *
 go_loopw [5, 9] (fun v i wr => ∃ k : Nat, k ≤ q ∧ i = .int .i64 k ∧ Hid (OwnI wr w1.heap.size v ((kidsTo ps a k).map fun k : Nat => (k : Int))) ∧ Hid (Below w1.heap.size w1 wr)) (fun _ i _ => q - (intOf i).toNat)
 case atStart => exact ⟨0, Nat.zero_le _, rfl, World.ownsRow_nil _ _ _ _, Below.refl _ _⟩
 case round =>
  obtain ⟨k, hk, rfl, HO, HB⟩ := hrel
  have hbz := HB.out.size
  by_cases hlt : k < q
  ·have z1 := (HB.out.cell (p := ⟨w.heap.size, 1, none⟩) hlt2).trans y1
   have hkm : (k : Int) < m := by omega
   obtain ⟨b, off, rfl, hb, hx, hw⟩ := ints_cell (HB.out |> shp_below S2.out).2 (k := k) (by have := H2.out; omega)
   have hsn : kidsTo ps a (k + 1) = if ps.getD k 0 = a then kidsTo ps a k ++ [k] else kidsTo ps a k := rfl
   have hln := kidsTo_len ps a k
   have hlm : ((kidsTo ps a k).map fun k : Nat => (k : Int)).length = (kidsTo ps a k).length := List.length_map ..
   clear hw
   generalize ps.getD k 0 = z at *
   obtain ⟨A5, c5, rfl⟩ := own_slice HO.out
   rcases bor_cases (a := z == a) with g | g
   ·have e : z = a := by simpa using g
    rw [if_pos e] at hsn
    have HS := Lib.hid hsn
    clear hsn e
    go_wp2_with (at_builtin; go_must (refine wpList_append_own _ rfl (.tmp 19) (.tmp 21) 22 rfl w1.heap.size 3 i0 _ 1 8 Tryz.underlying22 hi hz0 hz1 hz2 rfl (by decide) _ _ _ rfl (HO.out.alloc _) ⟨wr.heap.size, 0, none⟩ 1 1 [.int .i64 k] rfl rfl (cells_new _ _ _) (by intro u hu; simp at hu; subst hu; rfl) (by unfold maxLen; omega) (by omega) (by simp; omega) ?_); intro v' w4 hown' hg' _)
    have hg2 : wr.grownBy w4 (Value.slice A5 ((kidsTo ps a k).map fun k : Nat => (k : Int)).length c5).ownBlock := (World.grownBy_alloc _ _ _).andThen hg' (fun j e => .inr e)
    have HNw : Hid (OwnI w4 w1.heap.size v' ((kidsTo ps a (k + 1)).map fun k : Nat => (k : Int))) := by
     show w4.ownsRow _ _ _ _ _ _
     rw [HS.out, icells_snoc, List.length_map, List.length_append, ← List.length_map (f := fun k : Nat => (k : Int))]
     exact hown'
    have HB4 := Lib.hid (HB.out.grown hg2 hbz (fun j e => (HO.out.lt j e).1))
    clear hown' hg' hg2
    go_roundw
    case rel => exact ⟨k + 1, by omega, by go_num, HNw, HB4⟩
    case measure => simp [intOf]; omega
   ·have e : ¬ z = a := by simpa using g
    rw [if_neg e] at hsn
    have HNw : Hid (OwnI wr w1.heap.size (.slice A5 ((kidsTo ps a k).map fun k : Nat => (k : Int)).length c5) ((kidsTo ps a (k + 1)).map fun k : Nat => (k : Int))) := by show OwnI _ _ _ _; rw [hsn]; exact HO.out
    clear hsn e
    go_wp2
    go_roundw
    case rel => exact ⟨k + 1, by omega, by go_num, HNw, HB⟩
    case measure => simp [intOf]; omega
  ·have HK : Hid (kidsTo ps a k = kidsTo ps a (szN ks ps)) := by show _ = _; rw [HN.out]; congr 1; omega
   go_wp2
   go_ret
   exact kidsTo_mk HK.out (own_mono2 HO.out (by omega)) (below_then HZ2.out HB.out HZ2.out.size)
end
section
variable (ks ps : List Int) (A B : Option Addr) (n c m d : Nat) (w : World)
set_option maxHeartbeats 2000000 in
theorem fits_any (k : Nat) (h : IntsAt w (.slice A n c) ks ∧ IntsAt w (.slice B m d) ps) (hn : n = ks.length) (hm : m = ps.length) (hn2 : n ≤ 24) (hk : k < n) (hk2 : k < m) :
  Calls Tryz.prog 130 #[.agg #[.slice A n c, .slice B m d], .int .i64 k] w fun e w' => e = .returned (.bool (fitS ks ps k)) ∧ Below w.heap.size w w' := by
 obtain ⟨b, off, rfl, hb, hx, hw⟩ := ints_cell h.1 (k := k) (by omega)
 obtain ⟨b2, off2, rfl, hb2, hx2, hw2⟩ := ints_cell h.2 (k := k) (by omega)
 have x0 := box_0 w 27 (.slice (some ⟨b, off, none⟩) n c) (.slice (some ⟨b2, off2, none⟩) m d)
 have x1 := box_1 w 27 (.slice (some ⟨b, off, none⟩) n c) (.slice (some ⟨b2, off2, none⟩) m d)
 have xk := box_x (.cells #[.slice (some ⟨b, off, none⟩) n c, .slice (some ⟨b2, off2, none⟩) m d] 27) hb hx
 have xp := box_x (.cells #[.slice (some ⟨b, off, none⟩) n c, .slice (some ⟨b2, off2, none⟩) m d] 27) hb2 hx2
 have hz := box_b w (.cells #[.slice (some ⟨b, off, none⟩) n c, .slice (some ⟨b2, off2, none⟩) m d] 27)
 have hlt : w.heap.size < (w.alloc (.cells #[.slice (some ⟨b, off, none⟩) n c, .slice (some ⟨b2, off2, none⟩) m d] 27)).heap.size := by simp
 have S0 := Lib.hid (shp_below h hz)
 have HZ := Lib.hid hz
 have H1 := Lib.hid hn
 have H2 := Lib.hid hm
 have hki : (k : Int) < n := by omega
 have hkj : (k : Int) < m := by omega
 have HV : Hid (fitS ks ps k = (!(decide (ks.getD k 0 < 1) || decide (4 < ks.getD k 0) || decide (ps.getD k 0 < -1) || decide ((k : Int) ≤ ps.getD k 0)) &&
  (if hl ks k then decide (ps.getD k 0 < 0) || hl ks (ps.getD k 0).toNat else decide (0 ≤ ps.getD k 0) && ks.getD (ps.getD k 0).toNat 0 == 1))) := rfl
 clear hx hw hx2 hw2 h hz hn hm
 generalize hz : ks.getD k 0 = z at *
 generalize hp : ps.getD k 0 = p at *
 clear hz hp
 go_enter Tryz.func130, Tryz.ntmps130
 go_upto_region 1 with (fail)
 generalize w.alloc (.cells #[.slice (some ⟨b, off, none⟩) n c, .slice (some ⟨b2, off2, none⟩) m d] 27) = w0 at *
 have hbw : b < w0.heap.size := Nat.lt_of_lt_of_le hb HZ.out.size
 clear hb hb2
 go_quiet (fail)
 have HO := Lib.hid (fun W (hW : Below w0.heap.size w0 W) (k : Nat) (hk : k < n) => holds_any ks (some ⟨b, off, none⟩) (some ⟨b2, off2, none⟩) n c m d k W (shp_below S0.out hW).1 H1.out hk (by omega))
 have hZ2 : Below w0.heap.size w0 (w0.drewN nq) := below_drewN (Below.refl _ _) nq
 have z0 := (hZ2.cell (p := ⟨w.heap.size, 0, none⟩) hlt).trans x0
 have z1 := (hZ2.cell (p := ⟨w.heap.size, 1, none⟩) hlt).trans x1
 generalize w0.drewN nq = w1 at *
 have HC : Hid (∀ j : Nat, j < n → ∃ W0 : Nat, W0 = 0 ∧ w1.cell? ⟨b, off + j, none⟩ = some (.int .i64 (ks.getD j 0))) := fun j hj => by
  obtain ⟨b', off', e, hb', hx', _⟩ := ints_cell S0.out.1 (k := j) (by have := H1.out; omega)
  injection e with e
  injection e with e1 e2
  subst e1; subst e2
  exact ⟨0, rfl, (hZ2.cell (p := ⟨b, off + j, none⟩) hb').trans hx'⟩
 clear x0 x1 xk xp S0
 by_cases c1 : z < 1
 ·have HV2 : Hid (fitS ks ps k = false) := by show _ = _; rw [HV.out]; simp [c1]
  clear HV
  go_wp2
  go_ret
  exact ⟨ret_bool HV2.out.symm, below_then HZ.out hZ2 HZ.out.size⟩
 by_cases c2 : 4 < z
 ·have HV2 : Hid (fitS ks ps k = false) := by show _ = _; rw [HV.out]; simp [c2]
  clear HV
  go_wp2
  go_ret
  exact ⟨ret_bool HV2.out.symm, below_then HZ.out hZ2 HZ.out.size⟩
 by_cases c3 : p < -1
 ·have HV2 : Hid (fitS ks ps k = false) := by show _ = _; rw [HV.out]; simp [c3]
  clear HV
  go_wp2
  go_ret
  exact ⟨ret_bool HV2.out.symm, below_then HZ.out hZ2 HZ.out.size⟩
 by_cases c4 : (k : Int) ≤ p
 ·have HV2 : Hid (fitS ks ps k = false) := by show _ = _; rw [HV.out]; simp [c4]
  clear HV
  go_wp2
  go_ret
  exact ⟨ret_bool HV2.out.symm, below_then HZ.out hZ2 HZ.out.size⟩
 have HV2 : Hid (fitS ks ps k = if hl ks k then decide (p < 0) || hl ks p.toNat else decide (0 ≤ p) && ks.getD p.toNat 0 == 1) := by
  show _ = _
  rw [HV.out]
  have e1 : decide (z < 1) = false := by simpa using c1
  have e2 : decide (4 < z) = false := by simpa using c2
  have e3 : decide (p < -1) = false := by simpa using c3
  have e4 : decide ((k : Int) ≤ p) = false := by simpa using c4
  rw [e1, e2, e3, e4]; rfl
 clear HV
 have HH := Lib.hid (HO.out w1 hZ2 k hk)
 generalize hl ks k = t at *
 go_upto_region 4 with (fail)
 cases t
 ·by_cases c5 : p < 0
  ·have HV3 : Hid (fitS ks ps k = false) := by
    show _ = _
    rw [HV2.out]
    have : decide (0 ≤ p) = false := by simp; omega
    simp [this]
   clear HV2
   go_wp2_with (go_at_call 87; refine HH.out.mono ?_; rintro e w2 ⟨rfl, hb2⟩)
   go_ret
   exact ⟨ret_bool HV3.out.symm, below_then HZ.out (below_then hZ2 hb2 hZ2.size) HZ.out.size⟩
  ·obtain ⟨q, rfl⟩ : ∃ q : Nat, p = q := ⟨p.toNat, by omega⟩
   have hq : q < n := by omega
   have HV3 : Hid (fitS ks ps k = (ks.getD q 0 == 1)) := by
    show _ = _
    rw [HV2.out]
    simp
   have hqi : (q : Int) < n := by omega
   obtain ⟨_, _, xq⟩ := HC.out q hq
   clear HV2 HC
   generalize ks.getD q 0 = y at *
   go_upto_region 5 with (go_at_call 87; refine HH.out.mono ?_; rintro e w2 ⟨rfl, hb2⟩)
   have y0 := (hb2.cell (p := ⟨w.heap.size, 0, none⟩) (Nat.lt_of_lt_of_le hlt hZ2.size)).trans z0
   have y1 := (hb2.cell (p := ⟨w.heap.size, 1, none⟩) (Nat.lt_of_lt_of_le hlt hZ2.size)).trans z1
   have yq := (hb2.cell (p := ⟨b, off + q, none⟩) (Nat.lt_of_lt_of_le hbw hZ2.size)).trans xq
   go_wp2
   go_ret
   exact ⟨ret_bool HV3.out.symm, below_then HZ.out (below_then hZ2 hb2 hZ2.size) HZ.out.size⟩
 ·by_cases c5 : p < 0
  ·have HV3 : Hid (fitS ks ps k = true) := by
    show _ = _
    rw [HV2.out]
    simp [c5]
   clear HV2
   go_wp2_with (go_at_call 87; refine HH.out.mono ?_; rintro e w2 ⟨rfl, hb2⟩)
   go_ret
   exact ⟨ret_bool HV3.out.symm, below_then HZ.out (below_then hZ2 hb2 hZ2.size) HZ.out.size⟩
  ·obtain ⟨q, rfl⟩ : ∃ q : Nat, p = q := ⟨p.toNat, by omega⟩
   have hq : q < n := by omega
   have HV3 : Hid (fitS ks ps k = hl ks q) := by
    show _ = _
    rw [HV2.out]
    have : decide ((q : Int) < 0) = false := by simp
    rw [this]; rfl
   clear HV2 HC
   have HQ := Lib.hid (fun W hW => HO.out W hW q hq)
   clear HO
   generalize hl ks q = y at *
   go_upto_region 6 with (go_at_call 87; refine HH.out.mono ?_; rintro e w2 ⟨rfl, hb2⟩)
   have h2 := below_then hZ2 hb2 hZ2.size
   have y0 := (hb2.cell (p := ⟨w.heap.size, 0, none⟩) (Nat.lt_of_lt_of_le hlt hZ2.size)).trans z0
   have y1 := (hb2.cell (p := ⟨w.heap.size, 1, none⟩) (Nat.lt_of_lt_of_le hlt hZ2.size)).trans z1
   go_wp2_with (go_at_call 87; refine (HQ.out _ h2).mono ?_; rintro e w3 ⟨rfl, hb3⟩)
   go_ret
   exact ⟨ret_bool HV3.out.symm, below_then HZ.out (below_then h2 hb3 h2.size) HZ.out.size⟩
theorem valB_def (ks ps : List Int) : valB ks ps = (ks.length == ps.length && decide (1 ≤ ks.length) && decide (ks.length ≤ 24) && (List.range ks.length).all (fitS ks ps) && (List.range (ks.length + 1)).all fun i => iniB ks ps ((i : Int) - 1)) := rfl
set_option maxHeartbeats 2000000 in
theorem Valid_any (h : IntsAt w (.slice A n c) ks ∧ IntsAt w (.slice B m d) ps) (hn : n = ks.length) (hm : m = ps.length) (hn2 : n ≤ 100) (hm2 : m ≤ 100) :
  Calls Tryz.prog 102 #[.agg #[.slice A n c, .slice B m d]] w fun e w' => e = .returned (.bool (valB ks ps)) ∧ Below w.heap.size w w' := by
 have x0 := box_0 w 27 (.slice A n c) (.slice B m d)
 have x1 := box_1 w 27 (.slice A n c) (.slice B m d)
 have hz := box_b w (.cells #[.slice A n c, .slice B m d] 27)
 have hlt : w.heap.size < (w.alloc (.cells #[.slice A n c, .slice B m d] 27)).heap.size := by simp
 have S0 := Lib.hid (shp_below h hz)
 have HZ := Lib.hid hz
 have H1 := Lib.hid hn
 have H2 := Lib.hid hm
 have HV := Lib.hid (valB_def ks ps)
 rw [← hn, ← hm] at HV
 clear h hz hn hm
 by_cases hnm : n = m
 ·subst hnm
  have HN : Hid (szN ks ps = n) := by show _ = _; unfold szN; have := H1.out; have := H2.out; omega
  by_cases h1 : 1 ≤ n
  ·by_cases h24 : n ≤ 24
   ·have HV2 : Hid (valB ks ps = ((List.range n).all (fitS ks ps) && (List.range (n + 1)).all fun i => iniB ks ps ((i : Int) - 1))) := by
     show _ = _
     rw [HV.out]
     have e1 : decide (1 ≤ n) = true := by simpa using h1
     have e2 : decide (n ≤ 24) = true := by simpa using h24
     rw [e1, e2]; simp
    clear HV
    go_enter Tryz.func102, Tryz.ntmps102
    go_upto_region 4 with (fail)
    generalize w.alloc (.cells #[.slice A n c, .slice B n d] 27) = w0 at *
    have FT := Lib.hid (fun W (hW : Below w0.heap.size w0 W) k hk => fits_any ks ps A B n c n d W k (shp_below S0.out hW) H1.out H2.out h24 hk hk)
    have KD : Hid (∀ W, Below w0.heap.size w0 W → ∀ a, Calls Tryz.prog 131 #[.agg #[.slice A n c, .slice B n d], .int .i64 a] W (KidsTo (kidsTo ps a n) W)) := fun W hW a => by
     have := Kids_any ks ps A B n c n d W a (shp_below S0.out hW) H1.out H2.out hn2 hm2
     rwa [HN.out] at this
    have IN : Hid (∀ W, Below w0.heap.size w0 W → ∀ a, Calls Tryz.prog 114 #[.agg #[.slice A n c, .slice B n d], .int .i64 a] W fun e w' => e = .returned (.int .i64 (iniTo ks ps a n)) ∧ Below W.heap.size W w') := fun W hW a => by
     have := Initial_any ks ps A B n c n d W a (shp_below S0.out hW) H1.out H2.out hn2 hm2
     rwa [HN.out] at this
    clear S0
    go_upto_region 5 with (fail)
    go_loopw [23] (fun i wr => ∃ k : Nat, k ≤ n ∧ i = .int .i64 k ∧ Hid (Below w0.heap.size w0 wr) ∧ Hid (∀ j, j < k → fitS ks ps j = true)) (fun i _ => n - (intOf i).toNat)
    case atStart => exact ⟨0, Nat.zero_le _, rfl, Below.refl _ _, fun j hj => by omega⟩
    case round =>
     obtain ⟨k, hk, rfl, HB, HI⟩ := hrel
     have z0 := (HB.out.cell (p := ⟨w.heap.size, 0, none⟩) hlt).trans x0
     have z1 := (HB.out.cell (p := ⟨w.heap.size, 1, none⟩) hlt).trans x1
     by_cases hlk : k < n
     ·have HF := Lib.hid (FT.out wr HB.out k hlk)
      have HX : Hid (fitS ks ps k = true → ∀ j, j < k + 1 → fitS ks ps j = true) := fun hh j hj => by
       by_cases e : j = k
       ·subst e; exact hh
       ·exact HI.out j (by omega)
      have HY : Hid (fitS ks ps k = false → valB ks ps = false) := fun hh => by
       rw [HV2.out]
       have : (List.range n).all (fitS ks ps) = false := by
        rw [List.all_eq_false]
        exact ⟨k, List.mem_range.2 hlk, by simp [hh]⟩
       rw [this]; rfl
      clear HI FT KD IN
      generalize fitS ks ps k = b1 at *
      cases b1
      ·have HY2 := Lib.hid (HY.out rfl)
       clear HX HY
       go_wp2_with (go_at_call 130; refine HF.out.mono ?_; rintro e w5 ⟨rfl, hb5⟩)
       go_ret
       exact ⟨ret_bool HY2.out.symm, below_then HZ.out (below_then HB.out hb5 HB.out.size) HZ.out.size⟩
      ·have HX2 := Lib.hid (HX.out rfl)
       clear HX HY
       go_wp2_with (go_at_call 130; refine HF.out.mono ?_; rintro e w5 ⟨rfl, hb5⟩)
       go_roundw
       case rel => exact ⟨k + 1, by omega, by go_num, below_then HB.out hb5 HB.out.size, HX2⟩
       case measure => simp [intOf]; omega
     ·have HE : Hid (valB ks ps = (List.range (n + 1)).all fun i => iniB ks ps ((i : Int) - 1)) := by
       show _ = _
       have : (List.range n).all (fitS ks ps) = true := by
        rw [List.all_eq_true]
        intro j hj
        exact HI.out j (by have := List.mem_range.1 hj; omega)
       rw [HV2.out, this]; rfl
      clear HI FT HV2
      obtain ⟨w2, rfl⟩ : ∃ w2 : World, w2 = wr := ⟨_, rfl⟩
      go_wp2
      go_loopw [5] (fun i wr => ∃ k : Nat, k ≤ n + 1 ∧ i = .int .i64 ((k : Int) - 1) ∧ Hid (Below w0.heap.size w0 wr) ∧ Hid (∀ j : Nat, j < k → iniB ks ps ((j : Int) - 1) = true)) (fun i _ => ((n : Int) - intOf i).toNat)
      case atStart => exact ⟨0, Nat.zero_le _, rfl, HB, fun j hj => by omega⟩
      case round =>
       obtain ⟨i, hi, rfl, HB2, HI⟩ := hrel
       have y0 := (HB2.out.cell (p := ⟨w.heap.size, 0, none⟩) hlt).trans x0
       have y1 := (HB2.out.cell (p := ⟨w.heap.size, 1, none⟩) hlt).trans x1
       by_cases hli : i < n + 1
       ·have HX : Hid (iniB ks ps ((i : Int) - 1) = true → ∀ j : Nat, j < i + 1 → iniB ks ps ((j : Int) - 1) = true) := fun hh j hj => by
         by_cases e : j = i
         ·subst e; exact hh
         ·exact HI.out j (by omega)
        have HY : Hid (iniB ks ps ((i : Int) - 1) = false → valB ks ps = false) := fun hh => by
         rw [HE.out, List.all_eq_false]
         exact ⟨i, List.mem_range.2 hli, by simp [hh]⟩
        have HD : Hid (iniB ks ps ((i : Int) - 1) = !(decide (0 < (kidsTo ps ((i : Int) - 1) n).length) && decide (iniTo ks ps ((i : Int) - 1) n < 0))) := by show _ = _; unfold iniB; rw [HN.out]
        have K1 := Lib.hid (KD.out wr HB2.out ((i : Int) - 1))
        have I1 := Lib.hid (fun W hW => IN.out W hW ((i : Int) - 1))
        have hln := kidsTo_len ps ((i : Int) - 1) n
        clear HI KD IN
        generalize ha : (i : Int) - 1 = a at *
        have hai : a < (n : Int) := by omega
        have HA := Lib.hid ha
        clear ha
        generalize iniTo ks ps a n = r at *
        have hll : ((kidsTo ps a n).map fun k : Nat => (k : Int)).length = (kidsTo ps a n).length := List.length_map ..
        have hw24 : IntKind.i64.wrap (a + 1) = a + 1 := by rw [IntKind.wrap_i64]; have := HA.out; omega
        by_cases hz0 : (kidsTo ps a n).length = 0
        ·have HX2 := Lib.hid (HX.out (by rw [HD.out, hz0]; rfl))
         rw [hz0] at hll
         have HLL := Lib.hid hll
         clear HX HY HD hz0 hll hln I1
         go_wp2_with (go_at_call 131; refine K1.out.mono ?_; rintro e w5 ⟨v, rfl, ho, hb5⟩; obtain ⟨A5, c5, rfl⟩ := own_slice ho; rw [HLL.out])
         go_roundw
         case rel => exact ⟨i + 1, by omega, by have := HA.out; go_num, below_then HB2.out hb5 HB2.out.size, HX2⟩
         case measure => show ((n : Int) - (a + 1)).toNat < ((n : Int) - a).toNat; omega
        ·have hpos : (0 : Int) < (kidsTo ps a n).length := by omega
         have hpn : 0 < (kidsTo ps a n).length := by omega
         have HD2 : Hid (iniB ks ps a = !decide (r < 0)) := by
          show _ = _
          rw [HD.out, decide_eq_true hpn]; rfl
         have HLL := Lib.hid hll
         clear HD hz0 hll
         generalize (kidsTo ps a n).length = l at *
         by_cases hr : r < 0
         ·have HY2 := Lib.hid (HY.out (by rw [HD2.out, decide_eq_true hr]; rfl))
          clear HX HY HD2
          go_wp2_with (first
           | (go_at_call 131; refine K1.out.mono ?_; rintro e w5 ⟨v, rfl, ho, hb5⟩; obtain ⟨A5, c5, rfl⟩ := own_slice ho; rw [HLL.out]; have h5 := below_then HB2.out hb5 HB2.out.size; have t0 := (h5.cell (p := ⟨w.heap.size, 0, none⟩) hlt).trans x0; have t1 := (h5.cell (p := ⟨w.heap.size, 1, none⟩) hlt).trans x1)
           | (go_at_call 114; refine (I1.out _ h5).mono ?_; rintro e w6 ⟨rfl, hb6⟩))
          go_ret
          exact ⟨ret_bool HY2.out.symm, below_then HZ.out (below_then h5 hb6 h5.size) HZ.out.size⟩
         ·have HX2 := Lib.hid (HX.out (by rw [HD2.out, decide_eq_false hr]; rfl))
          clear HX HY HD2
          go_wp2_with (first
           | (go_at_call 131; refine K1.out.mono ?_; rintro e w5 ⟨v, rfl, ho, hb5⟩; obtain ⟨A5, c5, rfl⟩ := own_slice ho; rw [HLL.out]; have h5 := below_then HB2.out hb5 HB2.out.size; have t0 := (h5.cell (p := ⟨w.heap.size, 0, none⟩) hlt).trans x0; have t1 := (h5.cell (p := ⟨w.heap.size, 1, none⟩) hlt).trans x1)
           | (go_at_call 114; refine (I1.out _ h5).mono ?_; rintro e w6 ⟨rfl, hb6⟩))
          go_roundw
          case rel => exact ⟨i + 1, by omega, by have := HA.out; go_num, below_then h5 hb6 h5.size, HX2⟩
          case measure => show ((n : Int) - (a + 1)).toNat < ((n : Int) - a).toNat; omega
       ·have HE2 : Hid (valB ks ps = true) := by
         show _ = _
         rw [HE.out, List.all_eq_true]
         intro j hj
         exact HI.out j (by have := List.mem_range.1 hj; omega)
        clear HI
        have hge : decide ((i : Int) - 1 < n) = false := by simp; omega
        go_wp2
        go_ret
        exact ⟨ret_bool HE2.out.symm, below_then HZ.out HB2.out HZ.out.size⟩
   ·have HV2 : Hid (valB ks ps = false) := by
     show _ = _
     rw [HV.out]
     have e2 : decide (n ≤ 24) = false := by simpa using h24
     rw [e2]; simp
    clear HV
    go_enter Tryz.func102, Tryz.ntmps102
    go_wp2
    go_ret
    exact ⟨ret_bool HV2.out.symm, HZ.out⟩
  ·have HV2 : Hid (valB ks ps = false) := by
    show _ = _
    rw [HV.out]
    have e2 : decide (1 ≤ n) = false := by simpa using h1
    rw [e2]; simp
   clear HV
   go_enter Tryz.func102, Tryz.ntmps102
   go_wp2
   go_ret
   exact ⟨ret_bool HV2.out.symm, HZ.out⟩
 ·have HV2 : Hid (valB ks ps = false) := by
   show _ = _
   rw [HV.out]
   have e2 : (n == m) = false := by simpa using hnm
   rw [e2]; rfl
  clear HV
  have hnm' : ((n : Int) != m) = true := by simp; omega
  go_enter Tryz.func102, Tryz.ntmps102
  go_wp2
  go_ret
  exact ⟨ret_bool HV2.out.symm, HZ.out⟩
end
theorem stays_any (k : Int) (w : World) : Calls Tryz.prog 140 #[.int .i64 k] w fun e w' => e = .returned (.bool (stayB k)) ∧ w = w' := by
 by_cases h1 : k = 1
 ·subst h1
  go_enter Tryz.func140, Tryz.ntmps140
  go_wp2
  go_ret
  exact ⟨rfl, rfl⟩
 ·have g1 : (k == 1) = false := beq_eq_false_iff_ne.2 h1
  have HE : Hid (stayB k = (k == 2)) := by show _ = _; unfold stayB; rw [g1]; rfl
  clear h1
  go_enter Tryz.func140, Tryz.ntmps140
  go_wp2
  go_ret
  exact ⟨ret_bool HE.out.symm, rfl⟩
def RI2 (w : World) (A : Option Addr) (acc : List RL) : Prop := ∀ j (h : j < acc.length), ∃ g, A = some ⟨g, 0, none⟩ ∧ g < w.heap.size ∧ (∀ f u, f < 11 → (rcell acc[j])[f]? = some u → w.cell? ⟨g, j * 11 + f, none⟩ = some u) ∧ ∃ B n c, acc[j].2.2 = .slice B n c
theorem RI2.below {w w' : World} {A : Option Addr} {acc : List RL} (h : RI2 w A acc) (hb : Below w.heap.size w w') : RI2 w' A acc := fun j hj =>
 let ⟨g, e, hl, hc, q⟩ := h j hj
 ⟨g, e, Nat.lt_of_lt_of_le hl hb.size, fun f u hf hu => (hb.cell (p := ⟨g, j * 11 + f, none⟩) hl).trans (hc f u hf hu), q⟩
def okI (l : List Int) : Prop := ∀ x ∈ l, (Lit.int .i64 x).wf = true
theorem icells_length (l : List Int) : (icells l).length = l.length := List.length_map ..
theorem icells_at (l : List Int) (j : Nat) (h : j < l.length) : (icells l)[j]? = some (.int .i64 l[j]) := by simp [icells, h]
theorem icells_one (l : List Int) : ∀ u ∈ icells l, u.oneCell' = true := by
 intro u hu
 simp only [icells, List.mem_map] at hu
 obtain ⟨p, _, rfl⟩ := hu
 rfl
theorem ints_of_own {w : World} {base c : Nat} {A : Option Addr} {l : List Int} (h : OwnI w base (.slice A l.length c) l) (ho : okI l) (hl : l.length ≤ 1000) : IntsAt w (.slice A l.length c) l := by
 refine ⟨A, c, rfl, by unfold maxLen; omega, fun k hk => ?_⟩
 obtain ⟨g, cap', e, _, hg, _, hc⟩ := own_form h (by omega)
 have eA : A = some ⟨g, 0, none⟩ := by injection e
 exact ⟨g, 0, eA, hg, by rw [Nat.zero_add]; exact hc _ _ (icells_at l k hk), ho _ (List.getElem_mem hk)⟩
def CopyITo (l : List Int) (w : World) (e : Ending) (w' : World) : Prop := ∃ v, e = .returned v ∧ OwnI w' w.heap.size v l ∧ Below w.heap.size w w'
set_option maxHeartbeats 2000000 in
theorem CopyI_any (l : List Int) (A : Option Addr) (cap : Nat) (w : World) (h : IntsAt w (.slice A l.length cap) l) (ha : l.length ≤ 1000) :
  Calls Tryz.prog 35 #[.slice A l.length cap] w (CopyITo l w) := by
 obtain ⟨i0, hi, hz0, hz1, hz2⟩ := info_parts Tryz.infoInt
 cases A with
 | none =>
  have e0 : l = [] := by
   cases l with
   | nil => rfl
   | cons x r =>
    obtain ⟨A', c', e, _, hc⟩ := h
    obtain ⟨b, off, e2, _⟩ := hc 0 (by simp)
    injection e with e1
    rw [← e1] at e2
    cases e2
  subst e0
  clear h
  go_enter Tryz.func35, Tryz.ntmps35
  go_wp2
  go_ret
  exact ⟨_, rfl, World.ownsRow_nil _ _ _ _, Below.refl _ _⟩
 | some a =>
  have HC : Hid (∀ j u, (icells l)[j]? = some u → w.cell? (a.add j) = some u) := fun j u hu => by
   have hj : j < l.length := by
    have := (List.getElem?_eq_some_iff.1 hu).1
    rwa [icells_length] at this
   obtain ⟨A', c', e, _, hc⟩ := h
   obtain ⟨b, off, e2, _, hx, _⟩ := hc j hj
   injection e with e1
   rw [← e1] at e2
   injection e2 with e2
   subst e2
   rw [icells_at l j hj] at hu
   rw [Go.WideShapes.add_plain, hx]; exact hu
  have HO := Lib.hid (icells_one l)
  have HL := Lib.hid (icells_length l)
  have HE : Hid (∀ v W, W.ownsRow w.heap.size 3 1 v l.length (icells l) → OwnI W w.heap.size v l) := fun v W h => h
  clear h
  generalize icells l = xs at *
  go_enter Tryz.func35, Tryz.ntmps35
  go_wp2_with (at_builtin; go_must (refine wpList_append_own _ rfl (.const (.slice none 0 0)) (.tmp 3) 22 rfl w.heap.size 3 i0 _ 1 8 Tryz.underlying22 hi hz0 hz1 hz2 rfl (by decide) (.slice none 0 0) 0 [] rfl (World.ownsRow_nil _ _ _ _) a l.length cap xs rfl (by have := HL.out; omega) HC.out HO.out (by unfold maxLen; omega) (by omega) (by simp) ?_); intro v' w4 hown' hg' _)
  have hg2 : w.grownBy w4 none := hg'
  go_ret
  refine ⟨v', rfl, HE.out _ _ (by simpa using hown'), hg2.os, hg2.tape, hg2.output, hg2.size, fun j hj => hg2.block j hj (by simp)⟩
def tcell (t : Tr) : List Value := [.int .i64 t.kind, .int .i64 t.from_, .int .i64 t.to_, .string (bs t.event), .string (bs t.perm), .string (bs t.task), .int .i64 t.time]
def tcells (l : List Tr) : List Value := l.flatMap tcell
theorem tcells_snoc (l : List Tr) (t : Tr) : tcells (l ++ [t]) = tcells l ++ tcell t := by simp [tcells]
def OwnT (w : World) (base : Nat) (v : Value) (l : List Tr) : Prop := w.ownsRow base 52 7 v l.length (tcells l)
theorem own_row_ne {w : World} {base e s n b : Nat} {v : Value} {xs : List Value} {cs : Array Value} {t : TypeId} {fz : Nat × Nat} (h : w.ownsRow base e s v n xs) (r : w.heap[b]? = some (.cells cs t fz)) (hne : t ≠ e) : v.ownBlock ≠ some b := by
 rcases h.2 with ⟨hv, _⟩ | ⟨g, cap, cur, hv, _, hg, _⟩
 ·rw [hv]; simp [Value.ownBlock]
 ·rw [hv]
  intro e2
  have e3 : g = b := by simpa [Value.ownBlock] using e2
  subst e3
  rw [hg] at r
  simp only [Option.some.injEq, Obj.cells.injEq] at r
  exact hne r.2.1.symm
theorem rows_unlike {w : World} {b1 b2 e1 e2 s1 s2 n1 n2 : Nat} {v1 v2 : Value} {xs1 xs2 : List Value} (h : w.ownsRow b1 e1 s1 v1 n1 xs1) (h' : w.ownsRow b2 e2 s2 v2 n2 xs2) (hne : e1 ≠ e2) : v1.ownBlock = none ∨ v1.ownBlock ≠ v2.ownBlock := by
 rcases h'.2 with ⟨hv', _⟩ | ⟨g', cap', cur', hv', _, hg', _⟩
 ·rcases h.2 with ⟨hv, _⟩ | ⟨g, cap, cur, hv, _, hg, _⟩
  ·left; rw [hv]; rfl
  ·right; rw [hv, hv']; simp [Value.ownBlock]
 ·right
  rw [hv']
  exact own_row_ne h hg' (fun e => hne e.symm)
section
variable {w0 W W1 : World} {b : Nat} {acc : List RL} {c : Ch} {vN vK vP vT vS : Value}
theorem keep2 {base e s n : Nat} {v : Value} {xs : List Value} {row : Option Nat} {cs : Array Value} {t : TypeId} {fz : Nat × Nat} (h : W.ownsRow base e s v n xs) (hg : W.grownBy W1 row) (hu : v.ownBlock = none ∨ v.ownBlock ≠ row) (r1 : W1.heap[b]? = some (.cells cs t fz)) (hne : t ≠ e) (j : Nat) (x : Value) :
  (W1.setCell ⟨b, j, none⟩ x).ownsRow base e s v n xs :=
 World.ownsRow.kept (World.ownsRow.kept h hg hu) (grown_setCell _ _ _ _) (.inr (own_row_ne (World.ownsRow.kept h hg hu) r1 hne))
theorem put2 {base e s n : Nat} {v : Value} {xs : List Value} {cs : Array Value} {t : TypeId} {fz : Nat × Nat} (h : W1.ownsRow base e s v n xs) (r1 : W1.heap[b]? = some (.cells cs t fz)) (hne : t ≠ e) (j : Nat) (x : Value) :
  (W1.setCell ⟨b, j, none⟩ x).ownsRow base e s v n xs := World.ownsRow.kept h (grown_setCell _ _ _ _) (.inr (own_row_ne h r1 hne))
theorem ap_cases {o1 o2 : Option Nat} (h : ∀ g, o1 = some g → o2 = some g → False) : o1 = none ∨ o1 ≠ o2 := by
 cases o1 with
 | none => exact .inl rfl
 | some g => exact .inr fun e => h g rfl e.symm
end
end Go.Proofs.YtaoinedndnleoaaGreat
