import Derived.Test.YtaoinedndnleoaaGreatEn3
import Derived.Deep.RegionHeld3
namespace Go.Proofs.YtaoinedndnleoaaGreat
set_option maxRecDepth 100000
open Go.ChangeShapes Go.WideShapes Go.ChangeAt Go.RowKit
theorem nodup_len : ∀ (n : Nat) (l : List Nat), l.Nodup → (∀ k ∈ l, k < n) → l.length ≤ n
 | 0, l, _, h => by
  cases l with
  | nil => exact Nat.le_refl _
  | cons a r => have := h a List.mem_cons_self; omega
 | n + 1, l, hn, h => by
  by_cases hm : n ∈ l
  ·have := nodup_len n (l.erase n) (hn.erase n) fun k hk => by
    have h1 := (List.Nodup.mem_erase_iff hn).1 hk
    have := h k h1.2
    have := h1.1
    omega
   rw [List.length_erase_of_mem hm] at this
   omega
  ·have := nodup_len n l hn fun k hk => by
    have := h k hk
    by_cases e : k = n
    ·subst e; exact absurd hk hm
    ·omega
   omega
theorem flat_lenN {f : Nat → List Nat} {m : Nat} : ∀ {l : List Nat}, (∀ k ∈ l, (f k).length ≤ m) → (l.flatMap f).length ≤ l.length * m
 | [], _ => by simp
 | a :: r, h => by
  rw [List.flatMap_cons, List.length_append, List.length_cons]
  have h1 := h a List.mem_cons_self
  have h2 := flat_lenN (l := r) fun k hk => h k (List.mem_cons_of_mem _ hk)
  rw [Nat.add_mul, Nat.one_mul]
  omega
section
variable {ks ps : List Int} {n : Nat}
theorem inS_len (h : ShF ks ps n) {x : Nat} (hx : x < n) (hh : hl ks x = true) : (inS ks ps n x).length ≤ n := nodup_len n _ (inS_nodup h hx hh) fun _ hk => (inS_und h hx hh hk).1
theorem all_kids (h : ShF ks ps n) {x : Nat} (h2 : ks.getD x 0 = 2) {k : Nat} (hk : k < n) (e : ps.getD k 0 = x) : hl ks k = true := by
 cases hh : hl ks k
 ·obtain ⟨q, e2, h1, _⟩ := h.hi k hk hh
  have : q = x := by omega
  subst this
  omega
 ·rfl
theorem all_open (h : ShF ks ps n) {x : Nat} (h2 : ks.getD x 0 = 2) : kidsTo ps x n = openL ks ps n x := by
 rw [kidsTo_filter]
 unfold openL
 apply List.filter_congr
 intro k hk
 unfold isKid
 by_cases e : ps.getD k 0 = x
 ·rw [all_kids h h2 (List.mem_range.1 hk) e, Bool.and_true]
 ·have : (ps.getD k 0 == (x : Int)) = false := by simpa using e
  rw [this, Bool.false_and]
def otherL (ks ps : List Int) (n at0 : Nat) (but : Int) : List Nat := ((kidsTo ps at0 n).filter fun k : Nat => decide ((k : Int) ≠ but)).flatMap (inS ks ps n)
theorem other_none (h : ShF ks ps n) {x : Nat} (h2 : ks.getD x 0 = 2) : otherL ks ps n x (-1) = (openL ks ps n x).flatMap (inS ks ps n) := by
 unfold otherL
 rw [all_open h h2, List.filter_eq_self.2]
 intro k _
 rw [decide_eq_true_eq]
 omega
theorem other_len (h : ShF ks ps n) (hn : n ≤ 24) {x : Nat} (h2 : ks.getD x 0 = 2) (but : Int) : (otherL ks ps n x but).length ≤ 576 := by
 unfold otherL
 have h1 : ∀ k ∈ (kidsTo ps x n).filter fun k : Nat => decide ((k : Int) ≠ but), (inS ks ps n k).length ≤ 24 := fun k hk => by
  obtain ⟨h3, h4⟩ := mem_kidsTo.1 (List.mem_filter.1 hk).1
  have := inS_len h h3 (all_kids h h2 h3 h4)
  omega
 have h3 := flat_lenN h1
 have h4 := List.length_filter_le (fun k : Nat => decide ((k : Int) ≠ but)) (kidsTo ps x n)
 have h5 := kidsTo_len ps x n
 have h6 : ((kidsTo ps x n).filter fun k : Nat => decide ((k : Int) ≠ but)).length * 24 ≤ 24 * 24 := Nat.mul_le_mul_right 24 (by omega)
 omega
theorem ini_head (a : Int) : iniTo ks ps a n = match (openL ks ps n a).head? with | some k => (k : Int) | none => -1 := by
 unfold iniTo openL
 rw [← head_filter]
 rfl
theorem inS_all (h : ShF ks ps n) {x : Nat} (hx : x < n) (h2 : ks.getD x 0 = 2) : inS ks ps n x = [x] ++ otherL ks ps n x (-1) := by
 rw [inS_eq (fun k hk => (h.pa k hk).2) hx, if_pos h2, other_none h h2]; rfl
theorem inS_plain (h : ShF ks ps n) {x : Nat} (hx : x < n) (h2 : ks.getD x 0 ≠ 2) : (iniTo ks ps x n = -1 ∧ inS ks ps n x = [x]) ∨ ∃ k : Nat, iniTo ks ps x n = k ∧ x < k ∧ k < n ∧ hl ks k = true ∧ inS ks ps n x = [x] ++ inS ks ps n k := by
 rw [inS_eq (fun k hk => (h.pa k hk).2) hx, if_neg h2, ini_head]
 cases e : (openL ks ps n x).head? with
 | none => exact .inl ⟨rfl, rfl⟩
 | some k =>
  have hm : k ∈ openL ks ps n x := List.mem_of_head? e
  have h3 := openL_gt (fun k hk => (h.pa k hk).2) hm
  exact .inr ⟨k, rfl, h3.2, h3.1, (kid_par (mem_openL.1 hm).2).2, rfl⟩
def othP (ks ps : List Int) (n : Nat) (l : List Nat) (but : Int) (j : Nat) : List Nat := ((l.take j).filter fun k : Nat => decide ((k : Int) ≠ but)).flatMap (inS ks ps n)
theorem othP_succ (l : List Nat) (but : Int) {j : Nat} (hj : j < l.length) : othP ks ps n l but (j + 1) = if decide ((l[j] : Int) ≠ but) = true then othP ks ps n l but j ++ inS ks ps n l[j] else othP ks ps n l but j := by
 unfold othP
 rw [List.take_succ_eq_append_getElem hj, List.filter_append, List.filter_cons, List.filter_nil, List.flatMap_append]
 split
 ·rw [List.flatMap_cons, List.flatMap_nil, List.append_nil]
 ·rw [List.flatMap_nil, List.append_nil]
end
section
variable {ks ps : List Int} {A B : Option Addr} {n c d : Nat}
set_option maxHeartbeats 2000000 in
theorem others_any (x : Nat) (but : Int) (v : Value) (rs : List Nat) (w : World) (h : IntsAt w (.slice A n c) ks ∧ IntsAt w (.slice B n d) ps) (hf : ShF ks ps n) (hn : n ≤ 24) (hu : U32sAt w v rs) (hx : x < n) (h2 : ks.getD x 0 = 2)
  (IH : ∀ (k : Nat) (W : World), x < k → k < n → hl ks k = true → IntsAt W (.slice A n c) ks ∧ IntsAt W (.slice B n d) ps → U32sAt W v rs → Calls Tryz.prog 107 #[.agg #[.slice A n c, .slice B n d], .int .i64 k, v] W (KidsTo (inS ks ps n k) W)) :
  Calls Tryz.prog 110 #[.agg #[.slice A n c, .slice B n d], .int .i64 x, .int .i64 but, v] w (KidsTo (otherL ks ps n x but) w) := by
 obtain ⟨A7, c7, rfl⟩ := u32s_form hu
 have x0 := box_0 w 27 (.slice A n c) (.slice B n d)
 have x1 := box_1 w 27 (.slice A n c) (.slice B n d)
 have hz := box_b w (.cells #[.slice A n c, .slice B n d] 27)
 have hlt0 : w.heap.size < (w.alloc (.cells #[.slice A n c, .slice B n d] 27)).heap.size := by simp
 have S1 := Lib.hid (shp_below h hz)
 have HU := Lib.hid (hu.below hz)
 have HZ := Lib.hid hz
 have HF := Lib.hid hf
 have hsz : szN ks ps = n := by unfold szN; rw [hf.kl, hf.pl]; omega
 have HMX : Hid (∀ k ∈ kidsTo ps x n, x < k ∧ k < n ∧ hl ks k = true) := fun k hk => by
  obtain ⟨h3, h4⟩ := mem_kidsTo.1 hk
  exact ⟨hf.lt h3 h4, h3, all_kids hf h2 h3 h4⟩
 have hol : otherL ks ps n x but = othP ks ps n (kidsTo ps x n) but (kidsTo ps x n).length := by unfold otherL othP; rw [List.take_length]
 have hlen := kidsTo_len ps x n
 have IHh := Lib.hid IH
 clear h hz hf hu h2 IH
 go_enter Tryz.func110, Tryz.ntmps110
 go_upto_region 1 with (fail)
 generalize w.alloc (.cells #[.slice A n c, .slice B n d] 27) = w0 at *
 have KD := Lib.hid (fun W (hW : Below w0.heap.size w0 W) => Kids_any ks ps A B n c n d W x (shp_below S1.out hW) HF.out.kl.symm HF.out.pl.symm (by omega) (by omega))
 rw [hsz] at KD
 have CP := Lib.hid (fun k W (hW : Below w0.heap.size w0 W) (h : x < k ∧ k < n ∧ hl ks k = true) => IHh.out k W h.1 h.2.1 h.2.2 (shp_below S1.out hW) (HU.out.below hW))
 have HOL := Lib.hid hol
 clear hsz hol IHh
 generalize kidsTo ps x n = l at *
 have HLS := Lib.hid (fun k (hk : k ∈ l) => inS_len HF.out (HMX.out k hk).2.1 (HMX.out k hk).2.2)
 have HPL : Hid (∀ j, j ≤ l.length → (othP ks ps n l but j).length ≤ 576) := fun j hj => by
  have h3 : (othP ks ps n l but j).length ≤ _ := flat_lenN (m := 24) fun k hk => by
   have := HLS.out k (List.mem_of_mem_take (List.mem_filter.1 hk).1)
   omega
  have h4 := List.length_filter_le (fun k : Nat => decide ((k : Int) ≠ but)) (l.take j)
  rw [List.length_take] at h4
  have h6 : ((l.take j).filter fun k : Nat => decide ((k : Int) ≠ but)).length * 24 ≤ 24 * 24 := Nat.mul_le_mul_right 24 (by omega)
  omega
 go_wp2_with (first
  | (go_at_call 131; refine (KD.out _ (Below.refl _ _)).mono ?_; rintro e w2 ⟨v2, rfl, hO, hb2⟩; obtain ⟨A9, c9, rfl⟩ := own_slice hO; rw [List.length_map]; rw [List.length_map] at hO))
 have I2 := Lib.hid (nat_ints (OwnN.of hO) (fun k hk => by have := (HMX.out k hk).2.1; omega) (by omega))
 have HB2 := Lib.hid hb2
 have hbz2 := hb2.size
 clear hO hb2 KD
 go_loopw [9, 16] (fun u i wr => ∃ j : Nat, j ≤ l.length ∧ i = .int .i64 j ∧ Hid (OwnN wr w2.heap.size u (othP ks ps n l but j)) ∧ Hid (Below w2.heap.size w2 wr)) (fun _ i _ => l.length - (intOf i).toNat)
 case atStart => exact ⟨0, Nat.zero_le _, rfl, OwnN.nil _ _, Below.refl _ _⟩
 case round =>
  obtain ⟨j, hj, rfl, HO, HB⟩ := hrel
  have HBW := Lib.hid (below_then HB2.out HB.out hbz2)
  have hbz := HBW.out.size
  by_cases hlt : j < l.length
  ·have z0 := (HBW.out.cell (p := ⟨w.heap.size, 0, none⟩) hlt0).trans x0
   have z1 := (HBW.out.cell (p := ⟨w.heap.size, 1, none⟩) hlt0).trans x1
   have hji : (j : Int) < l.length := by omega
   obtain ⟨b9, off9, rfl, hb9, hx9⟩ := nat_cell (I2.out.below HB.out) hlt
   have hsn := othP_succ (ks := ks) (ps := ps) (n := n) l but hlt
   have hM := HMX.out _ (List.getElem_mem hlt)
   have HL1 := Lib.hid (HLS.out _ (List.getElem_mem hlt))
   have HL2 := Lib.hid (HPL.out j hj)
   have CK := Lib.hid (CP.out l[j] wr HBW.out hM)
   obtain ⟨A5, c5, rfl⟩ := own_slice HO.out
   clear hM
   generalize l[j] = k at *
   by_cases hkb : (k : Int) = but
   ·have g : ((k : Int) != but) = false := by simp [hkb]
    rw [if_neg (by simpa using hkb)] at hsn
    have HNw : Hid (OwnN wr w2.heap.size (.slice A5 (othP ks ps n l but j).length c5) (othP ks ps n l but (j + 1))) := by show OwnN _ _ _ _; rw [hsn]; exact HO.out
    clear hsn
    go_wp2
    go_roundw
    case rel => exact ⟨j + 1, by omega, by go_num, HNw, HB⟩
    case measure => simp [intOf]; omega
   ·have g : ((k : Int) != but) = true := by simpa using hkb
    rw [if_pos (by simpa using hkb)] at hsn
    have HS := Lib.hid hsn
    clear hsn
    go_wp2_with (first
     | (go_at_call 107; refine CK.out.mono ?_; rintro e w3 ⟨v3, rfl, hO3, hb3⟩; have HO3 := Lib.hid (own_below HO.out hb3 HB.out.size); have HB3 := Lib.hid (below_then HB.out hb3 HB.out.size); have HBW3 := Lib.hid (below_then HBW.out hb3 hbz); have hbz3 := HBW3.out.size; clear hb3)
     | (at_builtin; go_must (refine wpList_append_nn rfl (.tmp 23) (.tmp 27) rfl rfl HO3.out rfl (OwnN.of hO3) (by have := HL1.out; have := HL2.out; omega) HB3.out.size ?_; intro v' w4 hown' hg')))
    have HNw : Hid (OwnN w4 w2.heap.size v' (othP ks ps n l but (j + 1))) := by show OwnN _ _ _ _; rw [HS.out]; exact hown'
    have HB4 := Lib.hid (HB3.out.grown hg' (HB3.out.size) (fun q e => (HO3.out.lt q e).1))
    clear hown' hg'
    go_roundw
    case rel => exact ⟨j + 1, by omega, by go_num, HNw, HB4⟩
    case measure => simp [intOf]; omega
  ·have e : j = l.length := by omega
   subst e
   go_wp2
   go_ret
   exact kidsTo_mk HOL.out.symm (OwnN.ints (own_mono2 HO.out (by have := HZ.out.size; omega))) (below_then HZ.out HBW.out HZ.out.size)
set_option maxHeartbeats 4000000 in
theorem complete_any (v : Value) (rs : List Nat) (hf : ShF ks ps n) (hn : n ≤ 24) : ∀ (m x : Nat) (w : World), n - x ≤ m → x < n → hl ks x = true → IntsAt w (.slice A n c) ks ∧ IntsAt w (.slice B n d) ps → U32sAt w v rs →
  Calls Tryz.prog 107 #[.agg #[.slice A n c, .slice B n d], .int .i64 x, v] w (KidsTo (inS ks ps n x) w)
 | 0, x, w, hm, hx, _, _, _ => by omega
 | m + 1, x, w, hm, hx, hh, h, hu => by
  have IHm := complete_any v rs hf hn m
  obtain ⟨A7, c7, rfl⟩ := u32s_form hu
  have x0 := box_0 w 27 (.slice A n c) (.slice B n d)
  have x1 := box_1 w 27 (.slice A n c) (.slice B n d)
  have hz := box_b w (.cells #[.slice A n c, .slice B n d] 27)
  have hlt0 : w.heap.size < (w.alloc (.cells #[.slice A n c, .slice B n d] 27)).heap.size := by simp
  have S1 := Lib.hid (shp_below h hz)
  have HU := Lib.hid (hu.below hz)
  have HZ := Lib.hid hz
  have HF := Lib.hid hf
  have hsz : szN ks ps = n := by unfold szN; rw [hf.kl, hf.pl]; omega
  have hkd := hf.kd x hx
  have hk12 : ks.getD x 0 = 1 ∨ ks.getD x 0 = 2 := by
   unfold hl at hh
   rw [Bool.or_eq_true] at hh
   rcases hh with e | e
   ·exact .inl (by simpa using e)
   ·exact .inr (by simpa using e)
  have hxi : (x : Int) < n := by omega
  obtain ⟨b, off, rfl, hb, hc, _⟩ := ints_cell S1.out.1 (k := x) (by rw [hf.kl]; exact hx)
  rcases hk12 with e1 | e2
  ·have hpl := inS_plain hf hx (by omega)
   have IHh := Lib.hid IHm
   clear h hz hf hu IHm
   rw [e1] at hc
   rcases hpl with ⟨hi, hin⟩ | ⟨k, hi, hk1, hk2, hk3, hin⟩
   ·have HIN := Lib.hid hin
    clear hin
    go_enter Tryz.func107, Tryz.ntmps107
    go_upto_region 1 with (fail)
    generalize w.alloc (.cells #[.slice (some ⟨b, off, none⟩) n c, .slice B n d] 27) = w0 at *
    have IN := Lib.hid (fun W (hW : Below w0.heap.size w0 W) => Initial_any ks ps (some ⟨b, off, none⟩) B n c n d W x (shp_below S1.out hW) HF.out.kl.symm HF.out.pl.symm (by omega) (by omega))
    rw [hsz, hi] at IN
    have HW1 : Hid (∀ o, Below w0.heap.size w0 (w0.alloc o)) := fun o => (Below.refl _ _).alloc (Nat.le_refl _) _
    have y0 : ∀ o, (w0.alloc o).cell? ⟨w.heap.size, 0, none⟩ = some (.slice (some ⟨b, off, none⟩) n c) := fun o => box_x o hlt0 x0
    have y1 : ∀ o, (w0.alloc o).cell? ⟨w.heap.size, 1, none⟩ = some (.slice B n d) := fun o => box_x o hlt0 x1
    go_wp2_with (go_at_call 114; refine (IN.out _ (HW1.out _)).mono ?_; rintro e w2 ⟨rfl, hb2⟩)
    go_ret
    exact kidsTo_mk HIN.out.symm (OwnN.ints (own_below (own_mono2 (one_own w0 w0.heap.size x (Nat.le_refl _)) (by omega)) hb2 (by simp; omega))) (below_then HZ.out (below_then (HW1.out _) hb2 (by simp)) HZ.out.size)
   ·have HIN := Lib.hid hin
    have HLK := Lib.hid (inS_len HF.out hk2 hk3)
    clear hin
    go_enter Tryz.func107, Tryz.ntmps107
    go_upto_region 1 with (fail)
    generalize w.alloc (.cells #[.slice (some ⟨b, off, none⟩) n c, .slice B n d] 27) = w0 at *
    have IN := Lib.hid (fun W (hW : Below w0.heap.size w0 W) => Initial_any ks ps (some ⟨b, off, none⟩) B n c n d W x (shp_below S1.out hW) HF.out.kl.symm HF.out.pl.symm (by omega) (by omega))
    rw [hsz, hi] at IN
    have CK := Lib.hid (fun W (hW : Below w0.heap.size w0 W) => IHh.out k W (by omega) hk2 hk3 (shp_below S1.out hW) (HU.out.below hW))
    have HW1 : Hid (∀ o, Below w0.heap.size w0 (w0.alloc o)) := fun o => (Below.refl _ _).alloc (Nat.le_refl _) _
    have y0 : ∀ o, (w0.alloc o).cell? ⟨w.heap.size, 0, none⟩ = some (.slice (some ⟨b, off, none⟩) n c) := fun o => box_x o hlt0 x0
    have y1 : ∀ o, (w0.alloc o).cell? ⟨w.heap.size, 1, none⟩ = some (.slice B n d) := fun o => box_x o hlt0 x1
    have HO1 := Lib.hid (one_own w0 w0.heap.size x (Nat.le_refl _))
    have hk0 : (0 : Int) ≤ k := by omega
    go_wp2_with (first
     | (go_at_call 114; refine (IN.out _ (HW1.out _)).mono ?_; rintro e w2 ⟨rfl, hb2⟩; have HB2 := Lib.hid (below_then (HW1.out _) hb2 (by simp)); have HO2 := Lib.hid (own_below HO1.out hb2 (by simp)); have y20 := (HB2.out.cell (p := ⟨w.heap.size, 0, none⟩) hlt0).trans x0; have y21 := (HB2.out.cell (p := ⟨w.heap.size, 1, none⟩) hlt0).trans x1; clear hb2)
     | (go_at_call 107; refine (CK.out _ HB2.out).mono ?_; rintro e w3 ⟨v3, rfl, hO3, hb3⟩; have HO3 := Lib.hid (own_below HO2.out hb3 HB2.out.size); have HB3 := Lib.hid (below_then HB2.out hb3 HB2.out.size); clear hb3)
     | (at_builtin; go_must (refine wpList_append_nn rfl (.tmp 53) (.tmp 57) rfl rfl HO3.out rfl (OwnN.of hO3) (by have := HLK.out; simp; omega) HB3.out.size ?_; intro v' w4 hown' hg')))
    go_ret
    have HB4 := HB3.out.grown hg' HB3.out.size (fun q e => (HO3.out.lt q e).1)
    exact kidsTo_mk HIN.out.symm (OwnN.ints (own_mono2 hown' (by omega))) (below_then HZ.out HB4 HZ.out.size)
  ·have HIN := Lib.hid (inS_all hf hx e2)
   have HOL := Lib.hid (other_len hf hn e2 (-1))
   have OT := Lib.hid (fun W hS hU => others_any (A := some ⟨b, off, none⟩) (B := B) (c := c) (d := d) x (-1) _ rs W hS hf hn hU hx e2 fun k W' h1 h2 h3 h4 h5 => IHm k W' (by omega) h2 h3 h4 h5)
   clear h hz hf hu IHm
   rw [e2] at hc
   go_enter Tryz.func107, Tryz.ntmps107
   go_upto_region 1 with (fail)
   generalize w.alloc (.cells #[.slice (some ⟨b, off, none⟩) n c, .slice B n d] 27) = w0 at *
   have HW1 : Hid (∀ o, Below w0.heap.size w0 (w0.alloc o)) := fun o => (Below.refl _ _).alloc (Nat.le_refl _) _
   have y0 : ∀ o, (w0.alloc o).cell? ⟨w.heap.size, 0, none⟩ = some (.slice (some ⟨b, off, none⟩) n c) := fun o => box_x o hlt0 x0
   have y1 : ∀ o, (w0.alloc o).cell? ⟨w.heap.size, 1, none⟩ = some (.slice B n d) := fun o => box_x o hlt0 x1
   have HO1 := Lib.hid (one_own w0 w0.heap.size x (Nat.le_refl _))
   go_wp2_with (first
    | (go_at_call 110; refine (OT.out _ (shp_below S1.out (HW1.out _)) (HU.out.below (HW1.out _))).mono ?_; rintro e w3 ⟨v3, rfl, hO3, hb3⟩; have HO3 := Lib.hid (own_below HO1.out hb3 (by simp)); have HB3 := Lib.hid (below_then (HW1.out _) hb3 (by simp)); clear hb3)
    | (at_builtin; go_must (refine wpList_append_nn rfl (.tmp 40) (.tmp 44) rfl rfl HO3.out rfl (OwnN.of hO3) (by have := HOL.out; simp; omega) HB3.out.size ?_; intro v' w4 hown' hg')))
   go_ret
   have HB4 := HB3.out.grown hg' HB3.out.size (fun q e => (HO3.out.lt q e).1)
   exact kidsTo_mk HIN.out.symm (OwnN.ints (own_mono2 hown' (by omega))) (below_then HZ.out HB4 HZ.out.size)
end
section
variable {ks ps : List Int} {n : Nat}
def pfun (rs : List Nat) (q : Nat) : Nat := rs.getD q 0
theorem kids_past (h : ShF ks ps n) {past : Nat → Nat} (hp : PastOk ks ps n past) {q : Nat} (hq : q < n) (h1 : ks.getD q 0 = 1) {k : Nat} (hk : k < n) (hb : (past q).testBit k = true) : hl ks k = true := by
 rcases hp q hq h1 with hno | ⟨j, hj, hkj, hlc⟩
 ·rw [hno k hk] at hb; cases hb
 ·exact (hlc.un k ⟨hk, hb⟩).2.1
theorem ini_nat (h : ShF ks ps n) {x q : Nat} (hx : x < n) (hh : hl ks x = false) (e : ps.getD x 0 = q) : iniTo ks ps q n = (iniN ks ps n q : Nat) ∧ iniN ks ps n q < n ∧ hl ks (iniN ks ps n q) = true := by
 obtain ⟨q', e', _, _, h1, h2⟩ := hist h hx hh
 have : q' = q := by omega
 subst this
 exact ⟨ini_iniN ⟨_, h1, h2⟩, h1, kid_hl h2⟩
theorem intoH_three (h : ShF ks ps n) {past : Nat → Nat} (hp : PastOk ks ps n past) {x q : Nat} (hx : x < n) (hh : hl ks x = false) (e : ps.getD x 0 = q) (h3 : ks.getD x 0 = 3) :
  ∃ k : Nat, lastL ks ps n (past q) q = k ∧ k < n ∧ hl ks k = true ∧ intoH ks ps n past x = inS ks ps n k := by
 obtain ⟨q', e', hq, h1, _⟩ := hist h hx hh
 have : q' = q := by omega
 subst this
 obtain ⟨i1, i2, i3⟩ := ini_nat h hx hh e
 unfold intoH
 rw [hh, if_neg (by simp), if_pos h3, e, Int.toNat_natCast]
 have hfc : (kidsTo ps q' n).find? (fun k => (past q').testBit k && hl ks k) = (kidsTo ps q' n).find? fun k => (past q').testBit k := find_congr fun k hk => by
  cases hb : (past q').testBit k
  ·rfl
  ·rw [kids_past h hp hq h1 (mem_kidsTo.1 hk).1 hb]; rfl
 unfold lastL
 rw [hfc]
 cases hf : (kidsTo ps q' n).find? fun k => (past q').testBit k with
 | none => exact ⟨_, i1, i2, i3, rfl⟩
 | some k =>
  have hk := mem_kidsTo.1 (List.mem_of_find?_eq_some hf)
  have hb : (past q').testBit k = true := by simpa using List.find?_some hf
  exact ⟨k, rfl, hk.1, kids_past h hp hq h1 hk.1 hb, rfl⟩
def allL (ks ps : List Int) (n s : Nat) (q : Nat) : List Nat := if insL ps s q n = [] then inS ks ps n (iniN ks ps n q) else insL ps s q n
theorem intoH_four (h : ShF ks ps n) (past : Nat → Nat) {x q : Nat} (hh : hl ks x = false) (e : ps.getD x 0 = q) (h3 : ks.getD x 0 ≠ 3) : intoH ks ps n past x = allL ks ps n (past q) q := by
 unfold intoH allL
 rw [hh, if_neg (by simp), if_neg h3, e, Int.toNat_natCast, hist_ins]
end
section
variable {ks ps : List Int} {A B : Option Addr} {n c d : Nat}
set_option maxHeartbeats 4000000 in
theorem allOf_any (q : Nat) (v : Value) (rs : List Nat) (w : World) (h : IntsAt w (.slice A n c) ks ∧ IntsAt w (.slice B n d) ps) (hf : ShF ks ps n) (hn : n ≤ 24) (hu : U32sAt w v rs)
  (hi : iniTo ks ps q n = (iniN ks ps n q : Nat) ∧ iniN ks ps n q < n ∧ hl ks (iniN ks ps n q) = true) :
  Calls Tryz.prog 136 #[.agg #[.slice A n c, .slice B n d], .int .i64 q, v] w (KidsTo (allL ks ps n (rs.getD q 0) q) w) := by
 obtain ⟨A7, c7, rfl⟩ := u32s_form hu
 have x0 := box_0 w 27 (.slice A n c) (.slice B n d)
 have x1 := box_1 w 27 (.slice A n c) (.slice B n d)
 have hz := box_b w (.cells #[.slice A n c, .slice B n d] 27)
 have hlt0 : w.heap.size < (w.alloc (.cells #[.slice A n c, .slice B n d] 27)).heap.size := by simp
 have S1 := Lib.hid (shp_below h hz)
 have HU := Lib.hid (hu.below hz)
 have HZ := Lib.hid hz
 have HF := Lib.hid hf
 have hs32 := u32s_lt hu q
 have hsz : szN ks ps = n := by unfold szN; rw [hf.kl, hf.pl]; omega
 have HAL : Hid (allL ks ps n (rs.getD q 0) q = if insL ps (rs.getD q 0) q n = [] then inS ks ps n (iniN ks ps n q) else insL ps (rs.getD q 0) q n) := rfl
 clear h hz hf hu
 go_enter Tryz.func136, Tryz.ntmps136
 go_upto_region 1 with (fail)
 generalize w.alloc (.cells #[.slice A n c, .slice B n d] 27) = w0 at *
 have TO := Lib.hid (fun W (hW : Below w0.heap.size w0 W) => told_any _ rs q W (HU.out.below hW))
 have ID := Lib.hid (fun W (hW : Below w0.heap.size w0 W) => inside_any (rs.getD q 0) q W (shp_below S1.out hW) HF.out hn hs32)
 have IN := Lib.hid (fun W (hW : Below w0.heap.size w0 W) => Initial_any ks ps A B n c n d W q (shp_below S1.out hW) HF.out.kl.symm HF.out.pl.symm (by omega) (by omega))
 rw [hsz, hi.1] at IN
 have CK := Lib.hid (fun W (hW : Below w0.heap.size w0 W) => complete_any _ rs HF.out hn n (iniN ks ps n q) W (by omega) hi.2.1 hi.2.2 (shp_below S1.out hW) (HU.out.below hW))
 generalize hl9 : insL ps (rs.getD q 0) q n = l at *
 have HL9 := Lib.hid hl9
 clear hl9
 generalize hs0 : rs.getD q 0 = s at *
 have HS0 := Lib.hid hs0
 clear hs0
 go_region_held3 (fun w' => w'.cell? ⟨w.heap.size, 0, none⟩ = some (.slice A n c) ∧ w'.cell? ⟨w.heap.size, 1, none⟩ = some (.slice B n d))
  (first | exact ⟨x0, x1⟩ | exact ⟨x0', x1'⟩ | go_keep)
  (first
    | (go_at_call 148; refine (TO.out _ (by first | exact Below.refl _ _ | exact below_drew (Below.refl _ _))).mono ?_; rintro e w1 ⟨rfl, rfl⟩)
    | (go_at_call 103; refine (ID.out _ (by first | exact Below.refl _ _ | exact below_drew (Below.refl _ _))).mono ?_; rintro e w2 ⟨v2, rfl, hO2, hb2⟩; have hb2' : Below w0.heap.size w0 w2 := (by first | exact hb2 | exact below_then (below_drew (Below.refl _ _)) hb2 (Nat.le_refl _)); have hO2' : OwnN w2 w0.heap.size v2 l := OwnN.of hO2; have x0' := (hb2'.cell (p := ⟨w.heap.size, 0, none⟩) hlt0).trans x0; have x1' := (hb2'.cell (p := ⟨w.heap.size, 1, none⟩) hlt0).trans x1; obtain ⟨A9, c9, rfl⟩ := own_slice hO2'; clear hO2 hb2))
 have HO2 := Lib.hid hO2'
 have HB2 := Lib.hid hb2'
 clear hO2' hb2'
 by_cases he : l = []
 ·subst he
  rw [if_pos rfl] at HAL
  have hz0 : ¬ (0 : Int) < ([] : List Nat).length := by simp
  go_upto_region 4 with (fail)
  go_region_held3 (fun w' => w'.cell? ⟨w.heap.size, 0, none⟩ = some (.slice A n c) ∧ w'.cell? ⟨w.heap.size, 1, none⟩ = some (.slice B n d))
   (first | exact ⟨x0', x1'⟩ | exact ⟨x0'', x1''⟩ | exact ⟨x03, x13⟩ | go_keep)
   (first
     | (go_at_call 114; refine (IN.out _ (by first | exact HB2.out | exact below_drew HB2.out)).mono ?_; rintro e w3 ⟨rfl, hb3⟩; have hb3' : Below w0.heap.size w0 w3 := (by first | exact below_then HB2.out hb3 HB2.out.size | exact below_then (below_drew HB2.out) hb3 HB2.out.size); have x0'' := (hb3'.cell (p := ⟨w.heap.size, 0, none⟩) hlt0).trans x0; have x1'' := (hb3'.cell (p := ⟨w.heap.size, 1, none⟩) hlt0).trans x1)
     | (go_at_call 107; refine (CK.out _ (by first | exact hb3' | exact below_drew hb3')).mono ?_; rintro e w4 ⟨v4, rfl, hO4, hb4⟩; have hb4' : Below w0.heap.size w0 w4 := (by first | exact below_then hb3' hb4 hb3'.size | exact below_then (below_drew hb3') hb4 hb3'.size); have hO4' : OwnI w4 w.heap.size _ _ := own_mono2 hO4 (by have := hb3'.size; have := HZ.out.size; first | omega | (show w.heap.size ≤ w3.heap.size; omega)); have x03 := (hb4'.cell (p := ⟨w.heap.size, 0, none⟩) hlt0).trans x0; have x13 := (hb4'.cell (p := ⟨w.heap.size, 1, none⟩) hlt0).trans x1))
  go_wp2
  go_ret
  exact kidsTo_mk HAL.out.symm hO4' (below_then HZ.out hb4' HZ.out.size)
 ·rw [if_neg he] at HAL
  have hl0 : 0 < l.length := List.length_pos_iff.2 he
  have hz0 : (0 : Int) < l.length := by omega
  go_wp2
  go_ret
  exact kidsTo_mk HAL.out.symm (OwnN.ints (own_mono2 HO2.out (by omega))) (below_then HZ.out HB2.out HZ.out.size)
set_option maxHeartbeats 4000000 in
theorem completeH_any (v : Value) (rs : List Nat) (hf : ShF ks ps n) (hn : n ≤ 24) (hp : PastOk ks ps n (pfun rs)) (x : Nat) (w : World) (hx : x < n) (h : IntsAt w (.slice A n c) ks ∧ IntsAt w (.slice B n d) ps) (hu : U32sAt w v rs) :
  Calls Tryz.prog 107 #[.agg #[.slice A n c, .slice B n d], .int .i64 x, v] w (KidsTo (intoH ks ps n (pfun rs) x) w) := by
 cases hh : hl ks x
 ·obtain ⟨A7, c7, rfl⟩ := u32s_form hu
  have x0 := box_0 w 27 (.slice A n c) (.slice B n d)
  have x1 := box_1 w 27 (.slice A n c) (.slice B n d)
  have hz := box_b w (.cells #[.slice A n c, .slice B n d] 27)
  have hlt0 : w.heap.size < (w.alloc (.cells #[.slice A n c, .slice B n d] 27)).heap.size := by simp
  have S1 := Lib.hid (shp_below h hz)
  have HU := Lib.hid (hu.below hz)
  have HZ := Lib.hid hz
  have HF := Lib.hid hf
  obtain ⟨q, eq, h1, _⟩ := hf.hi x hx hh
  have hqx := hf.lt hx eq
  have hxi : (x : Int) < n := by omega
  obtain ⟨b, off, rfl, hb, hc, _⟩ := ints_cell S1.out.1 (k := x) (by rw [hf.kl]; exact hx)
  obtain ⟨b2, off2, rfl, hb2, hc2, _⟩ := ints_cell S1.out.2 (k := x) (by rw [hf.pl]; exact hx)
  rw [eq] at hc2
  by_cases h3 : ks.getD x 0 = 3
  ·obtain ⟨k, hk1, hk2, hk3, hin⟩ := intoH_three hf hp hx hh eq h3
   have hk1' : lastL ks ps n (rs.getD q 0) q = k := hk1
   have HIN := Lib.hid hin
   rw [h3] at hc
   clear h hz hf hu hin hk1 hp eq
   go_enter Tryz.func107, Tryz.ntmps107
   go_upto_region 1 with (fail)
   generalize w.alloc (.cells #[.slice (some ⟨b, off, none⟩) n c, .slice (some ⟨b2, off2, none⟩) n d] 27) = w0 at *
   have LA := Lib.hid (fun W (hW : Below w0.heap.size w0 W) => last_any q _ rs W (shp_below S1.out hW) HF.out hn (HU.out.below hW))
   rw [hk1'] at LA
   have CK := Lib.hid (fun W (hW : Below w0.heap.size w0 W) => complete_any _ rs HF.out hn n k W (by omega) hk2 hk3 (shp_below S1.out hW) (HU.out.below hW))
   clear hk1'
   go_upto_region 3 with (fail)
   go_region_held3 (fun w' => w'.cell? ⟨w.heap.size, 0, none⟩ = some (.slice (some ⟨b, off, none⟩) n c) ∧ w'.cell? ⟨w.heap.size, 1, none⟩ = some (.slice (some ⟨b2, off2, none⟩) n d) ∧ w'.cell? ⟨b2, off2 + x, none⟩ = some (.int .i64 q))
    (first | exact ⟨x0, x1, hc2⟩ | exact ⟨x0', x1', x2'⟩ | exact ⟨x03, x13, x23⟩ | go_keep)
    (first
      | (go_at_call 135; refine (LA.out _ (by first | exact Below.refl _ _ | exact below_drew (Below.refl _ _))).mono ?_; rintro e w3 ⟨rfl, hb3⟩; have hb3' : Below w0.heap.size w0 w3 := (by first | exact hb3 | exact below_then (below_drew (Below.refl _ _)) hb3 (Nat.le_refl _)); have x0' := (hb3'.cell (p := ⟨w.heap.size, 0, none⟩) hlt0).trans x0; have x1' := (hb3'.cell (p := ⟨w.heap.size, 1, none⟩) hlt0).trans x1; have x2' := (hb3'.cell (p := ⟨b2, off2 + x, none⟩) hb2).trans hc2)
      | (go_at_call 107; refine (CK.out _ (by first | exact hb3' | exact below_drew hb3')).mono ?_; rintro e w4 ⟨v4, rfl, hO4, hb4⟩; have hb4' : Below w0.heap.size w0 w4 := (by first | exact below_then hb3' hb4 hb3'.size | exact below_then (below_drew hb3') hb4 hb3'.size); have hO4' : OwnI w4 w.heap.size _ _ := own_mono2 hO4 (by have := hb3'.size; have := HZ.out.size; first | omega | (show w.heap.size ≤ w3.heap.size; omega)); have x03 := (hb4'.cell (p := ⟨w.heap.size, 0, none⟩) hlt0).trans x0; have x13 := (hb4'.cell (p := ⟨w.heap.size, 1, none⟩) hlt0).trans x1; have x23 := (hb4'.cell (p := ⟨b2, off2 + x, none⟩) hb2).trans hc2))
   go_wp2
   go_ret
   exact kidsTo_mk HIN.out.symm hO4' (below_then HZ.out hb4' HZ.out.size)
  ·have hk4 : ks.getD x 0 = 4 := by
    have h5 := hf.kd x hx
    unfold hl at hh
    rw [Bool.or_eq_false_iff] at hh
    have h6 : ks.getD x 0 ≠ 1 := by simpa using hh.1
    have h7 : ks.getD x 0 ≠ 2 := by simpa using hh.2
    omega
   have HIN := Lib.hid (intoH_four hf (pfun rs) hh eq h3)
   have hin := ini_nat hf hx hh eq
   rw [hk4] at hc
   clear h hz hf hu hp eq h3
   go_enter Tryz.func107, Tryz.ntmps107
   go_upto_region 1 with (fail)
   generalize w.alloc (.cells #[.slice (some ⟨b, off, none⟩) n c, .slice (some ⟨b2, off2, none⟩) n d] 27) = w0 at *
   have AL := Lib.hid (fun W (hW : Below w0.heap.size w0 W) => allOf_any q _ rs W (shp_below S1.out hW) HF.out hn (HU.out.below hW) hin)
   go_upto_region 5 with (fail)
   go_region_held3 (fun w' => w'.cell? ⟨w.heap.size, 0, none⟩ = some (.slice (some ⟨b, off, none⟩) n c) ∧ w'.cell? ⟨w.heap.size, 1, none⟩ = some (.slice (some ⟨b2, off2, none⟩) n d) ∧ w'.cell? ⟨b2, off2 + x, none⟩ = some (.int .i64 q))
    (first | exact ⟨x0, x1, hc2⟩ | exact ⟨x03, x13, x23⟩ | go_keep)
    (first
      | (go_at_call 136; refine (AL.out _ (by first | exact Below.refl _ _ | exact below_drew (Below.refl _ _))).mono ?_; rintro e w4 ⟨v4, rfl, hO4, hb4⟩; have hb4' : Below w0.heap.size w0 w4 := (by first | exact hb4 | exact below_then (below_drew (Below.refl _ _)) hb4 (Nat.le_refl _)); have hO4' : OwnI w4 w.heap.size _ _ := own_mono2 hO4 (by have := HZ.out.size; first | omega | (show w.heap.size ≤ w0.heap.size; omega)); have x03 := (hb4'.cell (p := ⟨w.heap.size, 0, none⟩) hlt0).trans x0; have x13 := (hb4'.cell (p := ⟨w.heap.size, 1, none⟩) hlt0).trans x1; have x23 := (hb4'.cell (p := ⟨b2, off2 + x, none⟩) hb2).trans hc2))
   go_wp2
   go_ret
   exact kidsTo_mk HIN.out.symm hO4' (below_then HZ.out hb4' HZ.out.size)
 ·rw [intoH_hl hh]
  exact complete_any v rs hf hn n x w (by omega) hx hh h hu
end
end Go.Proofs.YtaoinedndnleoaaGreat
