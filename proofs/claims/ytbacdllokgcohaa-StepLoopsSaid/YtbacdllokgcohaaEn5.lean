/-
  Package enter: allOf, and what a history is entered as.
-/
import Derived.Test.YtbacdllokgcohaaEn4
import Derived.Deep.RegionHeld3
namespace Go.Proofs.Ytbacdllokgcohaa
set_option maxRecDepth 100000
open Go.ChangeShapes Go.WideShapes Go.ChangeAt Go.RowKit

section
variable {ks ps : List Int} {n : Nat}
/-- what a list of numbers tells of the states -/
def pfun (rs : List Nat) (q : Nat) : Nat := rs.getD q 0
theorem kids_past (h : ShF ks ps n) {past : Nat → Nat} (hp : PastOk ks ps n past) {q : Nat} (hq : q < n) (h1 : ks.getD q 0 = 1) {k : Nat} (hk : k < n) (hb : (past q).testBit k = true) : hl ks k = true := by
  rcases hp q hq h1 with hno | ⟨j, hj, hkj, hlc⟩
  · rw [hno k hk] at hb; cases hb
  · exact (hlc.un k ⟨hk, hb⟩).2.1
theorem ini_nat (h : ShF ks ps n) {x q : Nat} (hx : x < n) (hh : hl ks x = false) (e : ps.getD x 0 = q) : iniTo ks ps q n = (iniN ks ps n q : Nat) ∧ iniN ks ps n q < n ∧ hl ks (iniN ks ps n q) = true := by
  obtain ⟨q', e', _, _, h1, h2⟩ := hist h hx hh
  have : q' = q := by omega
  subst this
  exact ⟨ini_iniN ⟨_, h1, h2⟩, h1, kid_hl h2⟩
theorem intoH_three (h : ShF ks ps n) {past : Nat → Nat} (hp : PastOk ks ps n past) {x q : Nat} (hx : x < n) (hh : hl ks x = false) (e : ps.getD x 0 = q) (h3 : ks.getD x 0 = 3) :
    ∃ k : Nat, lastL ks ps n (past q) q = k ∧ k < n ∧ hl ks k = true ∧ intoH ks ps n past x = inS ks ps n k := by
  obtain ⟨q', e', hq, h1, _⟩ := hist h hx hh
  have : q' = q := by omega
  subst this
  obtain ⟨i1, i2, i3⟩ := ini_nat h hx hh e
  unfold intoH
  rw [hh, if_neg (by simp), if_pos h3, e, Int.toNat_natCast]
  have hfc : (kidsTo ps q' n).find? (fun k => (past q').testBit k && hl ks k) = (kidsTo ps q' n).find? fun k => (past q').testBit k := find_congr fun k hk => by
    cases hb : (past q').testBit k
    · rfl
    · rw [kids_past h hp hq h1 (mem_kidsTo.1 hk).1 hb]; rfl
  unfold lastL
  rw [hfc]
  cases hf : (kidsTo ps q' n).find? fun k => (past q').testBit k with
  | none => exact ⟨_, i1, i2, i3, rfl⟩
  | some k =>
    have hk := mem_kidsTo.1 (List.mem_of_find?_eq_some hf)
    have hb : (past q').testBit k = true := by simpa using List.find?_some hf
    exact ⟨k, rfl, hk.1, kids_past h hp hq h1 hk.1 hb, rfl⟩
/-- all that was left -/
def allL (ks ps : List Int) (n s : Nat) (q : Nat) : List Nat := if insL ps s q n = [] then inS ks ps n (iniN ks ps n q) else insL ps s q n
theorem intoH_four (h : ShF ks ps n) (past : Nat → Nat) {x q : Nat} (hh : hl ks x = false) (e : ps.getD x 0 = q) (h3 : ks.getD x 0 ≠ 3) : intoH ks ps n past x = allL ks ps n (past q) q := by
  unfold intoH allL
  rw [hh, if_neg (by simp), if_neg h3, e, Int.toNat_natCast, hist_ins]
end
section
variable {ks ps : List Int} {A B : Option Addr} {n c d : Nat}
set_option maxHeartbeats 4000000 in
theorem allOf_any (q : Nat) (v : Value) (rs : List Nat) (w : World) (h : IntsAt w (.slice A n c) ks ∧ IntsAt w (.slice B n d) ps) (hf : ShF ks ps n) (hn : n ≤ 24) (hu : U32sAt w v rs)
    (hi : iniTo ks ps q n = (iniN ks ps n q : Nat) ∧ iniN ks ps n q < n ∧ hl ks (iniN ks ps n q) = true) :
    Calls Try.prog 95 #[.agg #[.slice A n c, .slice B n d], .int .i64 q, v] w (KidsTo (allL ks ps n (rs.getD q 0) q) w) := by
  obtain ⟨A7, c7, rfl⟩ := u32s_form hu
  have x0 := box_0 w 25 (.slice A n c) (.slice B n d)
  have x1 := box_1 w 25 (.slice A n c) (.slice B n d)
  have hz := box_b w (.cells #[.slice A n c, .slice B n d] 25)
  have hlt0 : w.heap.size < (w.alloc (.cells #[.slice A n c, .slice B n d] 25)).heap.size := by simp
  have S1 := Lib.hid (shp_below h hz)
  have HU := Lib.hid (hu.below hz)
  have HZ := Lib.hid hz
  have HF := Lib.hid hf
  have hs32 := u32s_lt hu q
  have hsz : szN ks ps = n := by unfold szN; rw [hf.kl, hf.pl]; omega
  have HAL : Hid (allL ks ps n (rs.getD q 0) q = if insL ps (rs.getD q 0) q n = [] then inS ks ps n (iniN ks ps n q) else insL ps (rs.getD q 0) q n) := rfl
  clear h hz hf hu
  go_enter Try.func95, Try.ntmps95
  go_upto_region 1 with (fail)
  generalize w.alloc (.cells #[.slice A n c, .slice B n d] 25) = w0 at *
  have TO := Lib.hid (fun W (hW : Below w0.heap.size w0 W) => told_any _ rs q W (HU.out.below hW))
  have ID := Lib.hid (fun W (hW : Below w0.heap.size w0 W) => inside_any (rs.getD q 0) q W (shp_below S1.out hW) HF.out hn hs32)
  have IN := Lib.hid (fun W (hW : Below w0.heap.size w0 W) => Initial_any ks ps A B n c n d W q (shp_below S1.out hW) HF.out.kl.symm HF.out.pl.symm (by omega) (by omega))
  rw [hsz, hi.1] at IN
  have CK := Lib.hid (fun W (hW : Below w0.heap.size w0 W) => complete_any _ rs HF.out hn n (iniN ks ps n q) W (by omega) hi.2.1 hi.2.2 (shp_below S1.out hW) (HU.out.below hW))
  generalize hl9 : insL ps (rs.getD q 0) q n = l at *
  have HL9 := Lib.hid hl9
  clear hl9
  generalize hs0 : rs.getD q 0 = s at *
  have HS0 := Lib.hid hs0
  clear hs0
  go_region_held3 (fun w' => w'.cell? ⟨w.heap.size, 0, none⟩ = some (.slice A n c) ∧ w'.cell? ⟨w.heap.size, 1, none⟩ = some (.slice B n d))
    (first | exact ⟨x0, x1⟩ | exact ⟨x0', x1'⟩ | go_keep)
    (first
      | (go_at_call 134; refine (TO.out _ (by first | exact Below.refl _ _ | exact below_drew (Below.refl _ _))).mono ?_; rintro e w1 ⟨rfl, rfl⟩)
      | (go_at_call 102; refine (ID.out _ (by first | exact Below.refl _ _ | exact below_drew (Below.refl _ _))).mono ?_; rintro e w2 ⟨v2, rfl, hO2, hb2⟩; have hb2' : Below w0.heap.size w0 w2 := (by first | exact hb2 | exact below_then (below_drew (Below.refl _ _)) hb2 (Nat.le_refl _)); have hO2' : OwnN w2 w0.heap.size v2 l := OwnN.of hO2; have x0' := (hb2'.cell (p := ⟨w.heap.size, 0, none⟩) hlt0).trans x0; have x1' := (hb2'.cell (p := ⟨w.heap.size, 1, none⟩) hlt0).trans x1; obtain ⟨A9, c9, rfl⟩ := own_slice hO2'; clear hO2 hb2))
  have HO2 := Lib.hid hO2'
  have HB2 := Lib.hid hb2'
  clear hO2' hb2'
  by_cases he : l = []
  · subst he
    rw [if_pos rfl] at HAL
    have hz0 : ¬ (0 : Int) < ([] : List Nat).length := by simp
    go_upto_region 4 with (fail)
    go_region_held3 (fun w' => w'.cell? ⟨w.heap.size, 0, none⟩ = some (.slice A n c) ∧ w'.cell? ⟨w.heap.size, 1, none⟩ = some (.slice B n d))
      (first | exact ⟨x0', x1'⟩ | exact ⟨x0'', x1''⟩ | exact ⟨x03, x13⟩ | go_keep)
      (first
        | (go_at_call 60; refine (IN.out _ (by first | exact HB2.out | exact below_drew HB2.out)).mono ?_; rintro e w3 ⟨rfl, hb3⟩; have hb3' : Below w0.heap.size w0 w3 := (by first | exact below_then HB2.out hb3 HB2.out.size | exact below_then (below_drew HB2.out) hb3 HB2.out.size); have x0'' := (hb3'.cell (p := ⟨w.heap.size, 0, none⟩) hlt0).trans x0; have x1'' := (hb3'.cell (p := ⟨w.heap.size, 1, none⟩) hlt0).trans x1)
        | (go_at_call 59; refine (CK.out _ (by first | exact hb3' | exact below_drew hb3')).mono ?_; rintro e w4 ⟨v4, rfl, hO4, hb4⟩; have hb4' : Below w0.heap.size w0 w4 := (by first | exact below_then hb3' hb4 hb3'.size | exact below_then (below_drew hb3') hb4 hb3'.size); have hO4' : OwnI w4 w.heap.size _ _ := own_mono2 hO4 (by have := hb3'.size; have := HZ.out.size; first | omega | (show w.heap.size ≤ w3.heap.size; omega)); have x03 := (hb4'.cell (p := ⟨w.heap.size, 0, none⟩) hlt0).trans x0; have x13 := (hb4'.cell (p := ⟨w.heap.size, 1, none⟩) hlt0).trans x1))
    go_wp2
    go_ret
    exact kidsTo_mk HAL.out.symm hO4' (below_then HZ.out hb4' HZ.out.size)
  · rw [if_neg he] at HAL
    have hl0 : 0 < l.length := List.length_pos_iff.2 he
    have hz0 : (0 : Int) < l.length := by omega
    go_wp2
    go_ret
    exact kidsTo_mk HAL.out.symm (OwnN.ints (own_mono2 HO2.out (by omega))) (below_then HZ.out HB2.out HZ.out.size)
set_option maxHeartbeats 4000000 in
theorem completeH_any (v : Value) (rs : List Nat) (hf : ShF ks ps n) (hn : n ≤ 24) (hp : PastOk ks ps n (pfun rs)) (x : Nat) (w : World) (hx : x < n) (h : IntsAt w (.slice A n c) ks ∧ IntsAt w (.slice B n d) ps) (hu : U32sAt w v rs) :
    Calls Try.prog 59 #[.agg #[.slice A n c, .slice B n d], .int .i64 x, v] w (KidsTo (intoH ks ps n (pfun rs) x) w) := by
  cases hh : hl ks x
  · obtain ⟨A7, c7, rfl⟩ := u32s_form hu
    have x0 := box_0 w 25 (.slice A n c) (.slice B n d)
    have x1 := box_1 w 25 (.slice A n c) (.slice B n d)
    have hz := box_b w (.cells #[.slice A n c, .slice B n d] 25)
    have hlt0 : w.heap.size < (w.alloc (.cells #[.slice A n c, .slice B n d] 25)).heap.size := by simp
    have S1 := Lib.hid (shp_below h hz)
    have HU := Lib.hid (hu.below hz)
    have HZ := Lib.hid hz
    have HF := Lib.hid hf
    obtain ⟨q, eq, h1, _⟩ := hf.hi x hx hh
    have hqx := hf.lt hx eq
    have hxi : (x : Int) < n := by omega
    obtain ⟨b, off, rfl, hb, hc, _⟩ := ints_cell S1.out.1 (k := x) (by rw [hf.kl]; exact hx)
    obtain ⟨b2, off2, rfl, hb2, hc2, _⟩ := ints_cell S1.out.2 (k := x) (by rw [hf.pl]; exact hx)
    rw [eq] at hc2
    by_cases h3 : ks.getD x 0 = 3
    · obtain ⟨k, hk1, hk2, hk3, hin⟩ := intoH_three hf hp hx hh eq h3
      have hk1' : lastL ks ps n (rs.getD q 0) q = k := hk1
      have HIN := Lib.hid hin
      rw [h3] at hc
      clear h hz hf hu hin hk1 hp eq
      go_enter Try.func59, Try.ntmps59
      go_upto_region 1 with (fail)
      generalize w.alloc (.cells #[.slice (some ⟨b, off, none⟩) n c, .slice (some ⟨b2, off2, none⟩) n d] 25) = w0 at *
      have LA := Lib.hid (fun W (hW : Below w0.heap.size w0 W) => last_any q _ rs W (shp_below S1.out hW) HF.out hn (HU.out.below hW))
      rw [hk1'] at LA
      have CK := Lib.hid (fun W (hW : Below w0.heap.size w0 W) => complete_any _ rs HF.out hn n k W (by omega) hk2 hk3 (shp_below S1.out hW) (HU.out.below hW))
      clear hk1'
      go_upto_region 3 with (fail)
      go_region_held3 (fun w' => w'.cell? ⟨w.heap.size, 0, none⟩ = some (.slice (some ⟨b, off, none⟩) n c) ∧ w'.cell? ⟨w.heap.size, 1, none⟩ = some (.slice (some ⟨b2, off2, none⟩) n d) ∧ w'.cell? ⟨b2, off2 + x, none⟩ = some (.int .i64 q))
        (first | exact ⟨x0, x1, hc2⟩ | exact ⟨x0', x1', x2'⟩ | exact ⟨x03, x13, x23⟩ | go_keep)
        (first
          | (go_at_call 94; refine (LA.out _ (by first | exact Below.refl _ _ | exact below_drew (Below.refl _ _))).mono ?_; rintro e w3 ⟨rfl, hb3⟩; have hb3' : Below w0.heap.size w0 w3 := (by first | exact hb3 | exact below_then (below_drew (Below.refl _ _)) hb3 (Nat.le_refl _)); have x0' := (hb3'.cell (p := ⟨w.heap.size, 0, none⟩) hlt0).trans x0; have x1' := (hb3'.cell (p := ⟨w.heap.size, 1, none⟩) hlt0).trans x1; have x2' := (hb3'.cell (p := ⟨b2, off2 + x, none⟩) hb2).trans hc2)
          | (go_at_call 59; refine (CK.out _ (by first | exact hb3' | exact below_drew hb3')).mono ?_; rintro e w4 ⟨v4, rfl, hO4, hb4⟩; have hb4' : Below w0.heap.size w0 w4 := (by first | exact below_then hb3' hb4 hb3'.size | exact below_then (below_drew hb3') hb4 hb3'.size); have hO4' : OwnI w4 w.heap.size _ _ := own_mono2 hO4 (by have := hb3'.size; have := HZ.out.size; first | omega | (show w.heap.size ≤ w3.heap.size; omega)); have x03 := (hb4'.cell (p := ⟨w.heap.size, 0, none⟩) hlt0).trans x0; have x13 := (hb4'.cell (p := ⟨w.heap.size, 1, none⟩) hlt0).trans x1; have x23 := (hb4'.cell (p := ⟨b2, off2 + x, none⟩) hb2).trans hc2))
      go_wp2
      go_ret
      exact kidsTo_mk HIN.out.symm hO4' (below_then HZ.out hb4' HZ.out.size)
    · have hk4 : ks.getD x 0 = 4 := by
        have h5 := hf.kd x hx
        unfold hl at hh
        rw [Bool.or_eq_false_iff] at hh
        have h6 : ks.getD x 0 ≠ 1 := by simpa using hh.1
        have h7 : ks.getD x 0 ≠ 2 := by simpa using hh.2
        omega
      have HIN := Lib.hid (intoH_four hf (pfun rs) hh eq h3)
      have hin := ini_nat hf hx hh eq
      rw [hk4] at hc
      clear h hz hf hu hp eq h3
      go_enter Try.func59, Try.ntmps59
      go_upto_region 1 with (fail)
      generalize w.alloc (.cells #[.slice (some ⟨b, off, none⟩) n c, .slice (some ⟨b2, off2, none⟩) n d] 25) = w0 at *
      have AL := Lib.hid (fun W (hW : Below w0.heap.size w0 W) => allOf_any q _ rs W (shp_below S1.out hW) HF.out hn (HU.out.below hW) hin)
      go_upto_region 5 with (fail)
      go_region_held3 (fun w' => w'.cell? ⟨w.heap.size, 0, none⟩ = some (.slice (some ⟨b, off, none⟩) n c) ∧ w'.cell? ⟨w.heap.size, 1, none⟩ = some (.slice (some ⟨b2, off2, none⟩) n d) ∧ w'.cell? ⟨b2, off2 + x, none⟩ = some (.int .i64 q))
        (first | exact ⟨x0, x1, hc2⟩ | exact ⟨x03, x13, x23⟩ | go_keep)
        (first
          | (go_at_call 95; refine (AL.out _ (by first | exact Below.refl _ _ | exact below_drew (Below.refl _ _))).mono ?_; rintro e w4 ⟨v4, rfl, hO4, hb4⟩; have hb4' : Below w0.heap.size w0 w4 := (by first | exact hb4 | exact below_then (below_drew (Below.refl _ _)) hb4 (Nat.le_refl _)); have hO4' : OwnI w4 w.heap.size _ _ := own_mono2 hO4 (by have := HZ.out.size; first | omega | (show w.heap.size ≤ w0.heap.size; omega)); have x03 := (hb4'.cell (p := ⟨w.heap.size, 0, none⟩) hlt0).trans x0; have x13 := (hb4'.cell (p := ⟨w.heap.size, 1, none⟩) hlt0).trans x1; have x23 := (hb4'.cell (p := ⟨b2, off2 + x, none⟩) hb2).trans hc2))
      go_wp2
      go_ret
      exact kidsTo_mk HIN.out.symm hO4' (below_then HZ.out hb4' HZ.out.size)
  · rw [intoH_hl hh]
    exact complete_any v rs hf hn n x w (by omega) hx hh h hu
end
end Go.Proofs.Ytbacdllokgcohaa
