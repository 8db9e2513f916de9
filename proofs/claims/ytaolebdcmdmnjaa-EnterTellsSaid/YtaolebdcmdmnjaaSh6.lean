/-
  The document's shapes: Kids, Initial.
-/
import Derived.Test.YtaolebdcmdmnjaaSh2
namespace Go.Proofs.Ytaolebdcmdmnjaa
set_option maxRecDepth 100000
open Go.ChangeShapes Go.WideShapes Go.ChangeAt Go.RowKit

theorem kidsTo_filter (ps : List Int) (a : Int) : ∀ n, kidsTo ps a n = (List.range n).filter fun k => ps.getD k 0 == a
  | 0 => rfl
  | n + 1 => by
    have e : kidsTo ps a (n + 1) = if ps.getD n 0 = a then kidsTo ps a n ++ [n] else kidsTo ps a n := rfl
    rw [List.range_succ, List.filter_append, ← kidsTo_filter ps a n, e]
    by_cases h : ps.getD n 0 = a
    · rw [if_pos h]
      have : (ps.getD n 0 == a) = true := by simpa using h
      rw [List.filter_cons, this]; rfl
    · rw [if_neg h]
      have : (ps.getD n 0 == a) = false := by simpa using h
      rw [List.filter_cons, this]; simp
theorem find_congr {p q : Nat → Bool} : ∀ {l : List Nat}, (∀ x ∈ l, p x = q x) → l.find? p = l.find? q
  | [], _ => rfl
  | a :: l, h => by
    rw [List.find?_cons, List.find?_cons, h a (by simp), find_congr fun x hx => h x (by simp [hx])]
/-- the first of some states that may be in (-1: none) -/
def riniL (ks : List Int) (l : List Nat) : Int := match l.find? fun k => decide (ks.getD k 0 ≤ 2) with
  | some k => k
  | none => -1
theorem rini_ini {ks ps : List Int} {a : Int} {n : Nat} (h : ∀ k, k < n → 1 ≤ ks.getD k 0) : riniL ks (kidsTo ps a n) = iniTo ks ps a n := by
  unfold riniL iniTo
  rw [kidsTo_filter, List.find?_filter]
  have : (List.range n).find? (fun k => decide ((ps.getD k 0 == a) = true ∧ decide (ks.getD k 0 ≤ 2) = true)) = (List.range n).find? (isKid ks ps a) := by
    apply find_congr
    intro k hk
    have h1 := h k (List.mem_range.1 hk)
    rw [Bool.decide_and, Bool.decide_coe, Bool.decide_coe]
    unfold isKid hl
    congr 1
    by_cases e : ks.getD k 0 ≤ 2
    · have : ks.getD k 0 = 1 ∨ ks.getD k 0 = 2 := by omega
      rcases this with e | e <;> rw [e] <;> rfl
    · have e1 : (ks.getD k 0 == 1) = false := beq_eq_false_iff_ne.2 (by omega)
      have e2 : (ks.getD k 0 == 2) = false := beq_eq_false_iff_ne.2 (by omega)
      rw [e1, e2]; simpa using e
  rw [this]; rfl
theorem riniL_hit {ks : List Int} {l : List Nat} {j : Nat} (hj : j < l.length) (h : ks.getD l[j] 0 ≤ 2) (hn : ∀ i (hi : i < j), ¬ ks.getD l[i] 0 ≤ 2) : riniL ks l = (l[j] : Nat) := by
  unfold riniL
  have : l.find? (fun k => decide (ks.getD k 0 ≤ 2)) = some l[j] := by
    rw [List.find?_eq_some_iff_getElem]
    exact ⟨by simpa using h, j, hj, rfl, fun i hi => by simpa using hn i hi⟩
  rw [this]
theorem riniL_miss {ks : List Int} {l : List Nat} (hn : ∀ i (hi : i < l.length), ¬ ks.getD l[i] 0 ≤ 2) : riniL ks l = -1 := by
  unfold riniL
  have : l.find? (fun k => decide (ks.getD k 0 ≤ 2)) = none := by
    rw [List.find?_eq_none]
    intro x hx
    obtain ⟨i, hi, rfl⟩ := List.getElem_of_mem hx
    simpa using hn i hi
  rw [this]

theorem hl_of (ks : List Int) (k : Nat) (h1 : 1 ≤ ks.getD k 0) : hl ks k = decide (ks.getD k 0 ≤ 2) := by
  unfold hl
  generalize ks.getD k 0 = z at *
  by_cases e : z ≤ 2
  · have : z = 1 ∨ z = 2 := by omega
    rcases this with e | e <;> rw [e] <;> rfl
  · have e1 : (z == 1) = false := beq_eq_false_iff_ne.2 (by omega)
    have e2 : (z == 2) = false := beq_eq_false_iff_ne.2 (by omega)
    rw [e1, e2]; simpa using e
section
variable (ks ps : List Int) (A B : Option Addr) (n c m d : Nat) (w : World)
set_option maxHeartbeats 1000000 in
theorem RKids_any (a : Int) (h : IntsAt w (.slice A n c) ks ∧ IntsAt w (.slice B m d) ps) (hm : m = ps.length) (hm2 : m ≤ 100) :
    Calls Try.prog 42 #[.agg #[.slice A n c, .slice B m d], .int .i64 a] w (KidsTo (kidsTo ps a m) w) := by
  obtain ⟨i0, hi, hz0, hz1, hz2⟩ := info_parts Try.infoInt
  have x0 := box_0 w 25 (.slice A n c) (.slice B m d)
  have x1 := box_1 w 25 (.slice A n c) (.slice B m d)
  have hz := box_b w (.cells #[.slice A n c, .slice B m d] 25)
  have S2 := Lib.hid (shp_below h hz)
  have HZ := Lib.hid hz
  have hlt : w.heap.size < (w.alloc (.cells #[.slice A n c, .slice B m d] 25)).heap.size := by simp
  have H2 := Lib.hid hm
  clear h hz hm
  go_enter Try.func42, Try.ntmps42
  go_wp2
  generalize w.alloc (.cells #[.slice A n c, .slice B m d] 25) = w1 at *
  go_loopw [5, 10] (fun v i wr => ∃ k : Nat, k ≤ m ∧ i = .int .i64 k ∧ Hid (OwnI wr w1.heap.size v ((kidsTo ps a k).map fun k : Nat => (k : Int))) ∧ Hid (Below w1.heap.size w1 wr)) (fun _ i _ => m - (intOf i).toNat)
  case atStart => exact ⟨0, Nat.zero_le _, rfl, World.ownsRow_nil _ _ _ _, Below.refl _ _⟩
  case round =>
    obtain ⟨k, hk, rfl, HO, HB⟩ := hrel
    have hbz := HB.out.size
    by_cases hlk : k < m
    · have z1 := (HB.out.cell (p := ⟨w.heap.size, 1, none⟩) hlt).trans x1
      have hkm : (k : Int) < m := by omega
      obtain ⟨b, off, rfl, hb, hx, hw⟩ := ints_cell (HB.out |> shp_below S2.out).2 (k := k) (by have := H2.out; omega)
      have hsn : kidsTo ps a (k + 1) = if ps.getD k 0 = a then kidsTo ps a k ++ [k] else kidsTo ps a k := rfl
      have hln := kidsTo_len ps a k
      have hlm : ((kidsTo ps a k).map fun k : Nat => (k : Int)).length = (kidsTo ps a k).length := List.length_map ..
      clear hw
      generalize ps.getD k 0 = z at *
      obtain ⟨A5, c5, rfl⟩ := own_slice HO.out
      rcases bor_cases (a := z == a) with g | g
      · have e : z = a := by simpa using g
        rw [if_pos e] at hsn
        have HS := Lib.hid hsn
        clear hsn e
        go_wp2_with (at_builtin; go_must (refine wpList_append_own _ rfl (.tmp 20) (.tmp 22) 22 rfl w1.heap.size 3 i0 _ 1 8 Try.underlying22 hi hz0 hz1 hz2 rfl (by decide) _ _ _ rfl (HO.out.alloc _) ⟨wr.heap.size, 0, none⟩ 1 1 [.int .i64 k] rfl rfl (cells_new _ _ _) (by intro u hu; simp at hu; subst hu; rfl) (by unfold maxLen; omega) (by omega) (by simp; omega) ?_); intro v' w4 hown' hg' _)
        have hg2 : wr.grownBy w4 (Value.slice A5 ((kidsTo ps a k).map fun k : Nat => (k : Int)).length c5).ownBlock := (World.grownBy_alloc _ _ _).andThen hg' (fun j e => .inr e)
        have HNw : Hid (OwnI w4 w1.heap.size v' ((kidsTo ps a (k + 1)).map fun k : Nat => (k : Int))) := by
          show w4.ownsRow _ _ _ _ _ _
          rw [HS.out, icells_snoc, List.length_map, List.length_append, ← List.length_map (f := fun k : Nat => (k : Int))]
          exact hown'
        have HB4 := Lib.hid (HB.out.grown hg2 hbz (fun j e => (HO.out.lt j e).1))
        clear hown' hg' hg2
        go_roundw
        case rel => exact ⟨k + 1, by omega, by go_num, HNw, HB4⟩
        case measure => simp [intOf]; omega
      · have e : ¬ z = a := by simpa using g
        rw [if_neg e] at hsn
        have HNw : Hid (OwnI wr w1.heap.size (.slice A5 ((kidsTo ps a k).map fun k : Nat => (k : Int)).length c5) ((kidsTo ps a (k + 1)).map fun k : Nat => (k : Int))) := by show OwnI _ _ _ _; rw [hsn]; exact HO.out
        clear hsn e
        go_wp2
        go_roundw
        case rel => exact ⟨k + 1, by omega, by go_num, HNw, HB⟩
        case measure => simp [intOf]; omega
    · have HK : Hid (kidsTo ps a k = kidsTo ps a m) := by show _ = _; congr 1; omega
      go_wp2
      go_ret
      exact kidsTo_mk HK.out (own_mono2 HO.out (by have := HZ.out.size; omega)) (below_then HZ.out HB.out HZ.out.size)
set_option maxHeartbeats 1000000 in
theorem RIni_any (a : Int) (h : IntsAt w (.slice A n c) ks ∧ IntsAt w (.slice B m d) ps) (hn : n = ks.length) (hm : m = ps.length) (hmn : m ≤ n) (hm2 : n ≤ 100) :
    Calls Try.prog 56 #[.agg #[.slice A n c, .slice B m d], .int .i64 a] w fun e w' => e = .returned (.int .i64 (riniL ks (kidsTo ps a m))) ∧ Below w.heap.size w w' := by
  have x0 := box_0 w 25 (.slice A n c) (.slice B m d)
  have x1 := box_1 w 25 (.slice A n c) (.slice B m d)
  have hz := box_b w (.cells #[.slice A n c, .slice B m d] 25)
  have S0 := Lib.hid (shp_below h hz)
  have HZ := Lib.hid hz
  have hlt : w.heap.size < (w.alloc (.cells #[.slice A n c, .slice B m d] 25)).heap.size := by simp
  have H1 := Lib.hid hn
  have KD := Lib.hid (RKids_any ks ps A B n c m d _ a (shp_below h hz) hm (by omega))
  have hlb : ∀ j, j ∈ kidsTo ps a m → j < m := fun j hj => (mem_kidsTo.1 hj).1
  have hln := kidsTo_len ps a m
  clear h hz hn hm
  go_enter Try.func56, Try.ntmps56
  go_upto_region 1 with (fail)
  generalize w.alloc (.cells #[.slice A n c, .slice B m d] 25) = w0 at *
  generalize hL : kidsTo ps a m = l at *
  have HL := Lib.hid hL
  clear hL
  have HLB := Lib.hid hlb
  clear hlb
  have hlm : (l.map fun k : Nat => (k : Int)).length = l.length := List.length_map ..
  go_wp2_with (go_at_call 42; refine KD.out.mono ?_; rintro e w1 ⟨v, rfl, ho, hb1⟩; obtain ⟨A9, c9, rfl⟩ := own_slice ho)
  have HO := Lib.hid ho
  have HB1 := Lib.hid hb1
  clear KD ho hb1
  have HLM := Lib.hid hlm
  clear hlm
  go_loopw [11] (fun i wr => ∃ k : Nat, k ≤ l.length ∧ i = .int .i64 k ∧ Hid (wr = w1) ∧ Hid (∀ i (_ : i < k) (hi : i < l.length), ¬ ks.getD l[i] 0 ≤ 2)) (fun i _ => l.length - (intOf i).toNat)
  case atStart => exact ⟨0, Nat.zero_le _, rfl, rfl, fun j hj _ => by omega⟩
  case round =>
    obtain ⟨k, hk, rfl, HW, HI⟩ := hrel
    have hw := HW.out
    subst hw
    by_cases hlk : k < l.length
    · obtain ⟨g9, cc9, e9, _, hg9, _, hc9⟩ := own_form HO.out (by have := HLM.out; omega)
      injection e9 with e9 _ _
      subst e9
      have hx9 := hc9 k (.int .i64 (l[k] : Nat)) (by simp [icells, hlk])
      have hkl := HLB.out _ (List.getElem_mem hlk)
      obtain ⟨b, off, rfl, hb, hx, _⟩ := ints_cell S0.out.1 (k := l[k]) (by have := H1.out; omega)
      have hxk := (HB1.out.cell (p := ⟨b, off + l[k], none⟩) hb).trans hx
      have y0 := (HB1.out.cell (p := ⟨w.heap.size, 0, none⟩) hlt).trans x0
      have HH : Hid (ks.getD l[k] 0 ≤ 2 → riniL ks l = (l[k] : Nat)) := fun hh => riniL_hit hlk hh fun i hi => HI.out i hi (by omega)
      have HT : Hid (¬ ks.getD l[k] 0 ≤ 2 → ∀ i (_ : i < k + 1) (hi : i < l.length), ¬ ks.getD l[i] 0 ≤ 2) := fun hh i hi hil => by
        by_cases e : i = k
        · subst e; exact hh
        · exact HI.out i (by omega) hil
      clear hc9 hx HI
      generalize ks.getD l[k] 0 = z at *
      generalize l[k] = y at *
      have hyn : (y : Int) < n := by omega
      by_cases hz2 : z ≤ 2
      · have HE := Lib.hid (HH.out hz2)
        clear HH HT
        go_wp2
        go_ret
        exact ⟨ret_int (by rw [HL.out]; exact HE.out.symm), below_then HZ.out HB1.out HZ.out.size⟩
      · have HT2 := Lib.hid (HT.out hz2)
        clear HH HT
        go_wp2
        go_roundw
        case rel => exact ⟨k + 1, by omega, by go_num, Lib.hid trivial, HT2⟩
        case measure => simp [intOf]; omega
    · have HE : Hid (riniL ks l = -1) := riniL_miss fun i hi => HI.out i (by omega) hi
      clear HI
      go_wp2
      go_ret
      exact ⟨ret_int (by rw [HL.out]; exact HE.out.symm), below_then HZ.out HB1.out HZ.out.size⟩
end
end Go.Proofs.Ytaolebdcmdmnjaa
