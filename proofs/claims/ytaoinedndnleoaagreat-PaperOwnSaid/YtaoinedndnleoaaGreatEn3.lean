import Derived.Test.YtaoinedndnleoaaGreatCh3
import Derived.Test.YtaoinedndnleoaaGreatEn1
import Derived.Laws.AppendOwnNone
namespace Go.Proofs.YtaoinedndnleoaaGreat
set_option maxRecDepth 100000
open Go.ChangeShapes Go.WideShapes Go.ChangeAt Go.RowKit
theorem kidsTo_filter (ps : List Int) (a : Int) : ∀ n, kidsTo ps a n = (List.range n).filter fun k => ps.getD k 0 == a
 | 0 => rfl
 | n + 1 => by
  have e : kidsTo ps a (n + 1) = if ps.getD n 0 = a then kidsTo ps a n ++ [n] else kidsTo ps a n := rfl
  rw [List.range_succ, List.filter_append, ← kidsTo_filter ps a n, e]
  by_cases h : ps.getD n 0 = a
  ·rw [if_pos h]
   have : (ps.getD n 0 == a) = true := by simpa using h
   rw [List.filter_cons, this]; rfl
  ·rw [if_neg h]
   have : (ps.getD n 0 == a) = false := by simpa using h
   rw [List.filter_cons, this]; simp
theorem find_congr {p q : Nat → Bool} : ∀ {l : List Nat}, (∀ x ∈ l, p x = q x) → l.find? p = l.find? q
 | [], _ => rfl
 | a :: l, h => by
  rw [List.find?_cons, List.find?_cons, h a (by simp), find_congr fun x hx => h x (by simp [hx])]
def riniL (ks : List Int) (l : List Nat) : Int := match l.find? fun k => decide (ks.getD k 0 ≤ 2) with
 | some k => k
 | none => -1
theorem rini_ini {ks ps : List Int} {a : Int} {n : Nat} (h : ∀ k, k < n → 1 ≤ ks.getD k 0) : riniL ks (kidsTo ps a n) = iniTo ks ps a n := by
 unfold riniL iniTo
 rw [kidsTo_filter, List.find?_filter]
 have : (List.range n).find? (fun k => decide ((ps.getD k 0 == a) = true ∧ decide (ks.getD k 0 ≤ 2) = true)) = (List.range n).find? (isKid ks ps a) := by
  apply find_congr
  intro k hk
  have h1 := h k (List.mem_range.1 hk)
  rw [Bool.decide_and, Bool.decide_coe, Bool.decide_coe]
  unfold isKid hl
  congr 1
  by_cases e : ks.getD k 0 ≤ 2
  ·have : ks.getD k 0 = 1 ∨ ks.getD k 0 = 2 := by omega
   rcases this with e | e <;> rw [e] <;> rfl
  ·have e1 : (ks.getD k 0 == 1) = false := beq_eq_false_iff_ne.2 (by omega)
   have e2 : (ks.getD k 0 == 2) = false := beq_eq_false_iff_ne.2 (by omega)
   rw [e1, e2]; simpa using e
 rw [this]; rfl
theorem riniL_hit {ks : List Int} {l : List Nat} {j : Nat} (hj : j < l.length) (h : ks.getD l[j] 0 ≤ 2) (hn : ∀ i (hi : i < j), ¬ ks.getD l[i] 0 ≤ 2) : riniL ks l = (l[j] : Nat) := by
 unfold riniL
 have : l.find? (fun k => decide (ks.getD k 0 ≤ 2)) = some l[j] := by
  rw [List.find?_eq_some_iff_getElem]
  exact ⟨by simpa using h, j, hj, rfl, fun i hi => by simpa using hn i hi⟩
 rw [this]
theorem riniL_miss {ks : List Int} {l : List Nat} (hn : ∀ i (hi : i < l.length), ¬ ks.getD l[i] 0 ≤ 2) : riniL ks l = -1 := by
 unfold riniL
 have : l.find? (fun k => decide (ks.getD k 0 ≤ 2)) = none := by
  rw [List.find?_eq_none]
  intro x hx
  obtain ⟨i, hi, rfl⟩ := List.getElem_of_mem hx
  simpa using hn i hi
 rw [this]
theorem hl_of (ks : List Int) (k : Nat) (h1 : 1 ≤ ks.getD k 0) : hl ks k = decide (ks.getD k 0 ≤ 2) := by
 unfold hl
 generalize ks.getD k 0 = z at *
 by_cases e : z ≤ 2
 ·have : z = 1 ∨ z = 2 := by omega
  rcases this with e | e <;> rw [e] <;> rfl
 ·have e1 : (z == 1) = false := beq_eq_false_iff_ne.2 (by omega)
  have e2 : (z == 2) = false := beq_eq_false_iff_ne.2 (by omega)
  rw [e1, e2]; simpa using e
section
variable (ks ps : List Int) (A B : Option Addr) (n c m d : Nat) (w : World)
set_option maxHeartbeats 1000000 in
theorem RKids_any (a : Int) (h : IntsAt w (.slice A n c) ks ∧ IntsAt w (.slice B m d) ps) (hm : m = ps.length) (hm2 : m ≤ 100) :
  Calls Tryz.prog 92 #[.agg #[.slice A n c, .slice B m d], .int .i64 a] w (KidsTo (kidsTo ps a m) w) := by
 obtain ⟨i0, hi, hz0, hz1, hz2⟩ := info_parts Tryz.infoInt
 have x0 := box_0 w 31 (.slice A n c) (.slice B m d)
 have x1 := box_1 w 31 (.slice A n c) (.slice B m d)
 have hz := box_b w (.cells #[.slice A n c, .slice B m d] 31)
 have S2 := Lib.hid (shp_below h hz)
 have HZ := Lib.hid hz
 have hlt : w.heap.size < (w.alloc (.cells #[.slice A n c, .slice B m d] 31)).heap.size := by simp
 have H2 := Lib.hid hm
 clear h hz hm
 go_enter Tryz.func92, Tryz.ntmps92
 go_wp2
 generalize w.alloc (.cells #[.slice A n c, .slice B m d] 31) = w1 at *
 go_loopw [5, 10] (fun v i wr => ∃ k : Nat, k ≤ m ∧ i = .int .i64 k ∧ Hid (OwnI wr w1.heap.size v ((kidsTo ps a k).map fun k : Nat => (k : Int))) ∧ Hid (Below w1.heap.size w1 wr)) (fun _ i _ => m - (intOf i).toNat)
 case atStart => exact ⟨0, Nat.zero_le _, rfl, World.ownsRow_nil _ _ _ _, Below.refl _ _⟩
 case round =>
  obtain ⟨k, hk, rfl, HO, HB⟩ := hrel
  have hbz := HB.out.size
  by_cases hlk : k < m
  ·have z1 := (HB.out.cell (p := ⟨w.heap.size, 1, none⟩) hlt).trans x1
   have hkm : (k : Int) < m := by omega
   obtain ⟨b, off, rfl, hb, hx, hw⟩ := ints_cell (HB.out |> shp_below S2.out).2 (k := k) (by have := H2.out; omega)
   have hsn : kidsTo ps a (k + 1) = if ps.getD k 0 = a then kidsTo ps a k ++ [k] else kidsTo ps a k := rfl
   have hln := kidsTo_len ps a k
   have hlm : ((kidsTo ps a k).map fun k : Nat => (k : Int)).length = (kidsTo ps a k).length := List.length_map ..
   clear hw
   generalize ps.getD k 0 = z at *
   obtain ⟨A5, c5, rfl⟩ := own_slice HO.out
   rcases bor_cases (a := z == a) with g | g
   ·have e : z = a := by simpa using g
    rw [if_pos e] at hsn
    have HS := Lib.hid hsn
    clear hsn e
    go_wp2_with (at_builtin; go_must (refine wpList_append_own _ rfl (.tmp 20) (.tmp 22) 22 rfl w1.heap.size 3 i0 _ 1 8 Tryz.underlying22 hi hz0 hz1 hz2 rfl (by decide) _ _ _ rfl (HO.out.alloc _) ⟨wr.heap.size, 0, none⟩ 1 1 [.int .i64 k] rfl rfl (cells_new _ _ _) (by intro u hu; simp at hu; subst hu; rfl) (by unfold maxLen; omega) (by omega) (by simp; omega) ?_); intro v' w4 hown' hg' _)
    have hg2 : wr.grownBy w4 (Value.slice A5 ((kidsTo ps a k).map fun k : Nat => (k : Int)).length c5).ownBlock := (World.grownBy_alloc _ _ _).andThen hg' (fun j e => .inr e)
    have HNw : Hid (OwnI w4 w1.heap.size v' ((kidsTo ps a (k + 1)).map fun k : Nat => (k : Int))) := by
     show w4.ownsRow _ _ _ _ _ _
     rw [HS.out, icells_snoc, List.length_map, List.length_append, ← List.length_map (f := fun k : Nat => (k : Int))]
     exact hown'
    have HB4 := Lib.hid (HB.out.grown hg2 hbz (fun j e => (HO.out.lt j e).1))
    clear hown' hg' hg2
    go_roundw
    case rel => exact ⟨k + 1, by omega, by go_num, HNw, HB4⟩
    case measure => simp [intOf]; omega
   ·have e : ¬ z = a := by simpa using g
    rw [if_neg e] at hsn
    have HNw : Hid (OwnI wr w1.heap.size (.slice A5 ((kidsTo ps a k).map fun k : Nat => (k : Int)).length c5) ((kidsTo ps a (k + 1)).map fun k : Nat => (k : Int))) := by show OwnI _ _ _ _; rw [hsn]; exact HO.out
    clear hsn e
    go_wp2
    go_roundw
    case rel => exact ⟨k + 1, by omega, by go_num, HNw, HB⟩
    case measure => simp [intOf]; omega
  ·have HK : Hid (kidsTo ps a k = kidsTo ps a m) := by show _ = _; congr 1; omega
   go_wp2
   go_ret
   exact kidsTo_mk HK.out (own_mono2 HO.out (by have := HZ.out.size; omega)) (below_then HZ.out HB.out HZ.out.size)
set_option maxHeartbeats 1000000 in
theorem RIni_any (a : Int) (h : IntsAt w (.slice A n c) ks ∧ IntsAt w (.slice B m d) ps) (hn : n = ks.length) (hm : m = ps.length) (hmn : m ≤ n) (hm2 : n ≤ 100) :
  Calls Tryz.prog 93 #[.agg #[.slice A n c, .slice B m d], .int .i64 a] w fun e w' => e = .returned (.int .i64 (riniL ks (kidsTo ps a m))) ∧ Below w.heap.size w w' := by
 have x0 := box_0 w 31 (.slice A n c) (.slice B m d)
 have x1 := box_1 w 31 (.slice A n c) (.slice B m d)
 have hz := box_b w (.cells #[.slice A n c, .slice B m d] 31)
 have S0 := Lib.hid (shp_below h hz)
 have HZ := Lib.hid hz
 have hlt : w.heap.size < (w.alloc (.cells #[.slice A n c, .slice B m d] 31)).heap.size := by simp
 have H1 := Lib.hid hn
 have KD := Lib.hid (RKids_any ks ps A B n c m d _ a (shp_below h hz) hm (by omega))
 have hlb : ∀ j, j ∈ kidsTo ps a m → j < m := fun j hj => (mem_kidsTo.1 hj).1
 have hln := kidsTo_len ps a m
 clear h hz hn hm
 go_enter Tryz.func93, Tryz.ntmps93
 go_upto_region 1 with (fail)
 generalize w.alloc (.cells #[.slice A n c, .slice B m d] 31) = w0 at *
 generalize hL : kidsTo ps a m = l at *
 have HL := Lib.hid hL
 clear hL
 have HLB := Lib.hid hlb
 clear hlb
 have hlm : (l.map fun k : Nat => (k : Int)).length = l.length := List.length_map ..
 go_wp2_with (go_at_call 92; refine KD.out.mono ?_; rintro e w1 ⟨v, rfl, ho, hb1⟩; obtain ⟨A9, c9, rfl⟩ := own_slice ho)
 have HO := Lib.hid ho
 have HB1 := Lib.hid hb1
 clear KD ho hb1
 have HLM := Lib.hid hlm
 clear hlm
 go_loopw [11] (fun i wr => ∃ k : Nat, k ≤ l.length ∧ i = .int .i64 k ∧ Hid (wr = w1) ∧ Hid (∀ i (_ : i < k) (hi : i < l.length), ¬ ks.getD l[i] 0 ≤ 2)) (fun i _ => l.length - (intOf i).toNat)
 case atStart => exact ⟨0, Nat.zero_le _, rfl, rfl, fun j hj _ => by omega⟩
 case round =>
  obtain ⟨k, hk, rfl, HW, HI⟩ := hrel
  have hw := HW.out
  subst hw
  by_cases hlk : k < l.length
  ·obtain ⟨g9, cc9, e9, _, hg9, _, hc9⟩ := own_form HO.out (by have := HLM.out; omega)
   injection e9 with e9 _ _
   subst e9
   have hx9 := hc9 k (.int .i64 (l[k] : Nat)) (by simp [icells, hlk])
   have hkl := HLB.out _ (List.getElem_mem hlk)
   obtain ⟨b, off, rfl, hb, hx, _⟩ := ints_cell S0.out.1 (k := l[k]) (by have := H1.out; omega)
   have hxk := (HB1.out.cell (p := ⟨b, off + l[k], none⟩) hb).trans hx
   have y0 := (HB1.out.cell (p := ⟨w.heap.size, 0, none⟩) hlt).trans x0
   have HH : Hid (ks.getD l[k] 0 ≤ 2 → riniL ks l = (l[k] : Nat)) := fun hh => riniL_hit hlk hh fun i hi => HI.out i hi (by omega)
   have HT : Hid (¬ ks.getD l[k] 0 ≤ 2 → ∀ i (_ : i < k + 1) (hi : i < l.length), ¬ ks.getD l[i] 0 ≤ 2) := fun hh i hi hil => by
    by_cases e : i = k
    ·subst e; exact hh
    ·exact HI.out i (by omega) hil
   clear hc9 hx HI
   generalize ks.getD l[k] 0 = z at *
   generalize l[k] = y at *
   have hyn : (y : Int) < n := by omega
   by_cases hz2 : z ≤ 2
   ·have HE := Lib.hid (HH.out hz2)
    clear HH HT
    go_wp2
    go_ret
    exact ⟨ret_int (by rw [HL.out]; exact HE.out.symm), below_then HZ.out HB1.out HZ.out.size⟩
   ·have HT2 := Lib.hid (HT.out hz2)
    clear HH HT
    go_wp2
    go_roundw
    case rel => exact ⟨k + 1, by omega, by go_num, Lib.hid trivial, HT2⟩
    case measure => simp [intOf]; omega
  ·have HE : Hid (riniL ks l = -1) := riniL_miss fun i hi => HI.out i (by omega) hi
   clear HI
   go_wp2
   go_ret
   exact ⟨ret_int (by rw [HL.out]; exact HE.out.symm), below_then HZ.out HB1.out HZ.out.size⟩
end
def insL (ps : List Int) (s : Nat) (t : Int) (n : Nat) : List Nat := (List.range n).filter fun k : Nat => s.testBit k && (decide ((k : Int) ≠ t) && undB ps k t)
theorem insL_succ (ps : List Int) (s : Nat) (t : Int) (k : Nat) : insL ps s t (k + 1) = if (s.testBit k && (decide ((k : Int) ≠ t) && undB ps k t)) = true then insL ps s t k ++ [k] else insL ps s t k := by
 unfold insL
 rw [List.range_succ, List.filter_append, List.filter_cons, List.filter_nil]
 split
 ·rfl
 ·rw [List.append_nil]
theorem insL_len (ps : List Int) (s : Nat) (t : Int) (k : Nat) : (insL ps s t k).length ≤ k := by
 have := List.length_filter_le (fun k : Nat => s.testBit k && (decide ((k : Int) ≠ t) && undB ps k t)) (List.range k)
 rw [List.length_range] at this
 exact this
theorem leave_ins (ps : List Int) (n s : Nat) (d : Int) : leaveL ps n s d = (insL ps s d n).reverse := by
 unfold leaveL insL
 rw [List.filter_reverse]
theorem hist_ins (ps : List Int) (n s : Nat) (p : Int) : ((List.range n).filter fun i : Nat => decide ((i : Int) ≠ p) && undB ps i p && s.testBit i) = insL ps s p n := by
 unfold insL
 apply List.filter_congr
 intro i _
 rw [Bool.and_comm]
def setN (l : List Nat) : Nat := l.foldl (fun s k => s ||| 2 ^ k) 0
theorem setN_snoc (l : List Nat) (k : Nat) : setN (l ++ [k]) = setN l ||| 2 ^ k := by unfold setN; rw [List.foldl_append]; rfl
theorem setN_bit (j : Nat) : ∀ l : List Nat, (setN l).testBit j = decide (j ∈ l) := by
 have key : ∀ (l : List Nat) (s : Nat), (l.foldl (fun s k => s ||| 2 ^ k) s).testBit j = (s.testBit j || decide (j ∈ l)) := by
  intro l
  induction l with
  | nil => intro s; simp
  | cons a r ih =>
   intro s
   rw [List.foldl_cons, ih, Nat.testBit_or, Nat.testBit_two_pow]
   by_cases e : a = j
   ·subst e; simp
   ·have e2 : decide (a = j) = false := decide_eq_false e
    rw [e2, Bool.or_false]
    congr 1
    rw [Bool.eq_iff_iff, decide_eq_true_eq, decide_eq_true_eq, List.mem_cons]
    constructor
    ·exact .inr
    ·rintro (h | h)
     ·exact absurd h.symm e
     ·exact h
 intro l
 unfold setN
 rw [key]; simp
theorem setN_lt {l : List Nat} {n : Nat} (h : ∀ k ∈ l, k < n) : setN l < 2 ^ n := by
 apply Nat.lt_pow_two_of_testBit
 intro i hi
 rw [setN_bit]
 exact decide_eq_false fun hm => by have := h i hm; omega
def OwnN (w : World) (base : Nat) (v : Value) (l : List Nat) : Prop := w.ownsRow base 3 1 v l.length (icells (l.map fun k : Nat => (k : Int)))
theorem OwnN.ints {w : World} {base : Nat} {v : Value} {l : List Nat} (h : OwnN w base v l) : OwnI w base v (l.map fun k : Nat => (k : Int)) := by
 unfold OwnI; rw [List.length_map]; exact h
theorem OwnN.of {w : World} {base : Nat} {v : Value} {l : List Nat} (h : OwnI w base v (l.map fun k : Nat => (k : Int))) : OwnN w base v l := by
 unfold OwnI at h; rw [List.length_map] at h; exact h
theorem OwnN.nil (w : World) (base : Nat) : OwnN w base (.slice none 0 0) [] := World.ownsRow_nil _ _ _ _
theorem OwnN.snoc {w : World} {base : Nat} {v : Value} {l l' : List Nat} {k : Nat} (e : l' = l ++ [k]) (h : w.ownsRow base 3 1 v (l.length + 1) (icells (l.map fun k : Nat => (k : Int)) ++ [.int .i64 (k : Int)])) : OwnN w base v l' := by
 subst e; unfold OwnN; rw [icells_snoc, List.length_append]; exact h
theorem U32sAt.below {w w' : World} {v : Value} {rs : List Nat} (h : U32sAt w v rs) (hb : Below w.heap.size w w') : U32sAt w' v rs := by
 obtain ⟨A, c, e, hl, hc⟩ := h
 refine ⟨A, c, e, hl, fun k hk => ?_⟩
 obtain ⟨b, off, e2, hlt, hx, hw⟩ := hc k hk
 exact ⟨b, off, e2, Nat.lt_of_lt_of_le hlt hb.size, (hb.cell (p := ⟨b, off + k, none⟩) hlt).trans hx, hw⟩
theorem u32s_form {w : World} {u : Value} {rs : List Nat} (h : U32sAt w u rs) : ∃ A c, u = .slice A rs.length c := let ⟨A, c, e, _⟩ := h; ⟨A, c, e⟩
theorem u32s_cell {w : World} {A : Option Addr} {n c : Nat} {rs : List Nat} (h : U32sAt w (.slice A n c) rs) {k : Nat} (hk : k < rs.length) : ∃ b off, A = some ⟨b, off, none⟩ ∧ b < w.heap.size ∧ w.cell? ⟨b, off + k, none⟩ = some (.int .u32 (rs.getD k 0 : Nat)) ∧ rs.getD k 0 < 4294967296 := by
 obtain ⟨A', c', e, hl, hc⟩ := h
 obtain ⟨b, off, e2, hb, hx, hw⟩ := hc k hk
 injection e with e1 _ _
 subst e1
 have e3 : rs.getD k 0 = rs[k] := by simp [List.getD_eq_getElem?_getD, List.getElem?_eq_getElem hk]
 rw [e3]
 exact ⟨b, off, e2, hb, hx, hw⟩
theorem u32s_lt {w : World} {u : Value} {rs : List Nat} (h : U32sAt w u rs) (k : Nat) : rs.getD k 0 < 4294967296 := by
 by_cases hk : k < rs.length
 ·obtain ⟨A, c, rfl⟩ := u32s_form h
  obtain ⟨_, _, _, _, _, h5⟩ := u32s_cell h hk
  exact h5
 ·rw [List.getD_eq_getElem?_getD, List.getElem?_eq_none (by omega)]; decide
theorem told_any (v : Value) (rs : List Nat) (k : Nat) (w : World) (hu : U32sAt w v rs) :
  Calls Tryz.prog 148 #[v, .int .i64 k] w fun e w' => e = .returned (.int .u32 (rs.getD k 0 : Nat)) ∧ w = w' := by
 obtain ⟨A, c, rfl⟩ := u32s_form hu
 by_cases hk : k < rs.length
 ·obtain ⟨b, off, rfl, hb, hx, _⟩ := u32s_cell hu hk
  have hki : (k : Int) < rs.length := by omega
  clear hu
  generalize rs.length = m at *
  generalize rs.getD k 0 = x at *
  go_enter Tryz.func148, Tryz.ntmps148
  go_wp2
  go_ret
  exact ⟨rfl, rfl⟩
 ·have HE : Hid (rs.getD k 0 = 0) := by show _ = _; rw [List.getD_eq_getElem?_getD, List.getElem?_eq_none (by omega)]; rfl
  have hki : ¬ (k : Int) < rs.length := by omega
  clear hu
  generalize rs.length = m at *
  generalize rs.getD k 0 = x at *
  go_enter Tryz.func148, Tryz.ntmps148
  go_wp2
  go_ret
  exact ⟨ret_int (by rw [HE.out]; rfl), rfl⟩
section
variable {ks ps : List Int} {A B : Option Addr} {n c d : Nat}
set_option maxHeartbeats 2000000 in
theorem inside_any (s : Nat) (t : Int) (w : World) (h : IntsAt w (.slice A n c) ks ∧ IntsAt w (.slice B n d) ps) (hf : ShF ks ps n) (hn : n ≤ 24) (hs : s < 4294967296) :
  Calls Tryz.prog 103 #[.agg #[.slice A n c, .slice B n d], .int .u32 s, .int .i64 t] w (KidsTo (insL ps s t n) w) := by
 obtain ⟨i0, hi, hz0, hz1, hz2⟩ := info_parts Tryz.infoInt
 have x0 := box_0 w 27 (.slice A n c) (.slice B n d)
 have x1 := box_1 w 27 (.slice A n c) (.slice B n d)
 have hz := box_b w (.cells #[.slice A n c, .slice B n d] 27)
 have hlt0 : w.heap.size < (w.alloc (.cells #[.slice A n c, .slice B n d] 27)).heap.size := by simp
 have S1 := Lib.hid (shp_below h hz)
 have HZ := Lib.hid hz
 have HF := Lib.hid hf
 clear h hz hf
 go_enter Tryz.func103, Tryz.ntmps103
 go_upto_region 1 with (fail)
 generalize w.alloc (.cells #[.slice A n c, .slice B n d] 27) = w0 at *
 have HA := Lib.hid (fun k W (hk : k < n) => hasE_any s k W hs (by omega))
 have PR := Lib.hid (fun W (hW : Below w0.heap.size w0 W) (k : Nat) (hk : k < n) => properly_any k t W (shp_below S1.out hW) HF.out (by omega) hk)
 go_wp2
 go_loopw [7, 12] (fun v i wr => ∃ k : Nat, k ≤ n ∧ i = .int .i64 k ∧ Hid (OwnN wr w0.heap.size v (insL ps s t k)) ∧ Hid (Below w0.heap.size w0 wr)) (fun _ i _ => n - (intOf i).toNat)
 case atStart => exact ⟨0, Nat.zero_le _, rfl, World.ownsRow_nil _ _ _ _, Below.refl _ _⟩
 case round =>
  obtain ⟨k, hk, rfl, HO, HB⟩ := hrel
  have hbz := HB.out.size
  by_cases hlt : k < n
  ·have z0 := (HB.out.cell (p := ⟨w.heap.size, 0, none⟩) hlt0).trans x0
   have z1 := (HB.out.cell (p := ⟨w.heap.size, 1, none⟩) hlt0).trans x1
   have hki : (k : Int) < n := by omega
   have hsn := insL_succ ps s t k
   have hln := insL_len ps s t k
   have HLN := Lib.hid hln
   have HK := Lib.hid (HA.out k wr hlt)
   have PK := Lib.hid (PR.out wr HB.out k hlt)
   obtain ⟨A5, c5, rfl⟩ := own_slice HO.out
   generalize (decide ((k : Int) ≠ t) && undB ps k t) = q at *
   generalize s.testBit k = b at *
   cases b
   ·rw [if_neg (by simp)] at hsn
    have HNw : Hid (OwnN wr w0.heap.size (.slice A5 (insL ps s t k).length c5) (insL ps s t (k + 1))) := by show OwnN _ _ _ _; rw [hsn]; exact HO.out
    clear hsn
    go_wp2_with (go_at_call 132; refine HK.out.mono ?_; rintro e w2 ⟨rfl, rfl⟩)
    go_roundw
    case rel => exact ⟨k + 1, by omega, by go_num, HNw, HB⟩
    case measure => simp [intOf]; omega
   ·cases q
    ·rw [if_neg (by simp)] at hsn
     have HNw : Hid (∀ W, Below wr.heap.size wr W → OwnN W w0.heap.size (.slice A5 (insL ps s t k).length c5) (insL ps s t (k + 1))) := fun W hW => by rw [hsn]; exact own_below HO.out hW hbz
     clear hsn
     go_wp2_with (first
      | (go_at_call 132; refine HK.out.mono ?_; rintro e w2 ⟨rfl, rfl⟩)
      | (go_at_call 108; refine PK.out.mono ?_; rintro e w3 ⟨rfl, hb3⟩))
     go_roundw
     case rel => exact ⟨k + 1, by omega, by go_num, HNw.out _ hb3, below_then HB.out hb3 hbz⟩
     case measure => simp [intOf]; omega
    ·rw [if_pos (by simp)] at hsn
     have HS := Lib.hid hsn
     clear hsn
     go_wp2_with (first
      | (go_at_call 132; refine HK.out.mono ?_; rintro e w2 ⟨rfl, rfl⟩)
      | (go_at_call 108; refine PK.out.mono ?_; rintro e w3 ⟨rfl, hb3⟩; have HO3 := Lib.hid (own_below HO.out hb3 hbz); have HB3 := Lib.hid (below_then HB.out hb3 hbz); have hbz3 := HB3.out.size; clear hb3)
      | (at_builtin; go_must (refine wpList_append_own _ rfl (.tmp 24) (.tmp 26) 22 rfl w0.heap.size 3 i0 _ 1 8 Tryz.underlying22 hi hz0 hz1 hz2 rfl (by decide) _ _ _ rfl (HO3.out.alloc _) ⟨w3.heap.size, 0, none⟩ 1 1 [.int .i64 k] rfl rfl (cells_new _ _ _) (by intro u hu; simp at hu; subst hu; rfl) (by have := HLN.out; unfold maxLen; omega) (by have := HLN.out; omega) (by have := HLN.out; simp; omega) ?_); intro v' w4 hown' hg' _))
     have hg2 : w3.grownBy w4 (Value.slice A5 (insL ps s t k).length c5).ownBlock := (World.grownBy_alloc _ _ _).andThen hg' (fun j e => .inr e)
     have HNw : Hid (OwnN w4 w0.heap.size v' (insL ps s t (k + 1))) := OwnN.snoc HS.out hown'
     have HB4 := Lib.hid (HB3.out.grown hg2 hbz3 (fun j e => (HO3.out.lt j e).1))
     clear hown' hg' hg2
     go_roundw
     case rel => exact ⟨k + 1, by omega, by go_num, HNw, HB4⟩
     case measure => simp [intOf]; omega
  ·have e : k = n := by omega
   subst e
   go_wp2
   go_ret
   exact kidsTo_mk rfl (OwnN.ints (own_mono2 HO.out (by omega))) (below_then HZ.out HB.out HZ.out.size)
set_option maxHeartbeats 1000000 in
theorem union_any (l : List Nat) (cap : Nat) (w : World) (h : IntsAt w (.slice A l.length cap) (l.map fun k : Nat => (k : Int))) (hl : ∀ k ∈ l, k < 32) :
  Calls Tryz.prog 106 #[.slice A l.length cap] w fun e w' => e = .returned (.int .u32 (setN l : Nat)) ∧ w = w' := by
 have HH := Lib.hid h
 have HL := Lib.hid hl
 have hll : l.length ≤ maxLen := by obtain ⟨_, _, _, hl, _⟩ := h; rwa [List.length_map] at hl
 unfold maxLen at hll
 clear h hl
 go_enter Tryz.func106, Tryz.ntmps106
 go_wp2
 go_loopw [3, 8] (fun x i wr => ∃ k : Nat, k ≤ l.length ∧ i = .int .i64 k ∧ x = .int .u32 (setN (l.take k) : Nat) ∧ wr = w) (fun _ i _ => l.length - (intOf i).toNat)
 case atStart => exact ⟨0, Nat.zero_le _, rfl, rfl, rfl⟩
 case round =>
  obtain ⟨k, hk, rfl, rfl, rfl⟩ := hrel
  by_cases hlt : k < l.length
  ·have hki : (k : Int) < l.length := by omega
   obtain ⟨b, off, rfl, hb, hx, _⟩ := ints_cell HH.out (k := k) (by rw [List.length_map]; exact hlt)
   have eg : (l.map fun k : Nat => (k : Int)).getD k 0 = (l[k] : Nat) := by simp [List.getD_eq_getElem?_getD, hlt]
   rw [eg] at hx
   have hj := HL.out _ (List.getElem_mem hlt)
   have h1 : setN (l.take (k + 1)) = setN (l.take k) ||| 2 ^ l[k] := by
    rw [List.take_succ_eq_append_getElem hlt, setN_snoc]
   have hS : setN (l.take k) < 4294967296 := setN_lt (n := 32) fun j hj => HL.out j (List.mem_of_mem_take hj)
   have h2 := two_lt (k := l[k]) hj
   have hor := u32_or_nat (setN (l.take k)) (2 ^ l[k]) hS h2
   have hsh := two_val (i := l[k]) hj
   have HE := Lib.hid h1
   clear h1 eg
   generalize 2 ^ l[k] = p at *
   generalize l[k] = j at *
   generalize setN (l.take k) = s0 at *
   go_wp2
   go_roundw
   case rel => exact ⟨k + 1, by omega, by go_num, by rw [HE.out], trivial⟩
   case measure => simp [intOf]; omega
  ·have e : k = l.length := by omega
   subst e
   rw [List.take_length]
   go_wp2
   go_ret
   exact ⟨rfl, rfl⟩
end
theorem own_cells {w : World} {base : Nat} {g n c : Nat} {L : List Nat} (h : OwnN w base (.slice (some ⟨g, 0, none⟩) n c) L) : ∀ j u, (icells (L.map fun k : Nat => (k : Int)))[j]? = some u → w.cell? ((⟨g, 0, none⟩ : Addr).add j) = some u := fun j u hu => by
 have h0 : 0 < L.length := by
  have := (List.getElem?_eq_some_iff.1 hu).1
  rw [icells_length, List.length_map] at this
  omega
 obtain ⟨g', cap, e, _, _, _, hc⟩ := own_form h h0
 injection e with e1 _ _
 injection e1 with e1
 rw [e1, Go.WideShapes.add_plain, Nat.zero_add]
 injection e1 with e1
 exact hc j u hu
theorem wpList_append_nn {w : World} {ops : Array Oper} {rest : List Oper} {o : Oper} {a : Act} {Q : Exit → Act → World → Prop} (hgd : o.guard = none) (s x : Operand)
  (ho : o.op = .call { callee := .builtin .append, args := #[s, x], argTypes := #[22, 22] })
  {base base' : Nat} {v u : Value} {L M : List Nat} (hs : a.eval s = v) (hown : OwnN w base v L) (hx : a.eval x = u) (hu : OwnN w base' u M)
  (hlen : L.length + M.length ≤ 1000) (hbase : base ≤ w.heap.size)
  (h : ∀ v' w', OwnN w' base v' (L ++ M) → w.grownBy w' v.ownBlock → wpList Tryz.prog ops Q rest (a.put o.dst v') w') : wpList Tryz.prog ops Q (o :: rest) a w := by
 obtain ⟨i0, hi, hz0, hz1, hz2⟩ := info_parts Tryz.infoInt
 have hic : (icells (M.map fun k : Nat => (k : Int))).length = M.length := by rw [icells_length, List.length_map]
 obtain ⟨A9, c9, rfl⟩ := own_slice hu
 cases A9 with
 | none =>
  have h0 := own_none hu
  have e : M = [] := List.eq_nil_of_length_eq_zero h0.1
  subst e
  obtain rfl : c9 = 0 := h0.2
  refine wpList_append_own_none hgd s x 22 ho base 3 i0 1 Tryz.underlying22 hi v L.length _ hs hown hx ?_
  refine h v w ?_ ⟨rfl, rfl, rfl, Nat.le_refl _, fun _ _ _ => rfl⟩
  rw [List.append_nil]; exact hown
 | some ad =>
  obtain ⟨g, rfl⟩ := own_some hu
  refine wpList_append_own _ hgd s x 22 ho base 3 i0 _ 1 8 Tryz.underlying22 hi hz0 hz1 hz2 rfl (by decide) v L.length _ hs hown ⟨g, 0, none⟩ M.length c9 _ hx (by rw [hic, Nat.mul_one]) (own_cells hu) (icells_one _) (by unfold maxLen; omega) (by omega) hbase ?_
  intro v' w' h1 h2 _
  refine h v' w' ?_ h2
  unfold OwnN
  rw [List.length_append, List.map_append]
  unfold icells at *
  rw [List.map_append]
  exact h1
theorem one_own (w : World) (base : Nat) (k : Nat) (hb : base ≤ w.heap.size) : OwnN (w.alloc (.cells #[.int .i64 (k : Int)] 3)) base (.slice (some ⟨w.heap.size, 0, none⟩) 1 1) [k] :=
 World.ownsRow_lit w #[.int .i64 (k : Int)] 1 hb (by unfold maxLen; omega) rfl
theorem nat_ints {w : World} {base c : Nat} {A : Option Addr} {l : List Nat} (h : OwnN w base (.slice A l.length c) l) (hk : ∀ k ∈ l, k < 1000) (hl : l.length ≤ 1000) : IntsAt w (.slice A l.length c) (l.map fun k : Nat => (k : Int)) := by
 have h1 := h.ints
 have e : (l.map fun k : Nat => (k : Int)).length = l.length := List.length_map ..
 rw [← e] at h1 ⊢
 refine ints_of_own h1 (fun x hx => ?_) (by rw [e]; exact hl)
 obtain ⟨k, hm, rfl⟩ := List.mem_map.1 hx
 have := hk k hm
 have e2 : IntKind.i64.wrap (k : Int) = k := by rw [IntKind.wrap_i64]; omega
 simp only [Lit.wf, e2]
 simp
 have e3 : IntKind.i64.max = 9223372036854775807 := by kernel_rfl
 have e4 : IntKind.i64.min = -9223372036854775808 := by kernel_rfl
 omega
theorem nat_cell {w : World} {A : Option Addr} {n c : Nat} {l : List Nat} (h : IntsAt w (.slice A n c) (l.map fun k : Nat => (k : Int))) {j : Nat} (hj : j < l.length) :
  ∃ b off, A = some ⟨b, off, none⟩ ∧ b < w.heap.size ∧ w.cell? ⟨b, off + j, none⟩ = some (.int .i64 (l[j] : Nat)) := by
 obtain ⟨b, off, e, hb, hx, _⟩ := ints_cell h (k := j) (by rw [List.length_map]; exact hj)
 refine ⟨b, off, e, hb, ?_⟩
 rw [hx]; simp [List.getD_eq_getElem?_getD, hj]
section
variable {ks ps : List Int} {A B : Option Addr} {n c d : Nat}
def lastL (ks ps : List Int) (n s : Nat) (p : Int) : Int := match (kidsTo ps p n).find? fun k => s.testBit k && hl ks k with
 | some k => k
 | none => iniTo ks ps p n
theorem last_hit {s : Nat} {p : Int} {l : List Nat} (e : kidsTo ps p n = l) {j : Nat} (hj : j < l.length) (h : (s.testBit l[j] && hl ks l[j]) = true) (hn : ∀ i (hi : i < j), (s.testBit l[i] && hl ks l[i]) = false) : lastL ks ps n s p = (l[j] : Nat) := by
 unfold lastL
 have : (kidsTo ps p n).find? (fun k => s.testBit k && hl ks k) = some l[j] := by
  subst e
  rw [List.find?_eq_some_iff_getElem]
  exact ⟨h, j, hj, rfl, fun i hi => by simp [hn i hi]⟩
 rw [this]
theorem last_miss {s : Nat} {p : Int} {l : List Nat} (e : kidsTo ps p n = l) (hn : ∀ i (hi : i < l.length), (s.testBit l[i] && hl ks l[i]) = false) : lastL ks ps n s p = iniTo ks ps p n := by
 unfold lastL
 have : (kidsTo ps p n).find? (fun k => s.testBit k && hl ks k) = none := by
  subst e
  rw [List.find?_eq_none]
  intro k hk
  obtain ⟨i, hi, rfl⟩ := List.getElem_of_mem hk
  rw [hn i hi]; simp
 rw [this]
set_option maxHeartbeats 2000000 in
theorem last_any (p : Nat) (v : Value) (rs : List Nat) (w : World) (h : IntsAt w (.slice A n c) ks ∧ IntsAt w (.slice B n d) ps) (hf : ShF ks ps n) (hn : n ≤ 24) (hu : U32sAt w v rs) :
  Calls Tryz.prog 135 #[.agg #[.slice A n c, .slice B n d], .int .i64 p, v] w fun e w' => e = .returned (.int .i64 (lastL ks ps n (rs.getD p 0) p)) ∧ Below w.heap.size w w' := by
 obtain ⟨A7, c7, rfl⟩ := u32s_form hu
 have x0 := box_0 w 27 (.slice A n c) (.slice B n d)
 have x1 := box_1 w 27 (.slice A n c) (.slice B n d)
 have hz := box_b w (.cells #[.slice A n c, .slice B n d] 27)
 have hlt0 : w.heap.size < (w.alloc (.cells #[.slice A n c, .slice B n d] 27)).heap.size := by simp
 have S1 := Lib.hid (shp_below h hz)
 have HU := Lib.hid (hu.below hz)
 have HZ := Lib.hid hz
 have HF := Lib.hid hf
 have hs32 := u32s_lt hu p
 have hsz : szN ks ps = n := by unfold szN; rw [hf.kl, hf.pl]; omega
 clear h hz hf hu
 go_enter Tryz.func135, Tryz.ntmps135
 go_upto_region 1 with (fail)
 generalize w.alloc (.cells #[.slice A n c, .slice B n d] 27) = w0 at *
 have TO := Lib.hid (told_any _ rs p w0 HU.out)
 have KD := Lib.hid (fun W (hW : Below w0.heap.size w0 W) => Kids_any ks ps A B n c n d W p (shp_below S1.out hW) HF.out.kl.symm HF.out.pl.symm (by omega) (by omega))
 have IN := Lib.hid (fun W (hW : Below w0.heap.size w0 W) => Initial_any ks ps A B n c n d W p (shp_below S1.out hW) HF.out.kl.symm HF.out.pl.symm (by omega) (by omega))
 rw [hsz] at KD IN
 clear hsz
 have HA := Lib.hid (fun k W (hk : k < n) => hasE_any (rs.getD p 0) k W hs32 (by omega))
 have LH := Lib.hid (fun l e j hj h hn => last_hit (ks := ks) (ps := ps) (n := n) (s := rs.getD p 0) (p := p) (l := l) e (j := j) hj h hn)
 have LM := Lib.hid (fun l e hn => last_miss (ks := ks) (ps := ps) (n := n) (s := rs.getD p 0) (p := p) (l := l) e hn)
 generalize hs0 : rs.getD p 0 = s at *
 have HS0 := Lib.hid hs0
 clear hs0
 have hmem : Hid (∀ k ∈ kidsTo ps p n, k < n) := fun k hk => (mem_kidsTo.1 hk).1
 have hlen := kidsTo_len ps p n
 generalize hl0 : kidsTo ps p n = l at *
 have HL0 := Lib.hid hl0
 clear hl0
 go_wp2_with (first
  | (go_at_call 148; refine TO.out.mono ?_; rintro e w1 ⟨rfl, rfl⟩)
  | (go_at_call 131; refine (KD.out _ (Below.refl _ _)).mono ?_; rintro e w2 ⟨v2, rfl, hO, hb2⟩; obtain ⟨A9, c9, rfl⟩ := own_slice hO; rw [List.length_map]; rw [List.length_map] at hO))
 have I2 := Lib.hid (nat_ints (OwnN.of hO) (fun k hk => by have := hmem.out k hk; omega) (by omega))
 have HB2 := Lib.hid hb2
 have hbz2 := hb2.size
 clear hO hb2 TO KD
 go_loopw [17] (fun i wr => ∃ j : Nat, j ≤ l.length ∧ i = .int .i64 j ∧ Hid (∀ i (hi : i < l.length), i < j → (s.testBit l[i] && hl ks l[i]) = false) ∧ wr = w2) (fun i _ => l.length - (intOf i).toNat)
 case atStart => exact ⟨0, Nat.zero_le _, rfl, fun i hi h => by omega, rfl⟩
 case round =>
  obtain ⟨j, hj, rfl, HN, rfl⟩ := hrel
  have z0 := (HB2.out.cell (p := ⟨w.heap.size, 0, none⟩) hlt0).trans x0
  have z1 := (HB2.out.cell (p := ⟨w.heap.size, 1, none⟩) hlt0).trans x1
  by_cases hlt : j < l.length
  ·have hji : (j : Int) < l.length := by omega
   obtain ⟨b9, off9, rfl, hb9, hx9⟩ := nat_cell I2.out hlt
   have hk := hmem.out _ (List.getElem_mem hlt)
   obtain ⟨b, off, rfl, hb, hx, _⟩ := ints_cell (shp_below S1.out HB2.out).1 (k := l[j]) (by rw [HF.out.kl]; exact hk)
   have hki : (l[j] : Int) < n := by omega
   have HK := Lib.hid (HA.out l[j] wr hk)
   have hkd := HF.out.kd l[j] hk
   have HH : Hid (hl ks l[j] = (ks.getD l[j] 0 == 1 || ks.getD l[j] 0 == 2)) := rfl
   have HNX : Hid ((s.testBit l[j] && hl ks l[j]) = false → ∀ i (hi : i < l.length), i < j + 1 → (s.testBit l[i] && hl ks l[i]) = false) := fun hh i hi hij => by
    by_cases e : i = j
    ·subst e; exact hh
    ·exact HN.out i hi (by omega)
   have HHT : Hid ((s.testBit l[j] && hl ks l[j]) = true → lastL ks ps n s p = (l[j] : Nat)) := fun hh => LH.out l rfl j hlt hh (fun i hi => HN.out i (by omega) hi)
   clear HN LH LM
   generalize hs9 : s.testBit l[j] = bt at *
   clear hs9
   generalize hl ks l[j] = hb3 at *
   generalize ks.getD l[j] 0 = z at *
   generalize l[j] = k at *
   have hcases : bt = false ∨ (bt = true ∧ z = 3) ∨ (bt = true ∧ z = 4) ∨ (bt = true ∧ z ≠ 3 ∧ z ≠ 4) := by
    cases bt
    ·exact .inl rfl
    ·by_cases h3 : z = 3
     ·exact .inr (.inl ⟨rfl, h3⟩)
     ·by_cases h4 : z = 4
      ·exact .inr (.inr (.inl ⟨rfl, h4⟩))
      ·exact .inr (.inr (.inr ⟨rfl, h3, h4⟩))
   rcases hcases with rfl | ⟨rfl, rfl⟩ | ⟨rfl, rfl⟩ | ⟨rfl, h3, h4⟩
   ·have HX := Lib.hid (HNX.out rfl)
    clear HNX HHT
    go_wp2_with (go_at_call 132; refine HK.out.mono ?_; rintro e w3 ⟨rfl, rfl⟩)
    go_roundw
    case rel => exact ⟨j + 1, by omega, by go_num, HX, trivial⟩
    case measure => simp [intOf]; omega
   ·have HX := Lib.hid (HNX.out (by rw [HH.out]; decide))
    clear HNX HHT HH
    go_wp2_with (go_at_call 132; refine HK.out.mono ?_; rintro e w3 ⟨rfl, rfl⟩)
    go_roundw
    case rel => exact ⟨j + 1, by omega, by go_num, HX, trivial⟩
    case measure => simp [intOf]; omega
   ·have HX := Lib.hid (HNX.out (by rw [HH.out]; decide))
    clear HNX HHT HH
    go_wp2_with (go_at_call 132; refine HK.out.mono ?_; rintro e w3 ⟨rfl, rfl⟩)
    go_roundw
    case rel => exact ⟨j + 1, by omega, by go_num, HX, trivial⟩
    case measure => simp [intOf]; omega
   ·have HX := Lib.hid (HHT.out (by
     rw [HH.out]
     have : z = 1 ∨ z = 2 := by omega
     rcases this with rfl | rfl <;> decide))
    have g3 : (z != 3) = true := by simpa using h3
    have g4 : (z != 4) = true := by simpa using h4
    clear HNX HHT HH
    go_wp2_with (go_at_call 132; refine HK.out.mono ?_; rintro e w3 ⟨rfl, rfl⟩)
    go_ret
    exact ⟨ret_int (by rw [HS0.out]; exact HX.out.symm), below_then HZ.out HB2.out HZ.out.size⟩
  ·have HX := Lib.hid (LM.out l rfl (fun i hi => HN.out i hi (by omega)))
   clear HN LH LM
   go_wp2_with (go_at_call 114; refine (IN.out _ HB2.out).mono ?_; rintro e w3 ⟨rfl, hb3⟩)
   go_ret
   exact ⟨ret_int (by rw [HS0.out]; exact HX.out.symm), below_then HZ.out (below_then HB2.out hb3 HB2.out.size) HZ.out.size⟩
end
end Go.Proofs.YtaoinedndnleoaaGreat
