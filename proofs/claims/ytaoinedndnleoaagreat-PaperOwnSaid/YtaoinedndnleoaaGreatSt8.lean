import Derived.Test.YtaoinedndnleoaaGreatSt1
import Derived.Test.YtaoinedndnleoaaGreatSt4
import Derived.Test.YtaoinedndnleoaaGreatCh9
import Derived.Deep.RegionHeld3
namespace Go.Proofs.YtaoinedndnleoaaGreat
set_option maxRecDepth 100000
open Go.ChangeShapes Go.WideShapes Go.ChangeAt Go.RowKit
def levF (ps : List Int) : Nat → Nat → Nat
 | 0, _ => 0
 | f + 1, k => if ps.getD k 0 < 0 then 0 else levF ps f (ps.getD k 0).toNat + 1
def levN (ps : List Int) (k : Nat) : Nat := levF ps (k + 1) k
section
variable {ks ps : List Int} {n : Nat}
theorem levF_stab (h : ShF ks ps n) : ∀ (f f' k : Nat), k < f → k < f' → k < n → levF ps f k = levF ps f' k
 | 0, _, k, h1, _, _ => by omega
 | _ + 1, 0, k, _, h1, _ => by omega
 | f + 1, f' + 1, k, h1, h2, hk => by
  unfold levF
  have := h.pa k hk
  split
  ·rfl
  ·rw [levF_stab h f f' _ (by omega) (by omega) (by omega)]
theorem levN_top {k : Nat} (h : ps.getD k 0 < 0) : levN ps k = 0 := by unfold levN levF; rw [if_pos h]
theorem levN_up (h : ShF ks ps n) {k q : Nat} (hk : k < n) (e : ps.getD k 0 = q) : levN ps k = levN ps q + 1 := by
 have hp := h.pa k hk
 unfold levN
 rw [levF, if_neg (by omega), e, Int.toNat_natCast, levF_stab h k (q + 1) q (by omega) (by omega) (by omega)]
theorem levN_le (h : ShF ks ps n) : ∀ k, k < n → levN ps k ≤ k := by
 intro k
 induction k using Nat.strongRecOn with
 | ind k ih =>
  intro hk
  have hp := h.pa k hk
  by_cases h0 : ps.getD k 0 < 0
  ·rw [levN_top h0]; omega
  ·obtain ⟨q, e⟩ : ∃ q : Nat, ps.getD k 0 = q := ⟨(ps.getD k 0).toNat, by omega⟩
   rw [levN_up h hk e]
   have := ih q (by omega) (by omega)
   omega
end
section
variable {ks ps : List Int} {A B : Option Addr} {n c d : Nat}
set_option maxHeartbeats 2000000 in
theorem Level_any (k : Nat) (w : World) (h : IntsAt w (.slice A n c) ks ∧ IntsAt w (.slice B n d) ps) (hf : ShF ks ps n) (hn : n ≤ 100) (hk : k < n) :
  Calls Tryz.prog 48 #[.agg #[.slice A n c, .slice B n d], .int .i64 k] w fun e w' => e = .returned (.int .i64 (levN ps k : Nat)) ∧ Below w.heap.size w w' := by
 have x0 := box_0 w 27 (.slice A n c) (.slice B n d)
 have x1 := box_1 w 27 (.slice A n c) (.slice B n d)
 have hz := box_b w (.cells #[.slice A n c, .slice B n d] 27)
 have hlt0 : w.heap.size < (w.alloc (.cells #[.slice A n c, .slice B n d] 27)).heap.size := by simp
 have S1 := Lib.hid (shp_below h hz)
 have HZ := Lib.hid hz
 have HF := Lib.hid hf
 have hpk := hf.pa k hk
 clear h hz hf
 go_enter Tryz.func48, Tryz.ntmps48
 go_upto_region 1 with (fail)
 generalize w.alloc (.cells #[.slice A n c, .slice B n d] 27) = w0 at *
 have TH := Lib.hid (fun W => there_any (A := A) (B := B) (c := c) (d := d) k W hn hk)
 have PA := Lib.hid (fun W (hW : Below w0.heap.size w0 W) (q : Nat) (hq : q < n) => parent_any ps A B n c n d q W (shp_below S1.out hW).2 HF.out.pl.symm hq (by omega))
 have hpar : ∀ q, q < n → par ps q = ps.getD q 0 := fun q hq => by have := HF.out.pa q hq; unfold par; omega
 have HPAR := Lib.hid hpar
 clear hpar
 go_upto_region 4 with (go_at_call 82; refine (TH.out _).mono ?_; rintro e w1 ⟨rfl, hb1⟩; have HB1 := Lib.hid hb1; have y0 := (hb1.cell (p := ⟨w.heap.size, 0, none⟩) hlt0).trans x0; have y1 := (hb1.cell (p := ⟨w.heap.size, 1, none⟩) hlt0).trans x1; clear hb1)
 have hp0 := HPAR.out k hk
 have PAk := Lib.hid (PA.out w1 HB1.out k hk)
 rw [hp0] at PAk
 go_upto_region 5 with (go_at_call 83; refine PAk.out.mono ?_; rintro e w2 ⟨rfl, hb2⟩; have HB2 := Lib.hid (below_then HB1.out hb2 HB1.out.size); clear hb2)
 clear y0 y1 hp0 PAk
 go_loopw [1, 5] (fun a m wr => ∃ (z : Int) (j : Nat), a = .int .i64 z ∧ m = .int .i64 (j : Nat) ∧ Hid (-1 ≤ z ∧ z < n) ∧ Hid (z < 0 → levN ps k = j) ∧ Hid (0 ≤ z → levN ps k = j + 1 + levN ps z.toNat) ∧ Hid (Below w0.heap.size w0 wr)) (fun a _ _ => (intOf a + 1).toNat)
 case atStart =>
  refine ⟨ps.getD k 0, 0, by simp, rfl, (show -1 ≤ _ ∧ _ < _ by omega), fun h0 => levN_top h0, fun h0 => ?_, HB2.out⟩
  rw [levN_up HF.out hk (q := (ps.getD k 0).toNat) (by omega)]; omega
 case round =>
  obtain ⟨z, j, rfl, rfl, HZR, HN, HP, HB⟩ := hrel
  have hzr := HZR.out
  by_cases h0 : z < 0
  ·have HE := Lib.hid (HN.out h0)
   have hz1 : z = -1 := by omega
   subst hz1
   go_wp2
   go_ret
   exact ⟨ret_int (by rw [HE.out]), below_then HZ.out HB.out HZ.out.size⟩
  ·obtain ⟨q, rfl⟩ : ∃ q : Nat, z = q := ⟨z.toNat, by omega⟩
   have hqn : q < n := by omega
   have hlv := HP.out (by omega)
   rw [Int.toNat_natCast] at hlv
   have hpq := HF.out.pa q hqn
   have PAq := Lib.hid (PA.out wr HB.out q hqn)
   rw [HPAR.out q hqn] at PAq
   have hq0 : (0 : Int) ≤ q := by omega
   have y0 := (HB.out.cell (p := ⟨w.heap.size, 0, none⟩) hlt0).trans x0
   have y1 := (HB.out.cell (p := ⟨w.heap.size, 1, none⟩) hlt0).trans x1
   have hjl : j < 100 := by have := levN_le HF.out k hk; omega
   have HLV := Lib.hid hlv
   clear hlv HP HN HZR hzr h0
   go_wp2_with (go_at_call 83; refine PAq.out.mono ?_; rintro e w3 ⟨rfl, hb3⟩)
   go_roundw
   case rel =>
    refine ⟨ps.getD q 0, j + 1, by simp, by go_num, (show -1 ≤ _ ∧ _ < _ by omega), fun h9 => ?_, fun h9 => ?_, below_then HB.out hb3 HB.out.size⟩
    ·rw [HLV.out, levN_top h9]
    ·rw [HLV.out, levN_up HF.out hqn (q := (ps.getD q 0).toNat) (by omega)]; omega
   case measure =>
    have eg : ps[q]?.getD 0 = ps.getD q 0 := by rw [List.getD_eq_getElem?_getD]
    simp [intOf]; omega
end
def insD (lv : Nat → Nat) (x : Nat) : List Nat → List Nat
 | [] => [x]
 | a :: r => if (a :: r).all (fun y => decide (lv y < lv x)) then x :: a :: r else a :: insD lv x r
def sortD (lv : Nat → Nat) (l : List Nat) : List Nat := l.foldl (fun out x => insD lv x out) []
theorem sortD_snoc (lv : Nat → Nat) (l : List Nat) (x : Nat) : sortD lv (l ++ [x]) = insD lv x (sortD lv l) := by unfold sortD; rw [List.foldl_append]; rfl
theorem insD_len (lv : Nat → Nat) (x : Nat) : ∀ l, (insD lv x l).length = l.length + 1
 | [] => rfl
 | a :: r => by rw [insD]; split <;> simp [insD_len lv x r]
theorem foldD_len (lv : Nat → Nat) : ∀ (l out : List Nat), (l.foldl (fun out x => insD lv x out) out).length = out.length + l.length
 | [], _ => rfl
 | x :: l, out => by rw [List.foldl_cons, foldD_len lv l, insD_len, List.length_cons]; omega
theorem sortD_len (lv : Nat → Nat) (l : List Nat) : (sortD lv l).length = l.length := by unfold sortD; rw [foldD_len]; simp
theorem insD_spot (lv : Nat → Nat) (x : Nat) : ∀ (P B : List Nat), (∀ y ∈ B, lv y < lv x) → (∀ a, P.getLast? = some a → ¬ lv a < lv x) → insD lv x (P ++ B) = P ++ x :: B
 | [], B, hB, _ => by
  cases B with
  | nil => rfl
  | cons b r => rw [List.nil_append, insD, if_pos (List.all_eq_true.2 fun y hy => decide_eq_true (hB y hy))]; rfl
 | a :: P, B, hB, hP => by
  have hnot : ¬ ((a :: (P ++ B)).all fun y => decide (lv y < lv x)) = true := fun h => by
   rw [List.all_eq_true] at h
   cases hl : (a :: P).getLast? with
   | none => simp at hl
   | some z =>
    have hz : z ∈ a :: P := List.mem_of_getLast? hl
    have hz2 : z ∈ a :: (P ++ B) := by
     rcases List.mem_cons.1 hz with e | e
     ·exact List.mem_cons.2 (.inl e)
     ·exact List.mem_cons.2 (.inr (List.mem_append.2 (.inl e)))
    exact hP z hl (of_decide_eq_true (h z hz2))
  rw [List.cons_append, insD, if_neg hnot, insD_spot lv x P B hB (fun z hz => by
   cases P with
   | nil => simp at hz
   | cons b r => exact hP z (by rw [List.getLast?_cons_cons]; exact hz))]
  rfl
theorem insD_mem (lv : Nat → Nat) (x y : Nat) : ∀ l, y ∈ insD lv x l ↔ y = x ∨ y ∈ l
 | [] => by simp [insD]
 | a :: r => by
  rw [insD]
  split
  ·simp
  ·rw [List.mem_cons, insD_mem lv x y r, List.mem_cons]
   constructor
   ·rintro (h | h | h)
    ·exact .inr (.inl h)
    ·exact .inl h
    ·exact .inr (.inr h)
   ·rintro (h | h | h)
    ·exact .inr (.inl h)
    ·exact .inl h
    ·exact .inr (.inr h)
theorem foldD_mem (lv : Nat → Nat) (y : Nat) : ∀ (l out : List Nat), y ∈ l.foldl (fun out x => insD lv x out) out ↔ y ∈ out ∨ y ∈ l
 | [], out => by simp
 | x :: l, out => by
  rw [List.foldl_cons, foldD_mem lv y l, insD_mem, List.mem_cons]
  constructor
  ·rintro ((h | h) | h)
   ·exact .inr (.inl h)
   ·exact .inl h
   ·exact .inr (.inr h)
  ·rintro (h | h | h)
   ·exact .inl (.inr h)
   ·exact .inl (.inl h)
   ·exact .inr h
theorem sortD_mem (lv : Nat → Nat) (l : List Nat) (y : Nat) : y ∈ sortD lv l ↔ y ∈ l := by unfold sortD; rw [foldD_mem]; simp
structure ChW (W : World) (c : Ch) (n : Nat) (AK AP AT : Option Addr) (cK cP cT : Nat) : Prop where
 kp : IntsAt W (.slice AK n cK) c.kinds ∧ IntsAt W (.slice AP n cP) c.parents
 tr : TAt W AT c.trans
 tc : c.trans.length ≤ cT
 tl : c.trans.length ≤ 48
 sh : ShF c.kinds c.parents n
 n0 : 0 < n
 nn : n ≤ 24
 ft : ∀ t ∈ c.trans, ∃ f g : Nat, t.from_ = f ∧ f < n ∧ t.to_ = g ∧ g < n
theorem ChW.below {W W' : World} {c : Ch} {n : Nat} {AK AP AT : Option Addr} {cK cP cT : Nat} (h : ChW W c n AK AP AT cK cP cT) (hb : Below W.heap.size W W') : ChW W' c n AK AP AT cK cP cT :=
 ⟨⟨h.kp.1.below hb, h.kp.2.below hb⟩, h.tr.below hb, h.tc, h.tl, h.sh, h.n0, h.nn, h.ft⟩
def frT (c : Ch) (i : Nat) : Nat := match c.trans[i]? with
 | some t => t.from_.toNat
 | none => 0
def toT (c : Ch) (i : Nat) : Nat := match c.trans[i]? with
 | some t => t.to_.toNat
 | none => 0
def lvT (c : Ch) (i : Nat) : Nat := levN c.parents (frT c i)
theorem frT_at {c : Ch} {i : Nat} (h : i < c.trans.length) {f : Nat} (e : c.trans[i].from_ = f) : frT c i = f := by
 unfold frT; rw [List.getElem?_eq_getElem h]; show (c.trans[i].from_).toNat = f; rw [e]; rfl
theorem toT_at {c : Ch} {i : Nat} (h : i < c.trans.length) {f : Nat} (e : c.trans[i].to_ = f) : toT c i = f := by
 unfold toT; rw [List.getElem?_eq_getElem h]; show (c.trans[i].to_).toNat = f; rw [e]; rfl
def cmpZ (x y : Nat) : Int := if x < y then -1 else if y < x then 1 else 0
theorem isNaN_any (x : Int) (w : World) : Calls Tryz.prog 81 #[.int .i64 x] w fun e w' => e = .returned (.bool false) ∧ w = w' := by
 have h : (x != x) = false := by simp
 go_enter Tryz.func81, Tryz.ntmps81
 go_wp2
 go_ret
 exact ⟨rfl, rfl⟩
theorem cmpC_any (x y : Nat) (w : World) : Calls Tryz.prog 47 #[.int .i64 x, .int .i64 y] w fun e w' => e = .returned (.int .i64 (cmpZ x y)) ∧ w = w' := by
 have HE : Hid (cmpZ x y = if x < y then -1 else if y < x then 1 else 0) := rfl
 generalize cmpZ x y = z at *
 rcases Nat.lt_trichotomy x y with h | h | h
 ·have hi : (x : Int) < y := by omega
  rw [if_pos h] at HE
  clear h
  go_enter Tryz.func47, Tryz.ntmps47
  go_wp2_with (go_at_call 81; refine (isNaN_any _ _).mono ?_; rintro e w2 ⟨rfl, rfl⟩)
  go_ret
  exact ⟨ret_int HE.out.symm, rfl⟩
 ·subst h
  rw [if_neg (by omega), if_neg (by omega)] at HE
  go_enter Tryz.func47, Tryz.ntmps47
  go_wp2_with (go_at_call 81; refine (isNaN_any _ _).mono ?_; rintro e w2 ⟨rfl, rfl⟩)
  go_ret
  exact ⟨ret_int HE.out.symm, rfl⟩
 ·have hi : ¬ (x : Int) < y := by omega
  have hi2 : (y : Int) < x := by omega
  rw [if_neg (by omega), if_pos h] at HE
  clear h
  go_enter Tryz.func47, Tryz.ntmps47
  go_wp2_with (go_at_call 81; refine (isNaN_any _ _).mono ?_; rintro e w2 ⟨rfl, rfl⟩)
  go_ret
  exact ⟨ret_int HE.out.symm, rfl⟩
set_option maxHeartbeats 4000000 in
theorem cmpT_any (c : Ch) (n : Nat) (AN AK AP AT : Option Addr) (cN cK cP cT gc a b : Nat) (w : World) (h : ChW w c n AK AP AT cK cP cT) (ha : a < c.trans.length) (hb : b < c.trans.length)
  (hc : w.heap[gc]? = some (.cells #[.slice AN c.names.length cN, .slice AK n cK, .slice AP n cP, .slice AT c.trans.length cT] 30 (0, 0))) :
  Calls Tryz.prog 46 #[.int .i64 a, .int .i64 b, .pointer (some ⟨gc, 0, none⟩)] w fun e w' => e = .returned (.int .i64 (cmpZ (lvT c b) (lvT c a))) ∧ Below w.heap.size w w' := by
 obtain ⟨fa, ta, ea, hfa, _, _⟩ := h.ft _ (List.getElem_mem ha)
 obtain ⟨fb, tb, eb, hfb, _, _⟩ := h.ft _ (List.getElem_mem hb)
 obtain ⟨gT, rfl, hgT, hca⟩ := h.tr a ha
 obtain ⟨gT', eT, _, hcb⟩ := h.tr b hb
 injection eT with eT
 injection eT with eT
 subst eT
 have ra := hca 1 (.int .i64 c.trans[a].from_) (by omega) rfl
 have rb := hcb 1 (.int .i64 c.trans[b].from_) (by omega) rfl
 rw [ea] at ra
 rw [eb] at rb
 have hlva : lvT c a = levN c.parents fa := by unfold lvT; rw [frT_at ha ea]
 have hlvb : lvT c b = levN c.parents fb := by unfold lvT; rw [frT_at hb eb]
 rw [hlva, hlvb]
 have hnn := h.nn
 have LA := Lib.hid (fun W (hW : Below w.heap.size w W) => Level_any fa W ⟨h.kp.1.below hW, h.kp.2.below hW⟩ h.sh (by omega) hfa)
 have LB := Lib.hid (fun W (hW : Below w.heap.size w W) => Level_any fb W ⟨h.kp.1.below hW, h.kp.2.below hW⟩ h.sh (by omega) hfb)
 have q1 := cell_of_row _ _ 1 _ _ _ hc
 have q2 := cell_of_row _ _ 2 _ _ _ hc
 have q3 := cell_of_row _ _ 3 _ _ _ hc
 have hgc := (Array.getElem?_eq_some_iff.1 hc).1
 have hai : (a : Int) < c.trans.length := by omega
 have hbi : (b : Int) < c.trans.length := by omega
 clear h hca hcb hc hlva hlvb ea eb
 generalize levN c.parents fa = la at *
 generalize levN c.parents fb = lb at *
 go_enter Tryz.func46, Tryz.ntmps46
 go_upto_region 1 with fail
 go_region_held3 (fun w' => w'.cell? ⟨gc, 1, none⟩ = some (.slice AK n cK) ∧ w'.cell? ⟨gc, 2, none⟩ = some (.slice AP n cP) ∧ w'.cell? ⟨gc, 3, none⟩ = some (.slice (some ⟨gT, 0, none⟩) c.trans.length cT) ∧ w'.cell? ⟨gT, a * 7 + 1, none⟩ = some (.int .i64 fa) ∧ w'.cell? ⟨gT, b * 7 + 1, none⟩ = some (.int .i64 fb))
  (first | exact ⟨q1, q2, q3, ra, rb⟩ | exact ⟨(hb3.cell (p := ⟨gc, 1, none⟩) hgc).trans q1, (hb3.cell (p := ⟨gc, 2, none⟩) hgc).trans q2, (hb3.cell (p := ⟨gc, 3, none⟩) hgc).trans q3, (hb3.cell (p := ⟨gT, a * 7 + 1, none⟩) hgT).trans ra, (hb3.cell (p := ⟨gT, b * 7 + 1, none⟩) hgT).trans rb⟩ | exact ⟨(hb2.cell (p := ⟨gc, 1, none⟩) hgc).trans q1, (hb2.cell (p := ⟨gc, 2, none⟩) hgc).trans q2, (hb2.cell (p := ⟨gc, 3, none⟩) hgc).trans q3, (hb2.cell (p := ⟨gT, a * 7 + 1, none⟩) hgT).trans ra, (hb2.cell (p := ⟨gT, b * 7 + 1, none⟩) hgT).trans rb⟩ | go_keep)
  (first
    | (go_at_call_of 48 (Value.int .i64 fb); refine (LB.out _ (by first | exact Below.refl _ _ | exact below_drew (Below.refl _ _))).mono ?_; rintro e w2 ⟨rfl, hb2⟩)
    | (go_at_call_of 48 (Value.int .i64 fa); refine (LA.out _ (by first | exact hb2 | exact below_then (below_drew (Below.refl _ _)) hb2 (Nat.le_refl _))).mono ?_; rintro e w3 ⟨rfl, hb3'⟩; have hb3 : Below w.heap.size w w3 := (by first | exact below_then hb2 hb3' hb2.size | exact below_then (below_then (below_drew (Below.refl _ _)) hb2 (Nat.le_refl _)) hb3' hb2.size))
    | (go_at_call 47; refine (cmpC_any _ _ _).mono ?_; rintro e w4 ⟨rfl, rfl⟩))
 all_goals
  go_wp2
  go_ret
  exact ⟨rfl, hb3⟩
theorem cmpZ_neg (x y : Nat) : decide (cmpZ x y < 0) = decide (x < y) := by
 unfold cmpZ
 by_cases h : x < y
 ·rw [if_pos h, decide_eq_true h]; rfl
 ·rw [if_neg h, decide_eq_false h]
  split <;> rfl
theorem swap_list {P B : List Nat} {p x : Nat} : (((P ++ p :: x :: B).set (P.length + 1) p).set P.length x) = P ++ x :: p :: B := by
 simp
theorem swap_list2 {P B : List Nat} {p x : Nat} : (((P ++ p :: x :: B).set P.length x).set (P.length + 1) p) = P ++ x :: p :: B := by
 simp
theorem ncells_set (l : List Nat) (i x : Nat) : icells ((l.set i x).map fun k : Nat => (k : Int)) = (icells (l.map fun k : Nat => (k : Int))).set i (.int .i64 (x : Int)) := by simp [icells, List.map_set]
theorem nil_or_snoc (P : List Nat) : P = [] ∨ ∃ P' p, P = P' ++ [p] := by
 rcases List.eq_nil_or_concat P with h | ⟨a, b, h⟩
 ·exact .inl h
 ·exact .inr ⟨a, b, by rw [h, List.concat_eq_append]⟩
def NAt (w : World) (base g cap : Nat) (l : List Nat) : Prop := w.ownsRow base 3 1 (.slice (some ⟨g, 0, none⟩) l.length cap) l.length (icells (l.map fun k : Nat => (k : Int)))
theorem NAt.cell {w : World} {base g cap : Nat} {l : List Nat} (h : NAt w base g cap l) {j : Nat} (hj : j < l.length) : w.cell? ⟨g, j, none⟩ = some (.int .i64 (l[j] : Nat)) := by
 obtain ⟨g', cap', e', _, _, _, hc⟩ := own_form h (by omega)
 injection e' with e1
 injection e1 with e1
 injection e1 with e1
 subst e1
 exact hc _ _ (by simp [icells, hj])
theorem NAt.set {w : World} {base g cap : Nat} {l : List Nat} (h : NAt w base g cap l) (j x : Nat) : NAt (w.setCell ⟨g, j, none⟩ (.int .i64 (x : Int))) base g cap (l.set j x) := by
 unfold NAt
 rw [List.length_set, ncells_set]
 exact (World.ownsRow.stored h j (.int .i64 (x : Int))).1
theorem NAt.below {w w' : World} {base g cap : Nat} {l : List Nat} (h : NAt w base g cap l) (hb : Below w.heap.size w w') (hB : base ≤ w.heap.size) : NAt w' base g cap l := own_below h hb hB
theorem NAt.lt {w : World} {base g cap : Nat} {l : List Nat} (h : NAt w base g cap l) : base ≤ g ∧ g < w.heap.size := World.ownsRow.lt h g rfl
theorem NAt.fz {w : World} {base g cap : Nat} {l : List Nat} (h : NAt w base g cap l) (j : Nat) : w.frozen? ⟨g, j, none⟩ = false := World.ownsRow.frozenAt h j
set_option maxHeartbeats 8000000 in
theorem insSort_any (lv : Nat → Nat) (base g cap gc : Nat) (l : List Nat) (w : World) (hO : NAt w base g cap l) (hbase : base ≤ w.heap.size) (hll : l.length ≤ 1000)
  (hC : ∀ W, Below base w W → ∀ a ∈ l, ∀ b ∈ l, Calls Tryz.prog 46 #[.int .i64 a, .int .i64 b, .pointer (some ⟨gc, 0, none⟩)] W fun e w' => e = .returned (.int .i64 (cmpZ (lv b) (lv a))) ∧ Below W.heap.size W w') :
  Calls Tryz.prog 116 #[.slice (some ⟨g, 0, none⟩) l.length cap, .int .i64 0, .int .i64 l.length, .func (.func 46) #[] #[.pointer (some ⟨gc, 0, none⟩)]] w fun e w' => e = .returned (.tuple #[]) ∧ Below base w w' ∧ NAt w' base g cap (sortD lv l) := by
 have HC := Lib.hid hC
 have HO := Lib.hid hO
 have hsl : ∀ i, (sortD lv (l.take i)).length = min i l.length := fun i => by rw [sortD_len, List.length_take]
 have HSL := Lib.hid hsl
 clear hC hO hsl
 go_enter Tryz.func116, Tryz.ntmps116
 go_upto_region 1 with fail
 go_loopw [8] (fun i wr => ∃ k : Nat, i = .int .i64 k ∧ 1 ≤ k ∧ (k ≤ l.length ∨ k = 1) ∧ Hid (NAt wr base g cap (sortD lv (l.take k) ++ l.drop k)) ∧ Hid (Below base w wr)) (fun i _ => l.length + 1 - (intOf i).toNat)
 case atStart =>
  refine ⟨1, rfl, Nat.le_refl _, .inr rfl, ?_, Below.refl _ _⟩
  have e : sortD lv (l.take 1) ++ l.drop 1 = l := by cases l <;> rfl
  show NAt _ _ _ _ _
  rw [e]
  exact HO.out
 case round =>
  obtain ⟨k, rfl, hk1, hk, HN, HB⟩ := hrel
  by_cases hlt : k < l.length
  ·have hki : (k : Int) < l.length := by omega
   have hks := HSL.out k
   have hdk : l.drop k = l[k] :: l.drop (k + 1) := List.drop_eq_getElem_cons hlt
   have htk : sortD lv (l.take (k + 1)) = insD lv l[k] (sortD lv (l.take k)) := by rw [List.take_succ_eq_append_getElem hlt, sortD_snoc]
   have hmk : ∀ y ∈ sortD lv (l.take k), y ∈ l := fun y hy => List.mem_of_mem_take ((sortD_mem lv _ y).1 hy)
   have hxm : l[k] ∈ l := List.getElem_mem hlt
   have HTK := Lib.hid htk
   have HMK := Lib.hid hmk
   have hrl : (l.drop (k + 1)).length = l.length - (k + 1) := by simp
   rw [hdk] at HN
   have hk2 : (sortD lv (l.take k)).length = k := by omega
   generalize hgr : l.drop (k + 1) = rest at *
   generalize hgs : sortD lv (l.take (k + 1)) = S1 at *
   have HGR := Lib.hid hgr
   have HGS := Lib.hid hgs
   clear hgr hgs
   generalize sortD lv (l.take k) = S0 at *
   generalize l[k] = x at *
   clear hdk htk hmk hks
   go_upto_region 4 with fail
   go_loopw [9] (fun jv wx => ∃ (P B : List Nat), jv = .int .i64 (P.length : Nat) ∧ Hid (S0 = P ++ B) ∧ Hid (∀ y ∈ B, lv y < lv x) ∧ Hid (NAt wx base g cap (P ++ x :: (B ++ rest))) ∧ Hid (Below base w wx)) (fun jv _ => (intOf jv).toNat)
   case atStart => exact ⟨S0, [], by rw [hk2], (List.append_nil _).symm, (fun y hy => by simp at hy), HN.out, HB.out⟩
   case round =>
    obtain ⟨P, B, rfl, HPB, HBL, HD, HBx⟩ := hrel
    have hlo := HD.out.lt
    rcases nil_or_snoc P with rfl | ⟨P', p, rfl⟩
    ·have HE : Hid (S1 = x :: B) := by
      show _ = _
      rw [HTK.out, HPB.out]
      exact insD_spot lv x [] B HBL.out (fun a h => by simp at h)
     go_upto_region 4 with fail
     go_quiet (fail)
     have HB3 := Lib.hid (below_drewN HBx.out nq)
     have HD3 : Hid (NAt (wr.drewN nq) base g cap ((x :: B) ++ rest)) := HD.out
     generalize wr.drewN nq = wq at *
     go_wp2
     go_roundw
     case rel =>
      refine ⟨k + 1, by go_num, by omega, .inl (by omega), ?_, HB3.out⟩
      show NAt _ _ _ _ _
      rw [HGS.out, HGR.out, HE.out]
      exact HD3.out
     case measure => simp [intOf]; omega
    ·have hPl : (P' ++ [p]).length = P'.length + 1 := by simp
     have eD : (P' ++ [p]) ++ x :: (B ++ rest) = P' ++ p :: x :: (B ++ rest) := by simp
     have hDl : (P' ++ p :: x :: (B ++ rest)).length = l.length := by
      have h1 := congrArg List.length HPB.out
      simp at h1 ⊢
      omega
     rw [eD] at HD
     rw [hPl]
     have hmp : p ∈ l := HMK.out p (by rw [HPB.out]; simp)
     have cP : wr.cell? ⟨g, P'.length, none⟩ = some (.int .i64 (p : Nat)) := by
      have h1 := HD.out.cell (j := P'.length) (by simp)
      rw [h1]; simp
     have cX : wr.cell? ⟨g, P'.length + 1, none⟩ = some (.int .i64 (x : Nat)) := by
      have h1 := HD.out.cell (j := P'.length + 1) (by simp)
      rw [h1]; simp [List.getElem_append_right]
     have CL := Lib.hid (fun W (hW : Below base w W) => HC.out W hW x hxm p hmp)
     have hml : (P'.length : Int) + 1 < l.length := by
      rw [← hDl]; simp only [List.length_append, List.length_cons]; omega
     generalize hm : P'.length = m at *
     go_upto_region 4 with fail
     have hm1 : IntKind.i64.wrap ((m : Int) + 1 - 1) = m := by rw [IntKind.wrap_i64]; omega
     have hgl := hlo.2
     have hm3 : (0 : Int) ≤ (m : Int) + 1 := by omega
     have hm4 : (0 : Int) ≤ (m : Int) := by omega
     have hm5 : IntKind.i64.wrap ((m : Int) + 1) = (m : Int) + 1 := by rw [IntKind.wrap_i64]; omega
     have hm6 : ((m : Int) + 1).toNat = m + 1 := by omega
     have hml0 : (m : Int) < l.length := by omega
     have hm2 : IntKind.i64.wrap (m : Int) = m := by rw [IntKind.wrap_i64]; omega
     go_region_held3 (fun w' => w'.cell? ⟨g, m, none⟩ = some (.int .i64 (p : Nat)) ∧ w'.cell? ⟨g, m + 1, none⟩ = some (.int .i64 (x : Nat)))
      (first | exact ⟨cP, cX⟩ | exact ⟨(hb3.cell (p := ⟨g, m, none⟩) hgl).trans cP, (hb3.cell (p := ⟨g, m + 1, none⟩) hgl).trans cX⟩ | go_keep)
      (first | (go_at_call 46; refine (CL.out _ (by first | exact HBx.out | exact below_drew HBx.out)).mono ?_; rintro e w3 ⟨rfl, hb3⟩))
     have hz := cmpZ_neg (lv p) (lv x)
     have hb3' : Below wr.heap.size wr w3 := by first | exact hb3 | exact below_then (below_drew (Below.refl _ _)) hb3 (Nat.le_refl _)
     have hbw3 : Below base w w3 := below_then HBx.out hb3' (Nat.le_trans hbase HBx.out.size)
     have HD3 := Lib.hid (HD.out.below hb3' (Nat.le_trans hbase HBx.out.size))
     by_cases hlt2 : lv p < lv x
     ·rw [decide_eq_true hlt2] at hz
      have cP3 := (hb3'.cell (p := ⟨g, m, none⟩) hgl).trans cP
      have cX3 := (hb3'.cell (p := ⟨g, m + 1, none⟩) hgl).trans cX
      have f0 := HD3.out.fz m
      have f1 := HD3.out.fz (m + 1)
      have HBn : Hid (∀ y ∈ p :: B, lv y < lv x) := fun y hy => by
       rcases List.mem_cons.1 hy with rfl | h
       ·exact hlt2
       ·exact HBL.out y h
      rw [hz]
      go_upto_region 6 with fail
      go_region
      all_goals
       go_wp2
       go_roundw
       case rel =>
        refine ⟨P', p :: B, by rw [hm], ?_, HBn.out, ?_, ?_⟩
        ·show _ = _
         rw [HPB.out, List.append_assoc]; rfl
        ·show NAt _ _ _ _ _
         rw [← hm]
         first
          | (have h1 := (HD3.out.set (m + 1) p).set m x
             rw [← hm, swap_list] at h1
             exact h1)
          | (have h1 := (HD3.out.set m x).set (m + 1) p
             rw [← hm, swap_list2] at h1
             exact h1)
        ·exact below_drew (set_below (set_below hbw3 (Nat.le_trans hbase hbw3.size) hlo.1) (by simpa [World.setCell] using Nat.le_trans hbase hbw3.size) hlo.1)
       case measure => simp [intOf]
     ·rw [decide_eq_false hlt2] at hz
      have HE : Hid (S1 = (P' ++ [p]) ++ x :: B) := by
       show _ = _
       rw [HTK.out, HPB.out]
       exact insD_spot lv x (P' ++ [p]) B HBL.out (fun a h => by simp at h; subst h; exact hlt2)
      rw [hz]
      go_wp2
      go_roundw
      case rel =>
       refine ⟨k + 1, by go_num, by omega, .inl (by omega), ?_, hbw3⟩
       show NAt _ _ _ _ _
       rw [HGS.out, HGR.out, HE.out, show (P' ++ [p]) ++ x :: B ++ rest = P' ++ p :: x :: (B ++ rest) by simp]
       exact HD3.out
      case measure => simp [intOf]; omega
  ·go_wp2
   go_end0
   have ek : k ≥ l.length := by omega
   have h9 := HN.out
   rw [List.take_of_length_le ek, List.drop_of_length_le ek, List.append_nil] at h9
   exact ⟨rfl, HB.out, h9⟩
theorem insSort_nil (A : Option Addr) (cap gc : Nat) (w : World) :
  Calls Tryz.prog 116 #[.slice A 0 cap, .int .i64 0, .int .i64 0, .func (.func 46) #[] #[.pointer (some ⟨gc, 0, none⟩)]] w fun e w' => e = .returned (.tuple #[]) ∧ w = w' := by
 go_enter Tryz.func116, Tryz.ntmps116
 go_wp2
 refine wp_loop_rounds 1 ?_
 rw [rounds_succ]
 go_wp2
 go_end0
 exact ⟨rfl, rfl⟩
theorem stable_of (v : Value) (m gc : Nat) (w : World) (hm : m ≤ 19) (A : Option Addr) (cap : Nat) (hv : v = .slice A m cap) (Q : Ending → World → Prop)
  (hI : Calls Tryz.prog 116 #[v, .int .i64 0, .int .i64 m, .func (.func 46) #[] #[.pointer (some ⟨gc, 0, none⟩)]] w fun e w' => e = .returned (.tuple #[]) ∧ Q (.returned (.tuple #[])) w') :
  Calls Tryz.prog 45 #[v, .func (.func 46) #[] #[.pointer (some ⟨gc, 0, none⟩)]] w fun e w' => e = .returned (.tuple #[]) ∧ Q (.returned (.tuple #[])) w' := by
 subst hv
 have HI := Lib.hid hI
 clear hI
 have h1 : ¬ (20 : Int) ≤ m := by omega
 have h2 : ¬ (20 : Int) < m := by omega
 have ST : Hid (Calls Tryz.prog 80 #[.slice A m cap, .int .i64 m, .func (.func 46) #[] #[.pointer (some ⟨gc, 0, none⟩)]] w fun e w' => e = .returned (.tuple #[]) ∧ Q (.returned (.tuple #[])) w') := by
  show Calls _ _ _ _ _
  go_enter Tryz.func80, Tryz.ntmps80
  go_wp2
  refine wp_loop_rounds 1 ?_
  rw [rounds_succ]
  go_wp2_with (go_at_call 116; refine HI.out.mono ?_; rintro e w1 ⟨rfl, hq⟩)
  refine wp_loop_rounds 1 ?_
  rw [rounds_succ]
  go_wp2
  go_end0
  exact ⟨rfl, hq⟩
 go_enter Tryz.func45, Tryz.ntmps45
 go_wp2_with (go_at_call 80; refine ST.out.mono ?_; rintro e w1 ⟨rfl, hq⟩)
 go_end0
 exact ⟨rfl, hq⟩
end Go.Proofs.YtaoinedndnleoaaGreat
