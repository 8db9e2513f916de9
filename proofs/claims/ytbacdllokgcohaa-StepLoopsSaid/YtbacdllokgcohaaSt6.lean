/-
  Package step: a chart that is read; which of two transitions comes first.
-/
import Derived.Test.YtbacdllokgcohaaSt5
import Derived.Test.YtbacdllokgcohaaSh1b
namespace Go.Proofs.Ytbacdllokgcohaa
set_option maxRecDepth 100000
open Go.ChangeShapes Go.WideShapes Go.ChangeAt Go.RowKit

/-- a chart's shape and transitions as they are read -/
structure ChW (W : World) (c : Ch) (n : Nat) (AK AP AT : Option Addr) (cK cP cT : Nat) : Prop where
  kp : IntsAt W (.slice AK n cK) c.kinds ∧ IntsAt W (.slice AP n cP) c.parents
  tr : TAt W AT c.trans
  tc : c.trans.length ≤ cT
  tl : c.trans.length ≤ 48
  sh : ShF c.kinds c.parents n
  n0 : 0 < n
  nn : n ≤ 24
  ft : ∀ t ∈ c.trans, ∃ f g : Nat, t.from_ = f ∧ f < n ∧ t.to_ = g ∧ g < n
theorem ChW.below {W W' : World} {c : Ch} {n : Nat} {AK AP AT : Option Addr} {cK cP cT : Nat} (h : ChW W c n AK AP AT cK cP cT) (hb : Below W.heap.size W W') : ChW W' c n AK AP AT cK cP cT :=
  ⟨⟨h.kp.1.below hb, h.kp.2.below hb⟩, h.tr.below hb, h.tc, h.tl, h.sh, h.n0, h.nn, h.ft⟩
/-- from which state a transition leads -/
def frT (c : Ch) (i : Nat) : Nat := match c.trans[i]? with
  | some t => t.from_.toNat
  | none => 0
def toT (c : Ch) (i : Nat) : Nat := match c.trans[i]? with
  | some t => t.to_.toNat
  | none => 0
def lvT (c : Ch) (i : Nat) : Nat := levN c.parents (frT c i)
theorem frT_at {c : Ch} {i : Nat} (h : i < c.trans.length) {f : Nat} (e : c.trans[i].from_ = f) : frT c i = f := by
  unfold frT; rw [List.getElem?_eq_getElem h]; show (c.trans[i].from_).toNat = f; rw [e]; rfl
theorem toT_at {c : Ch} {i : Nat} (h : i < c.trans.length) {f : Nat} (e : c.trans[i].to_ = f) : toT c i = f := by
  unfold toT; rw [List.getElem?_eq_getElem h]; show (c.trans[i].to_).toNat = f; rw [e]; rfl
def cmpZ (x y : Nat) : Int := if x < y then -1 else if y < x then 1 else 0
theorem isNaN_any (x : Int) (w : World) : Calls Try.prog 62 #[.int .i64 x] w fun e w' => e = .returned (.bool false) ∧ w = w' := by
  have h : (x != x) = false := by simp
  go_enter Try.func62, Try.ntmps62
  go_wp2
  go_ret
  exact ⟨rfl, rfl⟩
theorem cmpC_any (x y : Nat) (w : World) : Calls Try.prog 39 #[.int .i64 x, .int .i64 y] w fun e w' => e = .returned (.int .i64 (cmpZ x y)) ∧ w = w' := by
  have HE : Hid (cmpZ x y = if x < y then -1 else if y < x then 1 else 0) := rfl
  generalize cmpZ x y = z at *
  rcases Nat.lt_trichotomy x y with h | h | h
  · have hi : (x : Int) < y := by omega
    rw [if_pos h] at HE
    clear h
    go_enter Try.func39, Try.ntmps39
    go_wp2_with (go_at_call 62; refine (isNaN_any _ _).mono ?_; rintro e w2 ⟨rfl, rfl⟩)
    go_ret
    exact ⟨ret_int HE.out.symm, rfl⟩
  · subst h
    rw [if_neg (by omega), if_neg (by omega)] at HE
    go_enter Try.func39, Try.ntmps39
    go_wp2_with (go_at_call 62; refine (isNaN_any _ _).mono ?_; rintro e w2 ⟨rfl, rfl⟩)
    go_ret
    exact ⟨ret_int HE.out.symm, rfl⟩
  · have hi : ¬ (x : Int) < y := by omega
    have hi2 : (y : Int) < x := by omega
    rw [if_neg (by omega), if_pos h] at HE
    clear h
    go_enter Try.func39, Try.ntmps39
    go_wp2_with (go_at_call 62; refine (isNaN_any _ _).mono ?_; rintro e w2 ⟨rfl, rfl⟩)
    go_ret
    exact ⟨ret_int HE.out.symm, rfl⟩
set_option maxHeartbeats 4000000 in
theorem cmpT_any (c : Ch) (n : Nat) (AN AK AP AT : Option Addr) (cN cK cP cT gc a b : Nat) (w : World) (h : ChW w c n AK AP AT cK cP cT) (ha : a < c.trans.length) (hb : b < c.trans.length)
    (hc : w.heap[gc]? = some (.cells #[.slice AN c.names.length cN, .slice AK n cK, .slice AP n cP, .slice AT c.trans.length cT] 28 (0, 0))) :
    Calls Try.prog 38 #[.int .i64 a, .int .i64 b, .pointer (some ⟨gc, 0, none⟩)] w fun e w' => e = .returned (.int .i64 (cmpZ (lvT c b) (lvT c a))) ∧ Below w.heap.size w w' := by
  obtain ⟨fa, ta, ea, hfa, _, _⟩ := h.ft _ (List.getElem_mem ha)
  obtain ⟨fb, tb, eb, hfb, _, _⟩ := h.ft _ (List.getElem_mem hb)
  obtain ⟨gT, rfl, hgT, hca⟩ := h.tr a ha
  obtain ⟨gT', eT, _, hcb⟩ := h.tr b hb
  injection eT with eT
  injection eT with eT
  subst eT
  have ra := hca 1 (.int .i64 c.trans[a].from_) (by omega) rfl
  have rb := hcb 1 (.int .i64 c.trans[b].from_) (by omega) rfl
  rw [ea] at ra
  rw [eb] at rb
  have hlva : lvT c a = levN c.parents fa := by unfold lvT; rw [frT_at ha ea]
  have hlvb : lvT c b = levN c.parents fb := by unfold lvT; rw [frT_at hb eb]
  rw [hlva, hlvb]
  have hnn := h.nn
  have LA := Lib.hid (fun W (hW : Below w.heap.size w W) => Level_any fa W ⟨h.kp.1.below hW, h.kp.2.below hW⟩ h.sh (by omega) hfa)
  have LB := Lib.hid (fun W (hW : Below w.heap.size w W) => Level_any fb W ⟨h.kp.1.below hW, h.kp.2.below hW⟩ h.sh (by omega) hfb)
  have q1 := cell_of_row _ _ 1 _ _ _ hc
  have q2 := cell_of_row _ _ 2 _ _ _ hc
  have q3 := cell_of_row _ _ 3 _ _ _ hc
  have hgc := (Array.getElem?_eq_some_iff.1 hc).1
  have hai : (a : Int) < c.trans.length := by omega
  have hbi : (b : Int) < c.trans.length := by omega
  clear h hca hcb hc hlva hlvb ea eb
  generalize levN c.parents fa = la at *
  generalize levN c.parents fb = lb at *
  go_enter Try.func38, Try.ntmps38
  go_upto_region 1 with fail
  go_region_held3 (fun w' => w'.cell? ⟨gc, 1, none⟩ = some (.slice AK n cK) ∧ w'.cell? ⟨gc, 2, none⟩ = some (.slice AP n cP) ∧ w'.cell? ⟨gc, 3, none⟩ = some (.slice (some ⟨gT, 0, none⟩) c.trans.length cT) ∧ w'.cell? ⟨gT, a * 7 + 1, none⟩ = some (.int .i64 fa) ∧ w'.cell? ⟨gT, b * 7 + 1, none⟩ = some (.int .i64 fb))
    (first | exact ⟨q1, q2, q3, ra, rb⟩ | exact ⟨(hb3.cell (p := ⟨gc, 1, none⟩) hgc).trans q1, (hb3.cell (p := ⟨gc, 2, none⟩) hgc).trans q2, (hb3.cell (p := ⟨gc, 3, none⟩) hgc).trans q3, (hb3.cell (p := ⟨gT, a * 7 + 1, none⟩) hgT).trans ra, (hb3.cell (p := ⟨gT, b * 7 + 1, none⟩) hgT).trans rb⟩ | exact ⟨(hb2.cell (p := ⟨gc, 1, none⟩) hgc).trans q1, (hb2.cell (p := ⟨gc, 2, none⟩) hgc).trans q2, (hb2.cell (p := ⟨gc, 3, none⟩) hgc).trans q3, (hb2.cell (p := ⟨gT, a * 7 + 1, none⟩) hgT).trans ra, (hb2.cell (p := ⟨gT, b * 7 + 1, none⟩) hgT).trans rb⟩ | go_keep)
    (first
      | (go_at_call_of 40 (Value.int .i64 fb); refine (LB.out _ (by first | exact Below.refl _ _ | exact below_drew (Below.refl _ _))).mono ?_; rintro e w2 ⟨rfl, hb2⟩)
      | (go_at_call_of 40 (Value.int .i64 fa); refine (LA.out _ (by first | exact hb2 | exact below_then (below_drew (Below.refl _ _)) hb2 (Nat.le_refl _))).mono ?_; rintro e w3 ⟨rfl, hb3'⟩; have hb3 : Below w.heap.size w w3 := (by first | exact below_then hb2 hb3' hb2.size | exact below_then (below_then (below_drew (Below.refl _ _)) hb2 (Nat.le_refl _)) hb3' hb2.size))
      | (go_at_call 39; refine (cmpC_any _ _ _).mono ?_; rintro e w4 ⟨rfl, rfl⟩))
  all_goals
    go_wp2
    go_ret
    exact ⟨rfl, hb3⟩
end Go.Proofs.Ytbacdllokgcohaa
