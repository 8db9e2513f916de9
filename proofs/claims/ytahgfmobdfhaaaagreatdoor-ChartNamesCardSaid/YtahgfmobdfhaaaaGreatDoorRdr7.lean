/-
  The reader of the document: a state, and what check tells.
-/
import Derived.Test.YtahgfmobdfhaaaaGreatDoorRdr5
import Derived.Test.YtahgfmobdfhaaaaGreatDoorIdx
import Derived.Deep.CutBlock
import Derived.StillTailTactics
namespace Go.Proofs.YtahgfmobdfhaaaaGreatDoor
set_option maxRecDepth 100000
open Go.ChangeShapes Go.WideShapes Go.ChangeAt Go.RowKit

deriving instance DecidableEq for Ru
end Go.Proofs.YtahgfmobdfhaaaaGreatDoor
namespace Go.Proofs.YtahgfmobdfhaaaaGreatDoor
set_option maxRecDepth 100000
open Go.ChangeShapes Go.WideShapes Go.ChangeAt Go.RowKit

def WrgAt (kd n m : Int) (nm : Tx) (l : List Tx) (first : Int) (k : Nat) (wrg : Int) : Prop :=
  (wrg = wrongK kd n m l.length ∧ ∀ j, j < k → twiceR kd nm l j = false) ∨ (wrg = first + ((k : Int) - 1) ∧ 0 < k ∧ twiceR kd nm l (k - 1) = true)
theorem wrg_snoc {kd n m : Int} {nm : Tx} {l : List Tx} {first : Int} {k : Nat} {wrg : Int} (h : WrgAt kd n m nm l first k wrg) (h0 : wrg = 0) (hf : 1 ≤ first) (ht : twiceR kd nm l k = false) : WrgAt kd n m nm l first (k + 1) wrg := by
  rcases h with ⟨e, h⟩ | ⟨e, h1, _⟩
  · refine .inl ⟨e, fun j hj => ?_⟩
    by_cases ej : j = k
    · rw [ej]; exact ht
    · exact h j (by omega)
  · omega
theorem wrg_hit {kd n m : Int} {nm : Tx} {l : List Tx} {first : Int} {k : Nat} (ht : twiceR kd nm l k = true) : WrgAt kd n m nm l first (k + 1) (first + k) := .inr ⟨by omega, by omega, ht⟩
def twF (b : Bool) (l : List Tx) (t : Tx) (j : Nat) : Bool := b || (l.take j).any (· == t)
theorem twF_zero (b : Bool) (l : List Tx) (t : Tx) : twF b l t 0 = b := by simp [twF]
theorem twF_next (b : Bool) (l : List Tx) (t : Tx) {j : Nat} (h : j < l.length) : twF b l t (j + 1) = (twF b l t j || l[j] == t) := by
  unfold twF
  rw [List.take_succ_eq_append_getElem h, List.any_append]
  simp [Bool.or_assoc]
theorem wrongK_nn (kd n m : Int) (len : Nat) : 0 ≤ wrongK kd n m len ∧ wrongK kd n m len ≤ 3 := by
  unfold wrongK
  split <;> (try split) <;> (try split) <;> (try split) <;> omega
/-- two results in cells, one beside them -/
theorem run_cell212 {P : Program} {fn : Func} {p u q : Tmp} {ty ty' : TypeId} (h : fn.results = #[.cell p ty, .tmp u, .cell q ty']) (tmps : Array Value) (w : World) (g g' : Nat) (t t' : TypeId) (cs cs' : Array Value) (fr fr' : Nat × Nat) (d d' : TypeDesc)
    (hp : tmps.getD p undef = .pointer (some ⟨g, 0, none⟩)) (hq : tmps.getD q undef = .pointer (some ⟨g', 0, none⟩)) (hg : w.heap[g]? = some (.cells cs t fr)) (hg' : w.heap[g']? = some (.cells cs' t' fr'))
    (hu : P.underlying ty = some d) (hd : (match d with | .struct _ | .array _ _ => true | _ => false) = true) (hi : (P.info? ty).map (·.size) = some cs.size)
    (hu' : P.underlying ty' = some d') (hd' : (match d' with | .struct _ | .array _ _ => true | _ => false) = true) (hi' : (P.info? ty').map (·.size) = some cs'.size) :
    (results fn tmps).run P w = .ok (.tuple #[.agg cs, tmps.getD u undef, .agg cs']) w := by
  have hp' : tmps[p]?.getD undef = .pointer (some ⟨g, 0, none⟩) := by simpa using hp
  have hq' : tmps[q]?.getD undef = .pointer (some ⟨g', 0, none⟩) := by simpa using hq
  simp [results, h, hp', hq', asAddr, run_loadVar_row w g t ty cs fr d hg hu hd hi, run_loadVar_row w g' t' ty' cs' fr' d' hg' hu' hd' hi']
def fltV (n c k : Int) : Value := .agg #[.int .i64 n, .int .i64 c, .int .i64 k]
/-- what stands behind the form of a rule: the rule, or a fault -/
def ChkTo (r : Ru) (L : Value) (ln number : Int) (w : World) (e : Ending) (w' : World) : Prop := Below w.heap.size w w' ∧ if okB r = true then e = .returned (.tuple #[ruV r L ln, .bool false, fltV 0 0 0]) else ∃ c : Int, e = .returned (.tuple #[zeroV, .bool false, fltV number c 1])
theorem flt_row {X : World} {t : Nat} {a b c : Value} (b0 b1 b2 : Value) (R : X.heap[t]? = some (.cells #[a, b, c] 47 (0, 0))) : ∀ Y, ((X.setCell ⟨t, 0, none⟩ b0).setCell ⟨t, 1, none⟩ b1).setCell ⟨t, 2, none⟩ b2 = Y → Y.heap[t]? = some (.cells #[b0, b1, b2] 47 (0, 0)) ∧ X.grownBy Y (some t) := by
  rintro Y rfl
  refine ⟨?_, (World.grownBy.trans (World.grownBy.trans (grown_setCell _ _ _ _) (grown_setCell _ _ _ _)) (grown_setCell _ _ _ _))⟩
  have e := heap_set (j := 2) (heap_set (j := 1) (heap_set (j := 0) R b0) b1) b2
  simpa using e
theorem wrg_no {r : Ru} {first wrg : Int} {k : Nat} (h : WrgAt r.kind r.n r.m r.name r.list first k wrg) (hk : k ≤ r.list.length) (h0 : wrg ≠ 0) : ¬ okB r = true := by
  unfold okB
  rw [Bool.and_eq_true, decide_eq_true_eq, List.all_eq_true]
  rintro ⟨h1, h2⟩
  rcases h with ⟨e, _⟩ | ⟨_, h3, h4⟩
  · exact h0 (e.trans h1)
  · have := h2 (k - 1) (List.mem_range.2 (by omega))
    rw [h4] at this; cases this
theorem wrg_yes {r : Ru} {first wrg : Int} {k : Nat} (h : WrgAt r.kind r.n r.m r.name r.list first k wrg) (hk : ¬ k < r.list.length) (hk2 : k ≤ r.list.length) (h0 : wrg = 0) (hf : r.list ≠ [] → 1 ≤ first) : okB r = true := by
  unfold okB
  rw [Bool.and_eq_true, decide_eq_true_eq, List.all_eq_true]
  rcases h with ⟨e, h1⟩ | ⟨e, h3, _⟩
  · refine ⟨e.symm.trans h0, fun j hj => ?_⟩
    rw [h1 j (by have := List.mem_range.1 hj; omega)]; rfl
  · have : r.list ≠ [] := fun hn => by rw [hn] at hk2; simp at hk2; omega
    have := hf this
    omega
section
variable {X : World} {t : Nat} {a b c : Value} (R : X.heap[t]? = some (.cells #[a, b, c] 47 (0, 0)))
include R
theorem flt_q0 : X.cell? ⟨t, 0, none⟩ = some a := by rw [cell_of_row _ _ _ _ _ _ R]; rfl
theorem flt_q1 : X.cell? ⟨t, 1, none⟩ = some b := by rw [cell_of_row _ _ _ _ _ _ R]; rfl
theorem flt_q2 : X.cell? ⟨t, 2, none⟩ = some c := by rw [cell_of_row _ _ _ _ _ _ R]; rfl
theorem flt_fz (j : Nat) : X.frozen? ⟨t, j, none⟩ = false := by simp [World.frozen?, R]
end
section
variable {X : World} {t t' : Nat} {a0 a1 a2 a3 a4 a5 a6 a7 a8 a9 a10 a b c : Value}
/-- both results, laid one behind the other -/
theorem two_rows (b0 b1 b2 b3 b4 b5 b6 b7 b8 b9 b10 c0 c1 c2 : Value) (R : X.heap[t]? = some (.cells #[a0, a1, a2, a3, a4, a5, a6, a7, a8, a9, a10] 41 (0, 0))) (R' : X.heap[t']? = some (.cells #[a, b, c] 47 (0, 0))) (hne : t ≠ t') : ∀ Y, ((((((((((((((X.setCell ⟨t, 0, none⟩ b0).setCell ⟨t, 1, none⟩ b1).setCell ⟨t, 2, none⟩ b2).setCell ⟨t, 3, none⟩ b3).setCell ⟨t, 4, none⟩ b4).setCell ⟨t, 5, none⟩ b5).setCell ⟨t, 6, none⟩ b6).setCell ⟨t, 7, none⟩ b7).setCell ⟨t, 8, none⟩ b8).setCell ⟨t, 9, none⟩ b9).setCell ⟨t, 10, none⟩ b10).setCell ⟨t', 0, none⟩ c0).setCell ⟨t', 1, none⟩ c1).setCell ⟨t', 2, none⟩ c2) = Y →
    Y.heap[t]? = some (.cells #[b0, b1, b2, b3, b4, b5, b6, b7, b8, b9, b10] 41 (0, 0)) ∧ Y.heap[t']? = some (.cells #[c0, c1, c2] 47 (0, 0)) ∧ (∀ B W0, Below B W0 X → B ≤ X.heap.size → B ≤ t → B ≤ t' → Below B W0 Y) := by
  rintro Y rfl
  obtain ⟨h1, g1⟩ := row_tell b0 b1 b2 b3 b4 b5 b6 b7 b8 b9 b10 R _ rfl
  have R2 := (g1.block t' (Array.getElem?_eq_some_iff.1 R').1 (by simpa using fun e => hne e.symm)).trans R'
  obtain ⟨h2, g2⟩ := flt_row c0 c1 c2 R2 _ rfl
  refine ⟨(g2.block t (Array.getElem?_eq_some_iff.1 h1).1 (by simpa using hne)).trans h1, h2, fun B W0 hB hX ht ht' => ?_⟩
  exact (hB.grown g1 hX (fun j e => by cases e; exact ht)).grown g2 (Nat.le_trans hX g1.size) (fun j e => by cases e; exact ht')
theorem two_rowsD (b0 b1 b2 b3 b4 b5 b6 b7 b8 b9 b10 c0 c1 c2 : Value) (R : X.heap[t]? = some (.cells #[a0, a1, a2, a3, a4, a5, a6, a7, a8, a9, a10] 41 (0, 0))) (R' : X.heap[t']? = some (.cells #[a, b, c] 47 (0, 0))) (hne : t ≠ t') : ∀ Z Y, ((((((((((((((X.setCell ⟨t, 0, none⟩ b0).setCell ⟨t, 1, none⟩ b1).setCell ⟨t, 2, none⟩ b2).setCell ⟨t, 3, none⟩ b3).setCell ⟨t, 4, none⟩ b4).setCell ⟨t, 5, none⟩ b5).setCell ⟨t, 6, none⟩ b6).setCell ⟨t, 7, none⟩ b7).setCell ⟨t, 8, none⟩ b8).setCell ⟨t, 9, none⟩ b9).setCell ⟨t, 10, none⟩ b10).setCell ⟨t', 0, none⟩ c0).setCell ⟨t', 1, none⟩ c1).setCell ⟨t', 2, none⟩ c2) = Z → Z.drew = Y →
    Y.heap[t]? = some (.cells #[b0, b1, b2, b3, b4, b5, b6, b7, b8, b9, b10] 41 (0, 0)) ∧ Y.heap[t']? = some (.cells #[c0, c1, c2] 47 (0, 0)) ∧ (∀ B W0, Below B W0 X → B ≤ X.heap.size → B ≤ t → B ≤ t' → Below B W0 Y) := by
  intro Z Y hZ hY
  obtain ⟨h1, h2, h3⟩ := two_rows b0 b1 b2 b3 b4 b5 b6 b7 b8 b9 b10 c0 c1 c2 R R' hne Z hZ
  subst hY
  exact ⟨h1, h2, fun B W0 hB hX ht ht' => below_drew (h3 B W0 hB hX ht ht')⟩
end
set_option maxHeartbeats 8000000 in
theorem check_any (r : Ru) (A : Option Addr) (ca : Nat) (ln : Int) (g cap : Nat) (ws : List (Nat × Tx)) (first number : Int) (w : World) (ha : LAt w A ca r.list) (hf : r.list ≠ [] → 1 ≤ first ∧ first + r.list.length ≤ ws.length) (hwk : wrongK r.kind r.n r.m r.list.length < ws.length) (hws : ws.length ≤ 9223372036854775807) (hW : WAt w g 0 ws) (hg : g < w.heap.size) :
    Calls Tryz.prog 50 #[ruV r (.slice A r.list.length ca) ln, .slice (some ⟨g, 0, none⟩) ws.length cap, .int .i64 first, .int .i64 number] w (ChkTo r (.slice A r.list.length ca) ln number w) := by
  obtain ⟨kd, nm, l, rn, rm, rf, rt, rb, ra, ri⟩ := r
  dsimp only [ruV]
  simp only at ha hf hwk
  have HF := Lib.hid hf
  have HWS := Lib.hid hws
  have HWA := Lib.hid hW
  have HGS := Lib.hid hg
  have HWB := Lib.hid hwk
  clear hf hws hW hg hwk
  have HA := Lib.hid ha
  have hl1 := ha.2.1
  clear ha
  go_enter Tryz.func50, Tryz.ntmps50
  go_upto_block 0 with (fail)
  have R0 : (((w.alloc (.cells #[.int .i64 kd, .string (bs nm), .slice A l.length ca, .int .i64 rn, .int .i64 rm, .string (bs rf), .string (bs rt), .string (bs rb), .string (bs ra), .string (bs ri), .int .i64 ln] 41)).alloc (.cells #[.int .i64 0, .string ⟨#[]⟩, .slice none 0 0, .int .i64 0, .int .i64 0, .string ⟨#[]⟩, .string ⟨#[]⟩, .string ⟨#[]⟩, .string ⟨#[]⟩, .string ⟨#[]⟩, .int .i64 0] 41)).alloc (.cells #[.int .i64 0, .int .i64 0, .int .i64 0] 47)).heap[w.heap.size]? = some (.cells #[.int .i64 kd, .string (bs nm), .slice A l.length ca, .int .i64 rn, .int .i64 rm, .string (bs rf), .string (bs rt), .string (bs rb), .string (bs ra), .string (bs ri), .int .i64 ln] 41 (0, 0)) := by
    rw [heap_alloc_old _ _ (by simp; omega), heap_alloc_old _ _ (by simp)]; exact heap_alloc_new _ _
  have b0 : Below w.heap.size w (((w.alloc (.cells #[.int .i64 kd, .string (bs nm), .slice A l.length ca, .int .i64 rn, .int .i64 rm, .string (bs rf), .string (bs rt), .string (bs rb), .string (bs ra), .string (bs ri), .int .i64 ln] 41)).alloc (.cells #[.int .i64 0, .string ⟨#[]⟩, .slice none 0 0, .int .i64 0, .int .i64 0, .string ⟨#[]⟩, .string ⟨#[]⟩, .string ⟨#[]⟩, .string ⟨#[]⟩, .string ⟨#[]⟩, .int .i64 0] 41)).alloc (.cells #[.int .i64 0, .int .i64 0, .int .i64 0] 47)) := (((Below.refl _ _).alloc (Nat.le_refl _) _).alloc (by simp) _).alloc (by simp; omega) _
  have R8 : (((w.alloc (.cells #[.int .i64 kd, .string (bs nm), .slice A l.length ca, .int .i64 rn, .int .i64 rm, .string (bs rf), .string (bs rt), .string (bs rb), .string (bs ra), .string (bs ri), .int .i64 ln] 41)).alloc (.cells #[.int .i64 0, .string ⟨#[]⟩, .slice none 0 0, .int .i64 0, .int .i64 0, .string ⟨#[]⟩, .string ⟨#[]⟩, .string ⟨#[]⟩, .string ⟨#[]⟩, .string ⟨#[]⟩, .int .i64 0] 41)).alloc (.cells #[.int .i64 0, .int .i64 0, .int .i64 0] 47)).heap[w.heap.size + 1]? = some (.cells #[.int .i64 0, .string ⟨#[]⟩, .slice none 0 0, .int .i64 0, .int .i64 0, .string ⟨#[]⟩, .string ⟨#[]⟩, .string ⟨#[]⟩, .string ⟨#[]⟩, .string ⟨#[]⟩, .int .i64 0] 41 (0, 0)) := by
    rw [heap_alloc_old _ _ (by simp)]
    have := heap_alloc_new (w.alloc (.cells #[.int .i64 kd, .string (bs nm), .slice A l.length ca, .int .i64 rn, .int .i64 rm, .string (bs rf), .string (bs rt), .string (bs rb), .string (bs ra), .string (bs ri), .int .i64 ln] 41)) (.cells #[.int .i64 0, .string ⟨#[]⟩, .slice none 0 0, .int .i64 0, .int .i64 0, .string ⟨#[]⟩, .string ⟨#[]⟩, .string ⟨#[]⟩, .string ⟨#[]⟩, .string ⟨#[]⟩, .int .i64 0] 41)
    simpa using this
  have R10 : (((w.alloc (.cells #[.int .i64 kd, .string (bs nm), .slice A l.length ca, .int .i64 rn, .int .i64 rm, .string (bs rf), .string (bs rt), .string (bs rb), .string (bs ra), .string (bs ri), .int .i64 ln] 41)).alloc (.cells #[.int .i64 0, .string ⟨#[]⟩, .slice none 0 0, .int .i64 0, .int .i64 0, .string ⟨#[]⟩, .string ⟨#[]⟩, .string ⟨#[]⟩, .string ⟨#[]⟩, .string ⟨#[]⟩, .int .i64 0] 41)).alloc (.cells #[.int .i64 0, .int .i64 0, .int .i64 0] 47)).heap[w.heap.size + 1 + 1]? = some (.cells #[.int .i64 0, .int .i64 0, .int .i64 0] 47 (0, 0)) := by
    have := heap_alloc_new ((w.alloc (.cells #[.int .i64 kd, .string (bs nm), .slice A l.length ca, .int .i64 rn, .int .i64 rm, .string (bs rf), .string (bs rt), .string (bs rb), .string (bs ra), .string (bs ri), .int .i64 ln] 41)).alloc (.cells #[.int .i64 0, .string ⟨#[]⟩, .slice none 0 0, .int .i64 0, .int .i64 0, .string ⟨#[]⟩, .string ⟨#[]⟩, .string ⟨#[]⟩, .string ⟨#[]⟩, .string ⟨#[]⟩, .int .i64 0] 41)) (.cells #[.int .i64 0, .int .i64 0, .int .i64 0] 47)
    simpa using this
  generalize ((w.alloc _).alloc _).alloc _ = w1 at *
  have c2 : w1.cell? ⟨w.heap.size, 2, none⟩ = some (.slice A l.length ca) := by rw [cell_of_row _ _ _ _ _ _ R0]; rfl
  have c3 : w1.cell? ⟨w.heap.size, 3, none⟩ = some (.int .i64 rn) := by rw [cell_of_row _ _ _ _ _ _ R0]; rfl
  have c4 : w1.cell? ⟨w.heap.size, 4, none⟩ = some (.int .i64 rm) := by rw [cell_of_row _ _ _ _ _ _ R0]; rfl
  have R := Lib.hid R0
  have HR8 := Lib.hid R8
  have HR10 := Lib.hid R10
  clear R8 R10
  have HB := Lib.hid b0
  clear R0 b0
  go_cut [11] (fun x wx => wx = w1 ∧ x = .int .i64 (wrongK kd rn rm l.length))
  case first =>
    clear R HB HA
    have hk : kd = 4 ∨ kd = 5 ∨ kd = 7 ∨ kd = 11 ∨ (kd ≠ 4 ∧ kd ≠ 5 ∧ kd ≠ 7 ∧ kd ≠ 11) := by omega
    rcases hk with e | e | e | e | ⟨n4, n5, n7, n11⟩
    · have h3 : rn < 2 ∨ (¬ rn < 2 ∧ (l.length : Int) < rn) ∨ (¬ rn < 2 ∧ ¬ (l.length : Int) < rn) := by omega
      rcases h3 with d1 | ⟨d1, d2⟩ | ⟨d1, d2⟩
      · have HW : Hid (wrongK kd rn rm l.length = 1) := by show _ = _; unfold wrongK; split <;> (try split) <;> (try split) <;> omega
        subst e
        go_wp2
        go_meet
        exact ⟨rfl, by rw [HW.out]⟩
      · have HW : Hid (wrongK kd rn rm l.length = 1) := by show _ = _; unfold wrongK; split <;> (try split) <;> (try split) <;> omega
        subst e
        go_wp2
        go_meet
        exact ⟨rfl, by rw [HW.out]⟩
      · have HW : Hid (wrongK kd rn rm l.length = 0) := by show _ = _; unfold wrongK; split <;> (try split) <;> (try split) <;> omega
        subst e
        go_wp2
        go_meet
        exact ⟨rfl, by rw [HW.out]⟩
    · have h3 : rn < 2 ∨ (¬ rn < 2 ∧ (l.length : Int) < rn) ∨ (¬ rn < 2 ∧ ¬ (l.length : Int) < rn) := by omega
      rcases h3 with d1 | ⟨d1, d2⟩ | ⟨d1, d2⟩
      · have HW : Hid (wrongK kd rn rm l.length = 1) := by show _ = _; unfold wrongK; split <;> (try split) <;> (try split) <;> omega
        subst e
        go_wp2
        go_meet
        exact ⟨rfl, by rw [HW.out]⟩
      · have HW : Hid (wrongK kd rn rm l.length = 1) := by show _ = _; unfold wrongK; split <;> (try split) <;> (try split) <;> omega
        subst e
        go_wp2
        go_meet
        exact ⟨rfl, by rw [HW.out]⟩
      · have HW : Hid (wrongK kd rn rm l.length = 0) := by show _ = _; unfold wrongK; split <;> (try split) <;> (try split) <;> omega
        subst e
        go_wp2
        go_meet
        exact ⟨rfl, by rw [HW.out]⟩
    · have h3 : rn < 1 ∨ (¬ rn < 1 ∧ rm < 1) ∨ (¬ rn < 1 ∧ ¬ rm < 1 ∧ 1073741824 < rm) ∨ (¬ rn < 1 ∧ ¬ rm < 1 ∧ ¬ 1073741824 < rm) := by omega
      rcases h3 with d1 | ⟨d1, d2⟩ | ⟨d1, d2, d3⟩ | ⟨d1, d2, d3⟩
      · have HW : Hid (wrongK kd rn rm l.length = 2) := by show _ = _; unfold wrongK; split <;> (try split) <;> (try split) <;> omega
        subst e
        by_cases d2 : rm < 1
        · go_wp2
          go_meet
          exact ⟨rfl, by rw [HW.out]⟩
        · by_cases d3 : 1073741824 < rm
          · go_wp2
            go_meet
            exact ⟨rfl, by rw [HW.out]⟩
          · go_wp2
            go_meet
            exact ⟨rfl, by rw [HW.out]⟩
      · have HW : Hid (wrongK kd rn rm l.length = 3) := by show _ = _; unfold wrongK; split <;> (try split) <;> (try split) <;> omega
        subst e
        go_wp2
        go_meet
        exact ⟨rfl, by rw [HW.out]⟩
      · have HW : Hid (wrongK kd rn rm l.length = 3) := by show _ = _; unfold wrongK; split <;> (try split) <;> (try split) <;> omega
        subst e
        go_wp2
        go_meet
        exact ⟨rfl, by rw [HW.out]⟩
      · have HW : Hid (wrongK kd rn rm l.length = 0) := by show _ = _; unfold wrongK; split <;> (try split) <;> (try split) <;> omega
        subst e
        go_wp2
        go_meet
        exact ⟨rfl, by rw [HW.out]⟩
    · have h3 : rn < 1 ∨ (¬ rn < 1 ∧ 1073741824 < rn) ∨ (¬ rn < 1 ∧ ¬ 1073741824 < rn) := by omega
      rcases h3 with d1 | ⟨d1, d2⟩ | ⟨d1, d2⟩
      · have HW : Hid (wrongK kd rn rm l.length = 1) := by show _ = _; unfold wrongK; split <;> (try split) <;> (try split) <;> omega
        subst e
        go_wp2
        go_meet
        exact ⟨rfl, by rw [HW.out]⟩
      · have HW : Hid (wrongK kd rn rm l.length = 1) := by show _ = _; unfold wrongK; split <;> (try split) <;> (try split) <;> omega
        subst e
        go_wp2
        go_meet
        exact ⟨rfl, by rw [HW.out]⟩
      · have HW : Hid (wrongK kd rn rm l.length = 0) := by show _ = _; unfold wrongK; split <;> (try split) <;> (try split) <;> omega
        subst e
        go_wp2
        go_meet
        exact ⟨rfl, by rw [HW.out]⟩
    · have HW : Hid (wrongK kd rn rm l.length = 0) := by show _ = _; unfold wrongK; split <;> (try split) <;> (try split) <;> omega
      have g4 : (kd == 4) = false := beq_eq_false_iff_ne.2 n4
      have g5 : (kd == 5) = false := beq_eq_false_iff_ne.2 n5
      have g7 : (kd == 7) = false := beq_eq_false_iff_ne.2 n7
      have g11 : (kd == 11) = false := beq_eq_false_iff_ne.2 n11
      go_wp2
      go_meet
      exact ⟨rfl, by rw [HW.out]⟩
  case rest =>
    obtain ⟨hw9, rfl⟩ := hcut
    subst hw9
    obtain ⟨w1, rfl⟩ : ∃ w2 : World, w2 = wc := ⟨_, rfl⟩
    clear c2 c3 c4
    have hwz := wrongK_nn kd rn rm l.length
    have HWZ : Hid (WrgAt kd rn rm nm l first 0 (wrongK kd rn rm l.length)) := .inl ⟨rfl, fun j hj => by omega⟩
    generalize hwk : wrongK kd rn rm l.length = wk at *
    have HWK := Lib.hid hwk
    clear hwk
    go_upto_region 16 with (fail)
    go_loopw [11, 12] (fun x i wx => ∃ (k : Nat) (wrg : Int), k ≤ l.length ∧ i = .int .i64 k ∧ x = .int .i64 wrg ∧ Hid (WrgAt kd rn rm nm l first k wrg) ∧ Hid (Below w1.heap.size w1 wx)) (fun _ i _ => l.length - (intOf i).toNat)
    case atStart => exact ⟨0, wk, Nat.zero_le _, rfl, rfl, HWZ, Below.refl _ _⟩
    case round =>
      obtain ⟨k, wrg, hk, rfl, rfl, HG, HBw⟩ := hrel
      have hbk : ∀ {j : Nat} {v : Value}, w1.cell? ⟨w.heap.size, j, none⟩ = some v → wr.cell? ⟨w.heap.size, j, none⟩ = some v := fun h => (HBw.out.cell (World.block_lt_of_cell? w1 _ h)).trans h
      have c0 : wr.cell? ⟨w.heap.size, 0, none⟩ = some (.int .i64 kd) := hbk (by rw [cell_of_row _ _ _ _ _ _ R.out]; rfl)
      have c1 : wr.cell? ⟨w.heap.size, 1, none⟩ = some (.string (bs nm)) := hbk (by rw [cell_of_row _ _ _ _ _ _ R.out]; rfl)
      have c2 : wr.cell? ⟨w.heap.size, 2, none⟩ = some (.slice A l.length ca) := hbk (by rw [cell_of_row _ _ _ _ _ _ R.out]; rfl)
      clear hbk
      have hways : (k < l.length ∧ wrg = 0) ∨ wrg ≠ 0 ∨ (¬ k < l.length ∧ wrg = 0) := by omega
      rcases hways with ⟨hlt, h0⟩ | h0 | ⟨hlt, h0⟩
      · have hki : (k : Int) < l.length := by omega
        have hl0 : l ≠ [] := fun e => by rw [e] at hlt; simp at hlt
        have HF1 := Lib.hid (HF.out hl0).1
        have HFL := Lib.hid (HF.out hl0).2
        have HLw := HA.out.below (below_then HB.out HBw.out HB.out.size)
        obtain ⟨g1, off, rfl, _, hcell⟩ := HLw.2.2 k hlt
        have HTK : Hid (l.getD k [] = l[k]) := by show _ = _; simp [List.getD_eq_getElem?_getD, hlt]
        have hq := beq_bs l[k] nm
        have HLK : Hid (∀ W, Below w1.heap.size w1 W → W.cell? ⟨g1, off + k, none⟩ = some (.string (bs l[k]))) := fun W hW => by
          obtain ⟨g9, off9, e9, _, h9⟩ := (HA.out.below (below_then HB.out hW HB.out.size)).2.2 k hlt
          injection e9 with e9; injection e9 with e9 e10; subst e9; subst e10; exact h9
        have HLJ : Hid (∀ W, Below w1.heap.size w1 W → ∀ (j : Nat) (hj : j < l.length), W.cell? ⟨g1, off + j, none⟩ = some (.string (bs l[j]))) := fun W hW j hj => by
          obtain ⟨g9, off9, e9, _, h9⟩ := (HA.out.below (below_then HB.out hW HB.out.size)).2.2 j hj
          injection e9 with e9; injection e9 with e9 e10; subst e9; subst e10; exact h9
        have HTW : Hid (twF (kd == 1 && l[k] == nm) l l[k] k = twiceR kd nm l k) := by
          show _ = _
          unfold twF twiceR
          rw [HTK.out]
        clear HLw
        have HL9 : Hid (∀ (j : Nat) (hj : j < l.length), ((bs l[j]).toList == (bs l[k]).toList) = (l[j] == l[k])) := fun j hj => beq_bs _ _
        generalize l[k] = t at *
        generalize (t == nm) = bq at *
        go_upto_region 18 with (fail)
        rcases Bool.eq_false_or_eq_true (kd == 1) with e1 | e1
        · have HTV : Hid (twF bq l t k = twiceR kd nm l k) := by
            have h := HTW.out
            rw [e1, Bool.true_and] at h
            exact h
          clear HTW
          go_quiet (fail)
          have HBc := Lib.hid (below_drewN HBw.out nq)
          clear c0 c1 c2 hcell hq e1
          generalize wr.drewN nq = w4 at *
          go_upto_region 20 with (fail)
          go_loopw [13, 14] (fun x i wx => ∃ j : Nat, j ≤ k ∧ i = .int .i64 j ∧ x = .bool (twF bq l t j) ∧ Hid (Below w1.heap.size w1 wx)) (fun _ i _ => k - (intOf i).toNat)
          case atStart => exact ⟨0, Nat.zero_le _, rfl, by rw [twF_zero], HBc⟩
          case round =>
            obtain ⟨j, hj, rfl, rfl, HBj⟩ := hrel
            by_cases hjk : j < k
            · have hji : (j : Int) < k := by omega
              have hjl : (j : Int) < l.length := by omega
              have hjn : j < l.length := by omega
              have c2 : wr.cell? ⟨w.heap.size, 2, none⟩ = some (.slice (some ⟨g1, off, none⟩) l.length ca) := by
                have c2' : w1.cell? ⟨w.heap.size, 2, none⟩ = some (.slice (some ⟨g1, off, none⟩) l.length ca) := by rw [cell_of_row _ _ _ _ _ _ R.out]; rfl
                exact (HBj.out.cell (World.block_lt_of_cell? w1 _ c2')).trans c2'
              have ck := HLK.out wr HBj.out
              have cj := HLJ.out wr HBj.out j hjn
              have hq := HL9.out j hjn
              have HN : Hid (twF bq l t (j + 1) = (twF bq l t j || l[j] == t)) := twF_next bq l t hjn
              generalize l[j] = tj at *
              generalize (tj == t) = bj at *
              generalize twF bq l t j = tw at *
              cases tw
              · go_upto_region 22 with (fail)
                go_quiet (fail)
                have HBq := Lib.hid (below_drewN HBj.out nq)
                generalize wr.drewN nq = w5 at *
                go_wp2
                go_roundw
                case rel => exact ⟨j + 1, by omega, by go_num, by rw [HN.out]; rfl, HBq⟩
                case measure => simp [intOf]; omega
              · go_upto_region 22 with (fail)
                go_quiet (fail)
                have HBq := Lib.hid (below_drewN HBj.out nq)
                generalize wr.drewN nq = w5 at *
                go_wp2
                go_roundw
                case rel => exact ⟨j + 1, by omega, by go_num, by rw [HN.out]; rfl, HBq⟩
                case measure => simp [intOf]; omega
            · have hjk' : j = k := by omega
              have HTX : Hid (twF bq l t j = twiceR kd nm l k) := by rw [hjk']; exact HTV
              clear hjk' HTV
              have hwf : IntKind.i64.wrap (first + (k : Int)) = first + k := by
                have := HF1.out
                have := HFL.out
                have := HWS.out
                rw [IntKind.wrap_i64]; omega
              generalize twF bq l t j = tw at *
              cases tw
              · have HGN := Lib.hid (wrg_snoc HG.out h0 HF1.out HTX.out.symm)
                go_wp2
                go_roundw
                case rel => exact ⟨k + 1, wrg, by omega, by go_num, rfl, HGN, HBj⟩
                case measure => simp [intOf]; omega
              · have HGN : Hid (WrgAt kd rn rm nm l first (k + 1) (first + k)) := wrg_hit HTX.out.symm
                go_wp2
                go_roundw
                case rel => exact ⟨k + 1, first + k, by omega, by go_num, rfl, HGN, HBj⟩
                case measure => simp [intOf]; omega
        · have HTV : Hid (twF false l t k = twiceR kd nm l k) := by
            have h := HTW.out
            rw [e1, Bool.false_and] at h
            exact h
          clear HTW
          go_quiet (fail)
          have HBc := Lib.hid (below_drewN HBw.out nq)
          clear c0 c1 c2 hcell hq e1
          generalize wr.drewN nq = w4 at *
          go_upto_region 20 with (fail)
          go_loopw [13, 14] (fun x i wx => ∃ j : Nat, j ≤ k ∧ i = .int .i64 j ∧ x = .bool (twF false l t j) ∧ Hid (Below w1.heap.size w1 wx)) (fun _ i _ => k - (intOf i).toNat)
          case atStart => exact ⟨0, Nat.zero_le _, rfl, by rw [twF_zero], HBc⟩
          case round =>
            obtain ⟨j, hj, rfl, rfl, HBj⟩ := hrel
            by_cases hjk : j < k
            · have hji : (j : Int) < k := by omega
              have hjl : (j : Int) < l.length := by omega
              have hjn : j < l.length := by omega
              have c2 : wr.cell? ⟨w.heap.size, 2, none⟩ = some (.slice (some ⟨g1, off, none⟩) l.length ca) := by
                have c2' : w1.cell? ⟨w.heap.size, 2, none⟩ = some (.slice (some ⟨g1, off, none⟩) l.length ca) := by rw [cell_of_row _ _ _ _ _ _ R.out]; rfl
                exact (HBj.out.cell (World.block_lt_of_cell? w1 _ c2')).trans c2'
              have ck := HLK.out wr HBj.out
              have cj := HLJ.out wr HBj.out j hjn
              have hq := HL9.out j hjn
              have HN : Hid (twF false l t (j + 1) = (twF false l t j || l[j] == t)) := twF_next false l t hjn
              generalize l[j] = tj at *
              generalize (tj == t) = bj at *
              generalize twF false l t j = tw at *
              cases tw
              · go_upto_region 22 with (fail)
                go_quiet (fail)
                have HBq := Lib.hid (below_drewN HBj.out nq)
                generalize wr.drewN nq = w5 at *
                go_wp2
                go_roundw
                case rel => exact ⟨j + 1, by omega, by go_num, by rw [HN.out]; rfl, HBq⟩
                case measure => simp [intOf]; omega
              · go_upto_region 22 with (fail)
                go_quiet (fail)
                have HBq := Lib.hid (below_drewN HBj.out nq)
                generalize wr.drewN nq = w5 at *
                go_wp2
                go_roundw
                case rel => exact ⟨j + 1, by omega, by go_num, by rw [HN.out]; rfl, HBq⟩
                case measure => simp [intOf]; omega
            · have hjk' : j = k := by omega
              have HTX : Hid (twF false l t j = twiceR kd nm l k) := by rw [hjk']; exact HTV
              clear hjk' HTV
              have hwf : IntKind.i64.wrap (first + (k : Int)) = first + k := by
                have := HF1.out
                have := HFL.out
                have := HWS.out
                rw [IntKind.wrap_i64]; omega
              generalize twF false l t j = tw at *
              cases tw
              · have HGN := Lib.hid (wrg_snoc HG.out h0 HF1.out HTX.out.symm)
                go_wp2
                go_roundw
                case rel => exact ⟨k + 1, wrg, by omega, by go_num, rfl, HGN, HBj⟩
                case measure => simp [intOf]; omega
              · have HGN : Hid (WrgAt kd rn rm nm l first (k + 1) (first + k)) := wrg_hit HTX.out.symm
                go_wp2
                go_roundw
                case rel => exact ⟨k + 1, first + k, by omega, by go_num, rfl, HGN, HBj⟩
                case measure => simp [intOf]; omega
      · have hqq : 0 < wrg ∧ wrg < ws.length := by
          rcases HG.out with ⟨e, _⟩ | ⟨e, h1, h2⟩
          · have := wrongK_nn kd rn rm l.length
            rw [HWK.out] at this e
            have h9 := HWB.out
            omega
          · have hl0 : l ≠ [] := fun e => by rw [e] at hk; simp at hk; omega
            have := HF.out hl0
            omega
        have HNO := Lib.hid (wrg_no (r := ⟨kd, nm, l, rn, rm, rf, rt, rb, ra, ri⟩) HG.out hk h0)
        obtain ⟨q, rfl⟩ : ∃ q : Nat, wrg = q := ⟨wrg.toNat, by omega⟩
        have hqi : (0 : Int) < q := by omega
        have hqw : (q : Int) < ws.length := by omega
        have hqn : ((q : Int) == 0) = false := beq_eq_false_iff_ne.2 (by omega)
        have HBa := Lib.hid (below_then HB.out HBw.out HB.out.size)
        have hcol := ((HWA.out.below HGS.out HBa.out) q (by omega)).2.1
        rw [Nat.zero_add] at hcol
        have hgs := HGS.out
        generalize ws[q].1 = col at *
        have r8 := (HBw.out.block _ (Array.getElem?_eq_some_iff.1 HR8.out).1).trans HR8.out
        have r10 := (HBw.out.block _ (Array.getElem?_eq_some_iff.1 HR10.out).1).trans HR10.out
        have q0 := row_q0 r8; have q1 := row_q1 r8; have q2 := row_q2 r8; have q3 := row_q3 r8; have q4 := row_q4 r8; have q5 := row_q5 r8; have q6 := row_q6 r8; have q7 := row_q7 r8; have q8 := row_q8 r8; have q9 := row_q9 r8; have q10 := row_q10 r8
        have f0 := row_fz r8 0; have f1 := row_fz r8 1; have f2 := row_fz r8 2; have f3 := row_fz r8 3; have f4 := row_fz r8 4; have f5 := row_fz r8 5; have f6 := row_fz r8 6; have f7 := row_fz r8 7; have f8 := row_fz r8 8; have f9 := row_fz r8 9; have f10 := row_fz r8 10
        have k0 := flt_q0 r10; have k1 := flt_q1 r10; have k2 := flt_q2 r10; have e0 := flt_fz r10 0; have e1 := flt_fz r10 1; have e2 := flt_fz r10 2
        have HR8w := Lib.hid r8
        have HR10w := Lib.hid r10
        by_cases hlt : k < l.length
        · have hki : (k : Int) < l.length := by omega
          go_upto_region 26 with (fail)
          go_region
          go_wp2
          obtain ⟨h8, h10, hbl⟩ := two_rowsD (.int .i64 0) (.string ⟨#[]⟩) (.slice none 0 0) (.int .i64 0) (.int .i64 0) (.string ⟨#[]⟩) (.string ⟨#[]⟩) (.string ⟨#[]⟩) (.string ⟨#[]⟩) (.string ⟨#[]⟩) (.int .i64 0) (.int .i64 number) (.int .i64 col) (.int .i64 1) HR8w.out HR10w.out (by omega) _ _ rfl rfl
          (try simp only [Exit.inBlock, Exit.then])
          refine bodyPost_ret (run_cell212 rfl _ _ (w.heap.size + 1) (w.heap.size + 1 + 1) _ _ _ _ _ _ _ _ rfl rfl h8 h10 Tryz.underlying41 rfl (by kernel_rfl) Tryz.underlying47 rfl (by kernel_rfl)) rfl ?_
          exact ⟨hbl _ _ HBa.out HBa.out.size (by omega) (by omega), by rw [if_neg HNO.out]; exact ⟨_, rfl⟩⟩
        · have hki : ¬ (k : Int) < l.length := by omega
          go_upto_region 26 with (fail)
          go_region
          go_wp2
          obtain ⟨h8, h10, hbl⟩ := two_rowsD (.int .i64 0) (.string ⟨#[]⟩) (.slice none 0 0) (.int .i64 0) (.int .i64 0) (.string ⟨#[]⟩) (.string ⟨#[]⟩) (.string ⟨#[]⟩) (.string ⟨#[]⟩) (.string ⟨#[]⟩) (.int .i64 0) (.int .i64 number) (.int .i64 col) (.int .i64 1) HR8w.out HR10w.out (by omega) _ _ rfl rfl
          (try simp only [Exit.inBlock, Exit.then])
          refine bodyPost_ret (run_cell212 rfl _ _ (w.heap.size + 1) (w.heap.size + 1 + 1) _ _ _ _ _ _ _ _ rfl rfl h8 h10 Tryz.underlying41 rfl (by kernel_rfl) Tryz.underlying47 rfl (by kernel_rfl)) rfl ?_
          exact ⟨hbl _ _ HBa.out HBa.out.size (by omega) (by omega), by rw [if_neg HNO.out]; exact ⟨_, rfl⟩⟩
      · have HYE := Lib.hid (wrg_yes (r := ⟨kd, nm, l, rn, rm, rf, rt, rb, ra, ri⟩) HG.out hlt hk h0 (fun h => (HF.out h).1))
        subst h0
        have hki : ¬ (k : Int) < l.length := by omega
        have HBa := Lib.hid (below_then HB.out HBw.out HB.out.size)
        have r0 := (HBw.out.block _ (Array.getElem?_eq_some_iff.1 R.out).1).trans R.out
        have r8 := (HBw.out.block _ (Array.getElem?_eq_some_iff.1 HR8.out).1).trans HR8.out
        have r10 := (HBw.out.block _ (Array.getElem?_eq_some_iff.1 HR10.out).1).trans HR10.out
        have q0 := row_q0 r0; have q1 := row_q1 r0; have q2 := row_q2 r0; have q3 := row_q3 r0; have q4 := row_q4 r0; have q5 := row_q5 r0; have q6 := row_q6 r0; have q7 := row_q7 r0; have q8 := row_q8 r0; have q9 := row_q9 r0; have q10 := row_q10 r0
        have s0 := row_q0 r8; have s1 := row_q1 r8; have s2 := row_q2 r8; have s3 := row_q3 r8; have s4 := row_q4 r8; have s5 := row_q5 r8; have s6 := row_q6 r8; have s7 := row_q7 r8; have s8 := row_q8 r8; have s9 := row_q9 r8; have s10 := row_q10 r8
        have f0 := row_fz r8 0; have f1 := row_fz r8 1; have f2 := row_fz r8 2; have f3 := row_fz r8 3; have f4 := row_fz r8 4; have f5 := row_fz r8 5; have f6 := row_fz r8 6; have f7 := row_fz r8 7; have f8 := row_fz r8 8; have f9 := row_fz r8 9; have f10 := row_fz r8 10
        have k0 := flt_q0 r10; have k1 := flt_q1 r10; have k2 := flt_q2 r10; have e0 := flt_fz r10 0; have e1 := flt_fz r10 1; have e2 := flt_fz r10 2
        have HR8w := Lib.hid r8
        have HR10w := Lib.hid r10
        clear c0 c1 c2
        go_wp2
        obtain ⟨h8, h10, hbl⟩ := two_rows (.int .i64 kd) (.string (bs nm)) (.slice A l.length ca) (.int .i64 rn) (.int .i64 rm) (.string (bs rf)) (.string (bs rt)) (.string (bs rb)) (.string (bs ra)) (.string (bs ri)) (.int .i64 ln) (.int .i64 0) (.int .i64 0) (.int .i64 0) HR8w.out HR10w.out (by omega) _ rfl
        (try simp only [Exit.inBlock, Exit.then])
        refine bodyPost_ret (run_cell212 rfl _ _ (w.heap.size + 1) (w.heap.size + 1 + 1) _ _ _ _ _ _ _ _ rfl rfl h8 h10 Tryz.underlying41 rfl (by kernel_rfl) Tryz.underlying47 rfl (by kernel_rfl)) rfl ?_
        exact ⟨hbl _ _ HBa.out HBa.out.size (by omega) (by omega), by rw [if_pos HYE.out]; rfl⟩
end Go.Proofs.YtahgfmobdfhaaaaGreatDoor
