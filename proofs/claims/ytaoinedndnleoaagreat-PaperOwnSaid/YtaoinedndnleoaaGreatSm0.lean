import Derived.Test.YtaoinedndnleoaaGreatCh3
import Derived.Test.YtaoinedndnleoaaGreatArgI
import Derived.Test.YtaoinedndnleoaaGreatSh0
import Derived.Deep.RegionHeld3
import Derived.Deep.RegionLaw
import Derived.Test.YtaoinedndnleoaaGreatPrint2
import Derived.Deep.DeepCutAuto
import Derived.Deep.Onto
import Derived.Laws.OwnMore
import Derived.Laws.AppendOwnNone
import Derived.Deep.AppendLies
import Derived.Test.YtaoinedndnleoaaGreatPlain06
import Derived.Test.YtaoinedndnleoaaGreatShelf
import Derived.Lib.AppendIntMem
import Derived.Deep.RegionWith
import Derived.StillTailTactics
import Derived.Deep.Fields
import Derived.Test.YtaoinedndnleoaaGreatOkP
import Derived.Laws.StructEq
import Derived.ChangeKeysEq
import Derived.Lib.QuietBelow
namespace Go.Proofs.YtaoinedndnleoaaGreat
set_option maxRecDepth 100000
open Go.ChangeShapes Go.WideShapes Go.ChangeAt Go.RowKit
theorem Tryz.infoTran : (Tryz.prog.info? 52).map (fun i => (i.zero, i.size, i.bytes)) = some (some (.agg #[.int .i64 0, .int .i64 0, .int .i64 0, .string ⟨#[]⟩, .string ⟨#[]⟩, .string ⟨#[]⟩, .int .i64 0]), 7, 80) := by kernel_rfl
theorem sc_oneA (x : Tx) : ∀ u ∈ scells [x], u.oneCell' = true := by intro u hu; simp [scells] at hu; subst hu; rfl
theorem ic_oneA (x : Int) : ∀ u ∈ icells [x], u.oneCell' = true := icells_one [x]
theorem ownL_snocA {X : World} {base : Nat} {v : Value} {l : List Tx} {x : Tx} (h : X.ownsRow base 9 1 v (l.length + 1) (scells l ++ scells [x])) : OwnL X base v (l ++ [x]) := by
 unfold OwnL
 rw [List.length_append]
 unfold scells at *
 rw [List.map_append]
 exact h
theorem ownI_snocA {X : World} {base : Nat} {v : Value} {l : List Int} {x : Int} (h : X.ownsRow base 3 1 v (l.length + 1) (icells l ++ icells [x])) : OwnI X base v (l ++ [x]) := by
 unfold OwnI
 rw [List.length_append]
 unfold icells at *
 rw [List.map_append]
 exact h
theorem ru_keepA {w X : World} {g b j : Nat} {cs : Array Value} {t : TypeId} {fz : Nat × Nat} {row : Option Nat} {v : Value} (h : w.heap[g]? = some (.cells cs t fz)) (hg : w.grownBy X row) (hr : row ≠ some g) (hb : b ≠ g) : (X.setCell ⟨b, j, none⟩ v).heap[g]? = some (.cells cs t fz) := by
 have hl := (Array.getElem?_eq_some_iff.1 h).1
 exact ((grown_setCell X b j v).block g (Nat.lt_of_lt_of_le hl hg.size) (fun e => hb (by simpa using e.symm))).trans ((hg.block g hl (fun e => hr e.symm)).trans h)
theorem t_oneA (t : Tr) : ∀ u ∈ tcells [t], u.oneCell' = true := by intro u hu; simp [tcells, tcell] at hu; rcases hu with rfl | rfl | rfl | rfl | rfl | rfl | rfl <;> rfl
theorem ownT_snocA {X : World} {base : Nat} {v : Value} {l : List Tr} {x : Tr} (h : X.ownsRow base 52 7 v (l.length + 1) (tcells l ++ tcells [x])) : OwnT X base v (l ++ [x]) := by
 unfold OwnT
 have e : tcells (l ++ [x]) = tcells l ++ tcells [x] := by simp [tcells]
 rw [List.length_append, e]
 exact h
structure CA (w0 W : World) (b : Nat) (c : Ch) (vN vK vP vT : Value) : Prop where
 row : W.heap[b]? = some (.cells #[vN, vK, vP, vT] 30 (0, 0))
 lo : w0.heap.size ≤ b
 oN : OwnL W w0.heap.size vN c.names
 oK : OwnI W w0.heap.size vK c.kinds
 oP : OwnI W w0.heap.size vP c.parents
 ap : ∀ g, vK.ownBlock = some g → vP.ownBlock = some g → False
 oT : OwnT W w0.heap.size vT c.trans
 be : Below w0.heap.size w0 W
section
variable {w0 W W1 : World} {b : Nat} {c : Ch} {vN vK vP vT : Value}
theorem CA.lt (R : CA w0 W b c vN vK vP vT) : b < W.heap.size := (Array.getElem?_eq_some_iff.1 R.row).1
theorem CA.below (R : CA w0 W b c vN vK vP vT) (hb : Below W.heap.size W W1) : CA w0 W1 b c vN vK vP vT where
 row := (hb.block _ R.lt).trans R.row
 lo := R.lo
 oN := own_below R.oN hb R.be.size
 oK := own_below R.oK hb R.be.size
 oP := own_below R.oP hb R.be.size
 ap := R.ap
 oT := own_below R.oT hb R.be.size
 be := below_then R.be hb R.be.size
theorem CA.q0 (R : CA w0 W b c vN vK vP vT) : W.cell? ⟨b, 0, none⟩ = some vN := by rw [cell_of_row _ _ _ _ _ _ R.row]; rfl
theorem CA.q1 (R : CA w0 W b c vN vK vP vT) : W.cell? ⟨b, 1, none⟩ = some vK := by rw [cell_of_row _ _ _ _ _ _ R.row]; rfl
theorem CA.q2 (R : CA w0 W b c vN vK vP vT) : W.cell? ⟨b, 2, none⟩ = some vP := by rw [cell_of_row _ _ _ _ _ _ R.row]; rfl
theorem CA.q3 (R : CA w0 W b c vN vK vP vT) : W.cell? ⟨b, 3, none⟩ = some vT := by rw [cell_of_row _ _ _ _ _ _ R.row]; rfl
theorem CA.row1 (R : CA w0 W b c vN vK vP vT) {row : Option Nat} (hg : W.grownBy W1 row) (hne : row ≠ some b) : W1.heap[b]? = some (.cells #[vN, vK, vP, vT] 30 (0, 0)) :=
 (hg.block b R.lt (fun e => hne e.symm)).trans R.row
theorem CA.be1 (R : CA w0 W b c vN vK vP vT) {row : Option Nat} (hg : W.grownBy W1 row) (hlo : ∀ g, row = some g → w0.heap.size ≤ g) (j : Nat) (v : Value) : Below w0.heap.size w0 (W1.setCell ⟨b, j, none⟩ v) :=
 (R.be.grown hg R.be.size hlo).grown (grown_setCell _ _ _ _) (R.be.grown hg R.be.size hlo).size (fun g e => by cases e; exact R.lo)
theorem CA.names (R : CA w0 W b c vN vK vP vT) {v' : Value} {x : Tx} (hg : W.grownBy W1 vN.ownBlock) (ho : OwnL W1 w0.heap.size v' (c.names ++ [x])) :
  CA w0 (W1.setCell ⟨b, 0, none⟩ v') b { c with names := c.names ++ [x] } v' vK vP vT := by
 have r1 := R.row1 hg (own_row_ne R.oN R.row (by decide))
 exact ⟨heap_set (j := 0) r1 v', R.lo, put2 ho r1 (by decide) _ _, keep2 R.oK hg (rows_unlike R.oK R.oN (by decide)) r1 (by decide) _ _, keep2 R.oP hg (rows_unlike R.oP R.oN (by decide)) r1 (by decide) _ _, R.ap,
  keep2 R.oT hg (rows_unlike R.oT R.oN (by decide)) r1 (by decide) _ _, R.be1 hg (fun g e => (World.ownsRow.lt R.oN g e).1) _ _⟩
theorem CA.kinds (R : CA w0 W b c vN vK vP vT) {v' : Value} {x : Int} (hg : W.grownBy W1 vK.ownBlock) (ho : OwnI W1 w0.heap.size v' (c.kinds ++ [x])) (hk : ∀ g, v'.ownBlock = some g → vK.ownBlock = some g ∨ W.heap.size ≤ g) :
  CA w0 (W1.setCell ⟨b, 1, none⟩ v') b { c with kinds := c.kinds ++ [x] } vN v' vP vT := by
 have r1 := R.row1 hg (own_row_ne R.oK R.row (by decide))
 refine ⟨heap_set (j := 1) r1 v', R.lo, keep2 R.oN hg (rows_unlike R.oN R.oK (by decide)) r1 (by decide) _ _, put2 ho r1 (by decide) _ _, keep2 R.oP hg (ap_cases fun g e1 e2 => R.ap g e2 e1) r1 (by decide) _ _, ?_,
  keep2 R.oT hg (rows_unlike R.oT R.oK (by decide)) r1 (by decide) _ _, R.be1 hg (fun g e => (World.ownsRow.lt R.oK g e).1) _ _⟩
 intro g e1 e2
 rcases hk g e1 with h | h
 ·exact R.ap g h e2
 ·have := (World.ownsRow.lt R.oP g e2).2; omega
theorem CA.parents (R : CA w0 W b c vN vK vP vT) {v' : Value} {x : Int} (hg : W.grownBy W1 vP.ownBlock) (ho : OwnI W1 w0.heap.size v' (c.parents ++ [x])) (hk : ∀ g, v'.ownBlock = some g → vP.ownBlock = some g ∨ W.heap.size ≤ g) :
  CA w0 (W1.setCell ⟨b, 2, none⟩ v') b { c with parents := c.parents ++ [x] } vN vK v' vT := by
 have r1 := R.row1 hg (own_row_ne R.oP R.row (by decide))
 refine ⟨heap_set (j := 2) r1 v', R.lo, keep2 R.oN hg (rows_unlike R.oN R.oP (by decide)) r1 (by decide) _ _, keep2 R.oK hg (ap_cases R.ap) r1 (by decide) _ _, put2 ho r1 (by decide) _ _, ?_,
  keep2 R.oT hg (rows_unlike R.oT R.oP (by decide)) r1 (by decide) _ _, R.be1 hg (fun g e => (World.ownsRow.lt R.oP g e).1) _ _⟩
 intro g e1 e2
 rcases hk g e2 with h | h
 ·exact R.ap g e1 h
 ·have := (World.ownsRow.lt R.oK g e1).2; omega
theorem CA.trans (R : CA w0 W b c vN vK vP vT) {v' : Value} {x : Tr} (hg : W.grownBy W1 vT.ownBlock) (ho : OwnT W1 w0.heap.size v' (c.trans ++ [x])) :
  CA w0 (W1.setCell ⟨b, 3, none⟩ v') b { c with trans := c.trans ++ [x] } vN vK vP v' := by
 have r1 := R.row1 hg (own_row_ne R.oT R.row (by decide))
 exact ⟨heap_set (j := 3) r1 v', R.lo, keep2 R.oN hg (rows_unlike R.oN R.oT (by decide)) r1 (by decide) _ _, keep2 R.oK hg (rows_unlike R.oK R.oT (by decide)) r1 (by decide) _ _, keep2 R.oP hg (rows_unlike R.oP R.oT (by decide)) r1 (by decide) _ _, R.ap,
  put2 ho r1 (by decide) _ _, R.be1 hg (fun g e => (World.ownsRow.lt R.oT g e).1) _ _⟩
end
end Go.Proofs.YtaoinedndnleoaaGreat
namespace Go.Proofs.YtaoinedndnleoaaGreat
set_option maxRecDepth 100000
def sumTo (f : Nat → Nat) : Nat → Nat
 | 0 => 0
 | k + 1 => sumTo f k + f k
def prdTo (f : Nat → Nat) : Nat → Nat
 | 0 => 1
 | k + 1 => prdTo f k * f k
theorem sumTo_congr {f g : Nat → Nat} : ∀ {n : Nat}, (∀ k, k < n → f k = g k) → sumTo f n = sumTo g n
 | 0, _ => rfl
 | n + 1, h => by
  simp only [sumTo]
  rw [sumTo_congr fun k hk => h k (by omega), h n (by omega)]
theorem sum_part {f g : Nat → Nat} {q w : Nat} : ∀ {n : Nat}, q < n → (∀ k, k < n → k ≠ q → f k = g k) → f q = w + g q → sumTo f n = w + sumTo g n
 | 0, hq, _, _ => absurd hq (by omega)
 | n + 1, hq, he, hw => by
  simp only [sumTo]
  by_cases e : q = n
  ·subst e
   rw [sumTo_congr (f := f) (g := g) fun k hk => he k (by omega) (by omega), hw]; omega
  ·rw [sum_part (by omega) (fun k hk hne => he k (by omega) hne) hw, he n (by omega) (by omega)]; omega
theorem sum_zero {f : Nat → Nat} : ∀ {n : Nat}, (∀ k, k < n → f k = 0) → sumTo f n = 0
 | 0, _ => rfl
 | n + 1, h => by
  simp only [sumTo]
  rw [sum_zero fun k hk => h k (by omega), h n (by omega)]
theorem sum_zero_iff {f : Nat → Nat} : ∀ {n : Nat}, sumTo f n = 0 ↔ ∀ k, k < n → f k = 0
 | 0 => by simp [sumTo]
 | n + 1 => by
  simp only [sumTo]
  rw [Nat.add_eq_zero_iff, sum_zero_iff]
  constructor
  ·rintro ⟨h1, h2⟩ k hk
   by_cases e : k = n
   ·subst e; exact h2
   ·exact h1 k (by omega)
  ·intro h
   exact ⟨fun k hk => h k (by omega), h n (by omega)⟩
section
variable (ks ps : List Int) (n : Nat)
def waysF : Nat → Int → Nat
 | 0, _ => 1
 | f + 1, a =>
  if (List.range n).any (isKid ks ps a) = false then 1
  else if 0 ≤ a ∧ ks.getD a.toNat 0 = 2 then prdTo (fun k => if isKid ks ps a k then waysF f k else 1) n
  else sumTo (fun k => if isKid ks ps a k then waysF f k else 0) n
def wy (a : Int) : Nat := waysF ks ps n ((n : Int) - a).toNat a
variable {ks ps n}
end
section
variable (ks ps : List Int) (n : Nat)
def cin (a : Int) (S : Nat → Bool) (m : Nat) : Nat := sumTo (fun k => if isKid ks ps a k && S k then 1 else 0) m
variable {ks ps n}
end
theorem sum_more {f : Nat → Nat} {n : Nat} (h : ∀ k, n ≤ k → f k = 0) : ∀ d, sumTo f (n + d) = sumTo f n
 | 0 => rfl
 | d + 1 => by
  show sumTo f (n + d) + f (n + d) = _
  rw [sum_more h d, h (n + d) (by omega)]; rfl
section
variable {ks ps : List Int} {n : Nat}
theorem cnt_sum (x : Nat) : ∀ m, cntTo x m = sumTo (fun k => (x.testBit k).toNat) m
 | 0 => rfl
 | m + 1 => by simp only [cntTo, sumTo]; rw [cnt_sum x m]
theorem cnt_cin (s : Nat) (a : Int) (hn : n ≤ 32) : cnt (s &&& opn ks ps a n) = cin ks ps a s.testBit n := by
 have e : cnt (s &&& opn ks ps a n) = sumTo (fun k => ((s &&& opn ks ps a n).testBit k).toNat) (n + (32 - n)) := by
  rw [show n + (32 - n) = 32 by omega]; exact cnt_sum _ _
 rw [e, sum_more fun k hk => ?_]
 ·unfold cin
  refine sumTo_congr fun k hk => ?_
  rw [Nat.testBit_and, opn_bit, decide_eq_true hk, Bool.true_and, Bool.and_comm]
  cases isKid ks ps a k && s.testBit k <;> rfl
 ·rw [Nat.testBit_and, opn_bit, decide_eq_false (by omega)]; simp
theorem opn_none {a : Int} : opn ks ps a n = 0 ↔ (List.range n).any (isKid ks ps a) = false := by
 rw [List.any_eq_false]
 constructor
 ·intro h k hk hi
  have := opn_bit ks ps a k n
  rw [h, Nat.zero_testBit, decide_eq_true (List.mem_range.1 hk), hi] at this
  cases this
 ·intro h
  apply Nat.eq_of_testBit_eq
  intro k
  rw [opn_bit, Nat.zero_testBit]
  by_cases hk : k < n
  ·have := h k (List.mem_range.2 hk)
   have : isKid ks ps a k = false := by simpa using this
   rw [this, Bool.and_false]
  ·rw [decide_eq_false hk]; rfl
theorem opn_all {a : Int} {s : Nat} : s &&& opn ks ps a n = opn ks ps a n ↔ ∀ k, k < n → isKid ks ps a k = true → s.testBit k = true := by
 constructor
 ·intro h k hk hi
  have := congrArg (·.testBit k) h
  try dsimp only at this
  rw [Nat.testBit_and, opn_bit, decide_eq_true hk, hi] at this
  simpa using this
 ·intro h
  apply Nat.eq_of_testBit_eq
  intro k
  rw [Nat.testBit_and, opn_bit]
  by_cases hk : k < n
  ·cases hi : isKid ks ps a k
   ·simp
   ·rw [h k hk hi]; rfl
  ·rw [decide_eq_false hk]; simp
end
def addB (s : Nat) : List Nat → Nat
 | [] => s
 | k :: r => addB (s ||| 2 ^ k) r
theorem addB_bit (j : Nat) : ∀ (C : List Nat) (s : Nat), (addB s C).testBit j = (s.testBit j || decide (j ∈ C))
 | [], s => by simp [addB]
 | k :: r, s => by
  unfold addB
  rw [addB_bit j r, Nat.testBit_or, Nat.testBit_two_pow]
  by_cases e : k = j
  ·subst e; simp
  ·have e' : ¬ j = k := fun h => e h.symm
   simp [e, e']
theorem addB_lt {n : Nat} : ∀ (C : List Nat) (s : Nat), s < 2 ^ n → (∀ k ∈ C, k < n) → addB s C < 2 ^ n
 | [], _, h, _ => h
 | k :: r, s, h, hC => addB_lt r _ (Nat.or_lt_two_pow h (Nat.pow_lt_pow_right (a := 2) (by omega) (hC k (by simp)))) fun x hx => hC x (by simp [hx])
section
variable (ks ps : List Int) (n : Nat)
def openL (a : Int) : List Nat := (List.range n).filter (isKid ks ps a)
def plc (s : Nat) (a : Int) : Prop := a = -1 ∨ ∃ k : Nat, a = k ∧ k < n ∧ s.testBit k = true
def done (s : Nat) (a : Int) : Prop :=
 if 0 ≤ a ∧ ks.getD a.toNat 0 = 2 then ∀ k, k < n → isKid ks ps a k = true → s.testBit k = true
 else (List.range n).any (isKid ks ps a) = false ∨ cin ks ps a s.testBit n = 1
structure CInv (s : Nat) (L : List Int) : Prop where
 lt : s < 2 ^ n
 nd : L.Nodup
 pl : ∀ a ∈ L, plc n s a
 up : ∀ k, k < n → s.testBit k = true → hl ks k = true ∧ plc n s (ps.getD k 0) ∧ ps.getD k 0 ∉ L
 dn : ∀ a, plc n s a → a ∉ L → done ks ps n s a
variable {ks ps n}
theorem mem_openL {a : Int} {k : Nat} : k ∈ openL ks ps n a ↔ k < n ∧ isKid ks ps a k = true := by
 unfold openL; rw [List.mem_filter, List.mem_range]
theorem openL_nodup (a : Int) : (openL ks ps n a).Nodup := List.Pairwise.filter _ List.nodup_range
theorem CInv.start : CInv ks ps n 0 [-1] where
 lt := Nat.two_pow_pos n
 nd := by simp
 pl := fun a ha => .inl (List.mem_singleton.1 ha)
 up := fun k _ h => by rw [Nat.zero_testBit] at h; cases h
 dn := fun a h hn => by
  rcases h with h | ⟨k, _, _, h⟩
  ·exact absurd (List.mem_singleton.2 h) hn
  ·rw [Nat.zero_testBit] at h; cases h
theorem kid_par {a : Int} {k : Nat} (h : isKid ks ps a k = true) : ps.getD k 0 = a ∧ hl ks k = true := by
 unfold isKid at h
 rw [Bool.and_eq_true, beq_iff_eq] at h
 exact h
theorem sum_count {C : List Nat} {P : Nat → Bool} (hC : C.Nodup) : ∀ {m : Nat}, (∀ k, k ∈ C ↔ k < m ∧ P k = true) → sumTo (fun k => if P k then 1 else 0) m = C.length
 | 0, h => by
  have : C = [] := List.eq_nil_iff_forall_not_mem.2 fun k hk => by have := (h k).1 hk; omega
  rw [this]; rfl
 | m + 1, h => by
  simp only [sumTo]
  by_cases hp : P m = true
  ·have hm : m ∈ C := (h m).2 ⟨by omega, hp⟩
   have he : ∀ k, k ∈ C.erase m ↔ k < m ∧ P k = true := fun k => by
    rw [hC.mem_erase_iff, h k]
    constructor
    ·rintro ⟨h1, h2, h3⟩; exact ⟨by omega, h3⟩
    ·rintro ⟨h1, h2⟩; exact ⟨by omega, by omega, h2⟩
   rw [sum_count (hC.erase m) he, if_pos hp, List.length_erase_of_mem hm]
   have := List.length_pos_of_mem hm
   omega
  ·have he : ∀ k, k ∈ C ↔ k < m ∧ P k = true := fun k => by
    rw [h k]
    constructor
    ·rintro ⟨h1, h2⟩
     refine ⟨?_, h2⟩
     by_cases e : k = m
     ·subst e; exact absurd h2 hp
     ·omega
    ·rintro ⟨h1, h2⟩; exact ⟨by omega, h2⟩
   rw [sum_count hC he, if_neg hp]
   omega
theorem CInv.step (hp : ∀ k, k < n → -1 ≤ ps.getD k 0 ∧ ps.getD k 0 < k) {s : Nat} {a : Int} {R : List Int} {C : List Nat} (h : CInv ks ps n s (a :: R)) (hnd : C.Nodup) (hC : ∀ k ∈ C, k ∈ openL ks ps n a)
  (hall : 0 ≤ a ∧ ks.getD a.toNat 0 = 2 → C = openL ks ps n a) (hone : ¬ (0 ≤ a ∧ ks.getD a.toNat 0 = 2) → openL ks ps n a = [] ∨ C.length = 1) :
  CInv ks ps n (addB s C) (R ++ C.map fun k : Nat => (k : Int)) := by
 have hnew : ∀ k ∈ C, k < n ∧ ps.getD k 0 = a ∧ hl ks k = true := fun k hk => by
  obtain ⟨h1, h2⟩ := mem_openL.1 (hC k hk)
  exact ⟨h1, kid_par h2⟩
 have hout : ∀ k, k < n → ps.getD k 0 = a → s.testBit k = false := fun k hk he => by
  cases e : s.testBit k
  ·rfl
  ·exact absurd (by rw [he]; simp) (h.up k hk e).2.2
 have hnd2 := List.nodup_cons.1 h.nd
 have hR : ∀ k ∈ C, (k : Int) ∉ R := fun k hk hr => by
  rcases h.pl _ (List.mem_cons_of_mem _ hr) with e | ⟨j, e, _, hb⟩
  ·omega
  ·have : k = j := by omega
   subst this
   have := hout k (hnew k hk).1 (hnew k hk).2.1
   rw [this] at hb; cases hb
 have hmem : ∀ k : Nat, (k : Int) ∈ (C.map fun k : Nat => (k : Int)) ↔ k ∈ C := fun k => by
  rw [List.mem_map]
  constructor
  ·rintro ⟨j, hj, e⟩
   have : j = k := by omega
   subst this; exact hj
  ·intro hk; exact ⟨k, hk, rfl⟩
 have hplc : ∀ {b}, plc n s b → plc n (addB s C) b := fun {b} hb => by
  rcases hb with e | ⟨k, e, hk, hb⟩
  ·exact .inl e
  ·exact .inr ⟨k, e, hk, by rw [addB_bit, hb]; rfl⟩
 refine ⟨addB_lt C s h.lt fun k hk => (hnew k hk).1, ?_, ?_, ?_, ?_⟩
 ·rw [List.nodup_append]
  refine ⟨hnd2.2, ?_, ?_⟩
  ·exact List.Pairwise.map _ (fun x y hxy e => hxy (by omega)) hnd
  ·intro x hx y hy e
   subst e
   obtain ⟨k, hk, rfl⟩ := List.mem_map.1 hy
   exact hR k hk hx
 ·intro b hb
  rcases List.mem_append.1 hb with hb | hb
  ·exact hplc (h.pl b (List.mem_cons_of_mem _ hb))
  ·obtain ⟨k, hk, rfl⟩ := List.mem_map.1 hb
   exact .inr ⟨k, rfl, (hnew k hk).1, by rw [addB_bit, decide_eq_true hk, Bool.or_true]⟩
 ·intro k hk hb
  rw [addB_bit, Bool.or_eq_true, decide_eq_true_eq] at hb
  rcases hb with hb | hb
  ·obtain ⟨h1, h2, h3⟩ := h.up k hk hb
   refine ⟨h1, hplc h2, fun hm => ?_⟩
   rcases List.mem_append.1 hm with hm | hm
   ·exact h3 (List.mem_cons_of_mem _ hm)
   ·obtain ⟨c, hc, e⟩ := List.mem_map.1 hm
    rcases h2 with e2 | ⟨j, e2, _, hj⟩
    ·omega
    ·have : j = c := by omega
     subst this
     rw [hout j (hnew j hc).1 (hnew j hc).2.1] at hj; cases hj
  ·obtain ⟨h1, h2, h3⟩ := hnew k hb
   rw [h2]
   refine ⟨h3, hplc (h.pl a (by simp)), fun hm => ?_⟩
   rcases List.mem_append.1 hm with hm | hm
   ·exact hnd2.1 hm
   ·obtain ⟨c, hc, e⟩ := List.mem_map.1 hm
    have := (hp c (hnew c hc).1).2
    have := (hnew c hc).2.1
    omega
 ·intro b hb hnm
  by_cases e : b = a
  ·subst e
   unfold done
   have hin : ∀ k, k ∈ C ↔ k < n ∧ (isKid ks ps b k && (addB s C).testBit k) = true := fun k => by
    constructor
    ·intro hk
     obtain ⟨h1, h2⟩ := mem_openL.1 (hC k hk)
     refine ⟨h1, ?_⟩
     rw [h2, addB_bit, decide_eq_true hk, Bool.or_true]; rfl
    ·rintro ⟨h1, h2⟩
     rw [Bool.and_eq_true, addB_bit, Bool.or_eq_true, decide_eq_true_eq] at h2
     rcases h2.2 with h3 | h3
     ·rw [hout k h1 (kid_par h2.1).1] at h3; cases h3
     ·exact h3
   split
   ·rename_i h2
    intro k hk hi
    have := hall h2
    have hkc : k ∈ C := by rw [this]; exact mem_openL.2 ⟨hk, hi⟩
    rw [addB_bit, decide_eq_true hkc, Bool.or_true]
   ·rename_i h2
    rcases hone h2 with h3 | h3
    ·left
     rw [List.any_eq_false]
     intro k hk hi
     have : k ∈ openL ks ps n b := mem_openL.2 ⟨List.mem_range.1 hk, hi⟩
     rw [h3] at this; cases this
    ·right
     unfold cin
     rw [sum_count hnd hin, h3]
  ·have hb2 : plc n s b := by
    rcases hb with e2 | ⟨k, e2, hk, hb⟩
    ·exact .inl e2
    ·rw [addB_bit, Bool.or_eq_true, decide_eq_true_eq] at hb
     rcases hb with hb | hb
     ·exact .inr ⟨k, e2, hk, hb⟩
     ·exact absurd (List.mem_append_right _ (by rw [e2]; exact (hmem k).2 hb)) hnm
   have hd := h.dn b hb2 (fun hm => by
    rcases List.mem_cons.1 hm with hm | hm
    ·exact e hm
    ·exact hnm (List.mem_append_left _ hm))
   have hno : ∀ k, isKid ks ps b k = true → k ∉ C := fun k hi hk => e (((kid_par hi).1).symm.trans (hnew k hk).2.1)
   unfold done at hd ⊢
   split
   ·rename_i h2
    rw [if_pos h2] at hd
    intro k hk hi
    rw [addB_bit, hd k hk hi]; rfl
   ·rename_i h2
    rw [if_neg h2] at hd
    refine hd.imp id fun h3 => ?_
    rw [← h3]
    unfold cin
    refine sumTo_congr fun k hk => ?_
    cases hi : isKid ks ps b k
    ·rfl
    ·rw [addB_bit, decide_eq_false (hno k hi), Bool.or_false]
end
section
variable {ks ps : List Int} {n : Nat}
theorem prop_iff (hsz : szN ks ps = n) (hn : n ≤ 32) (s : Nat) : prop ks ps s = true ↔ s < 2 ^ n ∧ cin ks ps (-1) s.testBit n = 1 ∧ ∀ k, k < n → s.testBit k = true → settl ks ps s k = true := by
 unfold prop
 rw [hsz, cnt_cin s (-1) hn, Bool.and_eq_true, Bool.and_eq_true, decide_eq_true_eq, beq_iff_eq, List.all_eq_true]
 have h2 : s / 2 ^ n = 0 ↔ s < 2 ^ n := by
  rw [Nat.div_eq_zero_iff]
  have := Nat.two_pow_pos n
  omega
 rw [h2]
 constructor
 ·rintro ⟨⟨h1, h2⟩, h3⟩
  refine ⟨h1, h2, fun k hk hb => ?_⟩
  have := h3 k (List.mem_range.2 hk)
  rw [hb] at this
  simpa using this
 ·rintro ⟨h1, h2, h3⟩
  refine ⟨⟨h1, h2⟩, fun k hk => ?_⟩
  cases hb : s.testBit k
  ·rfl
  ·rw [h3 k (List.mem_range.1 hk) hb]; rfl
theorem settl_iff (hp : ∀ k, k < n → -1 ≤ ps.getD k 0 ∧ ps.getD k 0 < k) (hsz : szN ks ps = n) (hn : n ≤ 32) (s k : Nat) (hk : k < n) :
  settl ks ps s k = true ↔ hl ks k = true ∧ (0 ≤ ps.getD k 0 → s.testBit (ps.getD k 0).toNat = true) ∧
   (if ks.getD k 0 = 2 then ∀ j, j < n → isKid ks ps k j = true → s.testBit j = true else (List.range n).any (isKid ks ps k) = false ∨ cin ks ps k s.testBit n = 1) := by
 have hpar : par ps k = ps.getD k 0 := by unfold par; have := hp k hk; omega
 unfold settl
 rw [hsz, hpar, Bool.and_eq_true, Bool.and_eq_true, and_assoc]
 refine and_congr Iff.rfl (and_congr ?_ ?_)
 ·by_cases h0 : 0 ≤ ps.getD k 0
  ·rw [decide_eq_true h0, Bool.true_and, Bool.not_not]
   exact ⟨fun h _ => h, fun h => h h0⟩
  ·rw [decide_eq_false h0]
   exact ⟨fun _ h => absurd h h0, fun _ => rfl⟩
 ·split
  ·rw [beq_iff_eq, opn_all]
  ·rw [Bool.or_eq_true, beq_iff_eq, beq_iff_eq, opn_none, cnt_cin s k hn]
end
end Go.Proofs.YtaoinedndnleoaaGreat
namespace Go.Proofs.YtaoinedndnleoaaGreat
set_option maxRecDepth 100000
open Go.ChangeShapes Go.WideShapes Go.ChangeAt Go.RowKit
theorem sc_one (x : Tx) : ∀ u ∈ scells [x], u.oneCell' = true := by intro u hu; simp [scells] at hu; subst hu; rfl
theorem litb (a l : Tx) : ((bs a).toList == l) = (a == l) := by rw [Lib.toList_data, list_bs]
def ChI (c : Ch) : Prop := okI c.kinds ∧ okI c.parents
structure LS (W0 W : World) (cs : Array Value) (v : Value) (l : List Tx) : Prop where
 row : W.heap[W0.heap.size]? = some (.cells cs 92 (0, 0))
 own : OwnL W (W0.heap.size + 1) v l
 low : Below W0.heap.size W0 W
theorem LS.size {W0 W : World} {cs : Array Value} {v : Value} {l : List Tx} (h : LS W0 W cs v l) : W0.heap.size < W.heap.size := (Array.getElem?_eq_some_iff.1 h.row).1
theorem LS.grown {W0 W W' : World} {cs : Array Value} {v v' : Value} {l l' : List Tx} {row : Option Nat} (h : LS W0 W cs v l) (hg : W.grownBy W' row) (hr : ∀ j, row = some j → W0.heap.size < j) (ho : OwnL W' (W0.heap.size + 1) v' l') : LS W0 W' cs v' l' :=
 ⟨(hg.block _ h.size (fun e => by have := hr _ e.symm; omega)).trans h.row, ho, h.low.grown hg h.low.size (fun j e => by have := hr _ e; omega)⟩
theorem LS.below {W0 W W' : World} {cs : Array Value} {v : Value} {l : List Tx} (h : LS W0 W cs v l) (hb : Below W.heap.size W W') : LS W0 W' cs v l :=
 ⟨(hb.block _ h.size).trans h.row, own_below h.own hb (by have := h.size; omega), h.low.trans (hb.mono h.low.size)⟩
theorem LS.app {W0 W W1 W2 : World} {cs : Array Value} {v v' : Value} {l ts : List Tx} (h : LS W0 W cs v l) (hg0 : W.grownBy W1 none) (hg : W1.grownBy W2 v.ownBlock) (ho : W2.ownsRow (W0.heap.size + 1) 9 1 v' (l.length + ts.length) (scells l ++ scells ts)) : LS W0 W2 cs v' (l ++ ts) := by
 have hr : ∀ j, v.ownBlock = some j → W0.heap.size < j := fun j e => by have := (h.own.lt j e).1; omega
 refine ⟨?_, ?_, ?_⟩
 ·rw [hg.block _ (Nat.lt_of_lt_of_le h.size hg0.size) (fun e => by have := hr _ e.symm; omega), hg0.block _ h.size (by simp)]; exact h.row
 rotate_left
 ·exact (h.low.grown hg0 h.low.size (fun j e => by cases e)).grown hg (Nat.le_trans h.low.size hg0.size) (fun j e => by have := hr _ e; omega)
 unfold OwnL scells
 rw [List.length_append, List.map_append]
 exact ho
theorem LS.drew {W0 W : World} {cs : Array Value} {v : Value} {l : List Tx} (h : LS W0 W cs v l) : LS W0 W.drew cs v l := ⟨h.row, h.own, h.low.drew⟩
def LIn (w : World) (A : Option Addr) (c : Nat) (l : List Tx) : Prop := (l = [] ∧ (A = none → c = 0)) ∨ ∃ g off, A = some ⟨g, off, none⟩ ∧ g < w.heap.size ∧ l.length ≤ c ∧ ∀ j (hj : j < l.length), w.cell? ⟨g, off + j, none⟩ = some (.string (bs l[j]))
theorem LIn.below {w w' : World} {A : Option Addr} {c : Nat} {l : List Tx} (h : LIn w A c l) (hb : Below w.heap.size w w') : LIn w' A c l := by
 rcases h with h | ⟨g, off, e, hg, hl, hc⟩
 ·exact .inl h
 ·exact .inr ⟨g, off, e, Nat.lt_of_lt_of_le hg hb.size, hl, fun j hj => (hb.cell hg).trans (hc j hj)⟩
theorem LIn.at {w : World} {A : Option Addr} {c : Nat} {l : List Tx} (h : LIn w A c l) (hm : l.length ≤ 9223372036854775807) : LAt w A c l := by
 rcases h with ⟨rfl, h0⟩ | ⟨g, off, e, hg, hl, hc⟩
 ·exact ⟨Nat.zero_le _, hm, fun j hj => by simp at hj⟩
 ·exact ⟨hl, hm, fun j hj => ⟨g, off, e, hg, hc j hj⟩⟩
def byteOf (n : Nat) : UInt8 := UInt8.ofNat n
def dgt (n : Nat) : UInt8 := byteOf (48 + n)
theorem dgt_nat (n : Nat) (h : n < 10) : (dgt n).toNat = 48 + n := by unfold dgt byteOf; simp; omega
theorem conv_one (W : World) (b cap : Nat) (c : Int) (h0 : 0 ≤ c) (h1 : c ≤ 255) (hc : W.cell? ⟨b, 0, none⟩ = some (.int .u8 c)) :
  (convert 107 9 (.slice (some ⟨b, 0, none⟩) 1 cap)).run Tryz.prog W = .ok (.string (bs [byteOf c.toNat])) W := by
 have := run_convert_bytes_back (P := Tryz.prog) W 107 9 5 ⟨b, 0, none⟩ cap [UInt8.ofNat c.toNat] Tryz.underlying107 Tryz.underlying5 Tryz.underlying9 (by
  intro j hj
  simp at hj
  subst hj
  have e : ((UInt8.ofNat c.toNat).toNat : Int) = c := by simp; omega
  simp only [List.getElem_cons_zero, e]
  exact hc)
 exact this
def StrNew (l : List UInt8) (w : World) (e : Ending) (w' : World) : Prop := e = .returned (.string (bs l)) ∧ Below w.heap.size w w'
def digs (n : Nat) : List UInt8 := if n < 10 then [dgt n] else digs (n / 10) ++ [dgt (n % 10)]
theorem digs_le (n : Nat) : (digs n).length ≤ n + 1 := by
 induction n using Nat.strongRecOn with
 | ind n ih =>
  rw [digs]; split
  ·simp
  ·have := ih (n / 10) (by omega); simp; omega
theorem digs_step {n : Nat} (h : ¬ n < 10) : bs (digs (n / 10)) ++ bs [dgt (n % 10)] = bs (digs n) := by
 conv => rhs; rw [digs, if_neg h]
 exact bs_append _ _
theorem Digits_any (n : Nat) : ∀ (w : World), n ≤ 9223372036854775807 →
  Calls Tryz.prog 88 #[.int .i64 n] w (StrNew (digs n) w) := by
 induction n using Nat.strongRecOn with
 | ind n ih =>
  intro w hn
  by_cases h : n < 10
  ·have hcv := fun W b cap hc => conv_one W b cap (48 + n) (by omega) (by omega) hc
   have hb : (48 + (n : Int)).toNat = 48 + n := by omega
   rw [hb, ← dgt] at hcv
   clear hb
   go_enter Tryz.func88, Tryz.ntmps88
   go_wp2
   go_ret
   exact ⟨ret_str (by rw [digs, if_pos h]), (Below.refl _ _).alloc (Nat.le_refl _) _⟩
  ·have hd : ((n / 10 : Nat) : Int) = (n : Int) / 10 := by omega
   have ih1 := fun W => ih (n / 10) (by omega) W (by omega)
   rw [hd] at ih1
   have IH := Lib.hid ih1
   clear ih1 hd ih
   have hcv := fun W b cap hc => conv_one W b cap (48 + (n : Int) % 10) (by omega) (by omega) hc
   have hb : (48 + (n : Int) % 10).toNat = 48 + n % 10 := by omega
   rw [hb, ← dgt] at hcv
   clear hb
   have hl : (bs (digs (n / 10))).size ≤ 4611686018427387904 := by have := digs_le (n / 10); rw [size_bs]; omega
   have hl1 : (bs [dgt (n % 10)]).size ≤ 1 := Nat.le_refl _
   have e1 : IntKind.i64.wrap (48 + (n : Int) % 10) = 48 + (n : Int) % 10 := by rw [IntKind.wrap_i64]; omega
   have e2 : (n : Int).tdiv 10 = (n : Int) / 10 := Int.tdiv_eq_ediv_of_nonneg (by omega)
   have e3 : (n : Int).tmod 10 = (n : Int) % 10 := Int.tmod_eq_emod_of_nonneg (by omega)
   have e4 : IntKind.i64.wrap ((n : Int) / 10) = (n : Int) / 10 := by rw [IntKind.wrap_i64]; omega
   have e5 : IntKind.i64.wrap ((n : Int) % 10) = (n : Int) % 10 := by rw [IntKind.wrap_i64]; omega
   have e6 : IntKind.u8.wrap (48 + (n : Int) % 10) = 48 + (n : Int) % 10 := by simp only [IntKind.wrap, IntKind.bits, IntKind.signed]; simp; omega
   go_enter Tryz.func88, Tryz.ntmps88
   go_wp2_with fail
   go_region_with (go_at_call 88; refine (IH.out _).mono ?_; rintro e w1 ⟨rfl, hb⟩; have hcc := fun b o (h : b < _) => hb.cell (p := ⟨b, o, none⟩) h)
   all_goals
    go_wp2
    go_ret
    refine ⟨ret_str (digs_step h), ?_⟩
   ·exact (below_then (Below.refl _ _).drew hb (by simp)).alloc (by have := hb.size; simpa using this) _
   all_goals exact below_then ((Below.refl _ _).alloc (Nat.le_refl _) _).drew hb (by simp)
end Go.Proofs.YtaoinedndnleoaaGreat
namespace Go.Proofs.YtaoinedndnleoaaGreat
set_option maxRecDepth 100000
open Go.ChangeShapes Go.WideShapes Go.ChangeAt Go.RowKit Go.Deep
def sumL : List Tx → Nat
 | [] => 0
 | t :: r => t.length + 1 + sumL r
def totR (r : Ru) : Nat := r.name.length + sumL r.list + r.from_.length + r.to_.length + r.by_.length + r.task.length + r.in_.length
theorem sum_app (l m : List Tx) : sumL (l ++ m) = sumL l + sumL m := by
 induction l with
 | nil => simp [sumL]
 | cons t r ih => simp only [List.cons_append, sumL, ih]; omega
end Go.Proofs.YtaoinedndnleoaaGreat
namespace Go.Proofs.YtaoinedndnleoaaGreat
set_option maxRecDepth 100000
open Go.ChangeShapes Go.WideShapes Go.ChangeAt Go.RowKit
structure XS (W0 W : World) (rc : Array Value) (k : Int) (nm : Tx) (v : Value) (l : List Tx) (n m : Int) (f t b a i : Tx) : Prop where
 r0 : W.heap[W0.heap.size]? = some (.cells rc 92 (0, 0))
 t0 : W.heap[W0.heap.size + 1]? = some (.cells zero11 92 (0, 0))
 x0 : W.heap[W0.heap.size + 1 + 1]? = some (.cells #[.int .i64 k, .string (bs nm), v, .int .i64 n, .int .i64 m, .string (bs f), .string (bs t), .string (bs b), .string (bs a), .string (bs i), .int .i64 0] 92 (0, 0))
 own : OwnL W (W0.heap.size + 3) v l
 low : Below W0.heap.size W0 W
section
variable {W0 W W' : World} {rc : Array Value} {k : Int} {nm : Tx} {v : Value} {l : List Tx} {n m : Int} {f t b a i : Tx}
theorem XS.size (h : XS W0 W rc k nm v l n m f t b a i) : W0.heap.size + 1 + 1 < W.heap.size := (Array.getElem?_eq_some_iff.1 h.x0).1
theorem XS.below (h : XS W0 W rc k nm v l n m f t b a i) (hb : Below W.heap.size W W') : XS W0 W' rc k nm v l n m f t b a i :=
 have := h.size
 ⟨(hb.block _ (by omega)).trans h.r0, (hb.block _ (by omega)).trans h.t0, (hb.block _ (by omega)).trans h.x0, own_below h.own hb (by omega), h.low.trans (hb.mono (by omega))⟩
theorem XS.grown {v' : Value} {l' : List Tx} {row : Option Nat} (h : XS W0 W rc k nm v l n m f t b a i) (hg : W.grownBy W' row) (hr : ∀ j, row = some j → W0.heap.size + 3 ≤ j) (ho : OwnL W' (W0.heap.size + 3) v' l') : W'.heap[W0.heap.size]? = some (.cells rc 92 (0, 0)) ∧ W'.heap[W0.heap.size + 1]? = some (.cells zero11 92 (0, 0)) ∧ W'.heap[W0.heap.size + 1 + 1]? = some (.cells #[.int .i64 k, .string (bs nm), v, .int .i64 n, .int .i64 m, .string (bs f), .string (bs t), .string (bs b), .string (bs a), .string (bs i), .int .i64 0] 92 (0, 0)) ∧ OwnL W' (W0.heap.size + 3) v' l' ∧ Below W0.heap.size W0 W' :=
 have hs := h.size
 ⟨(hg.block _ (by omega) (fun e => by have := hr _ e.symm; omega)).trans h.r0, (hg.block _ (by omega) (fun e => by have := hr _ e.symm; omega)).trans h.t0, (hg.block _ (by omega) (fun e => by have := hr _ e.symm; omega)).trans h.x0, ho, h.low.grown hg h.low.size (fun j e => by have := hr _ e; omega)⟩
theorem far_row {W : World} {p j : Nat} {o : Obj} {c : Value} {t : Nat} (h : W.heap[p]? = some o) (hne : t ≠ p) : (W.setCell ⟨t, j, none⟩ c).heap[p]? = some o := by
 have hg := grown_setCell W t j c
 rw [hg.block p (Array.getElem?_eq_some_iff.1 h).1 (by simp; omega)]; exact h
theorem own_set {W : World} {base t j : Nat} {v c : Value} {l : List Tx} (h : OwnL W base v l) (ht : t < base) : OwnL (W.setCell ⟨t, j, none⟩ c) base v l :=
 World.ownsRow.kept h (grown_setCell W t j c) (.inr (fun e => by have := (h.lt t e).1; omega))
theorem XS.drew (h : XS W0 W rc k nm v l n m f t b a i) : XS W0 W.drew rc k nm v l n m f t b a i := ⟨h.r0, h.t0, h.x0, h.own, h.low.drew⟩
structure XG (W0 W : World) (rc : Array Value) (v' : Value) (l' : List Tx) (k : Int) (nm : Tx) (v : Value) (n m : Int) (f t b a i : Tx) : Prop where
 r0 : W.heap[W0.heap.size]? = some (.cells rc 92 (0, 0))
 t0 : W.heap[W0.heap.size + 1]? = some (.cells zero11 92 (0, 0))
 x0 : W.heap[W0.heap.size + 1 + 1]? = some (.cells #[.int .i64 k, .string (bs nm), v, .int .i64 n, .int .i64 m, .string (bs f), .string (bs t), .string (bs b), .string (bs a), .string (bs i), .int .i64 0] 92 (0, 0))
 own : OwnL W (W0.heap.size + 3) v' l'
 low : Below W0.heap.size W0 W
theorem XS.app {W1 W2 : World} {v' : Value} {ts : List Tx} (h : XS W0 W rc k nm v l n m f t b a i) (hg0 : W.grownBy W1 none) (hg : W1.grownBy W2 v.ownBlock) (ho : W2.ownsRow (W0.heap.size + 3) 9 1 v' (l.length + ts.length) (scells l ++ scells ts)) : XG W0 W2 rc v' (l ++ ts) k nm v n m f t b a i := by
 have hr : ∀ j, v.ownBlock = some j → W0.heap.size + 3 ≤ j := fun j e => by have := (h.own.lt j e).1; omega
 have hs := h.size
 have hb : ∀ p, p < W0.heap.size + 3 → W2.heap[p]? = W.heap[p]? := fun p hp => by
  rw [hg.block _ (Nat.lt_of_lt_of_le (by omega) hg0.size) (fun e => by have := hr _ e.symm; omega), hg0.block _ (by omega) (by simp)]
 refine ⟨(hb _ (by omega)).trans h.r0, (hb _ (by omega)).trans h.t0, (hb _ (by omega)).trans h.x0, ?_, (h.low.grown hg0 h.low.size (fun j e => by cases e)).grown hg (Nat.le_trans h.low.size hg0.size) (fun j e => by have := hr _ e; omega)⟩
 unfold OwnL scells
 rw [List.length_append, List.map_append]
 exact ho
theorem XG.store {v' : Value} {l' : List Tx} (h : XG W0 W rc v' l' k nm v n m f t b a i) : XS W0 (W.setCell ⟨W0.heap.size + 1 + 1, 2, none⟩ v') rc k nm v' l' n m f t b a i :=
 ⟨far_row h.r0 (by omega), far_row h.t0 (by omega), heap_set h.x0 _, own_set h.own (by omega), h.low.grown (grown_setCell W _ 2 v') h.low.size (fun q e => by simp at e; omega)⟩
theorem XG.fz {v' : Value} {l' : List Tx} (h : XG W0 W rc v' l' k nm v n m f t b a i) (j : Nat) : W.frozen? ⟨W0.heap.size + 1 + 1, j, none⟩ = false := by simp [World.frozen?, h.x0]
theorem XS.q0 (h : XS W0 W rc k nm v l n m f t b a i) : W.cell? ⟨W0.heap.size + 1 + 1, 0, none⟩ = some (.int .i64 k) := row_q0 h.x0
theorem XS.q1 (h : XS W0 W rc k nm v l n m f t b a i) : W.cell? ⟨W0.heap.size + 1 + 1, 1, none⟩ = some (.string (bs nm)) := row_q1 h.x0
theorem XS.q2 (h : XS W0 W rc k nm v l n m f t b a i) : W.cell? ⟨W0.heap.size + 1 + 1, 2, none⟩ = some (v) := row_q2 h.x0
theorem XS.q3 (h : XS W0 W rc k nm v l n m f t b a i) : W.cell? ⟨W0.heap.size + 1 + 1, 3, none⟩ = some (.int .i64 n) := row_q3 h.x0
theorem XS.q4 (h : XS W0 W rc k nm v l n m f t b a i) : W.cell? ⟨W0.heap.size + 1 + 1, 4, none⟩ = some (.int .i64 m) := row_q4 h.x0
theorem XS.q5 (h : XS W0 W rc k nm v l n m f t b a i) : W.cell? ⟨W0.heap.size + 1 + 1, 5, none⟩ = some (.string (bs f)) := row_q5 h.x0
theorem XS.q6 (h : XS W0 W rc k nm v l n m f t b a i) : W.cell? ⟨W0.heap.size + 1 + 1, 6, none⟩ = some (.string (bs t)) := row_q6 h.x0
theorem XS.q7 (h : XS W0 W rc k nm v l n m f t b a i) : W.cell? ⟨W0.heap.size + 1 + 1, 7, none⟩ = some (.string (bs b)) := row_q7 h.x0
theorem XS.q8 (h : XS W0 W rc k nm v l n m f t b a i) : W.cell? ⟨W0.heap.size + 1 + 1, 8, none⟩ = some (.string (bs a)) := row_q8 h.x0
theorem XS.q9 (h : XS W0 W rc k nm v l n m f t b a i) : W.cell? ⟨W0.heap.size + 1 + 1, 9, none⟩ = some (.string (bs i)) := row_q9 h.x0
theorem XS.q10 (h : XS W0 W rc k nm v l n m f t b a i) : W.cell? ⟨W0.heap.size + 1 + 1, 10, none⟩ = some (.int .i64 0) := row_q10 h.x0
theorem XS.fz (h : XS W0 W rc k nm v l n m f t b a i) (j : Nat) : W.frozen? ⟨W0.heap.size + 1 + 1, j, none⟩ = false := by simp [World.frozen?, h.x0]
end
theorem own_LIn {w : World} {base c : Nat} {A : Option Addr} {l : List Tx} (h : OwnL w base (.slice A l.length c) l) : LIn w A c l := by
 obtain ⟨h1, h2⟩ := strSl_of h
 by_cases h0 : 0 < l.length
 ·obtain ⟨g, rfl, _, hg, _⟩ := h2 0 h0
  refine .inr ⟨g, 0, rfl, hg, h1, fun j hj => ?_⟩
  obtain ⟨g', e, _, _, hc⟩ := h2 j hj
  cases e; rw [Nat.zero_add]; exact hc
 ·have e : l = [] := List.eq_nil_of_length_eq_zero (by omega)
  subst e
  refine .inl ⟨rfl, fun e => ?_⟩
  subst e
  rcases h.2 with ⟨hv, _⟩ | ⟨g, cap, cur, hv, _⟩
  ·cases hv; rfl
  ·cases hv
theorem LIn.grown {w w' : World} {A : Option Addr} {c p : Nat} {l : List Tx} (h : LIn w A c l) (hg : w.grownBy w' (some p)) (hB : ∀ g off, A = some ⟨g, off, none⟩ → l ≠ [] → g ≠ p) : LIn w' A c l := by
 by_cases h0 : l = []
 ·rcases h with h | ⟨g, off, e, hgl, hl, hc⟩
  ·exact .inl h
  ·exact .inr ⟨g, off, e, Nat.lt_of_lt_of_le hgl hg.size, hl, fun j hj => by subst h0; simp at hj⟩
 rcases h with h | ⟨g, off, e, hgl, hl, hc⟩
 ·exact .inl h
 ·refine .inr ⟨g, off, e, Nat.lt_of_lt_of_le hgl hg.size, hl, fun j hj => ?_⟩
  rw [← hc j hj]
  unfold World.cell?
  simp only
  rw [hg.block g hgl (by have := hB g off e h0; simp; omega)]
noncomputable def printP (r : Ru) : Option Tx := by
 classical exact match parseL (joinP (lineP r)) with
  | .ok s => if s = r then some (joinP (lineP r)) else none
  | _ => none
theorem printP_some {r : Ru} {t : Tx} : printP r = some t ↔ (t = joinP (lineP r) ∧ parseL (joinP (lineP r)) = .ok r) := by
 unfold printP
 split
 ·rename_i s h
  split
  ·rename_i e; subst e; rw [h]; simp [eq_comm]
  ·rename_i e
   rw [h]
   constructor
   ·intro h; cases h
   ·rintro ⟨_, h⟩; injection h with h; exact absurd h e
 ·rename_i h
  constructor
  ·intro h; cases h
  ·rintro ⟨_, h2⟩; exact absurd h2 (h r)
end Go.Proofs.YtaoinedndnleoaaGreat
namespace Go.Proofs.YtaoinedndnleoaaGreat
set_option maxRecDepth 100000
def Small (x : Ru) : Prop := (-9223372036854775808 ≤ x.n ∧ x.n ≤ 9223372036854775807) ∧ (-9223372036854775808 ≤ x.m ∧ x.m ≤ 9223372036854775807) ∧ totR x ≤ 1048576
end Go.Proofs.YtaoinedndnleoaaGreat
