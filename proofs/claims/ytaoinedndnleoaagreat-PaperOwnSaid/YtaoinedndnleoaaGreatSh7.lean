import Derived.Test.YtaoinedndnleoaaGreatSt4
import Derived.Test.YtaoinedndnleoaaGreatSt12
import Derived.Test.YtaoinedndnleoaaGreatTk
import Derived.Test.YtaoinedndnleoaaGreatSh1b
import Derived.Test.YtaoinedndnleoaaGreatSm0
import Derived.Test.YtaoinedndnleoaaGreatEn3
import Derived.Test.YtaoinedndnleoaaGreatCh3
namespace Go.Proofs.YtaoinedndnleoaaGreat
set_option maxRecDepth 100000
section
variable {ks ps : List Int} {n : Nat}
def PastP (ks ps : List Int) (n : Nat) (rs : List Nat) : Prop := ∀ q, q < n → (∀ k, k < n → (rs.getD q 0).testBit k = false) ∨ ∃ c, prop ks ps c = true ∧ ∀ k, k < n → (rs.getD q 0).testBit k = (c.testBit q && (c.testBit k && (decide (k ≠ q) && undB ps k q)))
theorem PastP.ok (h : ShF ks ps n) (hn : n ≤ 32) {rs : List Nat} (hr : PastP ks ps n rs) : PastOk ks ps n (pfun rs) := PastOk.of h hn hr
theorem PastP.zero (m : Nat) : PastP ks ps n (List.replicate m 0) := fun q _ => .inl fun k _ => by
 have : (List.replicate m 0).getD q 0 = 0 := by
  rw [List.getD_eq_getElem?_getD, List.getElem?_replicate]
  split <;> rfl
 rw [this, Nat.zero_testBit]
theorem PastP.keep (h : ShF ks ps n) {s : Nat} (hs : prop ks ps s = true) {rs : List Nat} (hr : PastP ks ps n rs) (hl : rs.length = n) (d : Int) : PastP ks ps n (rememL ks ps n s rs (leaveL ps n s d)) := by
 intro q hq
 rw [rememL_getD s q _ _ (fun p hp => by rw [hl]; exact leave_lt h p hp)]
 by_cases hc : q ∈ leaveL ps n s d ∧ keepsB ks ps n q = true
 ·rw [if_pos hc]
  refine .inr ⟨s, hs, fun k hk => ?_⟩
  have hsq := ((mem_leaveL h).1 hc.1).2.1
  rw [setN_bit, hsq, Bool.true_and]
  have he : decide (k ≠ q) = decide ((k : Int) ≠ (q : Int)) := by
   by_cases e : k = q
   ·subst e; simp
   ·have : (k : Int) ≠ q := by omega
    simp [e, this]
  rw [he, Bool.eq_iff_iff, decide_eq_true_eq]
  unfold insL
  rw [List.mem_filter, List.mem_range]
  constructor
  ·intro h9; exact h9.2
  ·intro h9; exact ⟨hk, h9⟩
 ·rw [if_neg hc]
  exact hr q hq
theorem entC_set (now : Int) : ∀ (l : List Nat) (x : Cf) (i : Nat), (entC now x l).set.testBit i = (x.set.testBit i || decide (i ∈ l))
 | [], x, i => by simp [entC]
 | k :: l, x, i => by
  show (entC now (ent1 now x k) l).set.testBit i = _
  rw [entC_set now l]
  show ((x.set ||| 2 ^ k).testBit i || decide (i ∈ l)) = _
  rw [Nat.testBit_or, Nat.testBit_two_pow, Bool.or_assoc]
  congr 1
  rw [Bool.eq_iff_iff, Bool.or_eq_true, decide_eq_true_eq, decide_eq_true_eq, decide_eq_true_eq, List.mem_cons]
  constructor
  ·rintro (h | h)
   ·exact .inl h.symm
   ·exact .inr h
  ·rintro (h | h)
   ·exact .inl h.symm
   ·exact .inr h
theorem lefC_set : ∀ (l : List Nat) (x : Cf) (i : Nat), x.set < 4294967296 → (∀ k ∈ l, k < 32) → (lefC x l).set.testBit i = (x.set.testBit i && !decide (i ∈ l))
 | [], x, i, _, _ => by simp [lefC]
 | k :: l, x, i, hx, hl => by
  have hk := hl k List.mem_cons_self
  show (lefC (lef1 x k) l).set.testBit i = _
  rw [lefC_set l (lef1 x k) i (adn_lt hx) (fun j hj => hl j (List.mem_cons_of_mem _ hj))]
  show ((adn x.set (2 ^ k)).testBit i && !decide (i ∈ l)) = _
  rw [adn_bit hx (two_lt hk), Nat.testBit_two_pow, Bool.and_assoc]
  congr 1
  rw [← Bool.not_or]
  congr 1
  rw [Bool.eq_iff_iff, Bool.or_eq_true, decide_eq_true_eq, decide_eq_true_eq, decide_eq_true_eq, List.mem_cons]
  constructor
  ·rintro (h | h)
   ·exact .inl h.symm
   ·exact .inr h
  ·rintro (h | h)
   ·exact .inl h.symm
   ·exact .inr h
structure Plc (ks ps : List Int) (n : Nat) (x : Cf) : Prop where
 ok : CfOk n x
 pr : prop ks ps x.set = true
 pp : PastP ks ps n x.past
theorem Plc.pastOk (hf : ShF ks ps n) (hn : n ≤ 32) {x : Cf} (h : Plc ks ps n x) (d : Int) : PastOk ks ps n (pfun (rememL ks ps n x.set x.past (leaveL ps n x.set d))) := (h.pp.keep hf h.pr h.ok.lp d).ok hf hn
theorem Plc.mov (hf : ShF ks ps n) (hn : n ≤ 24) {x : Cf} (h : Plc ks ps n x) {f t : Nat} {now : Int} (hfn : f < n) (htn : t < n) (hw : (Lit.int .i64 now).wf = true) (hin : x.set.testBit f = true) : Plc ks ps n (movC ks ps n x f t now) := by
 have hpk := h.pp.keep hf h.pr h.ok.lp (domL ks ps n f t)
 have hpo := hpk.ok hf (by omega)
 obtain ⟨_, h2, h3, _, _⟩ := domL_spec hf hfn htn
 have hx32 : x.set < 4294967296 := Nat.lt_of_lt_of_le h.ok.st (Nat.pow_le_pow_right (n := 2) (by omega) (show n ≤ 32 by omega))
 refine ⟨?_, ?_, ?_⟩
 ·refine CfOk.entC hw (CfOk.lefC ⟨by rw [rememL_len]; exact h.ok.lp, h.ok.ls, h.ok.st, rememL_lt _ _ h.ok.pl, h.ok.si⟩) fun k hk => (enter_in hf hpo htn h2 h3 hk).1
 ·refine trans_all hf (by omega) hpo hfn htn h.pr hin fun i => ?_
  unfold movC
  rw [entC_set, lefC_set (leaveL ps n x.set (domL ks ps n f t)) ⟨x.set, rememL ks ps n x.set x.past (leaveL ps n x.set (domL ks ps n f t)), x.since⟩ i hx32 (fun k hk => by have := leave_lt hf k hk; omega)]
 ·unfold movC
  rw [entC_past, lefC_past]
  exact hpk
end
theorem Plc.beg {c : Ch} {n : Nat} (hf : ShF c.kinds c.parents n) (hn : n ≤ 24) {now : Int} (hw : (Lit.int .i64 now).wf = true) : Plc c.kinds c.parents n (begC c n now) := by
 have hik := iniN_kid hf.tp
 have hlt : ∀ k ∈ inS c.kinds c.parents n (iniN c.kinds c.parents n (-1)), k < n := fun k hm => (inS_und hf hik.1 (kid_hl hik.2) hm).1
 have hok : CfOk n (begC c n now) := (cf0_ok n).entC hw hlt
 refine ⟨hok, (prop_conf hf (by omega) _).2 ⟨hok.st, Conf.congr (start_conf hf) (fun k => ?_)⟩, ?_⟩
 ·have : (begC c n now).set.testBit k = decide (k ∈ inS c.kinds c.parents n (iniN c.kinds c.parents n (-1))) := by
   unfold begC
   rw [entC_set]
   show ((0 : Nat).testBit k || _) = _
   rw [Nat.zero_testBit, Bool.false_or]
  rw [this, decide_eq_true_eq]
  constructor
  ·intro h; exact ⟨hlt k h, h⟩
  ·intro h; exact h.2
 ·unfold begC
  rw [entC_past]
  show PastP _ _ _ (padL n [])
  unfold padL
  rw [List.nil_append]
  exact PastP.zero _
theorem enL_at {c : Ch} {s : Nat} {kd : Int} {ev : Tx} {i : Nat} (h : i ∈ enL c s kd ev) : i < c.trans.length ∧ s.testBit (frT c i) = true := by
 have h1 := List.mem_filter.1 h
 refine ⟨List.mem_range.1 h1.1, ?_⟩
 have h2 := h1.2
 unfold enB at h2
 unfold frT
 cases e : c.trans[i]? with
 | none => rw [e] at h2; cases h2
 | some t =>
  rw [e] at h2
  simp only [Bool.and_eq_true] at h2
  exact h2.2
theorem runInv_plc {c : Ch} {n : Nat} (hf : ShF c.kinds c.parents n) (hn : n ≤ 24) {now : Int} (hw : (Lit.int .i64 now).wf = true) (hft : ∀ t ∈ c.trans, ∃ f g : Nat, t.from_ = f ∧ f < n ∧ t.to_ = g ∧ g < n) (hfew : ∀ s, (enL c s 10 []).length ≤ 19) :
  RunInv c n now (Plc c.kinds c.parents n) := fun x hx => by
 refine ⟨hx.ok, hfew _, fun i hi => ?_⟩
 obtain ⟨hil, hin⟩ := enL_at hi
 obtain ⟨f, g, ef, hfn, eg, hgn⟩ := hft _ (List.getElem_mem hil)
 unfold stepC
 rw [frT_at hil ef] at hin ⊢
 rw [toT_at hil eg]
 exact ⟨hx.pastOk hf (by omega) _, hx.mov hf hn hfn hgn hw hin⟩
end Go.Proofs.YtaoinedndnleoaaGreat
namespace Go.Proofs.YtaoinedndnleoaaGreat
set_option maxRecDepth 100000
open Go.ChangeShapes Go.WideShapes Go.ChangeAt Go.RowKit
structure Dn where
 task : Tx
 user : Tx
deriving DecidableEq
def dncell (d : Dn) : List Value := [.string (bs d.task), .string (bs d.user)]
def dncells (l : List Dn) : List Value := l.flatMap dncell
theorem dncells_length (l : List Dn) : (dncells l).length = l.length * 2 := by
 induction l with
 | nil => rfl
 | cons a l ih => show (dncell a ++ dncells l).length = _; rw [List.length_append, ih, List.length_cons]; show 2 + _ = _; omega
theorem dncells_snoc (l : List Dn) (p : Dn) : dncells (l ++ [p]) = dncells l ++ dncell p := by simp [dncells]
theorem dncells_at : ∀ (l : List Dn) (j f : Nat) (h : j < l.length), f < 2 → (dncells l)[j * 2 + f]? = (dncell l[j])[f]?
 | x :: r, 0, f, _, hf => by
  show (dncell x ++ dncells r)[_]? = _
  rw [List.getElem?_append_left (by show _ < 2; omega)]; simp
 | x :: r, j + 1, f, h, hf => by
  show (dncell x ++ dncells r)[_]? = _
  rw [List.getElem?_append_right (by show 2 ≤ _; omega), show (dncell x).length = 2 from rfl, show (j + 1) * 2 + f - 2 = j * 2 + f by omega]
  exact dncells_at r j f (by simpa using h) hf
theorem dncells_one (l : List Dn) : ∀ u ∈ dncells l, u.oneCell' = true := by
 intro u hu
 simp only [dncells, List.mem_flatMap] at hu
 obtain ⟨p, _, hu⟩ := hu
 simp [dncell] at hu
 rcases hu with rfl | rfl <;> rfl
theorem Tryz.infoDone : (Tryz.prog.info? 78).map (fun i => (i.zero, i.size, i.bytes)) = some (some (.agg #[.string ⟨#[]⟩, .string ⟨#[]⟩]), 2, 32) := by kernel_rfl
def OwnDn (w : World) (base : Nat) (v : Value) (l : List Dn) : Prop := w.ownsRow base 78 2 v l.length (dncells l)
def DnAt (w : World) (A : Option Addr) (c : Nat) (l : List Dn) : Prop := l.length ≤ c ∧ ∀ j (hj : j < l.length), ∃ g, A = some ⟨g, 0, none⟩ ∧ g < w.heap.size ∧ ∀ f u, f < 2 → (dncell l[j])[f]? = some u → w.cell? ⟨g, j * 2 + f, none⟩ = some u
theorem DnAt.below {w w' : World} {A : Option Addr} {c : Nat} {l : List Dn} (h : DnAt w A c l) (hb : Below w.heap.size w w') : DnAt w' A c l :=
 ⟨h.1, fun j hj => by obtain ⟨g, e, hg, hc⟩ := h.2 j hj; exact ⟨g, e, Nat.lt_of_lt_of_le hg hb.size, fun f u hf hu => (hb.cell (p := ⟨g, _, none⟩) hg).trans (hc f u hf hu)⟩⟩
theorem dn_cells {w : World} {g c : Nat} {l : List Dn} (h : DnAt w (some ⟨g, 0, none⟩) c l) : ∀ j u, (dncells l)[j]? = some u → w.cell? ((⟨g, 0, none⟩ : Addr).add j) = some u := fun j u hu => by
 have hadd : (⟨g, 0, none⟩ : Addr).add j = ⟨g, j, none⟩ := by unfold Addr.add; split <;> simp_all
 rw [hadd]
 have hj : j < l.length * 2 := by rw [← dncells_length]; exact (List.getElem?_eq_some_iff.1 hu).1
 have hk : j / 2 < l.length := by omega
 obtain ⟨g', e, _, hc⟩ := h.2 (j / 2) hk
 obtain rfl : g' = g := by have := Option.some.inj e; injection this with e1; exact e1.symm
 have e3 : j = j / 2 * 2 + j % 2 := by omega
 have h2 : j % 2 < 2 := Nat.mod_lt _ (by omega)
 rw [e3, dncells_at l (j / 2) (j % 2) hk h2] at hu
 rw [e3]
 exact hc _ _ h2 hu
def tasksD (l : List Dn) (u : Tx) : List Tx := (l.filter fun d => d.user == u).map (·.task)
theorem tasksD_take {l : List Dn} {k : Nat} (h : k < l.length) (u : Tx) : tasksD (l.take (k + 1)) u = if l[k].user = u then tasksD (l.take k) u ++ [l[k].task] else tasksD (l.take k) u := by
 unfold tasksD
 rw [List.take_succ_eq_append_getElem h, List.filter_append, List.filter_cons]
 by_cases e : l[k].user = u
 ·rw [if_pos (by simp [e]), if_pos e]; simp
 ·rw [if_neg (by simp [e]), if_neg e]; simp
theorem tasksD_len (l : List Dn) (u : Tx) : (tasksD l u).length ≤ l.length := by unfold tasksD; rw [List.length_map]; exact List.length_filter_le _ _
def OwnTD (w : World) (base : Nat) (v : Value) (l : List Tr) : Prop := w.ownsRow base 97 7 v l.length (tcells l)
theorem Tryz.infoTransD : (Tryz.prog.info? 97).map (fun i => (i.zero, i.size, i.bytes)) = some (some (.agg #[.int .i64 0, .int .i64 0, .int .i64 0, .string ⟨#[]⟩, .string ⟨#[]⟩, .string ⟨#[]⟩, .int .i64 0]), 7, 80) := by kernel_rfl
structure DA (w0 W : World) (b : Nat) (c : Ch) (vN vK vP vT : Value) : Prop where
 row : W.heap[b]? = some (.cells #[vN, vK, vP, vT] 34 (0, 0))
 lo : w0.heap.size ≤ b
 oN : OwnL W w0.heap.size vN c.names
 oK : OwnI W w0.heap.size vK c.kinds
 oP : OwnI W w0.heap.size vP c.parents
 ap : ∀ g, vK.ownBlock = some g → vP.ownBlock = some g → False
 oT : OwnTD W w0.heap.size vT c.trans
 be : Below w0.heap.size w0 W
section
variable {w0 W W1 : World} {b : Nat} {c : Ch} {vN vK vP vT : Value}
theorem DA.lt (R : DA w0 W b c vN vK vP vT) : b < W.heap.size := (Array.getElem?_eq_some_iff.1 R.row).1
theorem DA.below (R : DA w0 W b c vN vK vP vT) (hb : Below W.heap.size W W1) : DA w0 W1 b c vN vK vP vT where
 row := (hb.block _ R.lt).trans R.row
 lo := R.lo
 oN := own_below R.oN hb R.be.size
 oK := own_below R.oK hb R.be.size
 oP := own_below R.oP hb R.be.size
 ap := R.ap
 oT := own_below R.oT hb R.be.size
 be := below_then R.be hb R.be.size
theorem DA.q0 (R : DA w0 W b c vN vK vP vT) : W.cell? ⟨b, 0, none⟩ = some vN := by rw [cell_of_row _ _ _ _ _ _ R.row]; rfl
theorem DA.q1 (R : DA w0 W b c vN vK vP vT) : W.cell? ⟨b, 1, none⟩ = some vK := by rw [cell_of_row _ _ _ _ _ _ R.row]; rfl
theorem DA.q2 (R : DA w0 W b c vN vK vP vT) : W.cell? ⟨b, 2, none⟩ = some vP := by rw [cell_of_row _ _ _ _ _ _ R.row]; rfl
theorem DA.q3 (R : DA w0 W b c vN vK vP vT) : W.cell? ⟨b, 3, none⟩ = some vT := by rw [cell_of_row _ _ _ _ _ _ R.row]; rfl
theorem DA.row1 (R : DA w0 W b c vN vK vP vT) {row : Option Nat} (hg : W.grownBy W1 row) (hne : row ≠ some b) : W1.heap[b]? = some (.cells #[vN, vK, vP, vT] 34 (0, 0)) :=
 (hg.block b R.lt (fun e => hne e.symm)).trans R.row
theorem DA.be1 (R : DA w0 W b c vN vK vP vT) {row : Option Nat} (hg : W.grownBy W1 row) (hlo : ∀ g, row = some g → w0.heap.size ≤ g) (j : Nat) (v : Value) : Below w0.heap.size w0 (W1.setCell ⟨b, j, none⟩ v) :=
 (R.be.grown hg R.be.size hlo).grown (grown_setCell _ _ _ _) (R.be.grown hg R.be.size hlo).size (fun g e => by cases e; exact R.lo)
theorem DA.names (R : DA w0 W b c vN vK vP vT) {v' : Value} {x : Tx} (hg : W.grownBy W1 vN.ownBlock) (ho : OwnL W1 w0.heap.size v' (c.names ++ [x])) :
  DA w0 (W1.setCell ⟨b, 0, none⟩ v') b { c with names := c.names ++ [x] } v' vK vP vT := by
 have r1 := R.row1 hg (own_row_ne R.oN R.row (by decide))
 exact ⟨heap_set (j := 0) r1 v', R.lo, put2 ho r1 (by decide) _ _, keep2 R.oK hg (rows_unlike R.oK R.oN (by decide)) r1 (by decide) _ _, keep2 R.oP hg (rows_unlike R.oP R.oN (by decide)) r1 (by decide) _ _, R.ap,
  keep2 R.oT hg (rows_unlike R.oT R.oN (by decide)) r1 (by decide) _ _, R.be1 hg (fun g e => (World.ownsRow.lt R.oN g e).1) _ _⟩
theorem DA.kinds (R : DA w0 W b c vN vK vP vT) {v' : Value} {x : Int} (hg : W.grownBy W1 vK.ownBlock) (ho : OwnI W1 w0.heap.size v' (c.kinds ++ [x])) (hk : ∀ g, v'.ownBlock = some g → vK.ownBlock = some g ∨ W.heap.size ≤ g) :
  DA w0 (W1.setCell ⟨b, 1, none⟩ v') b { c with kinds := c.kinds ++ [x] } vN v' vP vT := by
 have r1 := R.row1 hg (own_row_ne R.oK R.row (by decide))
 refine ⟨heap_set (j := 1) r1 v', R.lo, keep2 R.oN hg (rows_unlike R.oN R.oK (by decide)) r1 (by decide) _ _, put2 ho r1 (by decide) _ _, keep2 R.oP hg (ap_cases fun g e1 e2 => R.ap g e2 e1) r1 (by decide) _ _, ?_,
  keep2 R.oT hg (rows_unlike R.oT R.oK (by decide)) r1 (by decide) _ _, R.be1 hg (fun g e => (World.ownsRow.lt R.oK g e).1) _ _⟩
 intro g e1 e2
 rcases hk g e1 with h | h
 ·exact R.ap g h e2
 ·have := (World.ownsRow.lt R.oP g e2).2; omega
theorem DA.parents (R : DA w0 W b c vN vK vP vT) {v' : Value} {x : Int} (hg : W.grownBy W1 vP.ownBlock) (ho : OwnI W1 w0.heap.size v' (c.parents ++ [x])) (hk : ∀ g, v'.ownBlock = some g → vP.ownBlock = some g ∨ W.heap.size ≤ g) :
  DA w0 (W1.setCell ⟨b, 2, none⟩ v') b { c with parents := c.parents ++ [x] } vN vK v' vT := by
 have r1 := R.row1 hg (own_row_ne R.oP R.row (by decide))
 refine ⟨heap_set (j := 2) r1 v', R.lo, keep2 R.oN hg (rows_unlike R.oN R.oP (by decide)) r1 (by decide) _ _, keep2 R.oK hg (ap_cases R.ap) r1 (by decide) _ _, put2 ho r1 (by decide) _ _, ?_,
  keep2 R.oT hg (rows_unlike R.oT R.oP (by decide)) r1 (by decide) _ _, R.be1 hg (fun g e => (World.ownsRow.lt R.oP g e).1) _ _⟩
 intro g e1 e2
 rcases hk g e2 with h | h
 ·exact R.ap g e1 h
 ·have := (World.ownsRow.lt R.oK g e1).2; omega
theorem DA.trans (R : DA w0 W b c vN vK vP vT) {v' : Value} {x : Tr} (hg : W.grownBy W1 vT.ownBlock) (ho : OwnTD W1 w0.heap.size v' (c.trans ++ [x])) :
  DA w0 (W1.setCell ⟨b, 3, none⟩ v') b { c with trans := c.trans ++ [x] } vN vK vP v' := by
 have r1 := R.row1 hg (own_row_ne R.oT R.row (by decide))
 exact ⟨heap_set (j := 3) r1 v', R.lo, keep2 R.oN hg (rows_unlike R.oN R.oT (by decide)) r1 (by decide) _ _, keep2 R.oK hg (rows_unlike R.oK R.oT (by decide)) r1 (by decide) _ _, keep2 R.oP hg (rows_unlike R.oP R.oT (by decide)) r1 (by decide) _ _, R.ap,
  put2 ho r1 (by decide) _ _, R.be1 hg (fun g e => (World.ownsRow.lt R.oT g e).1) _ _⟩
end
set_option maxHeartbeats 1000000 in
theorem RIx_any (l : List Tx) (x : Tx) (A : Option Addr) (c : Nat) (w : World) (h : ListAt w A c l) (hl : l.length ≤ 1000000) :
  Calls Tryz.prog 59 #[.slice A l.length c, .string (bs x)] w fun e w' => e = .returned (.int .i64 (idxI l x)) ∧ w = w' := by
 have hc := h.1
 have h := h.2
 go_enter Tryz.func59, Tryz.ntmps59
 go_wp2
 go_loop [5, 8] (fun _ i => ∃ k : Nat, k ≤ l.length ∧ i = .int .i64 k ∧ Hid (x ∉ l.take k)) (fun _ i => l.length - (intOf i).toNat)
 case atStart => exact ⟨0, Nat.zero_le _, rfl, by show ¬ _; simp⟩
 case round =>
  obtain ⟨k, hk, rfl, HI⟩ := hrel
  by_cases hlt : k < l.length
  ·obtain ⟨b, rfl, _, hx⟩ := h k hlt
   have hsn : l.take (k + 1) = l.take k ++ [l[k]] := by rw [List.take_succ_eq_append_getElem hlt]
   have hme : l[k] ∈ l := List.getElem_mem hlt
   clear h
   by_cases he : x = l[k]
   ·have HM : Hid (idxI l x = k) := by show _ = _; unfold idxI; rw [if_pos (by rw [he]; exact hme), idxOf_at hlt he HI.out]
    have hb : ((bs l[k]).toList == (bs x).toList) = true := by rw [beq_tx]; simp [he]
    clear he hme hsn
    generalize bs l[k] = y at *
    go_wp2
    go_ret
    exact ⟨ret_int HM.out.symm, rfl⟩
   ·have HT : Hid (x ∉ l.take (k + 1)) := by
     show ¬ _
     rw [hsn, List.mem_append]
     exact fun hh => hh.elim HI.out (fun h => he (List.mem_singleton.1 h))
    have hb : ((bs l[k]).toList == (bs x).toList) = false := by rw [beq_tx, beq_eq_false_iff_ne]; exact fun e => he e.symm
    clear he hme hsn
    generalize bs l[k] = y at *
    go_wp2
    go_round
    case rel => exact ⟨k + 1, by omega, by go_num, HT⟩
    case measure => simp [intOf]; omega
  ·have HT : Hid (idxI l x = -1) := by have := HI.out; rw [List.take_of_length_le (by omega)] at this; show _ = _; unfold idxI; rw [if_neg this]
   clear h
   go_wp2
   go_ret
   exact ⟨ret_int HT.out.symm, rfl⟩
theorem kindD_drop {l : List (Ru × Nat)} {k : Nat} (hk : k < l.length) (s : Tx) : kindD (l.drop k) s = if l[k].1.kind = 8 ∧ l[k].1.name = s then l[k].1.n else kindD (l.drop (k + 1)) s := by
 rw [List.drop_eq_getElem_cons hk, kindD]
set_option maxHeartbeats 2000000 in
theorem RKindOf_any (acc : List RL) (s : Tx) (A : Option Addr) (cap : Nat) (w : World) (hR : RIn w A acc) (ha : acc.length ≤ 1000) (hac : acc.length ≤ cap) :
  Calls Tryz.prog 60 #[.slice A acc.length cap, .string (bs s)] w fun e w' => e = .returned (.int .i64 (kindD (acc.map er) s)) ∧ Below w.heap.size w w' := by
 have HR := Lib.hid hR
 have HK := Lib.hid (fun k (hk : k < acc.length) => by have := kindD_drop (l := acc.map er) (k := k) (by simpa using hk) s; simpa [er] using this : ∀ k (hk : k < acc.length), kindD ((acc.map er).drop k) s = if acc[k].1.kind = 8 ∧ acc[k].1.name = s then acc[k].1.n else kindD ((acc.map er).drop (k + 1)) s)
 clear hR
 go_enter Tryz.func60, Tryz.ntmps60
 go_wp2
 go_loopw [9] (fun i wr => ∃ k : Nat, k ≤ acc.length ∧ i = .int .i64 k ∧ Hid (kindD (acc.map er) s = kindD ((acc.map er).drop k) s) ∧ Hid (Below w.heap.size w wr)) (fun i _ => acc.length - (intOf i).toNat)
 case atStart => exact ⟨0, Nat.zero_le _, rfl, rfl, Below.refl _ _⟩
 case round =>
  obtain ⟨k, hk, rfl, HI, HB⟩ := hrel
  by_cases hlt : k < acc.length
  ·obtain ⟨g, rfl, hgl, hcell, B, c2, e2, hL⟩ := HR.out k hlt
   have hkk := HK.out k hlt
   have q := fun f u hf hu => (HB.out.cell (p := ⟨g, k * 11 + f, none⟩) hgl).trans (hcell f u hf hu)
   clear hcell hL
   generalize acc[k] = x at *
   obtain ⟨⟨kd, nm, l, rn, rm, rf, rt, rb, ra, ri⟩, ln, L⟩ := x
   obtain rfl : L = .slice B l.length c2 := e2
   simp only at hkk
   have q0 := q 0 _ (by omega) rfl; have q1 := q 1 _ (by omega) rfl; have q2 := q 2 _ (by omega) rfl; have q3 := q 3 _ (by omega) rfl; have q4 := q 4 _ (by omega) rfl; have q5 := q 5 _ (by omega) rfl; have q6 := q 6 _ (by omega) rfl; have q7 := q 7 _ (by omega) rfl; have q8 := q 8 _ (by omega) rfl; have q9 := q 9 _ (by omega) rfl; have q10 := q 10 _ (by omega) rfl
   simp only [Nat.add_zero] at q0
   clear q
   by_cases h8 : kd = 8
   ·subst h8
    by_cases hn : nm = s
    ·have HE : Hid (kindD (acc.map er) s = rn) := by show _ = _; rw [HI.out, hkk, if_pos ⟨rfl, hn⟩]
     have hb : ((bs nm).toList == (bs s).toList) = true := by rw [beq_tx]; simp [hn]
     clear hn hkk HI
     go_wp2
     go_ret
     exact ⟨ret_int HE.out.symm, below_then HB.out (box_b wr _) HB.out.size⟩
    ·have HE : Hid (kindD (acc.map er) s = kindD ((acc.map er).drop (k + 1)) s) := by show _ = _; rw [HI.out, hkk, if_neg (fun h => hn h.2)]
     have hb : ((bs nm).toList == (bs s).toList) = false := by rw [beq_tx, beq_eq_false_iff_ne]; exact hn
     clear hn hkk HI
     go_wp2
     go_roundw
     case rel => exact ⟨k + 1, by omega, by go_num, HE.out, below_then HB.out (box_b wr _) HB.out.size⟩
     case measure => simp [intOf]; omega
   ·have HE : Hid (kindD (acc.map er) s = kindD ((acc.map er).drop (k + 1)) s) := by show _ = _; rw [HI.out, hkk, if_neg (fun h => h8 h.1)]
    have g8 : (kd == 8) = false := beq_eq_false_iff_ne.2 h8
    clear hkk HI h8
    go_wp2
    go_roundw
    case rel => exact ⟨k + 1, by omega, by go_num, HE.out, below_then HB.out (box_b wr _) HB.out.size⟩
    case measure => simp [intOf]; omega
  ·have HE : Hid (kindD (acc.map er) s = 0) := by show _ = _; rw [HI.out, List.drop_of_length_le (by simp; omega), kindD]
   go_wp2
   go_ret
   exact ⟨ret_int HE.out.symm, HB.out⟩
theorem fitB_def (ks ps : List Int) (k : Nat) : fitS ks ps k = (!(decide (ks.getD k 0 < 1) || decide (4 < ks.getD k 0) || decide (ps.getD k 0 < -1) || decide ((k : Int) ≤ ps.getD k 0)) &&
  (if hl ks k then decide (ps.getD k 0 < 0) || hl ks (ps.getD k 0).toNat else decide (0 ≤ ps.getD k 0) && ks.getD (ps.getD k 0).toNat 0 == 1)) := rfl
theorem fitB_bds {ks ps : List Int} {k : Nat} (h : fitS ks ps k = true) : 1 ≤ ks.getD k 0 ∧ ks.getD k 0 ≤ 4 ∧ -1 ≤ ps.getD k 0 ∧ ps.getD k 0 < k := by
 rw [fitB_def] at h
 generalize ks.getD k 0 = z at *
 generalize ps.getD k 0 = p at *
 rw [Bool.and_eq_true, Bool.not_eq_true', Bool.or_eq_false_iff, Bool.or_eq_false_iff, Bool.or_eq_false_iff] at h
 obtain ⟨⟨⟨⟨h1, h2⟩, h3⟩, h4⟩, _⟩ := h
 have h1 := of_decide_eq_false h1
 have h2 := of_decide_eq_false h2
 have h3 := of_decide_eq_false h3
 have h4 := of_decide_eq_false h4
 omega
section
variable (ks ps : List Int) (A B : Option Addr) (n c m d : Nat) (w : World)
set_option maxHeartbeats 4000000 in
theorem RValid_any (h : IntsAt w (.slice A n c) ks ∧ IntsAt w (.slice B m d) ps) (hn : n = ks.length) (hm : m = ps.length) (hn2 : n ≤ 100) (hm2 : m ≤ 100) :
  Calls Tryz.prog 61 #[.agg #[.slice A n c, .slice B m d]] w fun e w' => e = .returned (.bool (valB ks ps)) ∧ Below w.heap.size w w' := by
 have x0 := box_0 w 31 (.slice A n c) (.slice B m d)
 have x1 := box_1 w 31 (.slice A n c) (.slice B m d)
 have hz := box_b w (.cells #[.slice A n c, .slice B m d] 31)
 have hlt : w.heap.size < (w.alloc (.cells #[.slice A n c, .slice B m d] 31)).heap.size := by simp
 have S0 := Lib.hid (shp_below h hz)
 have HZ := Lib.hid hz
 have H1 := Lib.hid hn
 have H2 := Lib.hid hm
 have HV := Lib.hid (valB_def ks ps)
 rw [← hn, ← hm] at HV
 clear h hz hn hm
 by_cases h1 : 1 ≤ n
 ·by_cases h24 : n ≤ 24
  ·by_cases hnm : n = m
   ·subst hnm
    have HN : Hid (szN ks ps = n) := by show _ = _; unfold szN; have := H1.out; have := H2.out; omega
    have HV2 : Hid (valB ks ps = ((List.range n).all (fitS ks ps) && (List.range (n + 1)).all fun i => iniB ks ps ((i : Int) - 1))) := by
     show _ = _
     rw [HV.out]
     have e1 : decide (1 ≤ n) = true := by simpa using h1
     have e2 : decide (n ≤ 24) = true := by simpa using h24
     rw [e1, e2]; simp
    clear HV
    go_enter Tryz.func61, Tryz.ntmps61
    go_upto_region 4 with (fail)
    generalize w.alloc (.cells #[.slice A n c, .slice B n d] 31) = w0 at *
    have KD := Lib.hid (fun W (hW : Below w0.heap.size w0 W) a => RKids_any ks ps A B n c n d W a (shp_below S0.out hW) H2.out hm2)
    have IN := Lib.hid (fun W (hW : Below w0.heap.size w0 W) a => RIni_any ks ps A B n c n d W a (shp_below S0.out hW) H1.out H2.out (Nat.le_refl _) hm2)
    go_upto_region 5 with (fail)
    go_loopw [4] (fun i wr => ∃ k : Nat, k ≤ n ∧ i = .int .i64 k ∧ Hid (Below w0.heap.size w0 wr) ∧ Hid (∀ j, j < k → fitS ks ps j = true)) (fun i _ => n - (intOf i).toNat)
    case atStart => exact ⟨0, Nat.zero_le _, rfl, Below.refl _ _, fun j hj => by omega⟩
    case round =>
     obtain ⟨k, hk, rfl, HB, HI⟩ := hrel
     have z0 := (HB.out.cell (p := ⟨w.heap.size, 0, none⟩) hlt).trans x0
     have z1 := (HB.out.cell (p := ⟨w.heap.size, 1, none⟩) hlt).trans x1
     by_cases hlk : k < n
     ·have hX : fitS ks ps k = true → ∀ j, j < k + 1 → fitS ks ps j = true := fun hh j hj => by
       by_cases e : j = k
       ·subst e; exact hh
       ·exact HI.out j (by omega)
      have hY : fitS ks ps k = false → valB ks ps = false := fun hh => by
       rw [HV2.out]
       have : (List.range n).all (fitS ks ps) = false := by
        rw [List.all_eq_false]
        exact ⟨k, List.mem_range.2 hlk, by simp [hh]⟩
       rw [this]; rfl
      have hFD := fitB_def ks ps k
      obtain ⟨b, off, rfl, hb, hx, hw⟩ := ints_cell (shp_below S0.out HB.out).1 (k := k) (by have := H1.out; omega)
      obtain ⟨b2, off2, rfl, hb2, hx2, hw2⟩ := ints_cell (shp_below S0.out HB.out).2 (k := k) (by have := H2.out; omega)
      have hHC : ∀ j : Nat, j < k → 1 ≤ ks.getD j 0 ∧ wr.cell? ⟨b, off + j, none⟩ = some (.int .i64 (ks.getD j 0)) := fun j hj => by
       obtain ⟨b', off', e, hb', hx', _⟩ := ints_cell (shp_below S0.out HB.out).1 (k := j) (by have := H1.out; omega)
       injection e with e
       injection e with e1 e2
       subst e1; subst e2
       exact ⟨(fitB_bds (HI.out j hj)).1, hx'⟩
      have hhl := hl_of ks k
      have HHL := Lib.hid (fun j => hl_of ks j)
      have hki : (k : Int) < n := by omega
      clear HI KD IN hw hw2
      generalize ks.getD k 0 = z at *
      generalize ps.getD k 0 = p at *
      have HX := Lib.hid hX
      have HY := Lib.hid hY
      have HFD := Lib.hid hFD
      have HHC := Lib.hid hHC
      have HHK := Lib.hid hhl
      clear hX hY hFD hHC hhl
      go_upto_region 7 with (fail)
      go_quiet (fail)
      have HB3 := Lib.hid (below_drewN HB.out nq)
      have HHC3 : Hid (∀ j : Nat, j < k → 1 ≤ ks.getD j 0 ∧ (wr.drewN nq).cell? ⟨b, off + j, none⟩ = some (.int .i64 (ks.getD j 0))) := HHC.out
      have y0 : (wr.drewN nq).cell? ⟨w.heap.size, 0, none⟩ = some (.slice (some ⟨b, off, none⟩) n c) := z0
      have y1 : (wr.drewN nq).cell? ⟨w.heap.size, 1, none⟩ = some (.slice (some ⟨b2, off2, none⟩) n d) := z1
      generalize wr.drewN nq = w1 at *
      clear HB HHC z0 z1
      by_cases c1 : z < 1
      ·have HE := Lib.hid (HY.out (by rw [HFD.out]; simp [c1]))
       go_wp2
       go_ret
       exact ⟨ret_bool HE.out.symm, below_then HZ.out HB3.out HZ.out.size⟩
      by_cases c2 : 4 < z
      ·have HE := Lib.hid (HY.out (by rw [HFD.out]; simp [c2]))
       go_wp2
       go_ret
       exact ⟨ret_bool HE.out.symm, below_then HZ.out HB3.out HZ.out.size⟩
      by_cases c3 : p < -1
      ·have HE := Lib.hid (HY.out (by rw [HFD.out]; simp [c3]))
       go_wp2
       go_ret
       exact ⟨ret_bool HE.out.symm, below_then HZ.out HB3.out HZ.out.size⟩
      by_cases c4 : (k : Int) ≤ p
      ·have HE := Lib.hid (HY.out (by rw [HFD.out]; simp [c4]))
       go_wp2
       go_ret
       exact ⟨ret_bool HE.out.symm, below_then HZ.out HB3.out HZ.out.size⟩
      have HF2 : Hid (fitS ks ps k = if decide (z ≤ 2) then decide (p < 0) || hl ks p.toNat else decide (0 ≤ p) && ks.getD p.toNat 0 == 1) := by
       show _ = _
       have e1 : decide (z < 1) = false := by simpa using c1
       have e2 : decide (4 < z) = false := by simpa using c2
       have e3 : decide (p < -1) = false := by simpa using c3
       have e4 : decide ((k : Int) ≤ p) = false := by simpa using c4
       rw [HFD.out, e1, e2, e3, e4, HHK.out (by omega)]; rfl
      clear HFD HHK
      by_cases c5 : p < 0
      ·by_cases c6 : z ≤ 2
       ·have HX2 := Lib.hid (HX.out (by rw [HF2.out]; simp [c5, c6]))
        clear HX HY HF2
        go_wp2
        go_roundw
        case rel => exact ⟨k + 1, by omega, by go_num, HB3, HX2⟩
        case measure => simp [intOf]; omega
       ·have HE := Lib.hid (HY.out (by rw [HF2.out]; simp [c6]; omega))
        clear HX HY HF2
        go_wp2
        go_ret
        exact ⟨ret_bool HE.out.symm, below_then HZ.out HB3.out HZ.out.size⟩
      ·obtain ⟨q, rfl⟩ : ∃ q : Nat, p = q := ⟨p.toNat, by omega⟩
       have hqk : q < k := by omega
       obtain ⟨hy1, xq⟩ := HHC3.out q hqk
       have HF3 : Hid (fitS ks ps k = if decide (z ≤ 2) then decide (ks.getD q 0 ≤ 2) else ks.getD q 0 == 1) := by
        show _ = _
        rw [HF2.out, Int.toNat_natCast, HHL.out q hy1]
        have e1 : decide ((q : Int) < 0) = false := by simp
        have e2 : decide (0 ≤ (q : Int)) = true := by simp
        rw [e1, e2, Bool.false_or, Bool.true_and]
       have hqi : (q : Int) < n := by omega
       clear HF2 HHC3 HHL
       generalize ks.getD q 0 = y at *
       by_cases d1 : y = 1
       ·subst d1
        have HX2 := Lib.hid (HX.out (by rw [HF3.out]; simp))
        clear HX HY HF3
        by_cases c6 : z ≤ 2
        ·go_wp2
         go_roundw
         case rel => exact ⟨k + 1, by omega, by go_num, HB3, HX2⟩
         case measure => simp [intOf]; omega
        ·go_wp2
         go_roundw
         case rel => exact ⟨k + 1, by omega, by go_num, HB3, HX2⟩
         case measure => simp [intOf]; omega
       ·by_cases d2 : y = 2
        ·subst d2
         by_cases c6 : z ≤ 2
         ·have HX2 := Lib.hid (HX.out (by rw [HF3.out]; simp [c6]))
          clear HX HY HF3
          go_wp2
          go_roundw
          case rel => exact ⟨k + 1, by omega, by go_num, HB3, HX2⟩
          case measure => simp [intOf]; omega
         ·have HE := Lib.hid (HY.out (by rw [HF3.out]; simp [c6]))
          clear HX HY HF3
          go_wp2
          go_ret
          exact ⟨ret_bool HE.out.symm, below_then HZ.out HB3.out HZ.out.size⟩
        ·have HE := Lib.hid (HY.out (by
          rw [HF3.out]
          have e1 : decide (y ≤ 2) = false := by simp; omega
          have e2 : (y == 1) = false := beq_eq_false_iff_ne.2 d1
          rw [e1, e2]; simp))
         have g1 : (y != 1) = true := by simpa using d1
         have g2 : (y != 2) = true := by simpa using d2
         clear HX HY HF3
         go_wp2
         go_ret
         exact ⟨ret_bool HE.out.symm, below_then HZ.out HB3.out HZ.out.size⟩
     ·have HI2 : Hid (∀ j, j < n → fitS ks ps j = true) := fun j hj => HI.out j (by omega)
      have HE : Hid (valB ks ps = (List.range (n + 1)).all fun i => iniB ks ps ((i : Int) - 1)) := by
       show _ = _
       have : (List.range n).all (fitS ks ps) = true := by
        rw [List.all_eq_true]
        intro j hj
        exact HI2.out j (List.mem_range.1 hj)
       rw [HV2.out, this]; rfl
      have HR : Hid (∀ a, riniL ks (kidsTo ps a n) = iniTo ks ps a n) := fun a => rini_ini fun j hj => (fitB_bds (HI2.out j hj)).1
      have H0 : Hid (0 < (kidsTo ps (-1) n).length) := by
       show 0 < _
       have hb := fitB_bds (HI2.out 0 (by omega))
       have : 0 ∈ kidsTo ps (-1) n := mem_kidsTo.2 ⟨by omega, by omega⟩
       exact List.length_pos_of_mem this
      clear HI HI2 HV2
      obtain ⟨w2, rfl⟩ : ∃ w2 : World, w2 = wr := ⟨_, rfl⟩
      go_wp2
      go_loopw [7] (fun i wr => ∃ k : Nat, k ≤ n + 1 ∧ i = .int .i64 ((k : Int) - 1) ∧ Hid (Below w0.heap.size w0 wr) ∧ Hid (∀ j : Nat, j < k → iniB ks ps ((j : Int) - 1) = true)) (fun i _ => ((n : Int) - intOf i).toNat)
      case atStart => exact ⟨0, Nat.zero_le _, rfl, HB, fun j hj => by omega⟩
      case round =>
       obtain ⟨i, hi, rfl, HB2, HI⟩ := hrel
       have y0 := (HB2.out.cell (p := ⟨w.heap.size, 0, none⟩) hlt).trans x0
       have y1 := (HB2.out.cell (p := ⟨w.heap.size, 1, none⟩) hlt).trans x1
       by_cases hli : i < n + 1
       ·have HX : Hid (iniB ks ps ((i : Int) - 1) = true → ∀ j : Nat, j < i + 1 → iniB ks ps ((j : Int) - 1) = true) := fun hh j hj => by
         by_cases e : j = i
         ·subst e; exact hh
         ·exact HI.out j (by omega)
        have HY : Hid (iniB ks ps ((i : Int) - 1) = false → valB ks ps = false) := fun hh => by
         rw [HE.out, List.all_eq_false]
         exact ⟨i, List.mem_range.2 hli, by simp [hh]⟩
        have HD : Hid (iniB ks ps ((i : Int) - 1) = !(decide (0 < (kidsTo ps ((i : Int) - 1) n).length) && decide (iniTo ks ps ((i : Int) - 1) n < 0))) := by show _ = _; unfold iniB; rw [HN.out]
        have K1 := Lib.hid (KD.out wr HB2.out ((i : Int) - 1))
        have I1 : Hid (∀ W, Below w0.heap.size w0 W → Calls Tryz.prog 93 #[.agg #[.slice A n c, .slice B n d], .int .i64 ((i : Int) - 1)] W fun e w' => e = .returned (.int .i64 (iniTo ks ps ((i : Int) - 1) n)) ∧ Below W.heap.size W w') := fun W hW => by
         have := IN.out W hW ((i : Int) - 1)
         rwa [HR.out] at this
        have hln := kidsTo_len ps ((i : Int) - 1) n
        have H00 : Hid ((i : Int) - 1 < 0 → 0 < (kidsTo ps ((i : Int) - 1) n).length) := fun h => by
         have : (i : Int) - 1 = -1 := by omega
         rw [this]; exact H0.out
        clear HI KD IN H0
        generalize ha : (i : Int) - 1 = a at *
        have hai : a < (n : Int) := by omega
        have HA := Lib.hid ha
        have ha1 : -1 ≤ a := by omega
        clear ha
        generalize iniTo ks ps a n = r at *
        have hll : ((kidsTo ps a n).map fun k : Nat => (k : Int)).length = (kidsTo ps a n).length := List.length_map ..
        have HLL := Lib.hid hll
        clear hll
        generalize (kidsTo ps a n).length = l at *
        have hways : (a < 0 ∧ 0 < l) ∨ (0 ≤ a ∧ l = 0) ∨ (0 ≤ a ∧ 0 < l) := by
         by_cases h : a < 0
         ·exact .inl ⟨h, H00.out h⟩
         ·omega
        clear H00
        rcases hways with ⟨ha0, hl0⟩ | ⟨ha0, hl0⟩ | ⟨ha0, hl0⟩
        ·have HD2 : Hid (iniB ks ps a = !decide (r < 0)) := by
          show _ = _
          rw [HD.out, decide_eq_true hl0]; rfl
         clear HD K1
         by_cases hr : r < 0
         ·have HY2 := Lib.hid (HY.out (by rw [HD2.out, decide_eq_true hr]; rfl))
          clear HX HY HD2
          go_wp2_with (go_at_call 93; refine (I1.out _ HB2.out).mono ?_; rintro e w6 ⟨rfl, hb6⟩)
          go_ret
          exact ⟨ret_bool HY2.out.symm, below_then HZ.out (below_then HB2.out hb6 HB2.out.size) HZ.out.size⟩
         ·have HX2 := Lib.hid (HX.out (by rw [HD2.out, decide_eq_false hr]; rfl))
          clear HX HY HD2
          go_wp2_with (go_at_call 93; refine (I1.out _ HB2.out).mono ?_; rintro e w6 ⟨rfl, hb6⟩)
          go_roundw
          case rel => exact ⟨i + 1, by omega, by have := HA.out; go_num, below_then HB2.out hb6 HB2.out.size, HX2⟩
          case measure => show ((n : Int) - (a + 1)).toNat < ((n : Int) - a).toNat; omega
        ·subst hl0
         have HX2 := Lib.hid (HX.out (by rw [HD.out]; rfl))
         clear HX HY HD I1
         go_wp2_with (go_at_call 92; refine K1.out.mono ?_; rintro e w5 ⟨v, rfl, ho, hb5⟩; obtain ⟨A5, c5, rfl⟩ := own_slice ho; rw [HLL.out])
         go_roundw
         case rel => exact ⟨i + 1, by omega, by have := HA.out; go_num, below_then HB2.out hb5 HB2.out.size, HX2⟩
         case measure => show ((n : Int) - (a + 1)).toNat < ((n : Int) - a).toNat; omega
        ·have hpos : (0 : Int) < l := by omega
         have HD2 : Hid (iniB ks ps a = !decide (r < 0)) := by
          show _ = _
          rw [HD.out, decide_eq_true hl0]; rfl
         clear HD
         by_cases hr : r < 0
         ·have HY2 := Lib.hid (HY.out (by rw [HD2.out, decide_eq_true hr]; rfl))
          clear HX HY HD2
          go_wp2_with (first
           | (go_at_call 92; refine K1.out.mono ?_; rintro e w5 ⟨v, rfl, ho, hb5⟩; obtain ⟨A5, c5, rfl⟩ := own_slice ho; rw [HLL.out]; have h5 := below_then HB2.out hb5 HB2.out.size; have t0 := (h5.cell (p := ⟨w.heap.size, 0, none⟩) hlt).trans x0; have t1 := (h5.cell (p := ⟨w.heap.size, 1, none⟩) hlt).trans x1)
           | (go_at_call 93; refine (I1.out _ h5).mono ?_; rintro e w6 ⟨rfl, hb6⟩))
          go_ret
          exact ⟨ret_bool HY2.out.symm, below_then HZ.out (below_then h5 hb6 h5.size) HZ.out.size⟩
         ·have HX2 := Lib.hid (HX.out (by rw [HD2.out, decide_eq_false hr]; rfl))
          clear HX HY HD2
          go_wp2_with (first
           | (go_at_call 92; refine K1.out.mono ?_; rintro e w5 ⟨v, rfl, ho, hb5⟩; obtain ⟨A5, c5, rfl⟩ := own_slice ho; rw [HLL.out]; have h5 := below_then HB2.out hb5 HB2.out.size; have t0 := (h5.cell (p := ⟨w.heap.size, 0, none⟩) hlt).trans x0; have t1 := (h5.cell (p := ⟨w.heap.size, 1, none⟩) hlt).trans x1)
           | (go_at_call 93; refine (I1.out _ h5).mono ?_; rintro e w6 ⟨rfl, hb6⟩))
          go_roundw
          case rel => exact ⟨i + 1, by omega, by have := HA.out; go_num, below_then h5 hb6 h5.size, HX2⟩
          case measure => show ((n : Int) - (a + 1)).toNat < ((n : Int) - a).toNat; omega
       ·have HE2 : Hid (valB ks ps = true) := by
         show _ = _
         rw [HE.out, List.all_eq_true]
         intro j hj
         exact HI.out j (by have := List.mem_range.1 hj; omega)
        clear HI
        have hge : decide ((i : Int) - 1 < n) = false := by simp; omega
        go_wp2
        go_ret
        exact ⟨ret_bool HE2.out.symm, below_then HZ.out HB2.out HZ.out.size⟩
   ·have HV2 : Hid (valB ks ps = false) := by
     show _ = _
     rw [HV.out]
     have e2 : (n == m) = false := by simpa using hnm
     rw [e2]; rfl
    clear HV
    have hnm' : ((m : Int) != n) = true := by simp; omega
    go_enter Tryz.func61, Tryz.ntmps61
    go_wp2
    go_ret
    exact ⟨ret_bool HV2.out.symm, HZ.out⟩
  ·have HV2 : Hid (valB ks ps = false) := by
    show _ = _
    rw [HV.out]
    have e2 : decide (n ≤ 24) = false := by simpa using h24
    rw [e2]; simp
   clear HV
   go_enter Tryz.func61, Tryz.ntmps61
   go_wp2
   go_ret
   exact ⟨ret_bool HV2.out.symm, HZ.out⟩
 ·have HV2 : Hid (valB ks ps = false) := by
   show _ = _
   rw [HV.out]
   have e2 : decide (1 ≤ n) = false := by simpa using h1
   rw [e2]; simp
  clear HV
  go_enter Tryz.func61, Tryz.ntmps61
  go_wp2
  go_ret
  exact ⟨ret_bool HV2.out.symm, HZ.out⟩
end
end Go.Proofs.YtaoinedndnleoaaGreat
