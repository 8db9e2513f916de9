/-
  Package chart: what is made of rules, in memory: names, kinds, parents, transitions in blocks of their own.
-/
import Derived.Test.YtahgfmobdfhaaaaGreatDoorOwnI
import Derived.Deep.AppendLies
import Derived.Deep.RegionHeld3
import Derived.Deep.RegionLaw
namespace Go.Proofs.YtahgfmobdfhaaaaGreatDoor
set_option maxRecDepth 100000
open Go.ChangeShapes Go.WideShapes Go.ChangeAt Go.RowKit

def tcell (t : Tr) : List Value := [.int .i64 t.kind, .int .i64 t.from_, .int .i64 t.to_, .string (bs t.event), .string (bs t.perm), .string (bs t.task), .int .i64 t.time]
def tcells (l : List Tr) : List Value := l.flatMap tcell
theorem tcells_snoc (l : List Tr) (t : Tr) : tcells (l ++ [t]) = tcells l ++ tcell t := by simp [tcells]
def OwnT (w : World) (base : Nat) (v : Value) (l : List Tr) : Prop := w.ownsRow base 43 7 v l.length (tcells l)
theorem Tryz.infoTrans : (Tryz.prog.info? 43).map (fun i => (i.zero, i.size, i.bytes)) = some (some (.agg #[.int .i64 0, .int .i64 0, .int .i64 0, .string ⟨#[]⟩, .string ⟨#[]⟩, .string ⟨#[]⟩, .int .i64 0]), 7, 80) := by kernel_rfl
/-- a row does not lie where a block of another type lies -/
theorem own_row_ne {w : World} {base e s n b : Nat} {v : Value} {xs : List Value} {cs : Array Value} {t : TypeId} {fz : Nat × Nat} (h : w.ownsRow base e s v n xs) (r : w.heap[b]? = some (.cells cs t fz)) (hne : t ≠ e) : v.ownBlock ≠ some b := by
  rcases h.2 with ⟨hv, _⟩ | ⟨g, cap, cur, hv, _, hg, _⟩
  · rw [hv]; simp [Value.ownBlock]
  · rw [hv]
    intro e2
    have e3 : g = b := by simpa [Value.ownBlock] using e2
    subst e3
    rw [hg] at r
    simp only [Option.some.injEq, Obj.cells.injEq] at r
    exact hne r.2.1.symm
theorem rows_unlike {w : World} {b1 b2 e1 e2 s1 s2 n1 n2 : Nat} {v1 v2 : Value} {xs1 xs2 : List Value} (h : w.ownsRow b1 e1 s1 v1 n1 xs1) (h' : w.ownsRow b2 e2 s2 v2 n2 xs2) (hne : e1 ≠ e2) : v1.ownBlock = none ∨ v1.ownBlock ≠ v2.ownBlock := by
  rcases h'.2 with ⟨hv', _⟩ | ⟨g', cap', cur', hv', _, hg', _⟩
  · rcases h.2 with ⟨hv, _⟩ | ⟨g, cap, cur, hv, _, hg, _⟩
    · left; rw [hv]; rfl
    · right; rw [hv, hv']; simp [Value.ownBlock]
  · right
    rw [hv']
    exact own_row_ne h hg' (fun e => hne e.symm)
/-- the builder: what it has made, all of it in blocks of the call's own -/
structure BA (w0 W : World) (b : Nat) (acc : List RL) (c : Ch) (vN vK vP vT vS : Value) : Prop where
  row : W.heap[b]? = some (.cells #[vN, vK, vP, vT, vS] 58 (0, 0))
  lo : w0.heap.size ≤ b
  oN : OwnL W w0.heap.size vN c.names
  oK : OwnI W w0.heap.size vK c.kinds
  oP : OwnI W w0.heap.size vP c.parents
  ap : ∀ g, vK.ownBlock = some g → vP.ownBlock = some g → False
  oT : OwnT W w0.heap.size vT c.trans
  oS : W.ownsRow w0.heap.size 41 11 vS acc.length (rcells acc)
  ls : ∀ x ∈ acc, ∃ B n c, x.2.2 = .slice B n c
  be : Below w0.heap.size w0 W
section
variable {w0 W W1 : World} {b : Nat} {acc : List RL} {c : Ch} {vN vK vP vT vS : Value}
theorem BA.lt (R : BA w0 W b acc c vN vK vP vT vS) : b < W.heap.size := (Array.getElem?_eq_some_iff.1 R.row).1
theorem BA.below (R : BA w0 W b acc c vN vK vP vT vS) (hb : Below W.heap.size W W1) : BA w0 W1 b acc c vN vK vP vT vS where
  row := (hb.block _ R.lt).trans R.row
  lo := R.lo
  oN := own_below R.oN hb R.be.size
  oK := own_below R.oK hb R.be.size
  oP := own_below R.oP hb R.be.size
  ap := R.ap
  oT := own_below R.oT hb R.be.size
  oS := own_below R.oS hb R.be.size
  ls := R.ls
  be := below_then R.be hb R.be.size
theorem BA.q0 (R : BA w0 W b acc c vN vK vP vT vS) : W.cell? ⟨b, 0, none⟩ = some vN := by rw [cell_of_row _ _ _ _ _ _ R.row]; rfl
theorem BA.q1 (R : BA w0 W b acc c vN vK vP vT vS) : W.cell? ⟨b, 1, none⟩ = some vK := by rw [cell_of_row _ _ _ _ _ _ R.row]; rfl
theorem BA.q2 (R : BA w0 W b acc c vN vK vP vT vS) : W.cell? ⟨b, 2, none⟩ = some vP := by rw [cell_of_row _ _ _ _ _ _ R.row]; rfl
theorem BA.q3 (R : BA w0 W b acc c vN vK vP vT vS) : W.cell? ⟨b, 3, none⟩ = some vT := by rw [cell_of_row _ _ _ _ _ _ R.row]; rfl
theorem BA.q4 (R : BA w0 W b acc c vN vK vP vT vS) : W.cell? ⟨b, 4, none⟩ = some vS := by rw [cell_of_row _ _ _ _ _ _ R.row]; rfl
theorem keep2 {base e s n : Nat} {v : Value} {xs : List Value} {row : Option Nat} {cs : Array Value} {t : TypeId} {fz : Nat × Nat} (h : W.ownsRow base e s v n xs) (hg : W.grownBy W1 row) (hu : v.ownBlock = none ∨ v.ownBlock ≠ row) (r1 : W1.heap[b]? = some (.cells cs t fz)) (hne : t ≠ e) (j : Nat) (x : Value) :
    (W1.setCell ⟨b, j, none⟩ x).ownsRow base e s v n xs :=
  World.ownsRow.kept (World.ownsRow.kept h hg hu) (grown_setCell _ _ _ _) (.inr (own_row_ne (World.ownsRow.kept h hg hu) r1 hne))
theorem put2 {base e s n : Nat} {v : Value} {xs : List Value} {cs : Array Value} {t : TypeId} {fz : Nat × Nat} (h : W1.ownsRow base e s v n xs) (r1 : W1.heap[b]? = some (.cells cs t fz)) (hne : t ≠ e) (j : Nat) (x : Value) :
    (W1.setCell ⟨b, j, none⟩ x).ownsRow base e s v n xs := World.ownsRow.kept h (grown_setCell _ _ _ _) (.inr (own_row_ne h r1 hne))
theorem BA.row1 (R : BA w0 W b acc c vN vK vP vT vS) {row : Option Nat} (hg : W.grownBy W1 row) (hne : row ≠ some b) : W1.heap[b]? = some (.cells #[vN, vK, vP, vT, vS] 58 (0, 0)) :=
  (hg.block b R.lt (fun e => hne e.symm)).trans R.row
theorem BA.be1 (R : BA w0 W b acc c vN vK vP vT vS) {row : Option Nat} (hg : W.grownBy W1 row) (hlo : ∀ g, row = some g → w0.heap.size ≤ g) (j : Nat) (v : Value) : Below w0.heap.size w0 (W1.setCell ⟨b, j, none⟩ v) :=
  (R.be.grown hg R.be.size hlo).grown (grown_setCell _ _ _ _) (R.be.grown hg R.be.size hlo).size (fun g e => by cases e; exact R.lo)
theorem ap_cases {o1 o2 : Option Nat} (h : ∀ g, o1 = some g → o2 = some g → False) : o1 = none ∨ o1 ≠ o2 := by
  cases o1 with
  | none => exact .inl rfl
  | some g => exact .inr fun e => h g rfl e.symm
theorem BA.names (R : BA w0 W b acc c vN vK vP vT vS) {v' : Value} {x : Tx} (hg : W.grownBy W1 vN.ownBlock) (ho : OwnL W1 w0.heap.size v' (c.names ++ [x])) :
    BA w0 (W1.setCell ⟨b, 0, none⟩ v') b acc { c with names := c.names ++ [x] } v' vK vP vT vS := by
  have r1 := R.row1 hg (own_row_ne R.oN R.row (by decide))
  exact ⟨heap_set (j := 0) r1 v', R.lo, put2 ho r1 (by decide) _ _, keep2 R.oK hg (rows_unlike R.oK R.oN (by decide)) r1 (by decide) _ _, keep2 R.oP hg (rows_unlike R.oP R.oN (by decide)) r1 (by decide) _ _, R.ap,
    keep2 R.oT hg (rows_unlike R.oT R.oN (by decide)) r1 (by decide) _ _, keep2 R.oS hg (rows_unlike R.oS R.oN (by decide)) r1 (by decide) _ _, R.ls, R.be1 hg (fun g e => (World.ownsRow.lt R.oN g e).1) _ _⟩
theorem BA.kinds (R : BA w0 W b acc c vN vK vP vT vS) {v' : Value} {x : Int} (hg : W.grownBy W1 vK.ownBlock) (ho : OwnI W1 w0.heap.size v' (c.kinds ++ [x])) (hk : ∀ g, v'.ownBlock = some g → vK.ownBlock = some g ∨ W.heap.size ≤ g) :
    BA w0 (W1.setCell ⟨b, 1, none⟩ v') b acc { c with kinds := c.kinds ++ [x] } vN v' vP vT vS := by
  have r1 := R.row1 hg (own_row_ne R.oK R.row (by decide))
  refine ⟨heap_set (j := 1) r1 v', R.lo, keep2 R.oN hg (rows_unlike R.oN R.oK (by decide)) r1 (by decide) _ _, put2 ho r1 (by decide) _ _, keep2 R.oP hg (ap_cases fun g e1 e2 => R.ap g e2 e1) r1 (by decide) _ _, ?_,
    keep2 R.oT hg (rows_unlike R.oT R.oK (by decide)) r1 (by decide) _ _, keep2 R.oS hg (rows_unlike R.oS R.oK (by decide)) r1 (by decide) _ _, R.ls, R.be1 hg (fun g e => (World.ownsRow.lt R.oK g e).1) _ _⟩
  intro g e1 e2
  rcases hk g e1 with h | h
  · exact R.ap g h e2
  · have := (World.ownsRow.lt R.oP g e2).2; omega
theorem BA.parents (R : BA w0 W b acc c vN vK vP vT vS) {v' : Value} {x : Int} (hg : W.grownBy W1 vP.ownBlock) (ho : OwnI W1 w0.heap.size v' (c.parents ++ [x])) (hk : ∀ g, v'.ownBlock = some g → vP.ownBlock = some g ∨ W.heap.size ≤ g) :
    BA w0 (W1.setCell ⟨b, 2, none⟩ v') b acc { c with parents := c.parents ++ [x] } vN vK v' vT vS := by
  have r1 := R.row1 hg (own_row_ne R.oP R.row (by decide))
  refine ⟨heap_set (j := 2) r1 v', R.lo, keep2 R.oN hg (rows_unlike R.oN R.oP (by decide)) r1 (by decide) _ _, keep2 R.oK hg (ap_cases R.ap) r1 (by decide) _ _, put2 ho r1 (by decide) _ _, ?_,
    keep2 R.oT hg (rows_unlike R.oT R.oP (by decide)) r1 (by decide) _ _, keep2 R.oS hg (rows_unlike R.oS R.oP (by decide)) r1 (by decide) _ _, R.ls, R.be1 hg (fun g e => (World.ownsRow.lt R.oP g e).1) _ _⟩
  intro g e1 e2
  rcases hk g e2 with h | h
  · exact R.ap g e1 h
  · have := (World.ownsRow.lt R.oK g e1).2; omega
theorem BA.trans (R : BA w0 W b acc c vN vK vP vT vS) {v' : Value} {x : Tr} (hg : W.grownBy W1 vT.ownBlock) (ho : OwnT W1 w0.heap.size v' (c.trans ++ [x])) :
    BA w0 (W1.setCell ⟨b, 3, none⟩ v') b acc { c with trans := c.trans ++ [x] } vN vK vP v' vS := by
  have r1 := R.row1 hg (own_row_ne R.oT R.row (by decide))
  exact ⟨heap_set (j := 3) r1 v', R.lo, keep2 R.oN hg (rows_unlike R.oN R.oT (by decide)) r1 (by decide) _ _, keep2 R.oK hg (rows_unlike R.oK R.oT (by decide)) r1 (by decide) _ _, keep2 R.oP hg (rows_unlike R.oP R.oT (by decide)) r1 (by decide) _ _, R.ap,
    put2 ho r1 (by decide) _ _, keep2 R.oS hg (rows_unlike R.oS R.oT (by decide)) r1 (by decide) _ _, R.ls, R.be1 hg (fun g e => (World.ownsRow.lt R.oT g e).1) _ _⟩
end
end Go.Proofs.YtahgfmobdfhaaaaGreatDoor
/-
  Package chart: a state that is taken.
-/
namespace Go.Proofs.YtahgfmobdfhaaaaGreatDoor
set_option maxRecDepth 100000
open Go.ChangeShapes Go.WideShapes Go.ChangeAt Go.RowKit

theorem sc_one (x : Tx) : ∀ u ∈ scells [x], u.oneCell' = true := by intro u hu; simp [scells] at hu; subst hu; rfl
theorem grown_new {w X : World} {o : Obj} {row : Option Nat} (h : (w.alloc o).drew.grownBy X row) : w.grownBy X row := (World.grownBy_alloc w o row).andThen (⟨h.os, h.tape, h.output, h.size, h.block⟩ : (w.alloc o).grownBy X row) (fun j e => .inr e)
theorem ic_one (x : Int) : ∀ u ∈ icells [x], u.oneCell' = true := icells_one [x]
theorem ownL_snoc {X : World} {base : Nat} {v : Value} {l : List Tx} {x : Tx} (h : X.ownsRow base 9 1 v (l.length + 1) (scells l ++ scells [x])) : OwnL X base v (l ++ [x]) := by
  unfold OwnL
  rw [List.length_append]
  unfold scells at *
  rw [List.map_append]
  exact h
theorem ownI_snoc {X : World} {base : Nat} {v : Value} {l : List Int} {x : Int} (h : X.ownsRow base 3 1 v (l.length + 1) (icells l ++ icells [x])) : OwnI X base v (l ++ [x]) := by
  unfold OwnI
  rw [List.length_append]
  unfold icells at *
  rw [List.map_append]
  exact h
theorem lies_or {w : World} {o : Obj} {v : Value} {g1 n cp : Nat} (h : v.ownBlock = some g1 ∨ g1 = (w.alloc o).drew.heap.size) : ∀ g, (Value.slice (some ⟨g1, 0, none⟩) n cp).ownBlock = some g → v.ownBlock = some g ∨ w.heap.size ≤ g := fun g e => by
  have e1 : g1 = g := by simpa [Value.ownBlock] using e
  subst e1
  rcases h with h | h
  · exact .inl h
  · right; rw [h]; exact (box_b w o).size
theorem ru_keep {w X : World} {g b j : Nat} {cs : Array Value} {t : TypeId} {fz : Nat × Nat} {row : Option Nat} {v : Value} (h : w.heap[g]? = some (.cells cs t fz)) (hg : w.grownBy X row) (hr : row ≠ some g) (hb : b ≠ g) : (X.setCell ⟨b, j, none⟩ v).heap[g]? = some (.cells cs t fz) := by
  have hl := (Array.getElem?_eq_some_iff.1 h).1
  exact ((grown_setCell X b j v).block g (Nat.lt_of_lt_of_le hl hg.size) (fun e => hb (by simpa using e.symm))).trans ((hg.block g hl (fun e => hr e.symm)).trans h)
theorem grown_new1 {w X : World} {o : Obj} {row : Option Nat} (h : (w.alloc o).grownBy X row) : w.grownBy X row := (World.grownBy_alloc w o row).andThen h (fun j e => .inr e)
theorem lies_or1 {w : World} {o : Obj} {v : Value} {g1 n cp : Nat} (h : v.ownBlock = some g1 ∨ g1 = (w.alloc o).heap.size) : ∀ g, (Value.slice (some ⟨g1, 0, none⟩) n cp).ownBlock = some g → v.ownBlock = some g ∨ w.heap.size ≤ g := lies_or (o := o) h
theorem litb (a l : Tx) : ((bs a).toList == l) = (a == l) := by rw [Lib.toList_data, list_bs]
/-- the numbers of a chart are Go's -/
def ChI (c : Ch) : Prop := okI c.kinds ∧ okI c.parents
def TkTo (w0 W : World) (b : Nat) (acc : List RL) (c' : Ch) (vS : Value) (err : Int) (e : Ending) (w' : World) : Prop :=
  (err = 0 ∧ e = .returned .nilIface ∧ ∃ vN vK vP vT, BA w0 w' b acc c' vN vK vP vT vS) ∨ (err ≠ 0 ∧ e = .returned (.iface 45 (.int .i64 err)) ∧ Below W.heap.size W w')
theorem tkTo_no {w0 W : World} {b : Nat} {acc : List RL} {c' : Ch} {vS : Value} {err k : Int} {w' : World} (h : err = k) (hk : k ≠ 0) (hb : Below W.heap.size W w') : TkTo w0 W b acc c' vS err (.returned (.iface 45 (.int .i64 k))) w' := by
  subst h; exact .inr ⟨hk, rfl, hb⟩
set_option maxHeartbeats 8000000 in
theorem takeState_any {w0 W : World} {b : Nat} {acc : List RL} {c : Ch} {vN vK vP vT vS : Value} (R : BA w0 W b acc c vN vK vP vT vS) (hf : ChF c) (hi : ChI c) (r : Ru) (A : Option Addr) (n9 c9 : Nat) (ln : Int) (hn : (Lit.int .i64 r.n).wf = true) :
    Calls Tryz.prog 30 #[.pointer (some ⟨b, 0, none⟩), ruV r (.slice A n9 c9) ln] W (TkTo w0 W b acc (stAdd c r) vS (stErr c r)) := by
  obtain ⟨kd, nm, l, rn, rm, rf, rt, rb, ra, ri⟩ := r
  have R0 := heap_alloc_new W (.cells #[.int .i64 kd, .string (bs nm), .slice A n9 c9, .int .i64 rn, .int .i64 rm, .string (bs rf), .string (bs rt), .string (bs rb), .string (bs ra), .string (bs ri), .int .i64 ln] 41)
  have RB := R.below (box_b W (.cells #[.int .i64 kd, .string (bs nm), .slice A n9 c9, .int .i64 rn, .int .i64 rm, .string (bs rf), .string (bs rt), .string (bs rb), .string (bs ra), .string (bs ri), .int .i64 ln] 41))
  have HW := box_b W (.cells #[.int .i64 kd, .string (bs nm), .slice A n9 c9, .int .i64 rn, .int .i64 rm, .string (bs rf), .string (bs rt), .string (bs rb), .string (bs ra), .string (bs ri), .int .i64 ln] 41)
  obtain ⟨AN, cN, rfl⟩ := own_slice R.oN
  obtain ⟨AK, cK, rfl⟩ := own_slice R.oK
  obtain ⟨AP, cP, rfl⟩ := own_slice R.oP
  obtain ⟨AT, cT, rfl⟩ := own_slice R.oT
  have hbW := R.lt
  clear R
  simp only at hn
  dsimp only [ruV]
  have ST : Hid (stErr c ⟨kd, nm, l, rn, rm, rf, rt, rb, ra, ri⟩ = if nm ∈ c.names then 4 else if 24 ≤ c.names.length then 5 else if ri ≠ [] ∧ idxI c.names ri = -1 then 3 else if standB c.kinds rn (idxI c.names ri) = false then 1 else 0) := rfl
  have HF := Lib.hid hf
  have HI := Lib.hid hi
  clear hf hi
  generalize hes : stErr c ⟨kd, nm, l, rn, rm, rf, rt, rb, ra, ri⟩ = es at *
  clear hes
  go_enter Tryz.func30, Tryz.ntmps30
  go_upto_region 2 with (fail)
  generalize W.alloc (.cells #[.int .i64 kd, .string (bs nm), .slice A n9 c9, .int .i64 rn, .int .i64 rm, .string (bs rf), .string (bs rt), .string (bs rb), .string (bs ra), .string (bs ri), .int .i64 ln] 41) = W1 at *
  have q0 := RB.q0; have p1 := row_q1 R0; have p3 := row_q3 R0; have p9 := row_q9 R0
  have hnl := HF.out.nl
  have LN := listAt_of RB.oN
  have IX : Hid (∀ n, Calls Tryz.prog 72 #[.slice AN c.names.length cN, .string (bs ri)] (W1.drewN n) fun e w' => e = .returned (.int .i64 (idxI c.names ri)) ∧ w' = W1.drewN n) := fun n => (IndexX_any c.names ri AN cN (W1.drewN n) LN (by omega)).mono fun e w' h => ⟨h.1, h.2.symm⟩
  clear LN
  go_quiet ((go_at_call 72; exact Calls.quiet_of_same (IX.out _)))
  go_upto_region 3 with (fail)
  have RB2 := RB.below (below_drewN (Below.refl _ _) nq)
  have R02 := row_below R0 (below_drewN (Below.refl _ _) nq)
  have HW2 := below_drewN HW nq
  clear HW q0 p1 p3 p9 IX RB R0
  generalize W1.drewN nq = W2 at *
  have q0 := RB2.q0; have p1 := row_q1 R02; have p3 := row_q3 R02; have p9 := row_q9 R02
  have LN := listAt_of RB2.oN
  have CT : Hid (∀ n, Calls Tryz.prog 37 #[.slice AN c.names.length cN, .string (bs nm)] (W2.drewN n) fun e w' => e = .returned (.bool (decide (nm ∈ c.names))) ∧ w' = W2.drewN n) := fun n => (Contains_str c.names nm AN cN (W2.drewN n) LN (by omega)).mono fun e w' h => ⟨h.1, h.2.symm⟩
  clear LN
  by_cases h1 : nm ∈ c.names
  · have HE : Hid (es = 4) := by show _ = _; rw [ST.out, if_pos h1]
    rw [decide_eq_true h1] at CT
    clear h1 ST
    go_quiet ((go_at_call 37; exact Calls.quiet_of_same (CT.out _)))
    go_wp2
    go_ret
    exact tkTo_no HE.out (by decide) (below_drewN HW2 _)
  have ST2 : Hid (es = if 24 ≤ c.names.length then 5 else if ri ≠ [] ∧ idxI c.names ri = -1 then 3 else if standB c.kinds rn (idxI c.names ri) = false then 1 else 0) := by show _ = _; rw [ST.out, if_neg h1]
  rw [decide_eq_false h1] at CT
  have H1 := Lib.hid h1
  clear h1 ST
  go_quiet ((go_at_call 37; exact Calls.quiet_of_same (CT.out _)))
  go_upto_region 5 with (fail)
  have RB3 := RB2.below (below_drewN (Below.refl _ _) nq)
  have R03 := row_below R02 (below_drewN (Below.refl _ _) nq)
  have HW3 := below_drewN HW2 nq
  clear HW2 q0 p1 p3 p9 CT RB2 R02
  generalize W2.drewN nq = W3 at *
  have q0 := RB3.q0; have p1 := row_q1 R03; have p3 := row_q3 R03; have p9 := row_q9 R03
  by_cases h2 : 24 ≤ c.names.length
  · have HE : Hid (es = 5) := by show _ = _; rw [ST2.out, if_pos h2]
    have h2i : (24 : Int) ≤ c.names.length := by omega
    clear ST2
    go_wp2
    go_ret
    exact tkTo_no HE.out (by decide) HW3
  have ST3 : Hid (es = if ri ≠ [] ∧ idxI c.names ri = -1 then 3 else if standB c.kinds rn (idxI c.names ri) = false then 1 else 0) := by show _ = _; rw [ST2.out, if_neg h2]
  have h2i : ¬ (24 : Int) ≤ c.names.length := by omega
  have H2 := Lib.hid h2
  clear ST2 h2
  have hix := idxI_lt c.names ri
  generalize hpx : idxI c.names ri = px at *
  have HPX := Lib.hid hpx
  clear hpx
  by_cases h3 : ri ≠ [] ∧ px = -1
  · have HE : Hid (es = 3) := by show _ = _; rw [ST3.out, if_pos h3]
    obtain ⟨g3, rfl⟩ := h3
    have b3 : ((bs ri).toList != []) = true := by simp only [bne, litb]; simpa using g3
    have b4 : ((bs ri).toList == []) = false := by rw [litb]; simpa using g3
    have b5 : (bs ri).toList.isEmpty = false := by rw [Lib.toList_data, list_bs]; simpa using g3
    clear ST3 g3
    go_wp2
    go_ret
    exact tkTo_no HE.out (by decide) HW3
  have ST4 : Hid (es = if standB c.kinds rn px = false then 1 else 0) := by show _ = _; rw [ST3.out, if_neg h3]
  clear ST3
  go_upto_region 7 with (fail)
  go_cut [34] (fun x wx => wx = W3 ∧ x = .bool false)
  case first =>
    by_cases hr : ri = []
    · subst hr
      have hza : ((bs []).toList != []) = false := by simp only [bne, litb]; rfl
      have hzb : ((bs []).toList == []) = true := by rw [litb]; rfl
      have hzc : (bs []).toList.isEmpty = true := by rw [Lib.toList_data, list_bs]; rfl
      clear h3
      go_wp2
      go_meet
      exact ⟨rfl, rfl⟩
    · have hpn : (px == -1) = false := beq_eq_false_iff_ne.2 fun e => h3 ⟨hr, e⟩
      have b3 : ((bs ri).toList != []) = true := by simp only [bne, litb]; simpa using hr
      have b4 : ((bs ri).toList == []) = false := by rw [litb]; simpa using hr
      have b5 : (bs ri).toList.isEmpty = false := by rw [Lib.toList_data, list_bs]; simpa using hr
      clear h3 hr
      go_wp2
      go_meet
      exact ⟨rfl, rfl⟩
  case rest =>
  obtain ⟨hw9, rfl⟩ := hcut
  subst hw9
  obtain ⟨W3, rfl⟩ : ∃ w9 : World, w9 = wc := ⟨_, rfl⟩
  clear h3 p9
  have q1 := RB3.q1; have q2 := RB3.q2
  have hkl := HF.out.kl; have hpl := HF.out.pl
  have MS := Lib.hid (fun X (hX : Below W3.heap.size W3 X) => mayStand_any c.kinds AK AP c.kinds.length cK c.parents.length cP rn px X ((ints_of_own RB3.oK HI.out.1 (by omega)).below hX) rfl (by omega) (by omega))
  clear hkl hpl hix
  go_upto_region 9 with (fail)
  have hbl := RB3.lt
  have hrl : W.heap.size < W3.heap.size := (Array.getElem?_eq_some_iff.1 R03).1
  cases hsb : standB c.kinds rn px
  · have HE : Hid (es = 1) := by show _ = _; rw [ST4.out, if_pos hsb]
    rw [hsb] at MS
    clear hsb ST4
    go_region_held3 (fun w' => w'.cell? ⟨b, 1, none⟩ = some (.slice AK c.kinds.length cK) ∧ w'.cell? ⟨b, 2, none⟩ = some (.slice AP c.parents.length cP) ∧ w'.cell? ⟨W.heap.size, 3, none⟩ = some (.int .i64 rn))
      (first | exact ⟨q1, q2, p3⟩ | exact ⟨(hb5.cell (p := ⟨b, 1, none⟩) hbl).trans q1, (hb5.cell (p := ⟨b, 2, none⟩) hbl).trans q2, (hb5.cell (p := ⟨W.heap.size, 3, none⟩) hrl).trans p3⟩ | go_keep)
      (first
        | (go_at_call 73; refine (MS.out _ (by first | exact Below.refl _ _ | exact below_drew (Below.refl _ _))).mono ?_; rintro e w5 ⟨rfl, hb5⟩))
    go_wp2
    go_ret
    exact tkTo_no HE.out (by decide) (below_then HW3 (by first | exact hb5 | exact below_then (below_drew (Below.refl _ _)) hb5 (Nat.le_refl _)) HW3.size)
  have HE : Hid (es = 0) := by show _ = _; rw [ST4.out, if_neg (by rw [hsb]; decide)]
  rw [hsb] at MS
  clear hsb ST4
  go_region_held3 (fun w' => w'.cell? ⟨b, 1, none⟩ = some (.slice AK c.kinds.length cK) ∧ w'.cell? ⟨b, 2, none⟩ = some (.slice AP c.parents.length cP) ∧ w'.cell? ⟨W.heap.size, 3, none⟩ = some (.int .i64 rn))
    (first | exact ⟨q1, q2, p3⟩ | exact ⟨(hb5.cell (p := ⟨b, 1, none⟩) hbl).trans q1, (hb5.cell (p := ⟨b, 2, none⟩) hbl).trans q2, (hb5.cell (p := ⟨W.heap.size, 3, none⟩) hrl).trans p3⟩ | go_keep)
    (first
      | (go_at_call 73; refine (MS.out _ (by first | exact Below.refl _ _ | exact below_drew (Below.refl _ _))).mono ?_; rintro e w5 ⟨rfl, hb5⟩))
  have hb6 : Below W3.heap.size W3 w5 := (by first | exact hb5 | exact below_then (below_drew (Below.refl _ _)) hb5 (Nat.le_refl _))
  have RB4 := RB3.below hb6
  have R04 := row_below R03 hb6
  clear q0 q1 q2 p1 p3 RB3 R03 MS hbl hrl hb5 hb6
  obtain ⟨i0, hi, hz0, hz1, hz2⟩ := info_parts Tryz.infoString
  obtain ⟨i1, ii, iz0, iz1, iz2⟩ := info_parts Tryz.infoInt
  have q0 := RB4.q0; have p1 := row_q1 R04
  have hsz := RB4.be.size
  have hbg : b ≠ W.heap.size := by omega
  have y0 : ∀ O, (w5.alloc O).cell? ⟨b, 0, none⟩ = some (.slice AN c.names.length cN) := fun O => (World.cell?_alloc_lt _ _ _ RB4.lt).trans q0
  have t1 : (w5.alloc (.cells #[.string (bs nm)] 9)).drew.ownsRow w0.heap.size 9 1 (.slice AN c.names.length cN) c.names.length (scells c.names) := World.ownsRow.alloc RB4.oN _
  have t3 : ∀ j u, (scells [nm])[j]? = some u → ((w5.alloc (.cells #[.string (bs nm)] 9)).drew).cell? ((⟨w5.heap.size, 0, none⟩ : Addr).add j) = some u := cells_new w5 (scells [nm]) 9
  have t4 : w0.heap.size ≤ ((w5.alloc (.cells #[.string (bs nm)] 9)).drew).heap.size := Nat.le_trans hsz (box_b w5 _).size
  have t5 : c.names.length + 1 ≤ maxLen := by unfold maxLen; omega
  have t6 : (c.names.length + 1) * 16 ≤ 140737488355328 := by omega
  go_upto_region 11 with (fail)
  go_cut [62] (fun _ wx => ∃ v9, BA w0 wx b acc { c with names := c.names ++ [nm] } v9 (.slice AK c.kinds.length cK) (.slice AP c.parents.length cP) (.slice AT c.trans.length cT) vS ∧ wx.heap[W.heap.size]? = some (.cells #[.int .i64 kd, .string (bs nm), .slice A n9 c9, .int .i64 rn, .int .i64 rm, .string (bs rf), .string (bs rt), .string (bs rb), .string (bs ra), .string (bs ri), .int .i64 ln] 41 (0, 0)))
  case first =>
    go_region_law (
      (refine step_append_lies _ rfl (.tmp 58) (.tmp 61) 28 rfl w0.heap.size 9 i0 _ 1 16 Tryz.underlying28 hi hz0 hz1 hz2 rfl (by decide) (.slice AN c.names.length cN) c.names.length (scells c.names) (by simp [Act.eval]) t1 ⟨w5.heap.size, 0, none⟩ 1 1 (scells [nm]) (by simp [Act.eval]) rfl t3 (sc_one _) (by decide) t5 t6 t4 _ rfl ?_; intro g1 cp1 X1 hown1 hg1 hat1 hlt1
       have hg9 : w5.grownBy X1 (Value.ownBlock (.slice AN c.names.length cN)) := grown_new hg1
       have hr9 := RB4.row1 hg9 (own_row_ne RB4.oN RB4.row (by decide))
       have z1 : X1.frozen? ⟨b, 0, none⟩ = false := by simp [World.frozen?, hr9]
       have z2 := cell_of_row X1 b 0 _ _ _ hr9
       have RB5 := RB4.names hg9 (ownL_snoc hown1)
       have R05 := ru_keep (b := b) (j := 0) (v := .slice (some ⟨g1, 0, none⟩) (c.names.length + 1) cp1) R04 hg9 (own_row_ne RB4.oN R04 (by decide)) hbg))
    all_goals
      go_wp2_with fail
      go_meet
      exact ⟨_, RB5, R05⟩
  case rest =>
  obtain ⟨v1, RB6, R06⟩ := hcut
  clear RB4 R04 q0 y0 t1 t3 t4 t5 t6 hsz
  have RB4 := RB6
  have R04 := R06
  clear RB6 R06
  obtain ⟨w5, rfl⟩ : ∃ w9 : World, w9 = wc := ⟨_, rfl⟩
  have hsz := RB4.be.size
  have q0 := RB4.q1; have p3 := row_q3 R04
  have hkn : c.kinds.length ≤ 24 := by have := HF.out.kl; omega
  have y0 : ∀ O, (w5.alloc O).cell? ⟨b, 1, none⟩ = some (.slice AK c.kinds.length cK) := fun O => (World.cell?_alloc_lt _ _ _ RB4.lt).trans q0
  have t1 : (w5.alloc (.cells #[.int .i64 rn] 3)).drew.ownsRow w0.heap.size 3 1 (.slice AK c.kinds.length cK) c.kinds.length (icells c.kinds) := World.ownsRow.alloc RB4.oK _
  have t3 : ∀ j u, (icells [rn])[j]? = some u → ((w5.alloc (.cells #[.int .i64 rn] 3)).drew).cell? ((⟨w5.heap.size, 0, none⟩ : Addr).add j) = some u := cells_new w5 (icells [rn]) 3
  have t4 : w0.heap.size ≤ ((w5.alloc (.cells #[.int .i64 rn] 3)).drew).heap.size := Nat.le_trans hsz (box_b w5 _).size
  have t5 : c.kinds.length + 1 ≤ maxLen := by unfold maxLen; omega
  have t6 : (c.kinds.length + 1) * 8 ≤ 140737488355328 := by omega
  go_upto_region 12 with (fail)
  go_cut [74] (fun _ wx => ∃ v9, BA w0 wx b acc { c with names := c.names ++ [nm], kinds := c.kinds ++ [rn] } v1 v9 (.slice AP c.parents.length cP) (.slice AT c.trans.length cT) vS ∧ wx.heap[W.heap.size]? = some (.cells #[.int .i64 kd, .string (bs nm), .slice A n9 c9, .int .i64 rn, .int .i64 rm, .string (bs rf), .string (bs rt), .string (bs rb), .string (bs ra), .string (bs ri), .int .i64 ln] 41 (0, 0)))
  case first =>
    go_region_law (
      (refine step_append_lies _ rfl (.tmp 70) (.tmp 73) 22 rfl w0.heap.size 3 i1 _ 1 8 Tryz.underlying22 ii iz0 iz1 iz2 rfl (by decide) (.slice AK c.kinds.length cK) c.kinds.length (icells c.kinds) (by simp [Act.eval]) t1 ⟨w5.heap.size, 0, none⟩ 1 1 (icells [rn]) (by simp [Act.eval]) rfl t3 (ic_one _) (by decide) t5 t6 t4 _ rfl ?_; intro g1 cp1 X1 hown1 hg1 hat1 hlt1
       have hg9 : w5.grownBy X1 (Value.ownBlock (.slice AK c.kinds.length cK)) := grown_new hg1
       have hr9 := RB4.row1 hg9 (own_row_ne RB4.oK RB4.row (by decide))
       have z1 : X1.frozen? ⟨b, 1, none⟩ = false := by simp [World.frozen?, hr9]
       have z2 := cell_of_row X1 b 1 _ _ _ hr9
       have RB5 := RB4.kinds hg9 (ownI_snoc hown1) (lies_or hat1)
       have R05 := ru_keep (b := b) (j := 1) (v := .slice (some ⟨g1, 0, none⟩) (c.kinds.length + 1) cp1) R04 hg9 (own_row_ne RB4.oK R04 (by decide)) hbg))
    all_goals
      go_wp2_with fail
      go_meet
      exact ⟨_, RB5, R05⟩
  case rest =>
  obtain ⟨v2, RB6, R06⟩ := hcut
  clear RB4 R04 q0 y0 t1 t3 t4 t5 t6 hsz
  have RB4 := RB6
  have R04 := R06
  clear RB6 R06
  obtain ⟨w5, rfl⟩ : ∃ w9 : World, w9 = wc := ⟨_, rfl⟩
  have hsz := RB4.be.size
  have q0 := RB4.q2
  have hpn : c.parents.length ≤ 24 := by have := HF.out.pl; omega
  have y0 : ∀ O, (w5.alloc O).cell? ⟨b, 2, none⟩ = some (.slice AP c.parents.length cP) := fun O => (World.cell?_alloc_lt _ _ _ RB4.lt).trans q0
  have t1 : (w5.alloc (.cells #[.int .i64 px] 3)).ownsRow w0.heap.size 3 1 (.slice AP c.parents.length cP) c.parents.length (icells c.parents) := World.ownsRow.alloc RB4.oP _
  have t3 : ∀ j u, (icells [px])[j]? = some u → (w5.alloc (.cells #[.int .i64 px] 3)).cell? ((⟨w5.heap.size, 0, none⟩ : Addr).add j) = some u := cells_new w5 (icells [px]) 3
  have t4 : w0.heap.size ≤ (w5.alloc (.cells #[.int .i64 px] 3)).heap.size := Nat.le_trans hsz (box_b w5 _).size
  have t5 : c.parents.length + 1 ≤ maxLen := by unfold maxLen; omega
  have t6 : (c.parents.length + 1) * 8 ≤ 140737488355328 := by omega
  go_wp2_with (at_builtin; go_must (refine wpList_append_lies _ rfl (.tmp 83) (.tmp 85) 22 rfl w0.heap.size 3 i1 _ 1 8 Tryz.underlying22 ii iz0 iz1 iz2 rfl (by decide) (.slice AP c.parents.length cP) c.parents.length (icells c.parents) rfl t1 ⟨w5.heap.size, 0, none⟩ 1 1 (icells [px]) rfl rfl t3 (ic_one _) (by decide) t5 t6 t4 _ rfl ?_; intro g1 cp1 X1 hown1 hg1 hat1 hlt1; have hg9 : w5.grownBy X1 (Value.ownBlock (.slice AP c.parents.length cP)) := grown_new1 hg1; have hr9 := RB4.row1 hg9 (own_row_ne RB4.oP RB4.row (by decide)); have z1 : X1.frozen? ⟨b, 2, none⟩ = false := (by simp [World.frozen?, hr9]); have z2 := cell_of_row X1 b 2 _ _ _ hr9; have RB5 := RB4.parents hg9 (ownI_snoc hown1) (lies_or1 hat1)))
  go_ret
  have hst : stAdd c ⟨kd, nm, l, rn, rm, rf, rt, rb, ra, ri⟩ = { c with names := c.names ++ [nm], kinds := c.kinds ++ [rn], parents := c.parents ++ [px] } := by unfold stAdd; simp only [HPX.out]
  exact .inl ⟨HE.out, rfl, _, _, _, _, hst.symm ▸ RB5⟩
end Go.Proofs.YtahgfmobdfhaaaaGreatDoor
