/-
  Package chart, its small parts: stays, mayStand, find.
-/
import Derived.Test.YtbacdllokgcohaaPol5
import Derived.Test.YtbacdllokgcohaaRef01b
import Derived.Lib.SplitLaws
import Derived.Test.YtbacdllokgcohaaD0
import Derived.Lib.ItoaMem
import Derived.Test.YtbacdllokgcohaaSh5
import Derived.BigQuiet
import Derived.Test.YtbacdllokgcohaaSh2
import Derived.Deep.AppendLies
import Derived.Test.YtbacdllokgcohaaSameL
namespace Go.Proofs.Ytbacdllokgcohaa
set_option maxRecDepth 100000
open Go.ChangeShapes Go.WideShapes Go.ChangeAt Go.RowKit

theorem stays_any (k : Int) (w : World) : Calls Try.prog 92 #[.int .i64 k] w fun e w' => e = .returned (.bool (stayB k)) ∧ w = w' := by
  by_cases h1 : k = 1
  · subst h1
    go_enter Try.func92, Try.ntmps92
    go_wp2
    go_ret
    exact ⟨rfl, rfl⟩
  · have g1 : (k == 1) = false := beq_eq_false_iff_ne.2 h1
    have HE : Hid (stayB k = (k == 2)) := by show _ = _; unfold stayB; rw [g1]; rfl
    clear h1
    go_enter Try.func92, Try.ntmps92
    go_wp2
    go_ret
    exact ⟨ret_bool HE.out.symm, rfl⟩
/-! ### the place of a state's rule -/
/-- rules in a block's cells, whatever their lists -/
def RI2 (w : World) (A : Option Addr) (acc : List RL) : Prop := ∀ j (h : j < acc.length), ∃ g, A = some ⟨g, 0, none⟩ ∧ g < w.heap.size ∧ (∀ f u, f < 11 → (rcell acc[j])[f]? = some u → w.cell? ⟨g, j * 11 + f, none⟩ = some u) ∧ ∃ B n c, acc[j].2.2 = .slice B n c
theorem RI2.below {w w' : World} {A : Option Addr} {acc : List RL} (h : RI2 w A acc) (hb : Below w.heap.size w w') : RI2 w' A acc := fun j hj =>
  let ⟨g, e, hl, hc, q⟩ := h j hj
  ⟨g, e, Nat.lt_of_lt_of_le hl hb.size, fun f u hf hu => (hb.cell (p := ⟨g, j * 11 + f, none⟩) hl).trans (hc f u hf hu), q⟩
end Go.Proofs.Ytbacdllokgcohaa
/-
  Lists of integers of the call's own; the help Copy, of integers.
-/
namespace Go.Proofs.Ytbacdllokgcohaa
set_option maxRecDepth 100000
open Go.ChangeShapes Go.WideShapes Go.ChangeAt Go.RowKit

def okI (l : List Int) : Prop := ∀ x ∈ l, (Lit.int .i64 x).wf = true
theorem icells_length (l : List Int) : (icells l).length = l.length := List.length_map ..
theorem icells_at (l : List Int) (j : Nat) (h : j < l.length) : (icells l)[j]? = some (.int .i64 l[j]) := by simp [icells, h]
theorem icells_one (l : List Int) : ∀ u ∈ icells l, u.oneCell' = true := by
  intro u hu
  simp only [icells, List.mem_map] at hu
  obtain ⟨p, _, rfl⟩ := hu
  rfl
theorem ints_of_own {w : World} {base c : Nat} {A : Option Addr} {l : List Int} (h : OwnI w base (.slice A l.length c) l) (ho : okI l) (hl : l.length ≤ 1000) : IntsAt w (.slice A l.length c) l := by
  refine ⟨A, c, rfl, by unfold maxLen; omega, fun k hk => ?_⟩
  obtain ⟨g, cap', e, _, hg, _, hc⟩ := own_form h (by omega)
  have eA : A = some ⟨g, 0, none⟩ := by injection e
  exact ⟨g, 0, eA, hg, by rw [Nat.zero_add]; exact hc _ _ (icells_at l k hk), ho _ (List.getElem_mem hk)⟩
end Go.Proofs.Ytbacdllokgcohaa
/-
  Package chart: what is made of rules, in memory: names, kinds, parents, transitions in blocks of their own.
-/
namespace Go.Proofs.Ytbacdllokgcohaa
set_option maxRecDepth 100000
open Go.ChangeShapes Go.WideShapes Go.ChangeAt Go.RowKit

def tcell (t : Tr) : List Value := [.int .i64 t.kind, .int .i64 t.from_, .int .i64 t.to_, .string (bs t.event), .string (bs t.perm), .string (bs t.task), .int .i64 t.time]
def tcells (l : List Tr) : List Value := l.flatMap tcell
def OwnT (w : World) (base : Nat) (v : Value) (l : List Tr) : Prop := w.ownsRow base 32 7 v l.length (tcells l)
/-- a row does not lie where a block of another type lies -/
theorem own_row_ne {w : World} {base e s n b : Nat} {v : Value} {xs : List Value} {cs : Array Value} {t : TypeId} {fz : Nat × Nat} (h : w.ownsRow base e s v n xs) (r : w.heap[b]? = some (.cells cs t fz)) (hne : t ≠ e) : v.ownBlock ≠ some b := by
  rcases h.2 with ⟨hv, _⟩ | ⟨g, cap, cur, hv, _, hg, _⟩
  · rw [hv]; simp [Value.ownBlock]
  · rw [hv]
    intro e2
    have e3 : g = b := by simpa [Value.ownBlock] using e2
    subst e3
    rw [hg] at r
    simp only [Option.some.injEq, Obj.cells.injEq] at r
    exact hne r.2.1.symm
theorem rows_unlike {w : World} {b1 b2 e1 e2 s1 s2 n1 n2 : Nat} {v1 v2 : Value} {xs1 xs2 : List Value} (h : w.ownsRow b1 e1 s1 v1 n1 xs1) (h' : w.ownsRow b2 e2 s2 v2 n2 xs2) (hne : e1 ≠ e2) : v1.ownBlock = none ∨ v1.ownBlock ≠ v2.ownBlock := by
  rcases h'.2 with ⟨hv', _⟩ | ⟨g', cap', cur', hv', _, hg', _⟩
  · rcases h.2 with ⟨hv, _⟩ | ⟨g, cap, cur, hv, _, hg, _⟩
    · left; rw [hv]; rfl
    · right; rw [hv, hv']; simp [Value.ownBlock]
  · right
    rw [hv']
    exact own_row_ne h hg' (fun e => hne e.symm)
section
variable {w0 W W1 : World} {b : Nat} {acc : List RL} {c : Ch} {vN vK vP vT vS : Value}
theorem keep2 {base e s n : Nat} {v : Value} {xs : List Value} {row : Option Nat} {cs : Array Value} {t : TypeId} {fz : Nat × Nat} (h : W.ownsRow base e s v n xs) (hg : W.grownBy W1 row) (hu : v.ownBlock = none ∨ v.ownBlock ≠ row) (r1 : W1.heap[b]? = some (.cells cs t fz)) (hne : t ≠ e) (j : Nat) (x : Value) :
    (W1.setCell ⟨b, j, none⟩ x).ownsRow base e s v n xs :=
  World.ownsRow.kept (World.ownsRow.kept h hg hu) (grown_setCell _ _ _ _) (.inr (own_row_ne (World.ownsRow.kept h hg hu) r1 hne))
theorem put2 {base e s n : Nat} {v : Value} {xs : List Value} {cs : Array Value} {t : TypeId} {fz : Nat × Nat} (h : W1.ownsRow base e s v n xs) (r1 : W1.heap[b]? = some (.cells cs t fz)) (hne : t ≠ e) (j : Nat) (x : Value) :
    (W1.setCell ⟨b, j, none⟩ x).ownsRow base e s v n xs := World.ownsRow.kept h (grown_setCell _ _ _ _) (.inr (own_row_ne h r1 hne))
theorem ap_cases {o1 o2 : Option Nat} (h : ∀ g, o1 = some g → o2 = some g → False) : o1 = none ∨ o1 ≠ o2 := by
  cases o1 with
  | none => exact .inl rfl
  | some g => exact .inr fun e => h g rfl e.symm
end
end Go.Proofs.Ytbacdllokgcohaa
/-
  A chart that is being made in a variable, in memory: names, kinds, parents, transitions in blocks of their own.
-/
namespace Go.Proofs.Ytbacdllokgcohaa
set_option maxRecDepth 100000
open Go.ChangeShapes Go.WideShapes Go.ChangeAt Go.RowKit

theorem Try.infoTran : (Try.prog.info? 32).map (fun i => (i.zero, i.size, i.bytes)) = some (some (.agg #[.int .i64 0, .int .i64 0, .int .i64 0, .string ⟨#[]⟩, .string ⟨#[]⟩, .string ⟨#[]⟩, .int .i64 0]), 7, 80) := by kernel_rfl
theorem wf_any {n : Int} (h0 : -9223372036854775808 ≤ n) (h : n ≤ 9223372036854775807) : (Lit.int .i64 n).wf = true := by
  simp [Lit.wf, IntKind.min, IntKind.max, IntKind.signed, IntKind.bits]
  omega
theorem sc_oneA (x : Tx) : ∀ u ∈ scells [x], u.oneCell' = true := by intro u hu; simp [scells] at hu; subst hu; rfl
theorem grown_newA {w X : World} {o : Obj} {row : Option Nat} (h : (w.alloc o).drew.grownBy X row) : w.grownBy X row := (World.grownBy_alloc w o row).andThen (⟨h.os, h.tape, h.output, h.size, h.block⟩ : (w.alloc o).grownBy X row) (fun j e => .inr e)
theorem ic_oneA (x : Int) : ∀ u ∈ icells [x], u.oneCell' = true := icells_one [x]
theorem ownL_snocA {X : World} {base : Nat} {v : Value} {l : List Tx} {x : Tx} (h : X.ownsRow base 9 1 v (l.length + 1) (scells l ++ scells [x])) : OwnL X base v (l ++ [x]) := by
  unfold OwnL
  rw [List.length_append]
  unfold scells at *
  rw [List.map_append]
  exact h
theorem ownI_snocA {X : World} {base : Nat} {v : Value} {l : List Int} {x : Int} (h : X.ownsRow base 3 1 v (l.length + 1) (icells l ++ icells [x])) : OwnI X base v (l ++ [x]) := by
  unfold OwnI
  rw [List.length_append]
  unfold icells at *
  rw [List.map_append]
  exact h
theorem lies_orA {w : World} {o : Obj} {v : Value} {g1 n cp : Nat} (h : v.ownBlock = some g1 ∨ g1 = (w.alloc o).drew.heap.size) : ∀ g, (Value.slice (some ⟨g1, 0, none⟩) n cp).ownBlock = some g → v.ownBlock = some g ∨ w.heap.size ≤ g := fun g e => by
  have e1 : g1 = g := by simpa [Value.ownBlock] using e
  subst e1
  rcases h with h | h
  · exact .inl h
  · right; rw [h]; exact (box_b w o).size
theorem ru_keepA {w X : World} {g b j : Nat} {cs : Array Value} {t : TypeId} {fz : Nat × Nat} {row : Option Nat} {v : Value} (h : w.heap[g]? = some (.cells cs t fz)) (hg : w.grownBy X row) (hr : row ≠ some g) (hb : b ≠ g) : (X.setCell ⟨b, j, none⟩ v).heap[g]? = some (.cells cs t fz) := by
  have hl := (Array.getElem?_eq_some_iff.1 h).1
  exact ((grown_setCell X b j v).block g (Nat.lt_of_lt_of_le hl hg.size) (fun e => hb (by simpa using e.symm))).trans ((hg.block g hl (fun e => hr e.symm)).trans h)
theorem grown_new1A {w X : World} {o : Obj} {row : Option Nat} (h : (w.alloc o).grownBy X row) : w.grownBy X row := (World.grownBy_alloc w o row).andThen h (fun j e => .inr e)
theorem lies_or1A {w : World} {o : Obj} {v : Value} {g1 n cp : Nat} (h : v.ownBlock = some g1 ∨ g1 = (w.alloc o).heap.size) : ∀ g, (Value.slice (some ⟨g1, 0, none⟩) n cp).ownBlock = some g → v.ownBlock = some g ∨ w.heap.size ≤ g := lies_orA (o := o) h
theorem t_oneA (t : Tr) : ∀ u ∈ tcells [t], u.oneCell' = true := by intro u hu; simp [tcells, tcell] at hu; rcases hu with rfl | rfl | rfl | rfl | rfl | rfl | rfl <;> rfl
theorem ownT_snocA {X : World} {base : Nat} {v : Value} {l : List Tr} {x : Tr} (h : X.ownsRow base 32 7 v (l.length + 1) (tcells l ++ tcells [x])) : OwnT X base v (l ++ [x]) := by
  unfold OwnT
  have e : tcells (l ++ [x]) = tcells l ++ tcells [x] := by simp [tcells]
  rw [List.length_append, e]
  exact h
/-- a chart that is being made, all of it in blocks of the call's own -/
structure CA (w0 W : World) (b : Nat) (c : Ch) (vN vK vP vT : Value) : Prop where
  row : W.heap[b]? = some (.cells #[vN, vK, vP, vT] 28 (0, 0))
  lo : w0.heap.size ≤ b
  oN : OwnL W w0.heap.size vN c.names
  oK : OwnI W w0.heap.size vK c.kinds
  oP : OwnI W w0.heap.size vP c.parents
  ap : ∀ g, vK.ownBlock = some g → vP.ownBlock = some g → False
  oT : OwnT W w0.heap.size vT c.trans
  be : Below w0.heap.size w0 W
section
variable {w0 W W1 : World} {b : Nat} {c : Ch} {vN vK vP vT : Value}
theorem CA.lt (R : CA w0 W b c vN vK vP vT) : b < W.heap.size := (Array.getElem?_eq_some_iff.1 R.row).1
theorem CA.below (R : CA w0 W b c vN vK vP vT) (hb : Below W.heap.size W W1) : CA w0 W1 b c vN vK vP vT where
  row := (hb.block _ R.lt).trans R.row
  lo := R.lo
  oN := own_below R.oN hb R.be.size
  oK := own_below R.oK hb R.be.size
  oP := own_below R.oP hb R.be.size
  ap := R.ap
  oT := own_below R.oT hb R.be.size
  be := below_then R.be hb R.be.size
theorem CA.q0 (R : CA w0 W b c vN vK vP vT) : W.cell? ⟨b, 0, none⟩ = some vN := by rw [cell_of_row _ _ _ _ _ _ R.row]; rfl
theorem CA.q1 (R : CA w0 W b c vN vK vP vT) : W.cell? ⟨b, 1, none⟩ = some vK := by rw [cell_of_row _ _ _ _ _ _ R.row]; rfl
theorem CA.q2 (R : CA w0 W b c vN vK vP vT) : W.cell? ⟨b, 2, none⟩ = some vP := by rw [cell_of_row _ _ _ _ _ _ R.row]; rfl
theorem CA.q3 (R : CA w0 W b c vN vK vP vT) : W.cell? ⟨b, 3, none⟩ = some vT := by rw [cell_of_row _ _ _ _ _ _ R.row]; rfl
theorem CA.row1 (R : CA w0 W b c vN vK vP vT) {row : Option Nat} (hg : W.grownBy W1 row) (hne : row ≠ some b) : W1.heap[b]? = some (.cells #[vN, vK, vP, vT] 28 (0, 0)) :=
  (hg.block b R.lt (fun e => hne e.symm)).trans R.row
theorem CA.be1 (R : CA w0 W b c vN vK vP vT) {row : Option Nat} (hg : W.grownBy W1 row) (hlo : ∀ g, row = some g → w0.heap.size ≤ g) (j : Nat) (v : Value) : Below w0.heap.size w0 (W1.setCell ⟨b, j, none⟩ v) :=
  (R.be.grown hg R.be.size hlo).grown (grown_setCell _ _ _ _) (R.be.grown hg R.be.size hlo).size (fun g e => by cases e; exact R.lo)
theorem CA.names (R : CA w0 W b c vN vK vP vT) {v' : Value} {x : Tx} (hg : W.grownBy W1 vN.ownBlock) (ho : OwnL W1 w0.heap.size v' (c.names ++ [x])) :
    CA w0 (W1.setCell ⟨b, 0, none⟩ v') b { c with names := c.names ++ [x] } v' vK vP vT := by
  have r1 := R.row1 hg (own_row_ne R.oN R.row (by decide))
  exact ⟨heap_set (j := 0) r1 v', R.lo, put2 ho r1 (by decide) _ _, keep2 R.oK hg (rows_unlike R.oK R.oN (by decide)) r1 (by decide) _ _, keep2 R.oP hg (rows_unlike R.oP R.oN (by decide)) r1 (by decide) _ _, R.ap,
    keep2 R.oT hg (rows_unlike R.oT R.oN (by decide)) r1 (by decide) _ _, R.be1 hg (fun g e => (World.ownsRow.lt R.oN g e).1) _ _⟩
theorem CA.kinds (R : CA w0 W b c vN vK vP vT) {v' : Value} {x : Int} (hg : W.grownBy W1 vK.ownBlock) (ho : OwnI W1 w0.heap.size v' (c.kinds ++ [x])) (hk : ∀ g, v'.ownBlock = some g → vK.ownBlock = some g ∨ W.heap.size ≤ g) :
    CA w0 (W1.setCell ⟨b, 1, none⟩ v') b { c with kinds := c.kinds ++ [x] } vN v' vP vT := by
  have r1 := R.row1 hg (own_row_ne R.oK R.row (by decide))
  refine ⟨heap_set (j := 1) r1 v', R.lo, keep2 R.oN hg (rows_unlike R.oN R.oK (by decide)) r1 (by decide) _ _, put2 ho r1 (by decide) _ _, keep2 R.oP hg (ap_cases fun g e1 e2 => R.ap g e2 e1) r1 (by decide) _ _, ?_,
    keep2 R.oT hg (rows_unlike R.oT R.oK (by decide)) r1 (by decide) _ _, R.be1 hg (fun g e => (World.ownsRow.lt R.oK g e).1) _ _⟩
  intro g e1 e2
  rcases hk g e1 with h | h
  · exact R.ap g h e2
  · have := (World.ownsRow.lt R.oP g e2).2; omega
theorem CA.parents (R : CA w0 W b c vN vK vP vT) {v' : Value} {x : Int} (hg : W.grownBy W1 vP.ownBlock) (ho : OwnI W1 w0.heap.size v' (c.parents ++ [x])) (hk : ∀ g, v'.ownBlock = some g → vP.ownBlock = some g ∨ W.heap.size ≤ g) :
    CA w0 (W1.setCell ⟨b, 2, none⟩ v') b { c with parents := c.parents ++ [x] } vN vK v' vT := by
  have r1 := R.row1 hg (own_row_ne R.oP R.row (by decide))
  refine ⟨heap_set (j := 2) r1 v', R.lo, keep2 R.oN hg (rows_unlike R.oN R.oP (by decide)) r1 (by decide) _ _, keep2 R.oK hg (ap_cases R.ap) r1 (by decide) _ _, put2 ho r1 (by decide) _ _, ?_,
    keep2 R.oT hg (rows_unlike R.oT R.oP (by decide)) r1 (by decide) _ _, R.be1 hg (fun g e => (World.ownsRow.lt R.oP g e).1) _ _⟩
  intro g e1 e2
  rcases hk g e2 with h | h
  · exact R.ap g e1 h
  · have := (World.ownsRow.lt R.oK g e1).2; omega
theorem CA.trans (R : CA w0 W b c vN vK vP vT) {v' : Value} {x : Tr} (hg : W.grownBy W1 vT.ownBlock) (ho : OwnT W1 w0.heap.size v' (c.trans ++ [x])) :
    CA w0 (W1.setCell ⟨b, 3, none⟩ v') b { c with trans := c.trans ++ [x] } vN vK vP v' := by
  have r1 := R.row1 hg (own_row_ne R.oT R.row (by decide))
  exact ⟨heap_set (j := 3) r1 v', R.lo, keep2 R.oN hg (rows_unlike R.oN R.oT (by decide)) r1 (by decide) _ _, keep2 R.oK hg (rows_unlike R.oK R.oT (by decide)) r1 (by decide) _ _, keep2 R.oP hg (rows_unlike R.oP R.oT (by decide)) r1 (by decide) _ _, R.ap,
    put2 ho r1 (by decide) _ _, R.be1 hg (fun g e => (World.ownsRow.lt R.oT g e).1) _ _⟩
end
end Go.Proofs.Ytbacdllokgcohaa
