/-
  The document's Compile: the walk.
-/
import Derived.Test.YtaoinedndnleoaaGreatSh7
import Derived.Test.YtaoinedndnleoaaGreatCh9
import Derived.Deep.RegionLaw
import Derived.Test.YtaoinedndnleoaaGreatSm0
import Derived.Test.YtaoinedndnleoaaGreatTil
import Derived.Test.YtaoinedndnleoaaGreatSh1b
import Derived.Deep.CutBlock
import Derived.Deep.DeepCutAuto
namespace Go.Proofs.YtaoinedndnleoaaGreat
set_option maxRecDepth 100000
open Go.ChangeShapes Go.WideShapes Go.ChangeAt Go.RowKit

abbrev fltD (n c k : Int) : Value := .agg #[.int .i64 n, .int .i64 c, .int .i64 k]
theorem run_cell2' {P : Program} {fn : Func} {p q : Tmp} {ty ty' : TypeId} (h : fn.results = #[.cell p ty, .cell q ty']) (tmps : Array Value) (w : World) (g g' : Nat) (t t' : TypeId) (cs cs' : Array Value) (fr fr' : Nat × Nat) (d d' : TypeDesc)
    (hp : tmps.getD p undef = .pointer (some ⟨g, 0, none⟩)) (hq : tmps.getD q undef = .pointer (some ⟨g', 0, none⟩)) (hg : w.heap[g]? = some (.cells cs t fr)) (hg' : w.heap[g']? = some (.cells cs' t' fr'))
    (hu : P.underlying ty = some d) (hd : (match d with | .struct _ | .array _ _ => true | _ => false) = true) (hi : (P.info? ty).map (·.size) = some cs.size)
    (hu' : P.underlying ty' = some d') (hd' : (match d' with | .struct _ | .array _ _ => true | _ => false) = true) (hi' : (P.info? ty').map (·.size) = some cs'.size) :
    (results fn tmps).run P w = .ok (.tuple #[.agg cs, .agg cs']) w := by
  have hp' : tmps[p]?.getD undef = .pointer (some ⟨g, 0, none⟩) := by simpa using hp
  have hq' : tmps[q]?.getD undef = .pointer (some ⟨g', 0, none⟩) := by simpa using hq
  simp [results, h, hp', hq', asAddr, run_loadVar_row w g t ty cs fr d hg hu hd hi, run_loadVar_row w g' t' ty' cs' fr' d' hg' hu' hd' hi']
/-- a chart and a fault, stored cell by cell -/
def cfW (W : World) (b : Nat) (v0 v1 v2 v3 u0 u1 u2 : Value) : World :=
  ((((((W.setCell ⟨b, 0, none⟩ v0).setCell ⟨b, 1, none⟩ v1).setCell ⟨b, 2, none⟩ v2).setCell ⟨b, 3, none⟩ v3).setCell ⟨b + 1, 0, none⟩ u0).setCell ⟨b + 1, 1, none⟩ u1).setCell ⟨b + 1, 2, none⟩ u2
theorem cf_tell {W : World} {b : Nat} {a0 a1 a2 a3 f0 f1 f2 : Value} (v0 v1 v2 v3 u0 u1 u2 : Value) (RC : W.heap[b]? = some (.cells #[a0, a1, a2, a3] 34 (0, 0))) (RF : W.heap[b + 1]? = some (.cells #[f0, f1, f2] 85 (0, 0))) :
    (cfW W b v0 v1 v2 v3 u0 u1 u2).heap[b]? = some (.cells #[v0, v1, v2, v3] 34 (0, 0)) ∧ (cfW W b v0 v1 v2 v3 u0 u1 u2).heap[b + 1]? = some (.cells #[u0, u1, u2] 85 (0, 0)) := by
  have e := heap_set (j := 3) (heap_set (j := 2) (heap_set (j := 1) (heap_set (j := 0) RC v0) v1) v2) v3
  have hb : b < W.heap.size := (Array.getElem?_eq_some_iff.1 RC).1
  have hne : ∀ (X : World) (j : Nat) (u : Value), b < X.heap.size → (X.setCell ⟨b + 1, j, none⟩ u).heap[b]? = X.heap[b]? := fun X j u h => (grown_setCell X (b + 1) j u).block b h (by simp)
  have hne2 : ∀ (X : World) (j : Nat) (u : Value), b + 1 < X.heap.size → (X.setCell ⟨b, j, none⟩ u).heap[b + 1]? = X.heap[b + 1]? := fun X j u h => (grown_setCell X b j u).block (b + 1) h (by simp)
  have hb1 : b + 1 < W.heap.size := (Array.getElem?_eq_some_iff.1 RF).1
  have sz : ∀ (X : World) (g j : Nat) (u : Value), (X.setCell ⟨g, j, none⟩ u).heap.size = X.heap.size := fun X g j u => by simp [World.setCell]
  unfold cfW
  constructor
  · rw [hne _ _ _ (by simp only [sz]; exact hb), hne _ _ _ (by simp only [sz]; exact hb), hne _ _ _ (by simp only [sz]; exact hb)]
    simpa using e
  · have r0 : ((((W.setCell ⟨b, 0, none⟩ v0).setCell ⟨b, 1, none⟩ v1).setCell ⟨b, 2, none⟩ v2).setCell ⟨b, 3, none⟩ v3).heap[b + 1]? = some (.cells #[f0, f1, f2] 85 (0, 0)) := by
      rw [hne2 _ _ _ (by simp only [sz]; exact hb1), hne2 _ _ _ (by simp only [sz]; exact hb1), hne2 _ _ _ (by simp only [sz]; exact hb1), hne2 _ _ _ hb1, RF]
    have e2 := heap_set (j := 2) (heap_set (j := 1) (heap_set (j := 0) r0 u0) u1) u2
    simpa using e2
theorem cf_below {n b : Nat} {W0 W : World} (h : Below n W0 W) (hn : n ≤ W0.heap.size) (hb : n ≤ b) (v0 v1 v2 v3 u0 u1 u2 : Value) : Below n W0 (cfW W b v0 v1 v2 v3 u0 u1 u2) := by
  have st : ∀ {X : World} (g j : Nat) (u : Value), n ≤ g → Below n W0 X → Below n W0 (X.setCell ⟨g, j, none⟩ u) := fun g j u hg hX => hX.grown (grown_setCell _ g j u) (Nat.le_trans hn hX.size) (fun k e => by cases e; exact hg)
  unfold cfW
  exact st _ _ _ (by omega) (st _ _ _ (by omega) (st _ _ _ (by omega) (st _ _ _ hb (st _ _ _ hb (st _ _ _ hb (st _ _ _ hb h))))))
theorem cf_own {W : World} {b base e s n : Nat} {v : Value} {xs : List Value} (h : W.ownsRow base e s v n xs) (hb : b + 2 ≤ base) (v0 v1 v2 v3 u0 u1 u2 : Value) : (cfW W b v0 v1 v2 v3 u0 u1 u2).ownsRow base e s v n xs := by
  have st : ∀ {X : World} (g j : Nat) (u : Value), g < base → X.ownsRow base e s v n xs → (X.setCell ⟨g, j, none⟩ u).ownsRow base e s v n xs := fun g j u hg hX =>
    World.ownsRow.kept hX (grown_setCell _ _ _ _) (.inr fun e => by have := (World.ownsRow.lt hX _ e).1; omega)
  unfold cfW
  exact st _ _ _ (by omega) (st _ _ _ (by omega) (st _ _ _ (by omega) (st _ _ _ (by omega) (st _ _ _ (by omega) (st _ _ _ (by omega) (st _ _ _ (by omega) h))))))
/-- a chart of the document's, in memory of the call's own -/
structure ChAtD (base : Nat) (W : World) (c : Ch) (vN vK vP vT : Value) : Prop where
  oN : OwnL W base vN c.names
  oK : OwnI W base vK c.kinds
  oP : OwnI W base vP c.parents
  ap : ∀ g, vK.ownBlock = some g → vP.ownBlock = some g → False
  oT : OwnTD W base vT c.trans
def RCompTo (p : ChR) (w : World) (e : Ending) (w' : World) : Prop := Below w.heap.size w w' ∧ match p with
  | .arg => e = .returned (.tuple #[chZ, fltD (-1) 0 1])
  | .bad ln k => e = .returned (.tuple #[chZ, fltD ln 1 k])
  | .none => e = .returned (.tuple #[chZ, fltD 0 0 3])
  | .ok c => (∃ vN vK vP vT, e = .returned (.tuple #[.agg #[vN, vK, vP, vT], fltD 0 0 0]) ∧ ChAtD w.heap.size w' c vN vK vP vT) ∧ ChF c ∧ ChI c ∧ okK c.kinds
theorem nmS_take {l : List (Ru × Nat)} {k : Nat} (hk : k < l.length) : nmS (stsOf (l.take (k + 1))) = if l[k].1.kind = 8 then nmS (stsOf (l.take k)) ++ [l[k].1.name] else nmS (stsOf (l.take k)) := by
  unfold stsOf
  rw [List.take_succ_eq_append_getElem hk, List.filter_append, List.filter_cons]
  by_cases h8 : l[k].1.kind = 8
  · rw [if_pos (by simp [h8]), if_pos h8, nmS_app]; rfl
  · rw [if_neg (by simp [h8]), if_neg h8]; simp
theorem nmS_le (l : List (Ru × Nat)) : (nmS (stsOf l)).length ≤ l.length := by
  unfold nmS stsOf
  rw [List.length_map]
  exact List.length_filter_le _ _
theorem rul_fields {l : List (Ru × Nat)} (h : ∀ x ∈ l, printP x.1 ≠ none) : ∀ x ∈ l, RuF x.1 := fun x hx => by
  cases hp : printP x.1 with
  | none => exact absurd hp (h x hx)
  | some t => exact parse_fields (printP_some.1 hp).2
theorem drop_er {acc : List RL} {k : Nat} (hk : k < acc.length) : (acc.map er).drop k = er acc[k] :: (acc.map er).drop (k + 1) := by rw [List.drop_eq_getElem_cons (by simpa using hk)]; simp
/-- what PrintRule tells -/
def PrD (r : Ru) (w : World) (e : Ending) (w' : World) : Prop := Below w.heap.size w w' ∧ match printP r with
  | some t => e = .returned (.tuple #[.string (bs t), .bool true])
  | none => e = .returned (.tuple #[.string ⟨#[]⟩, .bool false])
theorem neNilD {x : Tx} (h : x ≠ []) : ((bs x).toList != []) = true ∧ ((bs x).toList == []) = false ∧ (bs x).toList.isEmpty = false :=
  ⟨by simp only [bne, litb]; simpa using h, by rw [litb]; simpa using h, by rw [Lib.toList_data, list_bs]; simpa using h⟩
theorem isNilD : ((bs []).toList != []) = false ∧ ((bs []).toList == []) = true ∧ (bs []).toList.isEmpty = true :=
  ⟨by simp only [bne, litb]; rfl, by rw [litb]; rfl, by rw [Lib.toList_data, list_bs]; rfl⟩
theorem takeL_drop {acc : List RL} {k : Nat} (hk : k < acc.length) (sts : List (Ru × Nat)) (c : Ch) :
    takeL sts ((acc.map er).drop k) c = if takeE sts c acc[k].1 = 0 then takeL sts ((acc.map er).drop (k + 1)) (takeC sts c acc[k].1) else .bad acc[k].2.1 (takeE sts c acc[k].1) := by
  rw [drop_er hk, takeL]; rfl
/-- two rows grown, and stored -/
theorem DA.two {w0 W W1 W2 : World} {b : Nat} {c : Ch} {vN vK vP vT vK' vP' : Value} {x y : Int} (R : DA w0 W b c vN vK vP vT) (hg : W.grownBy W1 vK.ownBlock) (oK : OwnI W1 w0.heap.size vK' (c.kinds ++ [x])) (hK : ∀ g, vK'.ownBlock = some g → vK.ownBlock = some g ∨ W.heap.size ≤ g)
    (hg2 : W1.grownBy W2 vP.ownBlock) (oP : OwnI W2 w0.heap.size vP' (c.parents ++ [y])) (hP : ∀ g, vP'.ownBlock = some g → vP.ownBlock = some g ∨ W1.heap.size ≤ g) :
    DA w0 ((W2.setCell ⟨b, 1, none⟩ vK').setCell ⟨b, 2, none⟩ vP') b { c with kinds := c.kinds ++ [x], parents := c.parents ++ [y] } vN vK' vP' vT := by
  have r1 := R.row1 hg (own_row_ne R.oK R.row (by decide))
  have oP1 : OwnI W1 w0.heap.size vP c.parents := World.ownsRow.kept R.oP hg (ap_cases fun g e1 e2 => R.ap g e2 e1)
  have hnP := own_row_ne oP1 r1 (by decide)
  have r2 := (hg2.block b (Array.getElem?_eq_some_iff.1 r1).1 (fun e => hnP e.symm)).trans r1
  have hapK : ∀ g, vK'.ownBlock = some g → vP.ownBlock = some g → False := fun g e1 e2 => by
    rcases hK g e1 with h | h
    · exact R.ap g h e2
    · have := (World.ownsRow.lt R.oP g e2).2; omega
  have oK2 : OwnI W2 w0.heap.size vK' (c.kinds ++ [x]) := World.ownsRow.kept oK hg2 (ap_cases hapK)
  have oN1 := World.ownsRow.kept R.oN hg (rows_unlike R.oN R.oK (by decide))
  have oN2 := World.ownsRow.kept oN1 hg2 (rows_unlike oN1 oP1 (by decide))
  have oT1 := World.ownsRow.kept R.oT hg (rows_unlike R.oT R.oK (by decide))
  have oT2 := World.ownsRow.kept oT1 hg2 (rows_unlike oT1 oP1 (by decide))
  have r3 := heap_set (j := 1) r2 vK'
  have be1 := R.be.grown hg R.be.size (fun g e => (World.ownsRow.lt R.oK g e).1)
  have be2 := be1.grown hg2 be1.size (fun g e => (World.ownsRow.lt oP1 g e).1)
  refine ⟨heap_set (j := 2) r3 vP', R.lo, put2 (put2 oN2 r2 (by decide) _ _) r3 (by decide) _ _, put2 (put2 oK2 r2 (by decide) _ _) r3 (by decide) _ _, put2 (put2 oP r2 (by decide) _ _) r3 (by decide) _ _, ?_, put2 (put2 oT2 r2 (by decide) _ _) r3 (by decide) _ _, ?_⟩
  · intro g e1 e2
    rcases hP g e2 with h | h
    · exact hapK g e1 h
    · have := (World.ownsRow.lt oK g e1).2; omega
  · exact (be2.grown (grown_setCell _ _ _ _) be2.size (fun g e => by cases e; exact R.lo)).grown (grown_setCell _ _ _ _) (by simpa [World.setCell] using be2.size) (fun g e => by cases e; exact R.lo)
theorem cells_new2D (w : World) (l : List Value) (e : TypeId) (o : Obj) : ∀ j u, l[j]? = some u → ((w.alloc (.cells l.toArray e)).alloc o).cell? ((⟨w.heap.size, 0, none⟩ : Addr).add j) = some u := by
  intro j u hu
  have hadd : (⟨w.heap.size, 0, none⟩ : Addr).add j = ⟨w.heap.size, j, none⟩ := by unfold Addr.add; split <;> simp_all
  rw [World.cell?_alloc_lt _ _ _ (by rw [hadd]; simp)]
  exact cells_new w l e j u hu
theorem cells_new1D (w : World) (o : Obj) (l : List Value) (e : TypeId) : ∀ j u, l[j]? = some u → ((w.alloc o).alloc (.cells l.toArray e)).cell? ((⟨w.heap.size + 1, 0, none⟩ : Addr).add j) = some u := by
  intro j u hu
  have h := cells_new (w.alloc o) l e j u hu
  rwa [show (w.alloc o).heap.size = w.heap.size + 1 by simp] at h
theorem news_farD {W w1 : World} {row : Option Nat} {K : Nat} {l : List Value} (hg : W.grownBy w1 row) (hn : ∀ j u, l[j]? = some u → W.cell? ((⟨K, 0, none⟩ : Addr).add j) = some u) (hK : ∀ k, row = some k → k ≠ K) :
    ∀ j u, l[j]? = some u → w1.cell? ((⟨K, 0, none⟩ : Addr).add j) = some u := by
  intro j u hu
  refine hg.cell (hn j u hu) (fun e => hK K ?_ rfl)
  have hadd : ((⟨K, 0, none⟩ : Addr).add j).block = K := by unfold Addr.add; split <;> rfl
  rw [hadd] at e; exact e.symm
theorem gr1D {w X : World} {o : Obj} {row : Option Nat} (h : (w.alloc o).grownBy X row) : w.grownBy X row := (World.grownBy_alloc w o row).andThen h (fun j e => .inr e)
theorem gr2D {w X : World} {o o' : Obj} {row : Option Nat} (h : ((w.alloc o).alloc o').grownBy X row) : w.grownBy X row := (World.grownBy_alloc w o row).andThen (gr1D h) (fun j e => .inr e)
theorem liesD2 {w : World} {v : Value} {g1 n cp H : Nat} (h : v.ownBlock = some g1 ∨ g1 = H) (hH : w.heap.size ≤ H) : ∀ g, (Value.slice (some ⟨g1, 0, none⟩) n cp).ownBlock = some g → v.ownBlock = some g ∨ w.heap.size ≤ g := fun g e => by
  have e1 : g1 = g := by simpa [Value.ownBlock] using e
  subst e1
  rcases h with h | h
  · exact .inl h
  · right; omega
theorem ownTD_snoc {X : World} {base : Nat} {v : Value} {l : List Tr} {x : Tr} (h : X.ownsRow base 97 7 v (l.length + 1) (tcells l ++ tcells [x])) : OwnTD X base v (l ++ [x]) := by
  unfold OwnTD
  rw [List.length_append, tcells_snoc]
  have e : tcells [x] = tcell x := by simp [tcells]
  rw [e] at h
  exact h
theorem ownI_cell {W : World} {base c : Nat} {A : Option Addr} {l : List Int} {j : Nat} (h : OwnI W base (.slice A l.length c) l) (hj : j < l.length) : ∃ g, A = some ⟨g, 0, none⟩ ∧ g < W.heap.size ∧ W.cell? ⟨g, j, none⟩ = some (.int .i64 (l.getD j 0)) := by
  obtain ⟨g, cap', e, _, hl, _, hc⟩ := own_form h (by omega)
  have eA : A = some ⟨g, 0, none⟩ := by injection e
  refine ⟨g, eA, hl, hc j _ ?_⟩
  unfold icells
  rw [List.getElem?_map, List.getElem?_eq_getElem hj, List.getD_eq_getElem?_getD, List.getElem?_eq_getElem hj]; rfl
theorem rule_keep2 {X : World} {g b j j2 : Nat} {cs : Array Value} {t : TypeId} {fz : Nat × Nat} {v v2 : Value} (h : X.heap[g]? = some (.cells cs t fz)) (hb : b ≠ g) : ((X.setCell ⟨b, j, none⟩ v).setCell ⟨b, j2, none⟩ v2).heap[g]? = some (.cells cs t fz) := by
  have hl := (Array.getElem?_eq_some_iff.1 h).1
  have e1 := ((grown_setCell X b j v).block g hl (fun e => hb (Option.some.inj e).symm)).trans h
  exact ((grown_setCell _ b j2 v2).block g (by simpa [World.setCell] using hl) (fun e => hb (Option.some.inj e).symm)).trans e1
theorem rule_keep1 {X : World} {g b j : Nat} {cs : Array Value} {t : TypeId} {fz : Nat × Nat} {v : Value} (h : X.heap[g]? = some (.cells cs t fz)) (hb : b ≠ g) : (X.setCell ⟨b, j, none⟩ v).heap[g]? = some (.cells cs t fz) :=
  ((grown_setCell X b j v).block g (Array.getElem?_eq_some_iff.1 h).1 (fun e => hb (Option.some.inj e).symm)).trans h
theorem rule_allocD {X : World} {g : Nat} {o : Obj} (h : X.heap[g]? = some o) (x : Obj) : (X.alloc x).heap[g]? = some o := (heap_alloc_old X x (Array.getElem?_eq_some_iff.1 h).1).trans h
theorem heldAllocD {X : World} {g : Nat} {o x : Obj} {p q : Addr} {u v : Value} (h : X.heap[g]? = some o ∧ X.cell? p = some u ∧ X.cell? q = some v) : (X.alloc x).heap[g]? = some o ∧ (X.alloc x).cell? p = some u ∧ (X.alloc x).cell? q = some v :=
  ⟨rule_allocD h.1 _, (World.cell?_alloc_lt _ _ _ (World.block_lt_of_cell? _ _ h.2.1)).trans h.2.1, (World.cell?_alloc_lt _ _ _ (World.block_lt_of_cell? _ _ h.2.2)).trans h.2.2⟩
theorem cf_tellD {W : World} {b : Nat} {a0 a1 a2 a3 f0 f1 f2 : Value} (v0 v1 v2 v3 u0 u1 u2 : Value) (RC : W.heap[b]? = some (.cells #[a0, a1, a2, a3] 34 (0, 0))) (RF : W.heap[b + 1]? = some (.cells #[f0, f1, f2] 85 (0, 0))) :
    (cfW W b v0 v1 v2 v3 u0 u1 u2).drew.heap[b]? = some (.cells #[v0, v1, v2, v3] 34 (0, 0)) ∧ (cfW W b v0 v1 v2 v3 u0 u1 u2).drew.heap[b + 1]? = some (.cells #[u0, u1, u2] 85 (0, 0)) := by
  have h := cf_tell v0 v1 v2 v3 u0 u1 u2 RC RF
  generalize cfW W b v0 v1 v2 v3 u0 u1 u2 = X at h ⊢
  exact h
/-- what is told of the document's Compile of a chart -/
def RCompSt : Prop := ∀ (acc : List RL) (A : Option Addr) (cap : Nat) (w : World) (hR : RIn w A acc) (ha : acc.length ≤ 1000) (hac : acc.length ≤ cap) (hPR : ∀ x ∈ acc, ∀ B c W, x.2.2 = .slice B x.1.list.length c → Below w.heap.size w W → Calls Tryz.prog 58 #[ruV x.1 (.slice B x.1.list.length c) x.2.1] W (PrD x.1 W)),
    Calls Tryz.prog 30 #[.slice A acc.length cap] w (RCompTo (compR (acc.map er)) w)
end Go.Proofs.YtaoinedndnleoaaGreat
