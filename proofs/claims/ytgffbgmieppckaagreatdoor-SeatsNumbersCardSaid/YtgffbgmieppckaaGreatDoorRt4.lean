import Derived.Test.YtgffbgmieppckaaGreatDoorRt0
import Derived.Test.YtgffbgmieppckaaGreatDoorOwLL
import Derived.Test.YtgffbgmieppckaaGreatDoorRs
import Derived.Maps.OwnSet
import Derived.Maps.Views
import Derived.Deep.AppendLies
namespace Go.Proofs.YtgffbgmieppckaaGreatDoor
set_option maxRecDepth 100000
open Go.ChangeShapes Go.WideShapes Go.ChangeAt Go.RowKit Go.Maps Go.WideMaps Go.ChangeMaps
def hcell (h : Tx × Nat) : List Value := [.string (bs h.1), .int .u32 (h.2 : Nat)]
def hcells (l : List (Tx × Nat)) : List Value := l.flatMap hcell
theorem hcells_snoc (l : List (Tx × Nat)) (p : Tx × Nat) : hcells (l ++ [p]) = hcells l ++ hcell p := by simp [hcells]
theorem hcells_at : ∀ (l : List (Tx × Nat)) (j : Nat) (h : j < l.length), (hcells l)[j * 2]? = some (.string (bs l[j].1)) ∧ (hcells l)[j * 2 + 1]? = some (.int .u32 (l[j].2 : Nat))
 | p :: r, 0, _ => ⟨rfl, rfl⟩
 | p :: r, j + 1, h => by
  have ih := hcells_at r j (by simpa using h)
  have e : hcells (p :: r) = .string (bs p.1) :: .int .u32 (p.2 : Nat) :: hcells r := rfl
  rw [e, show (j + 1) * 2 = j * 2 + 1 + 1 by omega]
  simpa using ih
def OwnH (w : World) (base : Nat) (v : Value) (l : List (Tx × Nat)) : Prop := w.ownsRow base 265 2 v l.length (hcells l)
def HAt (w : World) (A : Option Addr) (c : Nat) (l : List (Tx × Nat)) : Prop := l.length ≤ c ∧ ∀ j (hj : j < l.length), ∃ g, A = some ⟨g, 0, none⟩ ∧ g < w.heap.size ∧ w.cell? ⟨g, j * 2, none⟩ = some (.string (bs l[j].1)) ∧ w.cell? ⟨g, j * 2 + 1, none⟩ = some (.int .u32 (l[j].2 : Nat))
theorem HAt.below {w w' : World} {A : Option Addr} {c : Nat} {l : List (Tx × Nat)} (h : HAt w A c l) (hb : Below w.heap.size w w') : HAt w' A c l :=
 ⟨h.1, fun j hj => let ⟨g, e, hl, hc, hd⟩ := h.2 j hj; ⟨g, e, Nat.lt_of_lt_of_le hl hb.size, (hb.cell (p := ⟨g, j * 2, none⟩) hl).trans hc, (hb.cell (p := ⟨g, j * 2 + 1, none⟩) hl).trans hd⟩⟩
theorem hAt_of {w : World} {base c : Nat} {A : Option Addr} {l : List (Tx × Nat)} (h : OwnH w base (.slice A l.length c) l) : HAt w A c l :=
 ⟨own_cap h, fun j hj => by
  obtain ⟨g, cap', e, _, hl, _, hc⟩ := own_form h (by omega)
  have eA : A = some ⟨g, 0, none⟩ := by injection e
  exact ⟨g, eA, hl, hc _ _ (hcells_at l j hj).1, hc _ _ (hcells_at l j hj).2⟩⟩
theorem Tryz.infoHolder : (Tryz.prog.info? 265).map (fun i => (i.zero, i.size, i.bytes)) = some (some (.agg #[.string ⟨#[]⟩, .int .u32 0]), 2, 24) := by kernel_rfl
def dsCells (l : List (Int × Nat)) : List Value := l.flatMap fun p => [.int .i64 p.1, .int .u32 (p.2 : Nat)]
theorem dsCells_length (l : List (Int × Nat)) : (dsCells l).length = l.length * 2 := by
 induction l with
 | nil => rfl
 | cons a l ih => simp only [dsCells, List.flatMap_cons, List.length_append] at ih ⊢; rw [ih]; simp; omega
theorem dsCells_snoc (l : List (Int × Nat)) (p : Int × Nat) : dsCells (l ++ [p]) = dsCells l ++ [.int .i64 p.1, .int .u32 (p.2 : Nat)] := by simp [dsCells]
theorem dsCells_at : ∀ (l : List (Int × Nat)) (j : Nat) (h : j < l.length), (dsCells l)[j * 2]? = some (.int .i64 l[j].1) ∧ (dsCells l)[j * 2 + 1]? = some (.int .u32 (l[j].2 : Nat))
 | p :: r, 0, _ => ⟨rfl, rfl⟩
 | p :: r, j + 1, h => by
  have ih := dsCells_at r j (by simpa using h)
  have e : dsCells (p :: r) = .int .i64 p.1 :: .int .u32 (p.2 : Nat) :: dsCells r := rfl
  rw [e, show (j + 1) * 2 = j * 2 + 1 + 1 by omega]
  simpa using ih
def OwnDS (w : World) (base : Nat) (v : Value) (l : List (Int × Nat)) : Prop := w.ownsRow base 171 2 v l.length (dsCells l)
theorem dsAt_of {w : World} {base c : Nat} {A : Option Addr} {l : List (Int × Nat)} (h : OwnDS w base (.slice A l.length c) l) (hr : ∀ p ∈ l, p.2 < 4294967296) : StAt w A c l :=
 ⟨own_cap h, fun j hj => by
  obtain ⟨g, cap', e, _, hl, _, hc⟩ := own_form h (by omega)
  have eA : A = some ⟨g, 0, none⟩ := by injection e
  exact ⟨g, eA, hl, hc _ _ (dsCells_at l j hj).1, hc _ _ (dsCells_at l j hj).2, hr _ (List.getElem_mem hj)⟩⟩
theorem Tryz.infoDSet : (Tryz.prog.info? 171).map (fun i => (i.zero, i.size, i.bytes)) = some (some (.agg #[.int .i64 0, .int .u32 0]), 2, 16) := by kernel_rfl
def loanR : Value → Option (DataW Unit × List MemPlace)
 | .agg cs => match cs.toList with
  | [.int .i64 a, .int .i64 b] => some (.agg [.lit (.int .i64 a), .lit (.int .i64 b)], [])
  | _ => none
 | _ => none
theorem loanR_mk (a b : Int) : loanR (.agg #[.int .i64 a, .int .i64 b]) = some (.agg [.lit (.int .i64 a), .lit (.int .i64 b)], []) := rfl
def loanD (l : List (Tx × Int × Int)) : DataW Unit := l.foldl (fun D h => D.put (.string h.1) (.agg [.lit (.int .i64 h.2.1), .lit (.int .i64 h.2.2)])) (.map [])
theorem loanD_snoc (l : List (Tx × Int × Int)) (h : Tx × Int × Int) : loanD (l ++ [h]) = (loanD l).put (.string h.1) (.agg [.lit (.int .i64 h.2.1), .lit (.int .i64 h.2.2)]) := by simp [loanD]
theorem loanD_map (l : List (Tx × Int × Int)) : IsMap (loanD l) := by
 suffices H : ∀ (l : List (Tx × Int × Int)) (D : DataW Unit), IsMap D → IsMap (l.foldl (fun D h => D.put (.string h.1) (.agg [.lit (.int .i64 h.2.1), .lit (.int .i64 h.2.2)])) D) from H l _ isMap_empty
 intro l
 induction l with
 | nil => intro D h; exact h
 | cons a r ih => intro D h; exact ih _ (h.put _ _)
theorem loanD_has (l : List (Tx × Int × Int)) (t : Tx) : Maps.has (loanD l) (.string t) = decide (t ∈ l.map (·.1)) := by
 suffices H : ∀ (l : List (Tx × Int × Int)) (D : DataW Unit), IsMap D → Maps.has (l.foldl (fun D h => D.put (.string h.1) (.agg [.lit (.int .i64 h.2.1), .lit (.int .i64 h.2.2)])) D) (.string t) = (Maps.has D (.string t) || decide (t ∈ l.map (·.1))) by
  have := H l _ isMap_empty
  unfold loanD
  rw [this]
  rfl
 intro l
 induction l with
 | nil => intro D _; simp
 | cons a r ih =>
  intro D h
  rw [List.foldl_cons, ih _ (h.put _ _)]
  by_cases e : t = a.1
  ·have e1 : Maps.has (D.put (.string a.1) (.agg [.lit (.int .i64 a.2.1), .lit (.int .i64 a.2.2)])) (.string t) = true := by rw [e]; exact has_put_same h (by exact trivial) _
   have e2 : decide (t ∈ (a :: r).map (·.1)) = true := decide_eq_true (by rw [List.map_cons, e]; exact List.mem_cons_self)
   rw [e1, e2, Bool.true_or, Bool.or_true]
  ·have e1 : Maps.has (D.put (.string a.1) (.agg [.lit (.int .i64 a.2.1), .lit (.int .i64 a.2.2)])) (.string t) = Maps.has D (.string t) := has_put_other (by intro e2; injection e2 with e3; exact e e3) _
   have e2 : decide (t ∈ (a :: r).map (·.1)) = decide (t ∈ r.map (·.1)) := by
    rw [List.map_cons, decide_eq_decide, List.mem_cons]
    exact ⟨fun h => h.resolve_left e, .inr⟩
   rw [e1, e2]
theorem rt_row_ne {w : World} {base e s n b : Nat} {v : Value} {xs : List Value} {cs : Array Value} {t : TypeId} {fz : Nat × Nat} (h : w.ownsRow base e s v n xs) (r : w.heap[b]? = some (.cells cs t fz)) (hne : t ≠ e) : v.ownBlock ≠ some b := by
 rcases h.2 with ⟨hv, _⟩ | ⟨g, cap, cur, hv, _, hg, _⟩
 ·rw [hv]; simp [Value.ownBlock]
 ·rw [hv]
  intro e2
  have e3 : g = b := by simpa [Value.ownBlock] using e2
  subst e3
  rw [hg] at r
  simp only [Option.some.injEq, Obj.cells.injEq] at r
  exact hne r.2.1.symm
theorem rt_rows {w : World} {b1 b2 e1 e2 s1 s2 n1 n2 : Nat} {v1 v2 : Value} {xs1 xs2 : List Value} (h : w.ownsRow b1 e1 s1 v1 n1 xs1) (h' : w.ownsRow b2 e2 s2 v2 n2 xs2) (hne : e1 ≠ e2) : v1.ownBlock = none ∨ v1.ownBlock ≠ v2.ownBlock := by
 rcases h'.2 with ⟨hv', _⟩ | ⟨g', cap', cur', hv', _, hg', _⟩
 ·rcases h.2 with ⟨hv, _⟩ | ⟨g, cap, cur, hv, _, hg, _⟩
  ·left; rw [hv]; rfl
  ·right; rw [hv, hv']; simp [Value.ownBlock]
 ·right
  rw [hv']
  exact rt_row_ne h hg' (fun e => hne e.symm)
theorem rt_row_map {w : World} {base e s n b : Nat} {v : Value} {xs : List Value} {es : Array MapEntry} {cl : Nat} (h : w.ownsRow base e s v n xs) (r : w.heap[b]? = some (.map es cl)) : v.ownBlock ≠ some b := by
 rcases h.2 with ⟨hv, _⟩ | ⟨g, cap, cur, hv, _, hg, _⟩
 ·rw [hv]; simp [Value.ownBlock]
 ·rw [hv]
  intro e2
  have e3 : g = b := by simpa [Value.ownBlock] using e2
  subst e3
  rw [hg] at r
  cases r
theorem OwnLL.kept {w w' : World} {base : Nat} {v : Value} {L : List (List Tx)} {row : Option Nat} (h : OwnLL w base v L) (hg : w.grownBy w' row)
  (h1 : ∀ (u : Value) (n : Nat) (xs : List Value), w.ownsRow base 29 1 u n xs → u.ownBlock = none ∨ u.ownBlock ≠ row) (h2 : ∀ (u : Value) (n : Nat) (xs : List Value), w.ownsRow base 9 1 u n xs → u.ownBlock = none ∨ u.ownBlock ≠ row) : OwnLL w' base v L :=
 let ⟨cs, hl, ho, hc⟩ := h
 ⟨cs, hl, World.ownsRow.kept ho hg (h1 _ _ _ ho), fun j hj => let ⟨u, e, hu⟩ := hc j hj; ⟨u, e, World.ownsRow.kept hu hg (h2 _ _ _ hu)⟩⟩
theorem rbox (w : World) (o : Obj) : Below w.heap.size w (w.alloc o) := (Below.refl _ _).alloc (Nat.le_refl _) _
structure RtA (w0 W : World) (b o : Nat) (r : Rt) (vU vP vS vD vA : Value) (m : Nat) : Prop where
 row : W.heap[b]? = some (.cells #[.pointer (some ⟨o, 0, none⟩), vU, vP, vS, vD, vA, .map (some m)] 148 (0, 0))
 lo : w0.heap.size ≤ b
 oU : OwnH W w0.heap.size vU r.users
 oP : OwnH W w0.heap.size vP r.perms
 apU : ∀ g, vU.ownBlock = some g → vP.ownBlock = some g → False
 oS : OwnDS W w0.heap.size vS r.stat
 oD : OwnDS W w0.heap.size vD r.dyn
 apS : ∀ g, vS.ownBlock = some g → vD.ownBlock = some g → False
 oA : OwnLL W w0.heap.size vA r.apart
 mp : W.ownsMap Tryz.prog 9 loanR m r.loans.length (loanD r.loans)
 mlo : w0.heap.size ≤ m
 be : Below w0.heap.size w0 W
theorem ap_or {o1 o2 : Option Nat} (h : ∀ g, o1 = some g → o2 = some g → False) : o1 = none ∨ o1 ≠ o2 := by
 cases o1 with
 | none => exact .inl rfl
 | some g => exact .inr fun e => h g rfl e.symm
section
variable {w0 W W1 : World} {b o m : Nat} {r : Rt} {vU vP vS vD vA : Value}
theorem RtA.lt (R : RtA w0 W b o r vU vP vS vD vA m) : b < W.heap.size := (Array.getElem?_eq_some_iff.1 R.row).1
theorem RtA.below (R : RtA w0 W b o r vU vP vS vD vA m) (hb : Below W.heap.size W W1) : RtA w0 W1 b o r vU vP vS vD vA m where
 row := (hb.block _ R.lt).trans R.row
 lo := R.lo
 oU := own_below R.oU hb R.be.size
 oP := own_below R.oP hb R.be.size
 apU := R.apU
 oS := own_below R.oS hb R.be.size
 oD := own_below R.oD hb R.be.size
 apS := R.apS
 oA := R.oA.below hb R.be.size
 mp := by
  have hl := R.mp.lt
  obtain ⟨es, clock, h1, q⟩ := R.mp
  exact ⟨es, clock, (hb.block _ hl).trans h1, q⟩
 mlo := R.mlo
 be := below_then R.be hb R.be.size
theorem RtA.q0 (R : RtA w0 W b o r vU vP vS vD vA m) : W.cell? ⟨b, 0, none⟩ = some (.pointer (some ⟨o, 0, none⟩)) := by rw [cell_of_row _ _ _ _ _ _ R.row]; rfl
theorem RtA.q1 (R : RtA w0 W b o r vU vP vS vD vA m) : W.cell? ⟨b, 1, none⟩ = some vU := by rw [cell_of_row _ _ _ _ _ _ R.row]; rfl
theorem RtA.q2 (R : RtA w0 W b o r vU vP vS vD vA m) : W.cell? ⟨b, 2, none⟩ = some vP := by rw [cell_of_row _ _ _ _ _ _ R.row]; rfl
theorem RtA.q3 (R : RtA w0 W b o r vU vP vS vD vA m) : W.cell? ⟨b, 3, none⟩ = some vS := by rw [cell_of_row _ _ _ _ _ _ R.row]; rfl
theorem RtA.q4 (R : RtA w0 W b o r vU vP vS vD vA m) : W.cell? ⟨b, 4, none⟩ = some vD := by rw [cell_of_row _ _ _ _ _ _ R.row]; rfl
theorem RtA.q5 (R : RtA w0 W b o r vU vP vS vD vA m) : W.cell? ⟨b, 5, none⟩ = some vA := by rw [cell_of_row _ _ _ _ _ _ R.row]; rfl
theorem RtA.q6 (R : RtA w0 W b o r vU vP vS vD vA m) : W.cell? ⟨b, 6, none⟩ = some (.map (some m)) := by rw [cell_of_row _ _ _ _ _ _ R.row]; rfl
theorem RtA.fz (R : RtA w0 W b o r vU vP vS vD vA m) (j : Nat) : W.frozen? ⟨b, j, none⟩ = false := by simp [World.frozen?, R.row]
end
end Go.Proofs.YtgffbgmieppckaaGreatDoor
namespace Go.Proofs.YtgffbgmieppckaaGreatDoor
set_option maxRecDepth 100000
theorem nodup_le : ∀ {l m : List Tx}, l.Nodup → (∀ x ∈ l, x ∈ m) → l.length ≤ m.length
 | [], _, _, _ => Nat.zero_le _
 | a :: l, m, hn, hs => by
  have ha := hs a List.mem_cons_self
  obtain ⟨h1, h2⟩ := List.nodup_cons.1 hn
  have ih := nodup_le (m := m.erase a) h2 fun x hx => (List.mem_erase_of_ne (by rintro rfl; exact h1 hx)).2 (hs x (List.mem_cons_of_mem _ hx))
  rw [List.length_erase_of_mem ha] at ih
  have := List.length_pos_of_mem ha
  rw [List.length_cons]
  omega
structure Cir (ps : List Pr) (x : Tx) (R : List Tx) (k : Nat) (qs : List Pr) : Prop where
 nd : R.Nodup
 mem : x ∈ R
 lead : ∀ y ∈ R, y = x ∨ Leads ps x y
 done : ∀ i (h : i < R.length), i < k → ∀ p ∈ ps, p.1 = R[i] → p.2 ∈ R ∧ p.2 ≠ x
 part : ∀ (h : k < R.length), ∀ p ∈ qs, p.1 = R[k] → p.2 ∈ R ∧ p.2 ≠ x
section
variable {ps qs : List Pr} {x : Tx} {R : List Tx} {k : Nat}
theorem Cir.start (ps : List Pr) (x : Tx) : Cir ps x [x] 0 [] := ⟨by simp, by simp, fun y hy => .inl (List.mem_singleton.1 hy), fun i _ h => absurd h (by omega), fun _ p hp => by cases hp⟩
theorem Cir.skip (h : Cir ps x R k qs) (hk : k < R.length) {p : Pr} (hp : p.1 ≠ R[k]) : Cir ps x R k (qs ++ [p]) :=
 ⟨h.nd, h.mem, h.lead, h.done, fun hk' q hq e => by
  rcases List.mem_append.1 hq with hq | hq
  ·exact h.part hk' q hq e
  ·rw [List.mem_singleton.1 hq] at e; exact absurd e hp⟩
theorem Cir.old (h : Cir ps x R k qs) {p : Pr} (h1 : p.2 ≠ x) (h2 : p.2 ∈ R) : Cir ps x R k (qs ++ [p]) :=
 ⟨h.nd, h.mem, h.lead, h.done, fun hk' q hq e => by
  rcases List.mem_append.1 hq with hq | hq
  ·exact h.part hk' q hq e
  ·rw [List.mem_singleton.1 hq]; exact ⟨h2, h1⟩⟩
theorem Cir.leads (h : Cir ps x R k qs) (hk : k < R.length) {p : Pr} (hp : p ∈ ps) (he : p.1 = R[k]) : Leads ps x p.2 := by
 rcases h.lead _ (List.getElem_mem hk) with e | e
 ·exact .one (by rw [← e, ← he]; exact hp)
 ·exact .more e (by rw [← he]; exact hp)
theorem Cir.new (h : Cir ps x R k qs) (hk : k < R.length) {p : Pr} (hp : p ∈ ps) (he : p.1 = R[k]) (h1 : p.2 ≠ x) (h2 : p.2 ∉ R) : Cir ps x (R ++ [p.2]) k (qs ++ [p]) := by
 refine ⟨?_, List.mem_append_left _ h.mem, fun y hy => ?_, fun i hi hik q hq e => ?_, fun hk' q hq e => ?_⟩
 ·rw [List.nodup_append]
  exact ⟨h.nd, by simp, fun a ha b hb e => h2 (by rw [← List.mem_singleton.1 hb, ← e]; exact ha)⟩
 ·rcases List.mem_append.1 hy with hy | hy
  ·exact h.lead y hy
  ·rw [List.mem_singleton.1 hy]; exact .inr (h.leads hk hp he)
 ·rw [List.getElem_append_left (by omega)] at e
  have := h.done i (by omega) hik q hq e
  exact ⟨List.mem_append_left _ this.1, this.2⟩
 ·rw [List.getElem_append_left hk] at e
  rcases List.mem_append.1 hq with hq | hq
  ·have := h.part hk q hq e
   exact ⟨List.mem_append_left _ this.1, this.2⟩
  ·rw [List.mem_singleton.1 hq]; exact ⟨List.mem_append_right _ (List.mem_singleton.2 rfl), h1⟩
theorem Cir.next (h : Cir ps x R k ps) : Cir ps x R (k + 1) [] :=
 ⟨h.nd, h.mem, h.lead, fun i hi hik q hq e => by
  by_cases hk : i < k
  ·exact h.done i hi hk q hq e
  ·obtain rfl : i = k := by omega
   exact h.part hi q hq e, fun _ p hp => by cases hp⟩
theorem Cir.no (h : Cir ps x R k qs) (hk : R.length ≤ k) : ¬ Leads ps x x := fun hl => by
 have key : ∀ y z, Leads ps y z → y = x → z ∈ R ∧ z ≠ x := fun y z hyz => by
  induction hyz with
  | one hm =>
   intro e
   subst e
   obtain ⟨i, hi, e⟩ := List.mem_iff_getElem.1 h.mem
   exact h.done i hi (by omega) _ hm e.symm
  | more _ hm ih =>
   intro e
   obtain ⟨h1, _⟩ := ih e
   obtain ⟨i, hi, e⟩ := List.mem_iff_getElem.1 h1
   exact h.done i hi (by omega) _ hm e.symm
 exact (key x x hl rfl).2 rfl
theorem Cir.len (h : Cir ps x R k qs) : R.length ≤ ps.length + 1 := by
 have := nodup_le (m := x :: ps.map (·.2)) h.nd fun y hy => by
  rcases h.lead y hy with e | e
  ·rw [e]; exact List.mem_cons_self
  ·have key : ∀ y z, Leads ps y z → z ∈ ps.map (·.2) := fun y z hyz => by
    cases hyz with
    | one hm => exact List.mem_map.2 ⟨_, hm, rfl⟩
    | more _ hm => exact List.mem_map.2 ⟨_, hm, rfl⟩
   exact List.mem_cons_of_mem _ (key _ _ e)
 simpa using this
end
end Go.Proofs.YtgffbgmieppckaaGreatDoor
namespace Go.Proofs.YtgffbgmieppckaaGreatDoor
set_option maxRecDepth 100000
open Go.ChangeShapes Go.WideShapes Go.ChangeAt Go.RowKit
def hI (l : List (Tx × Nat)) (x : Tx) : Int := fI (fun h => h.1 == x) l
theorem hI_ge (l : List (Tx × Nat)) (x : Tx) : decide (0 ≤ hI l x) = decide (x ∈ l.map (·.1)) := by
 unfold hI
 rw [fI_any, Bool.eq_iff_iff, List.any_eq_true, decide_eq_true_eq, List.mem_map]
 constructor
 ·rintro ⟨h, hm, e⟩
  exact ⟨h, hm, by simpa using e⟩
 ·rintro ⟨h, hm, e⟩
  exact ⟨h, hm, by simpa using e⟩
theorem fnd_clo (h : Tx × Nat) (x : Tx) (b : Nat) (w : World) (hb : b < w.heap.size) (hc : w.cell? ⟨b, 0, none⟩ = some (.string (bs x))) :
  Calls Tryz.prog 204 #[.agg #[.string (bs h.1), .int .u32 (h.2 : Nat)], .pointer (some ⟨b, 0, none⟩)] w fun e w' => e = .returned (.bool (h.1 == x)) ∧ Below w.heap.size w w' := by
 obtain ⟨n, r⟩ := h
 have HE : Hid (((bs n).toList == (bs x).toList) = (n == x)) := beq_tx n x
 have R := heap_alloc_new w (.cells #[.string (bs n), .int .u32 (r : Nat)] 265)
 have x0 : (w.alloc (.cells #[.string (bs n), .int .u32 (r : Nat)] 265)).cell? ⟨b, 0, none⟩ = some (.string (bs x)) := (World.cell?_alloc_lt _ _ _ hb).trans hc
 have x1 : (w.alloc (.cells #[.string (bs n), .int .u32 (r : Nat)] 265)).cell? ⟨w.heap.size, 0, none⟩ = some (.string (bs n)) := by rw [cell_of_row _ _ _ _ _ _ R]; rfl
 have HZ : Hid (Below w.heap.size w (w.alloc (.cells #[.string (bs n), .int .u32 (r : Nat)] 265))) := (Below.refl _ _).alloc (Nat.le_refl _) _
 clear R hc
 dsimp only
 generalize bs n = bn at *
 generalize bs x = bx at *
 go_enter Tryz.func204, Tryz.ntmps204
 go_wp2
 go_ret
 exact ⟨ret_bool HE.out, HZ.out⟩
section
variable (l : List (Tx × Nat)) (x : Tx) (A : Option Addr) (c : Nat) (w : World)
set_option maxHeartbeats 1000000 in
theorem fnd_idx (b : Nat) (h : HAt w A c l) (hl : l.length ≤ 1000000) (hb : b < w.heap.size) (hc : w.cell? ⟨b, 0, none⟩ = some (.string (bs x))) :
  Calls Tryz.prog 203 #[.slice A l.length c, .func (.func 204) #[] #[.pointer (some ⟨b, 0, none⟩)]] w fun e w' => e = .returned (.int .i64 (hI l x)) ∧ Below w.heap.size w w' := by
 have HS := Lib.hid h
 have hcc := h.1
 clear h
 go_enter Tryz.func203, Tryz.ntmps203
 go_wp2
 go_loopw [5, 8] (fun _ i wr => ∃ k : Nat, k ≤ l.length ∧ i = .int .i64 k ∧ Hid (Below w.heap.size w wr) ∧ Hid (∀ j (_ : j < k) (h : j < l.length), (l[j].1 == x) = false)) (fun _ i _ => l.length - (intOf i).toNat)
 case atStart => exact ⟨0, Nat.zero_le _, rfl, Below.refl _ _, fun j hj _ => by omega⟩
 case round =>
  obtain ⟨k, hk, rfl, HB, HI⟩ := hrel
  by_cases hlt : k < l.length
  ·obtain ⟨g, rfl, hgl, x1, x2⟩ := (HS.out.below HB.out).2 k hlt
   have hb2 : b < wr.heap.size := Nat.lt_of_lt_of_le hb HB.out.size
   have hc2 := (HB.out.cell (p := ⟨b, 0, none⟩) hb).trans hc
   have CL := Lib.hid (fnd_clo l[k] x b wr hb2 hc2)
   have HH : Hid ((l[k].1 == x) = true → hI l x = k) := fun hb => by unfold hI; exact fI_hit (p := fun h : Tx × Nat => h.1 == x) hlt hb fun j hj => HI.out j hj (by omega)
   have HT : Hid ((l[k].1 == x) = false → ∀ j (_ : j < k + 1) (h : j < l.length), (l[j].1 == x) = false) := fun hb j hj h => by
    by_cases e : j = k
    ·subst e; exact hb
    ·exact HI.out j (by omega) h
   clear hc2 hb2
   generalize l[k] = a at *
   cases hq : a.1 == x
   ·have HT2 := Lib.hid (HT.out hq)
    rw [hq] at CL
    clear hq HH HT HI
    go_wp2_with (go_at_call 204; refine CL.out.mono ?_; rintro e w2 ⟨rfl, hb2⟩)
    have HB2 := Lib.hid (below_then HB.out hb2 HB.out.size)
    go_roundw
    case rel => exact ⟨k + 1, by omega, by go_num, HB2, HT2⟩
    case measure => simp [intOf]; omega
   ·have HE := Lib.hid (HH.out hq)
    rw [hq] at CL
    clear hq HH HT HI
    go_wp2_with (go_at_call 204; refine CL.out.mono ?_; rintro e w2 ⟨rfl, hb2⟩)
    go_ret
    exact ⟨ret_int HE.out.symm, below_then HB.out hb2 HB.out.size⟩
  ·have HE : Hid (hI l x = -1) := by show hI l x = -1; unfold hI; exact fI_miss (p := fun h : Tx × Nat => h.1 == x) fun j hj => HI.out j (by omega) hj
   clear HI
   go_wp2
   go_ret
   exact ⟨ret_int HE.out.symm, HB.out⟩
theorem fnd_any (h : HAt w A c l) (hl : l.length ≤ 1000000) :
  Calls Tryz.prog 164 #[.slice A l.length c, .string (bs x)] w fun e w' => e = .returned (.int .i64 (hI l x)) ∧ Below w.heap.size w w' := by
 have R := heap_alloc_new w (.cells #[.string (bs x)] 9)
 have hbz : Below w.heap.size w (w.alloc (.cells #[.string (bs x)] 9)) := (Below.refl _ _).alloc (Nat.le_refl _) _
 have IX := Lib.hid (fnd_idx l x A c (w.alloc (.cells #[.string (bs x)] 9)) w.heap.size (h.below hbz) hl (by simp) (by rw [cell_of_row _ _ _ _ _ _ R]; rfl))
 have HB := Lib.hid hbz
 have hmf : ∀ (fn : Fn) (first cap : Array Value) (w : World), (Instr.makeFunc fn first cap).run Tryz.prog w = .ok (.func fn first cap) w := fun _ _ _ _ => rfl
 clear h R hbz
 go_enter Tryz.func164, Tryz.ntmps164
 go_wp2_with (go_at_call 203; refine IX.out.mono ?_; rintro e w2 ⟨rfl, hb2⟩)
 go_ret
 exact ⟨rfl, below_then HB.out hb2 HB.out.size⟩
end
theorem rtSet_in {names : List Tx} {x : Tx} {r : List Tx} {s : Nat} (h : x ∈ names) : rtSet names (x :: r) s = rtSet names r (s ||| bitN (nix names x)) := by rw [rtSet, if_pos h]
theorem rtSet_out {names : List Tx} {x : Tx} {r : List Tx} {s : Nat} (h : x ∉ names) : rtSet names (x :: r) s = none := by rw [rtSet, if_neg h]
theorem rtSet_lt {names : List Tx} (hn : names.length ≤ 24) : ∀ {l : List Tx} {s z : Nat}, s < 16777216 → rtSet names l s = some z → z < 16777216
 | [], s, z, h, e => by rw [rtSet] at e; cases e; exact h
 | x :: r, s, z, h, e => by
  by_cases hx : x ∈ names
  ·rw [rtSet_in hx] at e
   have := idx_lt hx
   exact rtSet_lt hn (or_lo h (pow_lo (by omega))) e
  ·rw [rtSet_out hx] at e; cases e
def RsetTo (o : Option Nat) (w : World) (e : Ending) (w' : World) : Prop := (match o with
 | some s => e = .returned (.tuple #[.int .u32 (s : Nat), .bool true])
 | none => e = .returned (.tuple #[.int .u32 0, .bool false])) ∧ w = w'
theorem rsetTo_some {o : Option Nat} {s : Nat} (h : o = some s) (w : World) : RsetTo o w (.returned (.tuple #[.int .u32 (s : Nat), .bool true])) w := by subst h; exact ⟨rfl, rfl⟩
theorem rsetTo_none {o : Option Nat} (h : o = none) (w : World) : RsetTo o w (.returned (.tuple #[.int .u32 0, .bool false])) w := by subst h; exact ⟨rfl, rfl⟩
set_option maxHeartbeats 2000000 in
theorem rset_any (names : List Tx) (bl : List Nat) (l : List Tx) (A : Option Addr) (c b o : Nat) (w : World) (hc : w.cell? ⟨b, 0, none⟩ = some (.pointer (some ⟨o, 0, none⟩))) (hO : OrdAt w o names bl) (hL : ListAt w A c l) (hl : l.length ≤ 1000000) :
  Calls Tryz.prog 199 #[.pointer (some ⟨b, 0, none⟩), .slice A l.length c] w (RsetTo (rtSet names l 0) w) := by
 have HL := Lib.hid hL
 have hcc := hL.1
 have hn := hO.few
 have IX := Lib.hid (fun x => OIndex_any o names bl w x hO)
 clear hL hO
 go_enter Tryz.func199, Tryz.ntmps199
 go_wp2
 go_loop [4, 11] (fun z i => ∃ k s : Nat, k ≤ l.length ∧ z = .int .u32 (s : Nat) ∧ i = .int .i64 k ∧ s < 16777216 ∧ Hid (rtSet names l 0 = rtSet names (l.drop k) s)) (fun _ i => l.length - (intOf i).toNat)
 case atStart => exact ⟨0, 0, Nat.zero_le _, rfl, rfl, by omega, rfl⟩
 case round =>
  obtain ⟨k, s, hk, rfl, rfl, hs, HI⟩ := hrel
  by_cases hlt : k < l.length
  ·obtain ⟨g, rfl, hgl, hx⟩ := HL.out.2 k hlt
   have hdr : l.drop k = l[k] :: l.drop (k + 1) := List.drop_eq_getElem_cons hlt
   have hI := HI.out
   rw [hdr] at hI
   clear hdr HI
   generalize l[k] = x at *
   by_cases hm : x ∈ names
   ·rw [rtSet_in hm] at hI
    have hlx := idx_lt hm
    have CI := Lib.hid (IX.out x)
    rw [idxI_in hm] at CI
    have HI2 := Lib.hid hI
    clear hm hI
    generalize nix names x = n at *
    have hb := or_val s (bitN n) hs (pow_lo (by omega))
    have hbv := bit_val (i := n) (by omega)
    have hs2 := or_lo hs (pow_lo (i := n) (by omega))
    have hn0 : ¬ ((n : Int) < 0) := by omega
    generalize s ||| bitN n = z at *
    go_wp2_with (go_at_call 92; refine CI.out.mono ?_; rintro e w1 ⟨rfl, rfl⟩)
    go_round
    case rel => exact ⟨k + 1, z, by omega, by go_num, by go_num, hs2, HI2⟩
    case measure => simp [intOf]; omega
   ·rw [rtSet_out hm] at hI
    have CI := Lib.hid (IX.out x)
    rw [idxI_out hm] at CI
    have HI2 := Lib.hid hI
    clear hm hI
    go_wp2_with (go_at_call 92; refine CI.out.mono ?_; rintro e w1 ⟨rfl, rfl⟩)
    go_ret2
    exact rsetTo_none HI2.out _
  ·have hI := HI.out
   rw [List.drop_eq_nil_of_le (by omega), rtSet] at hI
   have HI2 := Lib.hid hI
   clear hI HI
   go_wp2
   go_ret2
   exact rsetTo_some HI2.out _
def FltR (ln k : Int) (w : World) (e : Ending) (w' : World) : Prop := ∃ b, e = .returned (.iface 175 (.pointer (some ⟨b, 0, none⟩))) ∧ w.heap.size ≤ b ∧ b < w'.heap.size ∧ FaultAt w' b ln 1 k ∧ Below w.heap.size w w'
theorem rfault_any (kd rn rm : Int) (nm rf rt rb ra ri : ByteArray) (A : Option Addr) (n c : Nat) (ln k : Int) (w : World) :
  Calls Tryz.prog 74 #[.agg #[.int .i64 kd, .string nm, .slice A n c, .int .i64 rn, .int .i64 rm, .string rf, .string rt, .string rb, .string ra, .string ri, .int .i64 ln], .iface 39 (.int .i64 k)] w (FltR ln k w) := by
 have R := heap_alloc_new w (.cells #[.int .i64 kd, .string nm, .slice A n c, .int .i64 rn, .int .i64 rm, .string rf, .string rt, .string rb, .string ra, .string ri, .int .i64 ln] 31)
 have p10 := row_q10 R
 have hb := rbox w (.cells #[.int .i64 kd, .string nm, .slice A n c, .int .i64 rn, .int .i64 rm, .string rf, .string rt, .string rb, .string ra, .string ri, .int .i64 ln] 31)
 have HB := Lib.hid hb
 have hs : (w.alloc (.cells #[.int .i64 kd, .string nm, .slice A n c, .int .i64 rn, .int .i64 rm, .string rf, .string rt, .string rb, .string ra, .string ri, .int .i64 ln] 31)).heap.size = w.heap.size + 1 := by simp
 have HS := Lib.hid hs
 clear R hb hs
 go_enter Tryz.func74, Tryz.ntmps74
 go_upto_region 1 with fail
 generalize w.alloc (.cells #[.int .i64 kd, .string nm, .slice A n c, .int .i64 rn, .int .i64 rm, .string rf, .string rt, .string rb, .string ra, .string ri, .int .i64 ln] 31) = w1 at *
 go_wp2
 go_ret
 have R2 := heap_alloc_new w1 (.cells #[.int .i64 ln, .int .i64 1, .iface 39 (.int .i64 k)] 179)
 have hs := HS.out
 refine ⟨w1.heap.size, rfl, by omega, by simp, ⟨?_, ?_, ?_⟩, below_then HB.out (rbox _ _) HB.out.size⟩
 ·rw [cell_of_row _ _ _ _ _ _ R2]; rfl
 ·rw [cell_of_row _ _ _ _ _ _ R2]; rfl
 ·rw [cell_of_row _ _ _ _ _ _ R2]; rfl
end Go.Proofs.YtgffbgmieppckaaGreatDoor
