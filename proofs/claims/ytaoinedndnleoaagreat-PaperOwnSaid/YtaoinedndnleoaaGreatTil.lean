import Derived.Test.YtaoinedndnleoaaGreatArgI
import Derived.ChangeSame
import Derived.Lay
import Derived.LaidLaws
import Derived.LaidHandle
import Derived.ChangeVars
import Derived.JoinedOf
import Derived.RowKit
import Derived.RowKitTokens
import Derived.Stop.Joined
import Derived.Deep.RegionHeld3
namespace Go.Proofs.YtaoinedndnleoaaGreat
set_option maxRecDepth 100000
open Go.ChangeShapes Go.WideShapes Go.ChangeAt Go.RowKit
section
variable {H : Type} {enc : TypeId × Value → H}
theorem arg_ints2 {t : TypeId} {fuel : Nat} {v : Value} {x : DataW H × List MemPlace} {W : World} (ht : Tryz.prog.underlying t = some (.slice 3)) (hc : Tryz.prog.cellsOf 3 = 1)
  (h : DataW.trod enc Tryz.prog W 0 (fun _ => true) true fuel t [v] = some x) : ∃ zs, IntsAt W v zs := by
 rcases open_ints ht Tryz.underlying3 hc h with ⟨hcs, _⟩ | ⟨a, len, cap, zs, hcs, _, hl, hm, hn, _, hcell, hwf⟩
 ·obtain rfl : v = .slice none 0 0 := by simpa using hcs
  exact ⟨[], none, 0, rfl, Nat.zero_le _, fun k h => by simp at h⟩
 ·obtain rfl : v = .slice (some a) len cap := by simpa using hcs
  rw [if_pos rfl] at hn
  refine ⟨zs.take len, some a, cap, by rw [List.length_take, Nat.min_eq_left (by omega)], by rw [List.length_take]; omega, fun k h => ?_⟩
  have hk : k < zs.length := by rw [List.length_take] at h; omega
  have hk' := hcell k hk
  have e : (zs.take len)[k] = zs[k] := by simp
  have e2 : zs.getD k 0 = zs[k] := by simp [List.getD_eq_getElem?_getD, List.getElem?_eq_getElem hk]
  rw [e2] at hk'
  obtain ⟨b, off, spot⟩ := a
  have hsp : spot = none := by
   have h0 := hcell 0 (by omega)
   simpa [Addr.add] using World.cell?_spot h0
  subst hsp
  rw [Go.WideShapes.add_plain] at hk'
  rw [e]
  exact ⟨b, off, rfl, World.block_lt_of_cell? W _ hk', hk', hwf _ (List.getElem_mem _)⟩
theorem arg_plan {d : DataW H} {W : World} {base : Nat} {v : Value} {p : List MemPlace} (hv : Value.okWide Tryz.prog W .any base 24 v) (h : DataW.Trod enc Tryz.prog W 0 (fun _ => true) true 24 v d p) :
  ∃ v0 zs, v = .agg #[v0] ∧ IntsAt W v0 zs := by
 obtain ⟨cs, rfl, hsz⟩ := okWide_struct Tryz.underlying24 hv
 have hC : Tryz.prog.cellsOf 24 = 1 := by kernel_rfl
 have hC2 : Tryz.prog.cellsOf 22 = 1 := by kernel_rfl
 have hsz2 := hsz.trans hC
 obtain ⟨l⟩ := cs
 obtain ⟨v0, rfl⟩ : ∃ v0, l = [v0] := by
  match l, hsz2 with
  | [v0], _ => exact ⟨v0, rfl⟩
 obtain ⟨fuel, hf⟩ := h
 obtain ⟨y0, n, _, _, g0⟩ := trod_struct1 Tryz.underlying24 hf
 have g1 : DataW.trod enc Tryz.prog W 0 (fun _ => true) true n 22 [v0] = some y0 := by
  simp only [hC2] at g0
  exact g0
 obtain ⟨zs, hz⟩ := arg_ints2 Tryz.underlying22 (by kernel_rfl) g1
 exact ⟨v0, zs, rfl, hz⟩
end
end Go.Proofs.YtaoinedndnleoaaGreat
namespace Go.Proofs.YtaoinedndnleoaaGreat
set_option maxRecDepth 100000
section
variable {P : Program} {ops : Array Oper} {Q : Exit → Act → World → Prop} {md : Region.Mode} {S : World → Prop} {b : Nat}
def wpTil (P : Program) (md : Region.Mode) (ops : Array Oper) (Q : Exit → Act → World → Prop) (S : World → Prop) (b : Nat) : Nat → Array Bool → Act → World → Prop
 | 0, l, a, w => Region.ready md ops l = [] ∧ Q .normal a w
 | f + 1, l, a, w => (Region.ready md ops l = [] → Q .normal a w) ∧ ∀ j, j ∈ Region.ready md ops l →
   wpOp P ops Q j (fun x u => ((l.setIfInBounds j true).getD b true = false → S u) ∧ wpTil P md ops Q S b f (l.setIfInBounds j true) x u) a w
theorem wpTil_any (f : Nat) : ∀ {l : Array Bool} {a : Act} {w : World}, wpTil P md ops Q S b f l a w → wpAny P md ops Q f l a w := by
 induction f with
 | zero => exact fun h => h
 | succ f ih => exact fun h => ⟨h.1, fun j hj => wpOp_mono (fun _ _ k => ih k.2) (h.2 j hj)⟩
theorem wpTil_first {i : Nat} {o ob : Oper} {v : Value} (ho : ops[i]? = some o) (hob : ops[b]? = some ob) (hib : i ≠ b) (hw : ∃ e ∈ ob.after, Region.binds md e = true ∧ e.on = i)
  (hsel : ∀ (j : Nat) (x : Oper) cs d, ops[j]? = some x → x.op ≠ .select cs d) (hQ : ∀ c a w, Q (.panic c) (a.put o.dst v) w → Q (.panic c) a w) (f : Nat) :
  ∀ {l : Array Bool} {a : Act} {w : World}, (∀ j x, ops[j]? = some x → j ≠ i → l.getD j true = false → (∀ e ∈ x.after, Region.binds md e = true → e.on ≠ i) → o.apart ops x = true) →
   i ∈ Region.ready md ops l → l.getD b true = false → YieldsIf P ops S o v a → S w → wpTil P md ops Q S b f (l.setIfInBounds i true) (a.put o.dst v) w → wpTil P md ops Q S b (f + 1) l a w := by
 induction f with
 | zero =>
  intro l a w _ hr _ hy hS H
  refine ⟨fun e => absurd hr (by rw [e]; simp), fun j hj => ?_⟩
  rcases Nat.decEq j i with hne | rfl
  ·have := ready_mono hj hne
   rw [H.1] at this
   exact absurd this (by simp)
  ·exact hy.wpOp ho hS ⟨fun _ => hS, H⟩
 | succ f ih =>
  intro l a w hfree hr hb hy hS H
  refine ⟨fun e => absurd hr (by rw [e]; simp), fun j hj => ?_⟩
  rcases Nat.decEq j i with hne | rfl
  rotate_left
  ·exact hy.wpOp ho hS ⟨fun _ => hS, H⟩
  have hstep := H.2 j (ready_mono hj hne)
  obtain ⟨hun, x, hx, hall⟩ := mem_ready.1 hj
  have hno : ∀ e ∈ x.after, Region.binds md e = true → e.on ≠ i := by
   intro e he hbd heq
   have t1 := hall e he hbd
   have t0 := (mem_ready.1 hr).1
   rw [heq] at t1
   by_cases hlt : i < l.size
   ·simp [hlt] at t0 t1
    rw [t0] at t1; cases t1
   ·simp [Array.getElem?_eq_none (Nat.le_of_not_lt hlt)] at t1
  have hjb : j ≠ b := by
   rintro rfl
   obtain ⟨e, he, h1, h2⟩ := hw
   have : x = ob := Option.some.inj (hx.symm.trans hob)
   subst this
   exact hno e he h1 h2
  refine wpOp_mono (fun a' u h => ?_) (wpOp_putIf hx (hfree j x hx hne hun hno) (fun cs d => hsel i o cs d ho) (fun cs d => hsel j x cs d hx) hQ hy hstep)
  have hS' : S u := h.2.1 (by rw [getD_set_ne true hjb, getD_set_ne true hib]; exact hb)
  refine ⟨fun _ => hS', ih (fun k y hy' hki hku hkn => ?_) (ready_mono hr (Ne.symm hne)) (by rw [getD_set_ne true hjb]; exact hb) h.1 hS' ?_⟩
  ·refine hfree k y hy' hki ?_ hkn
   by_cases e : j = k
   ·subst e; exact hun
   ·rwa [getD_set_ne true e] at hku
  ·rw [Array.setIfInBounds_comm _ _ hne]
   exact h.2.2
theorem wpTil_first' {i : Nat} {o : Oper} {v : Value} (ho : ops[i]? = some o) (hib : i ≠ b)
  (hsel : ∀ (j : Nat) (x : Oper) cs d, ops[j]? = some x → x.op ≠ .select cs d) (hQ : ∀ c a w, Q (.panic c) (a.put o.dst v) w → Q (.panic c) a w) (f : Nat) :
  ∀ {l : Array Bool} {a : Act} {w : World}, (∀ j x, ops[j]? = some x → j ≠ i → l.getD j true = false → (∀ e ∈ x.after, Region.binds md e = true → e.on ≠ i) → o.apart ops x = true) →
   i ∈ Region.ready md ops l → YieldsIf P ops (fun _ => True) o v a → (l.getD b true = false → S w) → wpTil P md ops Q S b f (l.setIfInBounds i true) (a.put o.dst v) w → wpTil P md ops Q S b (f + 1) l a w := by
 induction f with
 | zero =>
  intro l a w _ hr hy hS H
  refine ⟨fun e => absurd hr (by rw [e]; simp), fun j hj => ?_⟩
  rcases Nat.decEq j i with hne | rfl
  ·have := ready_mono hj hne
   rw [H.1] at this
   exact absurd this (by simp)
  ·exact hy.wpOp ho trivial ⟨fun h => hS (by rwa [getD_set_ne true hib] at h), H⟩
 | succ f ih =>
  intro l a w hfree hr hy hS H
  refine ⟨fun e => absurd hr (by rw [e]; simp), fun j hj => ?_⟩
  rcases Nat.decEq j i with hne | rfl
  rotate_left
  ·exact hy.wpOp ho trivial ⟨fun h => hS (by rwa [getD_set_ne true hib] at h), H⟩
  have hstep := H.2 j (ready_mono hj hne)
  obtain ⟨hun, x, hx, hall⟩ := mem_ready.1 hj
  have hno : ∀ e ∈ x.after, Region.binds md e = true → e.on ≠ i := by
   intro e he hbd heq
   have t1 := hall e he hbd
   have t0 := (mem_ready.1 hr).1
   rw [heq] at t1
   by_cases hlt : i < l.size
   ·simp [hlt] at t0 t1
    rw [t0] at t1; cases t1
   ·simp [Array.getElem?_eq_none (Nat.le_of_not_lt hlt)] at t1
  refine wpOp_mono (fun a' u h => ?_) (wpOp_putIf hx (hfree j x hx hne hun hno) (fun cs d => hsel i o cs d ho) (fun cs d => hsel j x cs d hx) hQ hy hstep)
  have hS' : (l.setIfInBounds j true).getD b true = false → S u := fun k => h.2.1 (by rw [Array.setIfInBounds_comm _ _ (Ne.symm hne), getD_set_ne true hib]; exact k)
  refine ⟨hS', ih (fun k y hy' hki hku hkn => ?_) (ready_mono hr (Ne.symm hne)) h.1 hS' ?_⟩
  ·refine hfree k y hy' hki ?_ hkn
   by_cases e : j = k
   ·subst e; exact hun
   ·rwa [getD_set_ne true e] at hku
  ·rw [Array.setIfInBounds_comm _ _ hne]
   exact h.2.2
theorem wpTil_pure {i : Nat} {o : Oper} {v : Value} {f : Nat} {l : Array Bool} {a : Act} {w : World} (ho : ops[i]? = some o) (hs : Region.noSelect ops = true) (hf : Region.free md ops l i = true) (hr : (Region.ready md ops l).contains i = true)
  (hib : decide (i ≠ b) = true) (hQ : ∀ c a w, Q (.panic c) (a.put o.dst v) w → Q (.panic c) a w) (hy : YieldsIf P ops (fun _ => True) o v a) (hS : S w)
  (h : wpTil P md ops Q S b f (l.setIfInBounds i true) (a.put o.dst v) w) : wpTil P md ops Q S b (f + 1) l a w :=
 wpTil_first' ho (of_decide_eq_true hib) (Region.noSelect_spec hs) hQ f (Region.free_spec ho hf) (by simpa using hr) hy (fun _ => hS) h
theorem wpTil_past {i : Nat} {o : Oper} {v : Value} {f : Nat} {l : Array Bool} {a : Act} {w : World} (ho : ops[i]? = some o) (hs : Region.noSelect ops = true) (hf : Region.free md ops l i = true) (hr : (Region.ready md ops l).contains i = true)
  (hib : decide (i ≠ b) = true) (hl : l.getD b true = true) (hQ : ∀ c a w, Q (.panic c) (a.put o.dst v) w → Q (.panic c) a w) (hy : YieldsIf P ops (fun _ => True) o v a)
  (h : wpTil P md ops Q S b f (l.setIfInBounds i true) (a.put o.dst v) w) : wpTil P md ops Q S b (f + 1) l a w :=
 wpTil_first' ho (of_decide_eq_true hib) (Region.noSelect_spec hs) hQ f (Region.free_spec ho hf) (by simpa using hr) hy (fun e => absurd (hl.symm.trans e) (by decide)) h
def waitsB (md : Region.Mode) (ops : Array Oper) (b i : Nat) : Bool := match ops[b]? with
 | some o => o.after.any fun e => Region.binds md e && e.on == i
 | none => false
theorem waitsB_spec {i : Nat} (h : waitsB md ops b i = true) : ∃ ob, ops[b]? = some ob ∧ ∃ e ∈ ob.after, Region.binds md e = true ∧ e.on = i := by
 unfold waitsB at h
 cases hb : ops[b]? with
 | none => rw [hb] at h; cases h
 | some o =>
  rw [hb] at h
  simp only [Array.any_eq_true, Bool.and_eq_true, beq_iff_eq] at h
  obtain ⟨k, hk, h1, h2⟩ := h
  exact ⟨o, rfl, o.after[k], Array.getElem_mem hk, h1, h2⟩
theorem wpTil_take {i : Nat} {o : Oper} {v : Value} {f : Nat} {l : Array Bool} {a : Act} {w : World} (ho : ops[i]? = some o) (hs : Region.noSelect ops = true) (hf : Region.free md ops l i = true) (hr : (Region.ready md ops l).contains i = true)
  (hb : waitsB md ops b i = true) (hib : decide (i ≠ b) = true) (hl : l.getD b true = false) (hQ : ∀ c a w, Q (.panic c) (a.put o.dst v) w → Q (.panic c) a w) (hy : YieldsIf P ops S o v a) (hS : S w)
  (h : wpTil P md ops Q S b f (l.setIfInBounds i true) (a.put o.dst v) w) : wpTil P md ops Q S b (f + 1) l a w := by
 obtain ⟨ob, e1, e2⟩ := waitsB_spec hb
 exact wpTil_first ho e1 (of_decide_eq_true hib) e2 (Region.noSelect_spec hs) hQ f (Region.free_spec ho hf) (by simpa using hr) hl hy hS h
def NextT (P : Program) (md : Region.Mode) (ops : Array Oper) (Q : Exit → Act → World → Prop) (S : World → Prop) (b f : Nat) (l : Array Bool) (a : Act) (w : World) (rs : List Nat) : Prop :=
 ∀ j ∈ rs, wpOp P ops Q j (fun x u => ((l.setIfInBounds j true).getD b true = false → S u) ∧ wpTil P md ops Q S b f (l.setIfInBounds j true) x u) a w
theorem NextT.nil {f : Nat} {l : Array Bool} {a : Act} {w : World} : NextT P md ops Q S b f l a w [] := fun _ h => absurd h (by simp)
theorem NextT.cons {f : Nat} {l : Array Bool} {a : Act} {w : World} {j : Nat} {o : Oper} {rs : List Nat} (ho : ops[j]? = some o)
  (h : ∀ K' : Act → World → Prop, Shut (∀ x u, ((l.setIfInBounds j true).getD b true = false → S u) → (((l.setIfInBounds j true).getD b true = false → S u) → wpTil P md ops Q S b f (l.setIfInBounds j true) x u) → K' x u) → if Region.wanted o (yielded ops a.tmps) = true then Oper.wp P o a w K' Q else K' (a.put o.dst undef) w)
  (hs : NextT P md ops Q S b f l a w rs) : NextT P md ops Q S b f l a w (j :: rs) := by
 intro k hk
 rcases List.mem_cons.1 hk with rfl | hk
 ·exact wpOp_step ho fun K' hK => h K' fun x u h1 h2 => hK x u ⟨h1, h2 h1⟩
 ·exact hs k hk
theorem wpTil_next {rs : List Nat} {f : Nat} {l : Array Bool} {a : Act} {w : World} (hr : Region.ready md ops l = rs) (hne : rs ≠ []) (h : NextT P md ops Q S b f l a w rs) : wpTil P md ops Q S b (f + 1) l a w :=
 ⟨fun e => absurd (hr.symm.trans e) hne, fun j hj => h j (hr ▸ hj)⟩
theorem wpTil_done {l : Array Bool} {a : Act} {w : World} (hr : Region.ready md ops l = []) (h : Q .normal a w) (f : Nat) : wpTil P md ops Q S b f l a w := by
 cases f with
 | zero => exact ⟨hr, h⟩
 | succ f => exact ⟨fun _ => h, fun j hj => absurd hj (by rw [hr]; simp)⟩
theorem wp_region_til {id : Nat} (b : Nat) {a : Act} {w : World} (hm : P.follows .mixedOrders = true) (hS : S w.drew)
  (h : S w.drew → wpTil P .any ops Q S b ops.size (Array.replicate ops.size false) a w.drew) : (Code.region id ops true).wp P Q a w :=
 wp_region_any hm (wpTil_any _ (h hS))
end
end Go.Proofs.YtaoinedndnleoaaGreat
