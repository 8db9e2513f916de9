/-
  Two rows of sets that grow side by side, in a region that draws its order.
-/
import Derived.Test.YteplbbikjcjheaaDuty1
import Derived.Deep.RegionHeld3
import Derived.Deep.AppendLies
namespace Go.Proofs.Yteplbbikjcjheaa
set_option maxRecDepth 100000
open Go.ChangeShapes Go.WideShapes Go.ChangeAt Go.RowKit

def stcells (l : List (Int × Nat)) : List Value := l.flatMap fun p => [.int .i64 p.1, .int .u32 (p.2 : Nat)]
theorem stcells_length (l : List (Int × Nat)) : (stcells l).length = l.length * 2 := by
  induction l with
  | nil => rfl
  | cons a l ih => simp only [stcells, List.flatMap_cons, List.length_append] at ih ⊢; rw [ih]; simp; omega
theorem stcells_snoc (l : List (Int × Nat)) (p : Int × Nat) : stcells (l ++ [p]) = stcells l ++ [.int .i64 p.1, .int .u32 (p.2 : Nat)] := by simp [stcells]
theorem stcells_at : ∀ (l : List (Int × Nat)) (j : Nat) (h : j < l.length), (stcells l)[j * 2]? = some (.int .i64 l[j].1) ∧ (stcells l)[j * 2 + 1]? = some (.int .u32 (l[j].2 : Nat))
  | p :: r, 0, _ => ⟨rfl, rfl⟩
  | p :: r, j + 1, h => by
    have ih := stcells_at r j (by simpa using h)
    have e : stcells (p :: r) = .int .i64 p.1 :: .int .u32 (p.2 : Nat) :: stcells r := rfl
    rw [e, show (j + 1) * 2 = j * 2 + 1 + 1 by omega]
    simpa using ih
def OwnS (w : World) (base : Nat) (v : Value) (l : List (Int × Nat)) : Prop := w.ownsRow base 72 2 v l.length (stcells l)
def OwnR (w : World) (base : Nat) (v : Value) (l : List (Int × Nat)) : Prop := w.ownsRow base 90 2 v l.length (stcells l)
theorem stAt_of {w : World} {base e c : Nat} {A : Option Addr} {l : List (Int × Nat)} (h : w.ownsRow base e 2 (.slice A l.length c) l.length (stcells l)) (hr : ∀ p ∈ l, p.2 < 4294967296) : StAt w A c l :=
  ⟨own_cap h, fun j hj => by
    obtain ⟨g, cap', e, _, hl, _, hc⟩ := own_form h (by omega)
    have eA : A = some ⟨g, 0, none⟩ := by injection e
    exact ⟨g, eA, hl, hc _ _ (stcells_at l j hj).1, hc _ _ (stcells_at l j hj).2, hr _ (List.getElem_mem hj)⟩⟩
theorem Try.infoSet : (Try.prog.info? 72).map (fun i => (i.zero, i.size, i.bytes)) = some (some (.agg #[.int .i64 0, .int .u32 0]), 2, 16) := by kernel_rfl
theorem Try.infoSetR : (Try.prog.info? 90).map (fun i => (i.zero, i.size, i.bytes)) = some (some (.agg #[.int .i64 0, .int .u32 0]), 2, 16) := by kernel_rfl
/-- rows of unlike types lie in unlike blocks -/
theorem own_apart {w : World} {b1 b2 e1 e2 s1 s2 n1 n2 : Nat} {v1 v2 : Value} {xs1 xs2 : List Value} (h : w.ownsRow b1 e1 s1 v1 n1 xs1) (h' : w.ownsRow b2 e2 s2 v2 n2 xs2) (hne : e1 ≠ e2) : v1.ownBlock = none ∨ v1.ownBlock ≠ v2.ownBlock := by
  rcases h.2 with ⟨hv, _⟩ | ⟨g, cap, cur, hv, _, hg, _⟩
  · left; rw [hv]; rfl
  · right
    rcases h'.2 with ⟨hv', _⟩ | ⟨g', cap', cur', hv', _, hg', _⟩
    · rw [hv, hv']; simp [Value.ownBlock]
    · rw [hv, hv']
      intro e
      have e2 : g = g' := by simpa [Value.ownBlock] using e
      subst e2
      rw [hg] at hg'
      simp only [Option.some.injEq, Obj.cells.injEq] at hg'
      exact hne hg'.2.1
theorem new_two (w : World) (l : List Value) (e : TypeId) (o : Obj) : ∀ j u, l[j]? = some u → ((w.alloc (.cells l.toArray e)).alloc o).cell? ((⟨w.heap.size, 0, none⟩ : Addr).add j) = some u := by
  intro j u hu
  have hadd : (⟨w.heap.size, 0, none⟩ : Addr).add j = ⟨w.heap.size, j, none⟩ := by unfold Addr.add; split <;> simp_all
  rw [World.cell?_alloc_lt _ _ _ (by rw [hadd]; simp)]
  exact cells_new w l e j u hu
theorem new_one (w : World) (o : Obj) (l : List Value) (e : TypeId) : ∀ j u, l[j]? = some u → ((w.alloc o).alloc (.cells l.toArray e)).cell? ((⟨w.heap.size + 1, 0, none⟩ : Addr).add j) = some u := by
  intro j u hu
  have h := cells_new (w.alloc o) l e j u hu
  rwa [show (w.alloc o).heap.size = w.heap.size + 1 by simp] at h
theorem new_far {W w1 : World} {row : Option Nat} {K : Nat} {l : List Value} (hg : W.grownBy w1 row) (hn : ∀ j u, l[j]? = some u → W.cell? ((⟨K, 0, none⟩ : Addr).add j) = some u) (hK : ∀ k, row = some k → k ≠ K) :
    ∀ j u, l[j]? = some u → w1.cell? ((⟨K, 0, none⟩ : Addr).add j) = some u := by
  intro j u hu
  refine hg.cell (hn j u hu) (fun e => hK K ?_ rfl)
  have hadd : ((⟨K, 0, none⟩ : Addr).add j).block = K := by unfold Addr.add; split <;> rfl
  rw [hadd] at e; exact e.symm
/-- append of a set to one of two rows of the call's own, in a region that draws its order: the other stays -/
theorem step_app2 {Pg : Program} {w : World} {ops : Array Oper} {o : Oper} {a : Act} {K : Act → World → Prop} {Q : Exit → Act → World → Prop} {E : Prop} (hgd : o.guard = none) (s x : Operand) (t : TypeId)
    (ho : o.op = .call { callee := .builtin .append, args := #[s, x], argTypes := #[t, t] })
    (base : Nat) (e : TypeId) (i : TypeInfo) (z : Value) (ht : Pg.underlying t = some (.slice e)) (hi : Pg.info? e = some i) (hz : i.zero = some z)
    (hsize : i.size = 2) (hby : i.bytes = 16) (hzs : z.cells.size = 2)
    (v : Value) (n : Nat) (xs : List Value) (hs : a.eval s = v) (hown : w.ownsRow base e 2 v n xs)
    (ad : Addr) (X Y : Int) (hx : a.eval x = .slice (some ad) 1 1) (hnews : ∀ j u, [Value.int .i64 X, Value.int .u32 Y][j]? = some u → w.cell? (ad.add j) = some u)
    (hn : n ≤ 20) (e2 : TypeId) (v2 : Value) (n2 : Nat) (xs2 : List Value) (h2 : w.ownsRow base e2 2 v2 n2 xs2) (hne2 : e2 ≠ e)
    (w0 : World) (hw0 : base = w0.heap.size) (hb : Below base w0 w)
    (h : ∀ v' w', w'.ownsRow base e 2 v' (n + 1) (xs ++ [.int .i64 X, .int .u32 Y]) → w'.ownsRow base e2 2 v2 n2 xs2 → Below base w0 w' → w.grownBy w' v.ownBlock → K (a.put o.dst v') w') :
    if Region.wanted o (yielded ops a.tmps) = true then Oper.wp Pg o a w K Q else E := by
  have hbase : base ≤ w.heap.size := by rw [hw0]; exact hb.size
  refine step_append_lies w hgd s x t ho base e i z 2 16 ht hi hz hsize hby hzs (by omega) v n xs hs hown ad 1 1 [.int .i64 X, .int .u32 Y] hx rfl hnews (by intro u hu; simp at hu; rcases hu with rfl | rfl <;> rfl) (by omega) (by unfold maxLen; omega) (by omega) hbase _ rfl ?_
  intro g cap w1 hown1 hg hat hlt
  exact h _ w1 hown1 (h2.kept hg (own_apart h2 hown hne2)) (hb.grown hg hbase (fun j e => (hown.lt j e).1)) hg
end Go.Proofs.Yteplbbikjcjheaa
