/-
  Lists of integers and shapes that are written out in one statement: what each operation makes.
-/
import Derived.Test.YtechijfckmfoaaaSh8
import Derived.Test.YtechijfckmfoaaaReg2
import Derived.Laws.MakeOwn
namespace Go.Proofs.Ytechijfckmfoaaa
set_option maxRecDepth 100000
open Go.ChangeShapes Go.WideShapes Go.ChangeAt Go.RowKit

/-- what is told of a value -/
inductive Sp where
  | ints (l : List Int)
  | shp (ks ps : List Int)
  | int (x : Int)
  | all (L : List (List Int × List Int))
def ShpV (w : World) (u1 u2 : Value) (ks ps : List Int) : Prop := ∃ A c B d, u1 = .slice A ks.length c ∧ u2 = .slice B ps.length d ∧ IntsAt w (.slice A ks.length c) ks ∧ IntsAt w (.slice B ps.length d) ps
theorem ShpV.below {w w' : World} {u1 u2 : Value} {ks ps : List Int} (h : ShpV w u1 u2 ks ps) (hb : Below w.heap.size w w') : ShpV w' u1 u2 ks ps :=
  let ⟨A, c, B, d, e1, e2, h1, h2⟩ := h
  ⟨A, c, B, d, e1, e2, h1.below hb, h2.below hb⟩
def spSem (s : Sp) (v : Value) (w : World) : Prop := match s with
  | .ints l => IntsAt w v l
  | .shp ks ps => ∃ u1 u2, v = .agg #[u1, u2] ∧ ShpV w u1 u2 ks ps
  | .int x => v = .int .i64 x
  | .all L => ∃ g, v = .slice (some ⟨g, 0, none⟩) L.length L.length ∧ g < w.heap.size ∧ ∀ j (h : j < L.length), ∃ u1 u2, w.cell? ⟨g, j * 2, none⟩ = some u1 ∧ w.cell? ⟨g, j * 2 + 1, none⟩ = some u2 ∧ ShpV w u1 u2 L[j].1 L[j].2
theorem spSem_mono (s : Sp) (v : Value) (w w' : World) (h : spSem s v w) (hb : Below w.heap.size w w') : spSem s v w' := by
  cases s with
  | ints l => exact IntsAt.below h hb
  | shp ks ps =>
    obtain ⟨u1, u2, e, h⟩ := h
    exact ⟨u1, u2, e, h.below hb⟩
  | int x => exact h
  | all L =>
    obtain ⟨g, e, hg, h⟩ := h
    refine ⟨g, e, Nat.lt_of_lt_of_le hg hb.size, fun j hj => ?_⟩
    obtain ⟨u1, u2, c1, c2, h⟩ := h j hj
    exact ⟨u1, u2, (hb.cell (p := ⟨g, j * 2, none⟩) hg).trans c1, (hb.cell (p := ⟨g, j * 2 + 1, none⟩) hg).trans c2, h.below hb⟩
theorem run_bs1 (x : Int) (w : World) : (Instr.buildSlice 23 1 #[(0, .int .i64 x)]).run Try.prog w = .ok (.slice (some ⟨w.heap.size, 0, none⟩) 1 1) (w.alloc (.cells #[.int .i64 x] 3)) := by kernel_rfl
theorem run_bs2 (x y : Int) (w : World) : (Instr.buildSlice 23 2 #[(0, .int .i64 x), (1, .int .i64 y)]).run Try.prog w = .ok (.slice (some ⟨w.heap.size, 0, none⟩) 2 2) (w.alloc (.cells #[.int .i64 x, .int .i64 y] 3)) := by kernel_rfl
theorem run_bs3 (x y z : Int) (w : World) : (Instr.buildSlice 23 3 #[(0, .int .i64 x), (1, .int .i64 y), (2, .int .i64 z)]).run Try.prog w = .ok (.slice (some ⟨w.heap.size, 0, none⟩) 3 3) (w.alloc (.cells #[.int .i64 x, .int .i64 y, .int .i64 z] 3)) := by kernel_rfl
theorem run_bs4 (x y z u : Int) (w : World) : (Instr.buildSlice 23 4 #[(0, .int .i64 x), (1, .int .i64 y), (2, .int .i64 z), (3, .int .i64 u)]).run Try.prog w = .ok (.slice (some ⟨w.heap.size, 0, none⟩) 4 4) (w.alloc (.cells #[.int .i64 x, .int .i64 y, .int .i64 z, .int .i64 u] 3)) := by kernel_rfl
theorem run_b2 (A B : Option Addr) (n c m d : Nat) (w : World) : (Instr.build 25 #[(0, .slice A n c), (1, .slice B m d)]).run Try.prog w = .ok (.agg #[.slice A n c, .slice B m d]) w := by kernel_rfl
theorem run_b1 (A : Option Addr) (n c : Nat) (w : World) : (Instr.build 25 #[(0, .slice A n c)]).run Try.prog w = .ok (.agg #[.slice A n c, .slice none 0 0]) w := by kernel_rfl
theorem run_b0 (w : World) : (Instr.build 25 #[]).run Try.prog w = .ok (.agg #[.slice none 0 0, .slice none 0 0]) w := by kernel_rfl
theorem run_mk25 (w : World) : (Instr.makeSlice 23 (.int .i64 25) (.int .i64 25)).run Try.prog w = .ok (.slice (some ⟨w.heap.size, 0, none⟩) 25 25) (w.alloc (.cells (Array.replicate 25 (.int .i64 0)) 3)) := by kernel_rfl
/-- a list in a block that has just been laid -/
theorem ints_laid (w : World) (l : List Int) (hw : okI l) (hl : l.length ≤ 1000) : IntsAt (w.alloc (.cells (icells l).toArray 3)) (.slice (some ⟨w.heap.size, 0, none⟩) l.length l.length) l :=
  ⟨_, _, rfl, by unfold maxLen; omega, fun k hk => ⟨_, 0, rfl, by simp, by
    rw [Nat.zero_add, cell_of_row _ _ _ _ _ _ (heap_alloc_new w _)]
    simp [icells, hk], hw _ (List.getElem_mem hk)⟩⟩
theorem ints_nil (w : World) : IntsAt w (.slice none 0 0) [] := ⟨none, 0, rfl, Nat.zero_le _, fun k hk => by simp at hk⟩
section
variable {o : Oper} {a : Act} {w : World}
def Made (P : Program) (o : Oper) (a : Act) (w : World) (s : Sp) : Prop := ∃ v w', (execOp a.eval o).run P w = .ok (.value v) w' ∧ spSem s v w' ∧ Below w.heap.size w w'
theorem st_bs1 (X : Operand) (x : Int) (hop : o.op = .buildSlice 23 1 #[(0, X)]) (hx : a.eval X = .int .i64 x) (hw : (Lit.int .i64 x).wf = true) : Made Try.prog o a w (.ints [x]) :=
  ⟨_, _, by simp [execOp, hop, hx, run_bs1, Result.andThen] <;> rfl, ints_laid w [x] (fun y hy => by rw [List.mem_singleton.1 hy]; exact hw) (by simp), box_b w _⟩
theorem st_bs2 (X Y : Operand) (x y : Int) (hop : o.op = .buildSlice 23 2 #[(0, X), (1, Y)]) (hx : a.eval X = .int .i64 x) (hy : a.eval Y = .int .i64 y) (hw : okI [x, y]) : Made Try.prog o a w (.ints [x, y]) :=
  ⟨_, _, by simp [execOp, hop, hx, hy, run_bs2, Result.andThen] <;> rfl, ints_laid w [x, y] hw (by simp), box_b w _⟩
theorem st_bs3 (X Y Z : Operand) (x y z : Int) (hop : o.op = .buildSlice 23 3 #[(0, X), (1, Y), (2, Z)]) (hx : a.eval X = .int .i64 x) (hy : a.eval Y = .int .i64 y) (hz : a.eval Z = .int .i64 z) (hw : okI [x, y, z]) : Made Try.prog o a w (.ints [x, y, z]) :=
  ⟨_, _, by simp [execOp, hop, hx, hy, hz, run_bs3, Result.andThen] <;> rfl, ints_laid w [x, y, z] hw (by simp), box_b w _⟩
theorem st_bs4 (X Y Z U : Operand) (x y z u : Int) (hop : o.op = .buildSlice 23 4 #[(0, X), (1, Y), (2, Z), (3, U)]) (hx : a.eval X = .int .i64 x) (hy : a.eval Y = .int .i64 y) (hz : a.eval Z = .int .i64 z) (hu : a.eval U = .int .i64 u) (hw : okI [x, y, z, u]) : Made Try.prog o a w (.ints [x, y, z, u]) :=
  ⟨_, _, by simp [execOp, hop, hx, hy, hz, hu, run_bs4, Result.andThen] <;> rfl, ints_laid w [x, y, z, u] hw (by simp), box_b w _⟩
theorem st_b0 (hop : o.op = .build 25 #[]) : Made Try.prog o a w (.shp [] []) :=
  ⟨_, _, by simp [execOp, hop, run_b0, Result.andThen] <;> rfl, ⟨_, _, rfl, none, 0, none, 0, rfl, rfl, ints_nil w, ints_nil w⟩, Below.refl _ _⟩
theorem st_b1 (X : Operand) {u : Value} {ks : List Int} (hop : o.op = .build 25 #[(0, X)]) (hx : a.eval X = u) (h : spSem (.ints ks) u w) : Made Try.prog o a w (.shp ks []) := by
  obtain ⟨A, c, rfl⟩ := ints_form h
  exact ⟨_, _, by simp [execOp, hop, hx, run_b1, Result.andThen] <;> rfl, ⟨_, _, rfl, A, c, none, 0, rfl, rfl, h, ints_nil w⟩, Below.refl _ _⟩
theorem st_b2 (X Y : Operand) {u v : Value} {ks ps : List Int} (hop : o.op = .build 25 #[(0, X), (1, Y)]) (hx : a.eval X = u) (hy : a.eval Y = v) (h : spSem (.ints ks) u w) (h' : spSem (.ints ps) v w) : Made Try.prog o a w (.shp ks ps) := by
  obtain ⟨A, c, rfl⟩ := ints_form h
  obtain ⟨B, d, rfl⟩ := ints_form h'
  exact ⟨_, _, by simp [execOp, hop, hx, hy, run_b2, Result.andThen] <;> rfl, ⟨_, _, rfl, A, c, B, d, rfl, rfl, h, h'⟩, Below.refl _ _⟩
theorem st_mk (hop : o.op = .makeSlice 23 (.const (.int .i64 25)) (.const (.int .i64 25))) : Made Try.prog o a w (.ints (List.replicate 25 0)) :=
  ⟨_, _, by simp [execOp, hop, Act.eval, run_mk25, Result.andThen] <;> rfl, ints_laid w (List.replicate 25 0) (fun y hy => by rw [List.eq_of_mem_replicate hy]; decide +kernel) (by simp), box_b w _⟩
theorem st_move (X : Operand) (x : Int) (hop : o.op = .move X) (hx : a.eval X = .int .i64 x) : Made Try.prog o a w (.int x) :=
  ⟨_, _, by simp [execOp, hop, hx] <;> rfl, rfl, Below.refl _ _⟩
theorem op_of {ops : Array Oper} {i : Nat} {X : Op} (ho : ops[i]? = some o) (h : (ops[i]?).map (·.op) = some X) : o.op = X := by
  rw [ho] at h; exact Option.some.inj h
theorem dep_of {ops : Array Oper} {i : Nat} (j : Nat) {d0 : Nat} {spec : Nat → Value → World → Prop} (ho : ops[i]? = some o) (hdep : ∀ e ∈ o.after.toList, Region.binds .any e = true → ∃ v, a.tmps[d0 + e.on]? = some v ∧ spec e.on v w)
    (h : (ops[i]?).any (fun o => o.after.any fun e => Region.binds .any e && e.on == j) = true) : ∃ v, a.tmps[d0 + j]? = some v ∧ spec j v w := by
  rw [ho] at h
  simp only [Option.any_some, Array.any_eq_true'] at h
  obtain ⟨e, he, h⟩ := h
  rw [Bool.and_eq_true, beq_iff_eq] at h
  obtain ⟨hb, rfl⟩ := h
  exact hdep e (by simpa using he) hb
theorem ev_tmp {t : Nat} {v : Value} (h : a.tmps[t]? = some v) : a.eval (.tmp t) = v := by
  show a.tmps.getD t undef = v
  rw [Array.getD_eq_getD_getElem?, h]; rfl
end
end Go.Proofs.Ytechijfckmfoaaa
