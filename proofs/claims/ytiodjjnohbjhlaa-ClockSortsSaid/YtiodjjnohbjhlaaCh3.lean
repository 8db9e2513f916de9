/-
  Lists of integers of the call's own; the help Copy, of integers.
-/
import Derived.Test.YtiodjjnohbjhlaaArgI
import Derived.Deep.AppendLies
namespace Go.Proofs.Ytiodjjnohbjhlaa
set_option maxRecDepth 100000
open Go.ChangeShapes Go.WideShapes Go.ChangeAt Go.RowKit

def okI (l : List Int) : Prop := ∀ x ∈ l, (Lit.int .i64 x).wf = true
theorem icells_at (l : List Int) (j : Nat) (h : j < l.length) : (icells l)[j]? = some (.int .i64 l[j]) := by simp [icells, h]
theorem ints_of_own {w : World} {base c : Nat} {A : Option Addr} {l : List Int} (h : OwnI w base (.slice A l.length c) l) (ho : okI l) (hl : l.length ≤ 1000) : IntsAt w (.slice A l.length c) l := by
  refine ⟨A, c, rfl, by unfold maxLen; omega, fun k hk => ?_⟩
  obtain ⟨g, cap', e, _, hg, _, hc⟩ := own_form h (by omega)
  have eA : A = some ⟨g, 0, none⟩ := by injection e
  exact ⟨g, 0, eA, hg, by rw [Nat.zero_add]; exact hc _ _ (icells_at l k hk), ho _ (List.getElem_mem hk)⟩
end Go.Proofs.Ytiodjjnohbjhlaa
/-
  Package chart: what is made of rules, in memory: names, kinds, parents, transitions in blocks of their own.
-/
namespace Go.Proofs.Ytiodjjnohbjhlaa
set_option maxRecDepth 100000
open Go.ChangeShapes Go.WideShapes Go.ChangeAt Go.RowKit

def tcell (t : Tr) : List Value := [.int .i64 t.kind, .int .i64 t.from_, .int .i64 t.to_, .string (bs t.event), .string (bs t.perm), .string (bs t.task), .int .i64 t.time]
end Go.Proofs.Ytiodjjnohbjhlaa
