/-
  Package paper: what Fire and Late answer, plainly.
-/
import Derived.Test.YtaoinedndnleoaaGreatPa5
import Derived.Test.YtaoinedndnleoaaGreatSh1b
namespace Go.Proofs.YtaoinedndnleoaaGreat
set_option maxRecDepth 100000
open Go.ChangeShapes Go.WideShapes Go.ChangeAt Go.RowKit

theorem run_keep {c : Ch} {n : Nat} {now : Int} {I : Cf → Prop} (hI : RunInv c n now I) : ∀ (f : Nat) (x : Cf) (out : List Nat) (y : Cf) (l : List Nat), I x → runC c n now f x out = some (y, l) → I y ∧ l.length ≤ out.length + f
  | 0, x, out, y, l, hx, h => by
    unfold runC at h
    split at h
    · injection h with h; injection h with h1 h2; subst h1 h2; exact ⟨hx, Nat.le_refl _⟩
    · cases h
  | f + 1, x, out, y, l, hx, h => by
    unfold runC at h
    split at h
    · injection h with h; injection h with h1 h2; subst h1 h2; exact ⟨hx, by omega⟩
    · rename_i i r e
      have hm : i ∈ enL c x.set 10 [] := by
        rw [← sortD_mem (lvT c)]
        show i ∈ autL c x
        rw [e]; simp
      have h1 := run_keep hI f _ _ _ _ ((hI x hx).2.2 i hm).2 h
      exact ⟨h1.1, by have := h1.2; simp at this; omega⟩
/-- what Fire answers: the document, what was done, the transitions; or an error -/
inductive FiR where
  | err (k : Int)
  | ok (y : Cf) (ds : List Dn) (l : List Int)
def setF (c : Ch) (n : Nat) (x : Cf) (ds : List Dn) (k : Nat) (now : Int) : FiR := match runC c n now 16 (stepC c n now x k) [] with
  | none => .err 10
  | some (y, out) => .ok y ds ((k : Int) :: out.map fun k : Nat => (k : Int))
def FirTo (n : Nat) (nm : ByteArray) (r : FiR) (w : World) (e : Ending) (w' : World) : Prop := Below w.heap.size w w' ∧ match r with
  | .err k => e = .returned (.tuple #[papZ, .slice none 0 0, .iface 50 (.int .i64 k)])
  | .ok y ds l => ∃ g3 gS vD vL, e = .returned (.tuple #[.agg #[.string nm, .int .u32 (y.set : Nat), .slice (some ⟨g3, 0, none⟩) n n, .slice (some ⟨gS, 0, none⟩) n n, vD], vL, .nilIface]) ∧ w.heap.size ≤ g3 ∧ CfR w.heap.size w' n y (.slice (some ⟨g3, 0, none⟩) n n) gS ∧ OwnDn w' w.heap.size vD ds ∧ OwnI w' w.heap.size vL l
end Go.Proofs.YtaoinedndnleoaaGreat
