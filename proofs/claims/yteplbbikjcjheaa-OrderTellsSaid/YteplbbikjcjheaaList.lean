/-
  Lists of texts in cells.
-/
import Derived.Test.YteplbbikjcjheaaBase
namespace Go.Proofs.Yteplbbikjcjheaa
set_option maxRecDepth 100000
open Go.ChangeShapes Go.WideShapes Go.ChangeAt Go.RowKit

abbrev Tx := List UInt8
def scells (l : List Tx) : List Value := l.map fun t => .string (bs t)
theorem Try.infoString : (Try.prog.info? 9).map (fun i => (i.zero, i.size, i.bytes)) = some (some (.string ⟨#[]⟩), 1, 16) := by kernel_rfl
/-- a list of names in memory of the call's own (base: what was there when it began) -/
def OwnL (w : World) (base : Nat) (v : Value) (l : List Tx) : Prop := w.ownsRow base 9 1 v l.length (scells l)
theorem own_ne {w : World} {base b : Nat} {v : Value} {l : List Tx} (h : OwnL w base v l) (hb : b < base) : v.ownBlock = none ∨ v.ownBlock ≠ some b := by
  right; intro e; have := (h.lt b e).1; omega
theorem strSl_of {w : World} {base : Nat} {A : Option Addr} {c : Nat} {l : List Tx} (h : OwnL w base (.slice A l.length c) l) : l.length ≤ c ∧ ∀ j (hj : j < l.length), ∃ g, A = some ⟨g, 0, none⟩ ∧ base ≤ g ∧ g < w.heap.size ∧ w.cell? ⟨g, j, none⟩ = some (.string (bs l[j])) := by
  by_cases h0 : 0 < l.length
  · obtain ⟨g, cap, hv, hb, hl, hc, hcells⟩ := own_form h h0
    cases hv
    exact ⟨hc, fun j hj => ⟨g, rfl, hb, hl, hcells j _ (by simp [scells, hj])⟩⟩
  · exact ⟨by omega, fun j hj => by omega⟩
/-- a list's cells, wherever they lie -/
def ListAt (w : World) (A : Option Addr) (c : Nat) (l : List Tx) : Prop := l.length ≤ c ∧ ∀ j (hj : j < l.length), ∃ g, A = some ⟨g, 0, none⟩ ∧ g < w.heap.size ∧ w.cell? ⟨g, j, none⟩ = some (.string (bs l[j]))
theorem ListAt.below {w w' : World} {A : Option Addr} {c : Nat} {l : List Tx} (h : ListAt w A c l) (hb : Below w.heap.size w w') : ListAt w' A c l :=
  ⟨h.1, fun j hj => let ⟨g, e, hl, hc⟩ := h.2 j hj; ⟨g, e, Nat.lt_of_lt_of_le hl hb.size, (hb.cell hl).trans hc⟩⟩
theorem listAt_of {w : World} {base : Nat} {A : Option Addr} {c : Nat} {l : List Tx} (h : OwnL w base (.slice A l.length c) l) : ListAt w A c l :=
  ⟨(strSl_of h).1, fun j hj => let ⟨g, e, _, hl, hc⟩ := (strSl_of h).2 j hj; ⟨g, e, hl, hc⟩⟩
end Go.Proofs.Yteplbbikjcjheaa
