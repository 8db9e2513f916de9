/-
  Lists of texts in cells.
-/
import Derived.Test.YtnnmjmjbfeoggaaGreatDoorWth
import Derived.Maps.OwnSet
namespace Go.Proofs.YtnnmjmjbfeoggaaGreatDoor
set_option maxRecDepth 100000
open Go.ChangeShapes Go.WideShapes Go.ChangeAt Go.RowKit

abbrev Tx := List UInt8
def scells (l : List Tx) : List Value := l.map fun t => .string (bs t)
theorem Tryz.infoString : (Tryz.prog.info? 9).map (fun i => (i.zero, i.size, i.bytes)) = some (some (.string ⟨#[]⟩), 1, 16) := by kernel_rfl
/-- a list of names in memory of the call's own (base: what was there when it began) -/
def OwnL (w : World) (base : Nat) (v : Value) (l : List Tx) : Prop := w.ownsRow base 9 1 v l.length (scells l)
theorem own_ne {w : World} {base b : Nat} {v : Value} {l : List Tx} (h : OwnL w base v l) (hb : b < base) : v.ownBlock = none ∨ v.ownBlock ≠ some b := by
  right; intro e; have := (h.lt b e).1; omega
theorem strSl_of {w : World} {base : Nat} {A : Option Addr} {c : Nat} {l : List Tx} (h : OwnL w base (.slice A l.length c) l) : l.length ≤ c ∧ ∀ j (hj : j < l.length), ∃ g, A = some ⟨g, 0, none⟩ ∧ base ≤ g ∧ g < w.heap.size ∧ w.cell? ⟨g, j, none⟩ = some (.string (bs l[j])) := by
  by_cases h0 : 0 < l.length
  · obtain ⟨g, cap, hv, hb, hl, hc, hcells⟩ := own_form h h0
    cases hv
    exact ⟨hc, fun j hj => ⟨g, rfl, hb, hl, hcells j _ (by simp [scells, hj])⟩⟩
  · exact ⟨by omega, fun j hj => by omega⟩
/-- a list's cells, wherever they lie -/
def ListAt (w : World) (A : Option Addr) (c : Nat) (l : List Tx) : Prop := l.length ≤ c ∧ ∀ j (hj : j < l.length), ∃ g, A = some ⟨g, 0, none⟩ ∧ g < w.heap.size ∧ w.cell? ⟨g, j, none⟩ = some (.string (bs l[j]))
theorem ListAt.below {w w' : World} {A : Option Addr} {c : Nat} {l : List Tx} (h : ListAt w A c l) (hb : Below w.heap.size w w') : ListAt w' A c l :=
  ⟨h.1, fun j hj => let ⟨g, e, hl, hc⟩ := h.2 j hj; ⟨g, e, Nat.lt_of_lt_of_le hl hb.size, (hb.cell hl).trans hc⟩⟩
theorem listAt_of {w : World} {base : Nat} {A : Option Addr} {c : Nat} {l : List Tx} (h : OwnL w base (.slice A l.length c) l) : ListAt w A c l :=
  ⟨(strSl_of h).1, fun j hj => let ⟨g, e, _, hl, hc⟩ := (strSl_of h).2 j hj; ⟨g, e, hl, hc⟩⟩
end Go.Proofs.YtnnmjmjbfeoggaaGreatDoor
namespace Go.Proofs.YtnnmjmjbfeoggaaGreatDoor
set_option maxRecDepth 100000
open Go.ChangeShapes Go.WideShapes Go.ChangeAt Go.RowKit Go.Maps Go.WideMaps Go.ChangeMaps

theorem makeMap_hint (t k e : TypeId) (n : Int) (ht : Tryz.prog.underlying t = some (.map k e)) (w : World) : (Instr.makeMap t (some (.int .i64 n))).run Tryz.prog w = .ok (.map (some w.heap.size)) (w.alloc (.map #[] 0)) := by
  simp [Instr.makeMap, run_underlying ht, asInt]
  rfl
theorem makeMap_none (t k e : TypeId) (_ht : Tryz.prog.underlying t = some (.map k e)) (w : World) : (Instr.makeMap t none).run Tryz.prog w = .ok (.map (some w.heap.size)) (w.alloc (.map #[] 0)) := by
  simp [Instr.makeMap]
theorem Tryz.lawS : Keyed Tryz.prog 9 := string_keyed Tryz.underlying9
theorem Tryz.zeroU (w : World) : (zeroValue 246).run Tryz.prog w = .ok (.agg #[]) w := by kernel_rfl
def setL (seen : List Tx) : DataW Unit := setOf (.agg []) (seen.map Lit.string)
theorem has_setL (seen : List Tx) (t : Tx) : Maps.has (setL seen) (.string t) = decide (t ∈ seen) := by
  unfold setL
  rw [has_setOf _ _ _ (by intro x hx; simp at hx; obtain ⟨y, _, rfl⟩ := hx; exact trivial), List.any_map]
  induction seen with
  | nil => rfl
  | cons a l ih =>
    rw [List.any_cons, ih]
    simp only [Function.comp, Lit.sameKey, List.mem_cons]
    by_cases h : a = t
    · subst h; simp
    · have h' : ¬ t = a := fun e => h e.symm
      have hb : (a == t) = false := by simpa using h
      rw [hb]; simp [h']
theorem setL_snoc (seen : List Tx) (t : Tx) : setL (seen ++ [t]) = (setL seen).put (.string t) (.agg []) := by
  unfold setL; rw [List.map_append]; exact setOf_snoc _ _ _
end Go.Proofs.YtnnmjmjbfeoggaaGreatDoor
namespace Go.Proofs.YtnnmjmjbfeoggaaGreatDoor
set_option maxRecDepth 100000
open Go.ChangeShapes Go.WideShapes Go.ChangeAt Go.RowKit

set_option maxHeartbeats 1000000 in
theorem Same_eq (l : List Tx) (A B : Option Addr) (ca cb : Nat) (w : World) (hl : l.length ≤ 9223372036854775807) (_ha : l.length ≤ ca) (_hb : l.length ≤ cb)
    (h1 : ∀ j (hj : j < l.length), ∃ g, A = some ⟨g, 0, none⟩ ∧ w.cell? ⟨g, j, none⟩ = some (.string (bs l[j]))) (h2 : ∀ j (hj : j < l.length), ∃ g, B = some ⟨g, 0, none⟩ ∧ w.cell? ⟨g, j, none⟩ = some (.string (bs l[j]))) :
    Calls Tryz.prog 99 #[.slice A l.length ca, .slice B l.length cb] w fun e w' => e = .returned (.bool true) ∧ Below w.heap.size w w' := by
  have H1 := Lib.hid h1
  have H2 := Lib.hid h2
  clear h1 h2
  go_enter Tryz.func99, Tryz.ntmps99
  go_wp2
  go_loopw [5] (fun i wr => ∃ k : Nat, k ≤ l.length ∧ i = .int .i64 k ∧ ∃ n, wr = w.drewN n) (fun i _ => l.length - (intOf i).toNat)
  case atStart => exact ⟨0, Nat.zero_le _, rfl, 0, rfl⟩
  case round =>
    obtain ⟨k, hk, rfl, n, rfl⟩ := hrel
    by_cases hlt : k < l.length
    · obtain ⟨g, rfl, x1⟩ := H1.out k hlt
      obtain ⟨g', rfl, x2⟩ := H2.out k hlt
      generalize bs l[k] = X at *
      have hb1 : (X.toList != X.toList) = false := by simp
      go_wp2
      go_quiet (fail)
      go_wp2
      go_roundw
      case rel => exact ⟨k + 1, by omega, by go_num, _, rfl⟩
      case measure => simp [intOf]; omega
    · go_wp2
      go_ret
      exact ⟨rfl, below_drewN (Below.refl _ _) _⟩
theorem Same_at (l : List Tx) (A B : Option Addr) (ca cb : Nat) (w : World) (hl : l.length ≤ 9223372036854775807) (ha : ListAt w A ca l) (hb : ListAt w B cb l) :
    Calls Tryz.prog 99 #[.slice A l.length ca, .slice B l.length cb] w fun e w' => e = .returned (.bool true) ∧ Below w.heap.size w w' :=
  Same_eq l A B ca cb w hl ha.1 hb.1 (fun j hj => let ⟨g, e, _, hc⟩ := ha.2 j hj; ⟨g, e, hc⟩) (fun j hj => let ⟨g, e, _, hc⟩ := hb.2 j hj; ⟨g, e, hc⟩)
end Go.Proofs.YtnnmjmjbfeoggaaGreatDoor
