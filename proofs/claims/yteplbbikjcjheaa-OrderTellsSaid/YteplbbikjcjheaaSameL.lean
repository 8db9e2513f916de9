/-
  A help of the statements: Same, of lists of texts that are alike.
-/
import Derived.Test.YteplbbikjcjheaaList
namespace Go.Proofs.Yteplbbikjcjheaa
set_option maxRecDepth 100000
open Go.ChangeShapes Go.WideShapes Go.ChangeAt Go.RowKit

set_option maxHeartbeats 1000000 in
theorem Same_eq (l : List Tx) (A B : Option Addr) (ca cb : Nat) (w : World) (hl : l.length ≤ 9223372036854775807) (_ha : l.length ≤ ca) (_hb : l.length ≤ cb)
    (h1 : ∀ j (hj : j < l.length), ∃ g, A = some ⟨g, 0, none⟩ ∧ w.cell? ⟨g, j, none⟩ = some (.string (bs l[j]))) (h2 : ∀ j (hj : j < l.length), ∃ g, B = some ⟨g, 0, none⟩ ∧ w.cell? ⟨g, j, none⟩ = some (.string (bs l[j]))) :
    Calls Try.prog 17 #[.slice A l.length ca, .slice B l.length cb] w fun e w' => e = .returned (.bool true) ∧ Below w.heap.size w w' := by
  have H1 := Lib.hid h1
  have H2 := Lib.hid h2
  clear h1 h2
  go_enter Try.func17, Try.ntmps17
  go_wp2
  go_loopw [5] (fun i wr => ∃ k : Nat, k ≤ l.length ∧ i = .int .i64 k ∧ ∃ n, wr = w.drewN n) (fun i _ => l.length - (intOf i).toNat)
  case atStart => exact ⟨0, Nat.zero_le _, rfl, 0, rfl⟩
  case round =>
    obtain ⟨k, hk, rfl, n, rfl⟩ := hrel
    by_cases hlt : k < l.length
    · obtain ⟨g, rfl, x1⟩ := H1.out k hlt
      obtain ⟨g', rfl, x2⟩ := H2.out k hlt
      generalize bs l[k] = X at *
      have hb1 : (X.toList != X.toList) = false := by simp
      go_wp2
      go_quiet (fail)
      go_wp2
      go_roundw
      case rel => exact ⟨k + 1, by omega, by go_num, _, rfl⟩
      case measure => simp [intOf]; omega
    · go_wp2
      go_ret
      exact ⟨rfl, below_drewN (Below.refl _ _) _⟩
theorem Same_at (l : List Tx) (A B : Option Addr) (ca cb : Nat) (w : World) (hl : l.length ≤ 9223372036854775807) (ha : ListAt w A ca l) (hb : ListAt w B cb l) :
    Calls Try.prog 17 #[.slice A l.length ca, .slice B l.length cb] w fun e w' => e = .returned (.bool true) ∧ Below w.heap.size w w' :=
  Same_eq l A B ca cb w hl ha.1 hb.1 (fun j hj => let ⟨g, e, _, hc⟩ := ha.2 j hj; ⟨g, e, hc⟩) (fun j hj => let ⟨g, e, _, hc⟩ := hb.2 j hj; ⟨g, e, hc⟩)
end Go.Proofs.Yteplbbikjcjheaa
