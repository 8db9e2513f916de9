/-
  keep.Same of two equal lists of Dues.
-/
import Derived.Test.YtkalfhhdljndfaaCk9
import Derived.Test.YtkalfhhdljndfaaCkD
import Derived.Deep.RegionHeld3
import Derived.Deep.RegionLawGrows
import Derived.Deep.AppendLies
import Derived.Deep.Upon
import Derived.BigQuiet
namespace Go.Proofs.Ytkalfhhdljndfaa
set_option maxRecDepth 100000
open Go.ChangeShapes Go.WideShapes Go.ChangeAt Go.RowKit

set_option maxHeartbeats 2000000 in
theorem SameD_any (l : List DueT) (A B : Option Addr) (ca cb : Nat) (w : World) (hl : l.length ≤ 1000)
    (h1 : 0 < l.length → ∃ g, A = some ⟨g, 0, none⟩ ∧ DAt w g l) (h2 : 0 < l.length → ∃ g, B = some ⟨g, 0, none⟩ ∧ DAt w g l) :
    Calls Try.prog 6 #[.slice A l.length ca, .slice B l.length cb] w fun e w' => e = .returned (.bool true) ∧ Below w.heap.size w w' := by
  have H1 := Lib.hid h1
  have H2 := Lib.hid h2
  clear h1 h2
  go_enter Try.func6, Try.ntmps6
  go_wp2
  go_loopw [5] (fun i wr => ∃ k : Nat, k ≤ l.length ∧ i = .int .i64 k ∧ ∃ n, wr = w.drewN n) (fun i _ => l.length - (intOf i).toNat)
  case atStart => exact ⟨0, Nat.zero_le _, rfl, 0, rfl⟩
  case round =>
    obtain ⟨k, hk, rfl, n, rfl⟩ := hrel
    by_cases hlt : k < l.length
    · obtain ⟨g, rfl, hd⟩ := H1.out (by omega)
      obtain ⟨g', rfl, hd'⟩ := H2.out (by omega)
      obtain ⟨a0, a1, a2⟩ := hd.2 k hlt
      obtain ⟨b0, b1, b2⟩ := hd'.2 k hlt
      generalize l[k] = x at *
      obtain ⟨xt, xd, xi⟩ := x
      simp only at a0 a1 a2 b0 b1 b2
      generalize bs xd = X at *
      have hb1 : (X.toList != X.toList) = false := by simp
      clear hd hd' H1 H2
      go_wp2
      go_quiet (fail)
      go_wp2
      go_roundw
      case rel => exact ⟨k + 1, by omega, by go_num, _, rfl⟩
      case measure => simp [intOf]; omega
    · go_wp2
      go_ret
      exact ⟨rfl, below_drewN (Below.refl _ _) _⟩
end Go.Proofs.Ytkalfhhdljndfaa
