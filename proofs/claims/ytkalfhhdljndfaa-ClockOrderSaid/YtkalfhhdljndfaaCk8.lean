/-
  Package clock: slices.SortFunc of Dues of any number, by the library's own contract.
-/
import Derived.Test.YtkalfhhdljndfaaCk6
import Derived.Test.YtkalfhhdljndfaaSt11
import Derived.Deep.RegionHeld3
import Derived.Test.YtkalfhhdljndfaaShelf4
import Derived.Shelf.SlSortCmp.WholeK
namespace Go.Proofs.Ytkalfhhdljndfaa
set_option maxRecDepth 100000
open Go.ChangeShapes Go.WideShapes Go.ChangeAt Go.RowKit Go.Shelf Go.Sort

def encD (x : DueT) : List Value := dcell x.1 x.2.1 x.2.2
theorem cmp_lays (blk off size : Nat) (w : World) : CmpLays Try.prog 11 #[] encD 3 cfD blk off size w := fun _ _ _ _ x y =>
  (compare_any x.1 y.1 x.2.2 y.2.2 (bs x.2.1) (bs y.2.1) _).mono fun _ _ ⟨he, hw⟩ => ⟨by rw [he, bsL, bsL]; rfl, hw⟩
theorem sort_call (blk cap : Nat) (d : Array DueT) (w : World) (hH : HoldsK encD 3 w blk 0 d) (hblk : blk < w.heap.size) (hsz : d.size ≤ 1000) :
    Calls Try.prog 10 #[.slice (some ⟨blk, 0, none⟩) d.size cap, .func (.func 11) #[] #[]] w fun e w' => e = .returned (.tuple #[]) ∧ ∃ d' n os, PermIn 0 d.size d d' ∧ SortedIn ltB 0 d.size d' ∧ w' = sortWorldK encD 3 w blk 0 n d' os := by
  have eg : ∀ args w, (callFunc 11 args).run Try.prog w = .ok (.enter 11 args) w := enters_of Try.func11 (by kernel_rfl) rfl
  exact AnyQ.slices_SortFunc Try.sortDue 3 (fun w => by kernel_rfl) (fun w => by kernel_rfl) encD (fun _ => rfl) (fun x v hv => dcell_one _ _ _ v hv) cfD ltB_swo 11 #[] blk 0 cap d w eg (cmp_lays blk 0 d.size w) hH hblk (by omega)
end Go.Proofs.Ytkalfhhdljndfaa
