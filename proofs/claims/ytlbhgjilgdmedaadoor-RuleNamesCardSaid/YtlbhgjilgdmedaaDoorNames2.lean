/-
  rule.Print at the rules of RuleNames.
-/
import Derived.Test.YtlbhgjilgdmedaaDoorNames0c
import Derived.Test.YtlbhgjilgdmedaaDoorPrint
import Derived.Test.YtlbhgjilgdmedaaDoorLw1
import Derived.Test.YtlbhgjilgdmedaaDoorLw2
import Derived.Test.YtlbhgjilgdmedaaDoorLw3
import Derived.Test.YtlbhgjilgdmedaaDoorLw5
import Derived.Test.YtlbhgjilgdmedaaDoorLw6
namespace Go.Proofs.YtlbhgjilgdmedaaDoor
set_option maxRecDepth 100000
open Go.ChangeShapes Go.WideShapes Go.ChangeAt Go.RowKit

theorem lAt_cells {w : World} {A : Option Addr} {c : Nat} {l : List Tx} (h : LAt w A c l) (h0 : 0 < l.length) : ∃ g off, A = some ⟨g, off, none⟩ ∧ g < w.heap.size ∧ ∀ j (hj : j < l.length), w.cell? ⟨g, off + j, none⟩ = some (.string (bs l[j])) := by
  obtain ⟨g, off, rfl, hg, _⟩ := h.2.2 0 h0
  refine ⟨g, off, rfl, hg, fun j hj => ?_⟩
  obtain ⟨g', off', e, _, hc⟩ := h.2.2 j hj
  cases e; exact hc
theorem itoa_small (i : Nat) (t : Tx) (hi : i < 100) (ht : Lib.decDigits i = t) (n : Int) (hn : n = i) (w : World) : ∀ W, Below w.heap.size w W → Calls Tryd.prog 49 #[.int .i64 n] W fun e w' => e = .returned (.string (bs t)) ∧ Below W.heap.size W w' := by
  subst ht; subst hn
  intro W _
  exact (Tryd.strconv_Itoa_small i hi W).mono fun e w' h => ⟨h.1, by rw [h.2]; exact Below.refl _ _⟩
theorem num_le {t : Tx} (h : isNum t = true) : t.length ≤ 9 := by
  simp only [isNum, Bool.and_eq_true, decide_eq_true_eq] at h
  exact h.1.1.2

theorem pr_role {x y z d : Tx} {v : Int} (h : NamesH x y z d v) (A : Option Addr) (ca : Nat) (w : World) (hla : LAt w A ca [y, z]) : Calls Tryd.prog 13 #[.agg #[.int .i64 1, .string (bs x), .slice A 2 ca, .int .i64 0, .int .i64 0, .string (bs []), .string (bs []), .string (bs []), .string (bs []), .string (bs []), .int .i64 0]] w fun e w' => e = .returned (.tuple #[.string (bs (joinP [[114, 111, 108, 101], x, [62], y, z])), .nilIface]) ∧ Below w.heap.size w w' := by
  have hp := rp_role h
  obtain ⟨hx, hy, hz, xy, xz, yz, hd, hv, v1, v2⟩ := h
  have lx := nameL_le hx; have ly := nameL_le hy; have lz := nameL_le hz; have ld := num_le hd
  refine print_ok 1 x [y, z] 0 0 [] [] [] [] [] A ca 0 [[114, 111, 108, 101], x, [62], y, z] w hla (fun X hX => by
    obtain ⟨g, off, rfl, hg, hc⟩ := lAt_cells (hla.below hX) (by simp)
    exact lw_roleS x [] [] [] [] [] 0 0 0 g off ca [y, z] X hg hc (by simp) (by simp)) (by simp) (by simp) (by simp [join_cons2, join_one]; omega) hp

theorem pr_user {x y z d : Tx} {v : Int} (h : NamesH x y z d v) (A : Option Addr) (ca : Nat) (w : World) (hla : LAt w A ca [y]) : Calls Tryd.prog 13 #[.agg #[.int .i64 2, .string (bs x), .slice A 1 ca, .int .i64 0, .int .i64 0, .string (bs []), .string (bs []), .string (bs []), .string (bs []), .string (bs []), .int .i64 0]] w fun e w' => e = .returned (.tuple #[.string (bs (joinP [[117, 115, 101, 114], x, y])), .nilIface]) ∧ Below w.heap.size w w' := by
  have hp := rp_user h
  obtain ⟨hx, hy, hz, xy, xz, yz, hd, hv, v1, v2⟩ := h
  have lx := nameL_le hx; have ly := nameL_le hy; have lz := nameL_le hz; have ld := num_le hd
  refine print_ok 2 x [y] 0 0 [] [] [] [] [] A ca 0 [[117, 115, 101, 114], x, y] w hla (fun X hX => by
    obtain ⟨g, off, rfl, hg, hc⟩ := lAt_cells (hla.below hX) (by simp)
    exact lw_user2S x [] [] [] [] [] 0 0 0 g off ca [y] X hg hc (by simp)) (by simp) (by simp) (by simp [join_cons2, join_one]; omega) hp

theorem pr_perm {x y z d : Tx} {v : Int} (h : NamesH x y z d v) (w : World) : Calls Tryd.prog 13 #[.agg #[.int .i64 3, .string (bs x), .slice none 0 0, .int .i64 0, .int .i64 0, .string (bs []), .string (bs []), .string (bs []), .string (bs []), .string (bs []), .int .i64 0]] w fun e w' => e = .returned (.tuple #[.string (bs (joinP [[112, 101, 114, 109], x])), .nilIface]) ∧ Below w.heap.size w w' := by
  have hp := rp_perm h
  obtain ⟨hx, hy, hz, xy, xz, yz, hd, hv, v1, v2⟩ := h
  have lx := nameL_le hx; have ly := nameL_le hy; have lz := nameL_le hz; have ld := num_le hd
  refine print_ok 3 x [] 0 0 [] [] [] [] [] none 0 0 [[112, 101, 114, 109], x] w ⟨Nat.le_refl _, by simp, fun j hj => by simp at hj⟩ (fun X hX => by
    exact lw_user3N x [] [] [] [] [] 0 0 0 X) (by simp) (by simp) (by simp [join_cons2, join_one]; omega) hp

theorem pr_ssd {x y z d : Tx} {v : Int} (h : NamesH x y z d v) (A : Option Addr) (ca : Nat) (w : World) (hla : LAt w A ca [x, y]) : Calls Tryd.prog 13 #[.agg #[.int .i64 4, .string (bs []), .slice A 2 ca, .int .i64 2, .int .i64 0, .string (bs []), .string (bs []), .string (bs []), .string (bs []), .string (bs []), .int .i64 0]] w fun e w' => e = .returned (.tuple #[.string (bs (joinP [[115, 115, 100], [50], x, y])), .nilIface]) ∧ Below w.heap.size w w' := by
  have hp := rp_ssd h
  obtain ⟨hx, hy, hz, xy, xz, yz, hd, hv, v1, v2⟩ := h
  have lx := nameL_le hx; have ly := nameL_le hy; have lz := nameL_le hz; have ld := num_le hd
  refine print_ok 4 [] [x, y] 2 0 [] [] [] [] [] A ca 0 [[115, 115, 100], [50], x, y] w hla (fun X hX => by
    obtain ⟨g, off, rfl, hg, hc⟩ := lAt_cells (hla.below hX) (by simp)
    exact lw_ssd4S [] [] [] [] [] [] 2 0 0 g off ca [x, y] X hg hc (by simp) [50] (itoa_small 2 [50] (by decide) (by decide +kernel) _ rfl X)) (by simp) (by simp) (by simp [join_cons2, join_one]; omega) hp

theorem pr_dsd {x y z d : Tx} {v : Int} (h : NamesH x y z d v) (A : Option Addr) (ca : Nat) (w : World) (hla : LAt w A ca [x, y, z]) : Calls Tryd.prog 13 #[.agg #[.int .i64 5, .string (bs []), .slice A 3 ca, .int .i64 2, .int .i64 0, .string (bs []), .string (bs []), .string (bs []), .string (bs []), .string (bs []), .int .i64 0]] w fun e w' => e = .returned (.tuple #[.string (bs (joinP [[100, 115, 100], [50], x, y, z])), .nilIface]) ∧ Below w.heap.size w w' := by
  have hp := rp_dsd h
  obtain ⟨hx, hy, hz, xy, xz, yz, hd, hv, v1, v2⟩ := h
  have lx := nameL_le hx; have ly := nameL_le hy; have lz := nameL_le hz; have ld := num_le hd
  refine print_ok 5 [] [x, y, z] 2 0 [] [] [] [] [] A ca 0 [[100, 115, 100], [50], x, y, z] w hla (fun X hX => by
    obtain ⟨g, off, rfl, hg, hc⟩ := lAt_cells (hla.below hX) (by simp)
    exact lw_ssd5S [] [] [] [] [] [] 2 0 0 g off ca [x, y, z] X hg hc (by simp) [50] (itoa_small 2 [50] (by decide) (by decide +kernel) _ rfl X)) (by simp) (by simp) (by simp [join_cons2, join_one]; omega) hp

theorem pr_excl {x y z d : Tx} {v : Int} (h : NamesH x y z d v) (A : Option Addr) (ca : Nat) (w : World) (hla : LAt w A ca [x, y]) : Calls Tryd.prog 13 #[.agg #[.int .i64 6, .string (bs []), .slice A 2 ca, .int .i64 0, .int .i64 0, .string (bs []), .string (bs []), .string (bs []), .string (bs []), .string (bs []), .int .i64 0]] w fun e w' => e = .returned (.tuple #[.string (bs (joinP [[101, 120, 99, 108, 117, 115, 105, 118, 101], x, y])), .nilIface]) ∧ Below w.heap.size w w' := by
  have hp := rp_excl h
  obtain ⟨hx, hy, hz, xy, xz, yz, hd, hv, v1, v2⟩ := h
  have lx := nameL_le hx; have ly := nameL_le hy; have lz := nameL_le hz; have ld := num_le hd
  refine print_ok 6 [] [x, y] 0 0 [] [] [] [] [] A ca 0 [[101, 120, 99, 108, 117, 115, 105, 118, 101], x, y] w hla (fun X hX => by
    obtain ⟨g, off, rfl, hg, hc⟩ := lAt_cells (hla.below hX) (by simp)
    exact lw_excl [] [] [] [] [] [] 0 0 0 g off ca [x, y] X hg hc (by simp)) (by simp) (by simp) (by simp [join_cons2, join_one]; omega) hp

theorem pr_lend {x y z d : Tx} {v : Int} (h : NamesH x y z d v) (hdd : Lib.decDigits v.toNat = d) (w : World) : Calls Tryd.prog 13 #[.agg #[.int .i64 7, .string (bs x), .slice none 0 0, .int .i64 v, .int .i64 77, .string (bs []), .string (bs []), .string (bs []), .string (bs []), .string (bs []), .int .i64 0]] w fun e w' => e = .returned (.tuple #[.string (bs (joinP [[108, 101, 110, 100], x, d, [55, 55]])), .nilIface]) ∧ Below w.heap.size w w' := by
  have hp := rp_lend h
  obtain ⟨hx, hy, hz, xy, xz, yz, hd, hv, v1, v2⟩ := h
  have lx := nameL_le hx; have ly := nameL_le hy; have lz := nameL_le hz; have ld := num_le hd
  refine print_ok 7 x [] v 77 [] [] [] [] [] none 0 0 [[108, 101, 110, 100], x, d, [55, 55]] w ⟨Nat.le_refl _, by simp, fun j hj => by simp at hj⟩ (fun X hX => by
    exact lw_lend x [] [] [] [] [] v 77 0 X d [55, 55] (itoa_small v.toNat d (by omega) hdd _ (by omega) X) (itoa_small 77 [55, 55] (by decide) (by decide +kernel) _ rfl X)) (by simp) (by simp) (by simp [join_cons2, join_one]; omega) hp

theorem pr_state {x y z d : Tx} {v : Int} (h : NamesH x y z d v) (w : World) : Calls Tryd.prog 13 #[.agg #[.int .i64 8, .string (bs x), .slice none 0 0, .int .i64 3, .int .i64 0, .string (bs []), .string (bs []), .string (bs []), .string (bs []), .string (bs y), .int .i64 0]] w fun e w' => e = .returned (.tuple #[.string (bs (joinP [[115, 116, 97, 116, 101], x, [112, 97, 115, 116], [105, 110], y])), .nilIface]) ∧ Below w.heap.size w w' := by
  have hp := rp_state h
  obtain ⟨hx, hy, hz, xy, xz, yz, hd, hv, v1, v2⟩ := h
  have lx := nameL_le hx; have ly := nameL_le hy; have lz := nameL_le hz; have ld := num_le hd
  refine print_ok 8 x [] 3 0 [] [] [] [] y none 0 0 [[115, 116, 97, 116, 101], x, [112, 97, 115, 116], [105, 110], y] w ⟨Nat.le_refl _, by simp, fun j hj => by simp at hj⟩ (fun X hX => by
    exact lw_state1 x [] [] [] [] y 3 0 0 X (Lib.hid (nameL_ne hy))) (by simp) (by simp) (by simp [join_cons2, join_one]; omega) hp

theorem pr_on {x y z d : Tx} {v : Int} (h : NamesH x y z d v) (w : World) : Calls Tryd.prog 13 #[.agg #[.int .i64 9, .string (bs x), .slice none 0 0, .int .i64 0, .int .i64 0, .string (bs y), .string (bs z), .string (bs x), .string (bs y), .string (bs []), .int .i64 0]] w fun e w' => e = .returned (.tuple #[.string (bs (joinP [[111, 110], x, [102, 114, 111, 109], y, [116, 111], z, [98, 121], x, [116, 97, 115, 107], y])), .nilIface]) ∧ Below w.heap.size w w' := by
  have hp := rp_on h
  obtain ⟨hx, hy, hz, xy, xz, yz, hd, hv, v1, v2⟩ := h
  have lx := nameL_le hx; have ly := nameL_le hy; have lz := nameL_le hz; have ld := num_le hd
  refine print_ok 9 x [] 0 0 y z x y [] none 0 0 [[111, 110], x, [102, 114, 111, 109], y, [116, 111], z, [98, 121], x, [116, 97, 115, 107], y] w ⟨Nat.le_refl _, by simp, fun j hj => by simp at hj⟩ (fun X hX => by
    exact lw_on11 x y z x y [] 0 0 0 X (Lib.hid (nameL_ne hx)) (Lib.hid (nameL_ne hy))) (by simp) (by simp) (by simp [join_cons2, join_one]; omega) hp

theorem pr_auto {x y z d : Tx} {v : Int} (h : NamesH x y z d v) (w : World) : Calls Tryd.prog 13 #[.agg #[.int .i64 10, .string (bs []), .slice none 0 0, .int .i64 0, .int .i64 0, .string (bs x), .string (bs y), .string (bs []), .string (bs []), .string (bs []), .int .i64 0]] w fun e w' => e = .returned (.tuple #[.string (bs (joinP [[97, 117, 116, 111], [102, 114, 111, 109], x, [116, 111], y])), .nilIface]) ∧ Below w.heap.size w w' := by
  have hp := rp_auto h
  obtain ⟨hx, hy, hz, xy, xz, yz, hd, hv, v1, v2⟩ := h
  have lx := nameL_le hx; have ly := nameL_le hy; have lz := nameL_le hz; have ld := num_le hd
  refine print_ok 10 [] [] 0 0 x y [] [] [] none 0 0 [[97, 117, 116, 111], [102, 114, 111, 109], x, [116, 111], y] w ⟨Nat.le_refl _, by simp, fun j hj => by simp at hj⟩ (fun X hX => by
    exact lw_auto [] x y [] [] [] 0 0 0 X) (by simp) (by simp) (by simp [join_cons2, join_one]; omega) hp

theorem pr_after {x y z d : Tx} {v : Int} (h : NamesH x y z d v) (hdd : Lib.decDigits v.toNat = d) (w : World) : Calls Tryd.prog 13 #[.agg #[.int .i64 11, .string (bs []), .slice none 0 0, .int .i64 v, .int .i64 0, .string (bs x), .string (bs y), .string (bs []), .string (bs []), .string (bs []), .int .i64 0]] w fun e w' => e = .returned (.tuple #[.string (bs (joinP [[97, 102, 116, 101, 114], d, [102, 114, 111, 109], x, [116, 111], y])), .nilIface]) ∧ Below w.heap.size w w' := by
  have hp := rp_after h
  obtain ⟨hx, hy, hz, xy, xz, yz, hd, hv, v1, v2⟩ := h
  have lx := nameL_le hx; have ly := nameL_le hy; have lz := nameL_le hz; have ld := num_le hd
  refine print_ok 11 [] [] v 0 x y [] [] [] none 0 0 [[97, 102, 116, 101, 114], d, [102, 114, 111, 109], x, [116, 111], y] w ⟨Nat.le_refl _, by simp, fun j hj => by simp at hj⟩ (fun X hX => by
    exact lw_after [] x y [] [] [] v 0 0 X d (itoa_small v.toNat d (by omega) hdd _ (by omega) X)) (by simp) (by simp) (by simp [join_cons2, join_one]; omega) hp

end Go.Proofs.YtlbhgjilgdmedaaDoor
