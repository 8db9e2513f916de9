/-
  The texts of a plan's people, and of its chart, alone.
-/
import Derived.Test.YtgemciecdplcgaaDoorPlay4
namespace Go.Proofs.YtgemciecdplcgaaDoor
set_option maxRecDepth 100000
open Go.ChangeShapes Go.WideShapes Go.ChangeAt Go.RowKit

/-- a text that ends as a line -/
def EndOut (L R : Nat) (w : World) (e : Ending) (w' : World) : Prop := ∃ t : ByteArray, e = .returned (.string (t ++ ⟨#[10]⟩)) ∧ t.size ≤ L ∧ nl t ≤ R ∧ Below w.heap.size w w'
set_option maxHeartbeats 2000000 in
theorem peopleTx_any (v : Value) (zs : List Int) (w : World) (hz : IntsAt w v zs) : Calls Tryd.prog 11 #[.agg #[v]] w (EndOut 1000 50 w) := by
  have hM : Mk w v (w.heap.size + 1) 0 ((w.alloc (.cells #[v] 38)).alloc (.cells #[v, .int .i64 0] 59)) :=
    ⟨((Below.refl _ _).alloc (Nat.le_refl _) _).alloc (by simp) _, by omega, alloc_at (by simp) _⟩
  have HP := Lib.hid (people_any w v zs hz (w.heap.size + 1))
  obtain ⟨A, n, cap, rfl⟩ := ints_slice hz
  clear hz
  go_enter Tryd.func11, Tryd.ntmps11
  go_wp2_with (go_at_call 21; refine (HP.out _ hM).mono ?_; rintro e w1 ⟨t, k, rfl, ht, hn, hk, hM1, hb1⟩; have HN := Lib.hid hn; clear hn)
  go_ret
  have e : t ++ ⟨#[115, 116, 97, 116, 101, 32, 115, 97, 32, 112, 108, 97, 105, 110, 10]⟩ = (t ++ ⟨#[115, 116, 97, 116, 101, 32, 115, 97, 32, 112, 108, 97, 105, 110]⟩) ++ ⟨#[10]⟩ := by
    rw [ByteArray.append_assoc]; rfl
  rw [e]
  exact ⟨_, rfl, by simp [ByteArray.size_append, sz_lit]; omega, by have h1 := HN.out; simp [nl_app, nl_lit]; omega, hb1⟩
set_option maxHeartbeats 2000000 in
theorem chartTx_any (v : Value) (zs : List Int) (w : World) (hz : IntsAt w v zs) : Calls Tryd.prog 12 #[.agg #[v]] w (TxOut 1000 30 w) := by
  have hM : Mk w v (w.heap.size + 1) 0 ((w.alloc (.cells #[v] 38)).alloc (.cells #[v, .int .i64 0] 59)) :=
    ⟨((Below.refl _ _).alloc (Nat.le_refl _) _).alloc (by simp) _, by omega, alloc_at (by simp) _⟩
  have HC := Lib.hid (chart_any w v zs hz (w.heap.size + 1) 0 (by omega))
  obtain ⟨A, n, cap, rfl⟩ := ints_slice hz
  clear hz
  go_enter Tryd.func12, Tryd.ntmps12
  go_wp2_with (go_at_call 22; refine (HC.out _ hM).mono ?_; rintro e w2 ⟨t2, k2, rfl, ht2, hn2, hk2, hM2, hb2⟩; have HN2 := Lib.hid hn2; clear hn2)
  go_ret
  exact ⟨_, rfl, by simp [ByteArray.size_append, sz_lit]; omega, by have h2 := HN2.out; simp [nl_app, nl_lit]; omega, hb2⟩
end Go.Proofs.YtgemciecdplcgaaDoor
