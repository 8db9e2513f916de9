/-
  The text of a plan: some text of some lines.
-/
import Derived.Test.YtahhepmhdcbplaaGreatDoorPlay3
import Derived.Test.YtahhepmhdcbplaaGreatDoorRuleEq
namespace Go.Proofs.YtahhepmhdcbplaaGreatDoor
set_option maxRecDepth 100000
open Go.ChangeShapes Go.WideShapes Go.ChangeAt Go.RowKit

def TxOut (L R : Nat) (w : World) (e : Ending) (w' : World) : Prop := ∃ t : ByteArray, e = .returned (.string t) ∧ t.size ≤ L ∧ nl t ≤ R ∧ Below w.heap.size w w'
theorem IntsAt.below {w w' : World} {v : Value} {zs : List Int} (h : IntsAt w v zs) (hb : Below w.heap.size w w') : IntsAt w' v zs := by
  obtain ⟨A, cap, h1, h2, h3⟩ := h
  exact ⟨A, cap, h1, h2, fun k hk => let ⟨b, off, e1, e2, e3, e4⟩ := h3 k hk; ⟨b, off, e1, Nat.lt_of_lt_of_le e2 hb.size, (hb.cell (p := ⟨b, off + k, none⟩) e2).trans e3, e4⟩⟩
theorem ints_slice {w : World} {v : Value} {zs : List Int} (h : IntsAt w v zs) : ∃ A n cap, v = .slice A n cap := by
  obtain ⟨A, cap, h1, _⟩ := h
  exact ⟨A, _, cap, h1⟩
set_option maxHeartbeats 2000000 in
theorem policyTx_any (v : Value) (zs : List Int) (w : World) (hz : IntsAt w v zs) : Calls Tryz.prog 12 #[.agg #[v]] w (TxOut 1900 70 w) := by
  have hM : Mk w v (w.heap.size + 1) 0 ((w.alloc (.cells #[v] 39)).alloc (.cells #[v, .int .i64 0] 74)) :=
    ⟨((Below.refl _ _).alloc (Nat.le_refl _) _).alloc (by simp) _, by omega, alloc_at (by simp) _⟩
  have HP := Lib.hid (people_any w v zs hz (w.heap.size + 1))
  have HC := Lib.hid (fun k hk => chart_any w v zs hz (w.heap.size + 1) k hk)
  obtain ⟨A, n, cap, rfl⟩ := ints_slice hz
  clear hz
  go_enter Tryz.func12, Tryz.ntmps12
  go_wp2_with (first
    | (go_at_call 36; refine (HP.out _ hM).mono ?_; rintro e w1 ⟨t, k, rfl, ht, hn, hk, hM1, hb1⟩; have HN := Lib.hid hn; clear hn)
    | (go_at_call 37; refine (HC.out k (by omega) _ hM1).mono ?_; rintro e w2 ⟨t2, k2, rfl, ht2, hn2, hk2, hM2, hb2⟩; have HN2 := Lib.hid hn2; clear hn2))
  go_ret
  exact ⟨_, rfl, by simp [ByteArray.size_append, sz_lit]; omega, by have h1 := HN.out; have h2 := HN2.out; simp [nl_app, nl_lit]; omega, hb2⟩
end Go.Proofs.YtahhepmhdcbplaaGreatDoor
