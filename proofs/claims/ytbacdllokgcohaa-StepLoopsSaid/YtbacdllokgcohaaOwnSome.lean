/-
  Package shape: size, holds, parent, has.
-/
import Derived.Test.YtbacdllokgcohaaRef01b
import Derived.Test.YtbacdllokgcohaaPol5
import Derived.Laws.ShiftsVar
import Derived.Test.YtbacdllokgcohaaSameL
namespace Go.Proofs.Ytbacdllokgcohaa
set_option maxRecDepth 100000
open Go.ChangeShapes Go.WideShapes Go.ChangeAt Go.RowKit

theorem box_0 (w : World) (t : TypeId) (u v : Value) : (w.alloc (.cells #[u, v] t)).cell? ⟨w.heap.size, 0, none⟩ = some u := by rw [cell_of_row _ _ _ _ _ _ (heap_alloc_new w _)]; rfl
theorem box_1 (w : World) (t : TypeId) (u v : Value) : (w.alloc (.cells #[u, v] t)).cell? ⟨w.heap.size, 1, none⟩ = some v := by rw [cell_of_row _ _ _ _ _ _ (heap_alloc_new w _)]; rfl
theorem box_b (w : World) (o : Obj) : Below w.heap.size w (w.alloc o) := (Below.refl _ _).alloc (Nat.le_refl _) _
theorem box_x {w : World} {b off : Nat} {v : Value} (o : Obj) (hb : b < w.heap.size) (hx : w.cell? ⟨b, off, none⟩ = some v) : (w.alloc o).cell? ⟨b, off, none⟩ = some v := (World.cell?_alloc_lt _ _ _ hb).trans hx
theorem ints_cell {w : World} {A : Option Addr} {n c : Nat} {zs : List Int} (h : IntsAt w (.slice A n c) zs) {k : Nat} (hk : k < zs.length) : ∃ b off, A = some ⟨b, off, none⟩ ∧ b < w.heap.size ∧ w.cell? ⟨b, off + k, none⟩ = some (.int .i64 (zs.getD k 0)) ∧ (Lit.int .i64 (zs.getD k 0)).wf = true := by
  obtain ⟨A', c', e, hl, hc⟩ := h
  obtain ⟨b, off, e2, hb, hx, hw⟩ := hc k hk
  injection e with e1 _ _
  subst e1
  have e3 : zs.getD k 0 = zs[k] := by simp [List.getD_eq_getElem?_getD, List.getElem?_eq_getElem hk]
  rw [e3]
  exact ⟨b, off, e2, hb, hx, hw⟩

theorem size_any (t : TypeId) (A B : Option Addr) (n c m d : Nat) (w : World) (hn : n ≤ 1000) (hm : m ≤ 1000) :
    Calls Try.prog 97 #[.agg #[.slice A n c, .slice B m d]] w fun e w' => e = .returned (.int .i64 (min n m : Nat)) ∧ Below w.heap.size w w' := by
  have x0 := box_0 w 25 (.slice A n c) (.slice B m d)
  have x1 := box_1 w 25 (.slice A n c) (.slice B m d)
  have HZ := Lib.hid (box_b w (.cells #[.slice A n c, .slice B m d] 25))
  have HM : Hid (min (n : Int) m = ((min n m : Nat) : Int)) := by show _ = _; omega
  go_enter Try.func97, Try.ntmps97
  go_wp2
  all_goals
    go_ret
    exact ⟨ret_int (by omega), HZ.out⟩
theorem holds_any (ks : List Int) (A B : Option Addr) (n c m d k : Nat) (w : World) (h : IntsAt w (.slice A n c) ks) (hn : n = ks.length) (hk : k < n) (hk2 : k < 1000) :
    Calls Try.prog 98 #[.agg #[.slice A n c, .slice B m d], .int .i64 k] w fun e w' => e = .returned (.bool (hl ks k)) ∧ Below w.heap.size w w' := by
  obtain ⟨b, off, rfl, hb, hx, hw⟩ := ints_cell h (k := k) (by omega)
  have x0 := box_0 w 25 (.slice (some ⟨b, off, none⟩) n c) (.slice B m d)
  have x1 := box_1 w 25 (.slice (some ⟨b, off, none⟩) n c) (.slice B m d)
  have x2 := box_x (.cells #[.slice (some ⟨b, off, none⟩) n c, .slice B m d] 25) hb hx
  have HZ := Lib.hid (box_b w (.cells #[.slice (some ⟨b, off, none⟩) n c, .slice B m d] 25))
  have HV : Hid (hl ks k = (ks.getD k 0 == 1 || ks.getD k 0 == 2)) := rfl
  have hki : (k : Int) < n := by omega
  clear hx h hn hw
  generalize ks.getD k 0 = z at *
  rcases bor_cases (a := z == 1) with g | g
  · have HV2 : Hid (hl ks k = true) := by show _ = _; rw [HV.out, g]; rfl
    clear HV
    go_enter Try.func98, Try.ntmps98
    go_wp2
    go_ret
    exact ⟨ret_bool HV2.out.symm, HZ.out⟩
  · have HV2 : Hid (hl ks k = (z == 2)) := by show _ = _; rw [HV.out, g]; rfl
    clear HV
    go_enter Try.func98, Try.ntmps98
    go_wp2
    go_ret
    exact ⟨ret_bool HV2.out.symm, HZ.out⟩
theorem parent_any (ps : List Int) (A B : Option Addr) (n c m d k : Nat) (w : World) (h : IntsAt w (.slice B m d) ps) (hm : m = ps.length) (hk : k < m) (hk2 : k < 1000) :
    Calls Try.prog 64 #[.agg #[.slice A n c, .slice B m d], .int .i64 k] w fun e w' => e = .returned (.int .i64 (par ps k)) ∧ Below w.heap.size w w' := by
  obtain ⟨b, off, rfl, hb, hx, hw⟩ := ints_cell h (k := k) (by omega)
  have x0 := box_0 w 25 (.slice A n c) (.slice (some ⟨b, off, none⟩) m d)
  have x1 := box_1 w 25 (.slice A n c) (.slice (some ⟨b, off, none⟩) m d)
  have x2 := box_x (.cells #[.slice A n c, .slice (some ⟨b, off, none⟩) m d] 25) hb hx
  have HZ := Lib.hid (box_b w (.cells #[.slice A n c, .slice (some ⟨b, off, none⟩) m d] 25))
  have HV : Hid (par ps k = min (ps.getD k 0) ((k : Int) - 1)) := rfl
  have hki : (k : Int) < m := by omega
  clear hx h hm hw
  generalize ps.getD k 0 = z at *
  go_enter Try.func64, Try.ntmps64
  go_wp2
  all_goals
    go_ret
    exact ⟨ret_int (by have := HV.out; omega), HZ.out⟩
end Go.Proofs.Ytbacdllokgcohaa
/-
  Shapes in memory, small things.
-/
namespace Go.Proofs.Ytbacdllokgcohaa
set_option maxRecDepth 100000
open Go.ChangeShapes Go.WideShapes Go.ChangeAt Go.RowKit

theorem shp_below {w w' : World} {u v : Value} {ks ps : List Int} (h : IntsAt w u ks ∧ IntsAt w v ps) (hb : Below w.heap.size w w') : IntsAt w' u ks ∧ IntsAt w' v ps := ⟨h.1.below hb, h.2.below hb⟩
theorem two_lt {k : Nat} (h : k < 32) : 2 ^ k < 4294967296 := Nat.pow_lt_pow_right (a := 2) (by omega) h
theorem two_val {i : Nat} (h : i < 32) : (2 : Int) ^ i % 4294967296 = ((2 ^ i : Nat) : Int) := by
  have := two_lt h
  have e : (2 : Int) ^ i = ((2 ^ i : Nat) : Int) := by norm_cast
  rw [e]; exact Int.emod_eq_of_lt (Int.natCast_nonneg _) (Int.ofNat_lt.2 this)
end Go.Proofs.Ytbacdllokgcohaa
/-
  A row of the call's own: nil, or at the head of a block.
-/
namespace Go.Proofs.Ytbacdllokgcohaa
set_option maxRecDepth 100000
open Go.ChangeShapes Go.WideShapes Go.ChangeAt Go.RowKit

theorem own_none {w : World} {base e size n n' c : Nat} {xs : List Value} (h : w.ownsRow base e size (.slice none n' c) n xs) : n = 0 ∧ c = 0 := by
  rcases h.2 with ⟨hv, h0⟩ | ⟨g, cap', cur, hv, _⟩
  · injection hv with _ _ hc; exact ⟨h0, hc⟩
  · injection hv with e; cases e
theorem own_some {w : World} {base e size n n' c : Nat} {a : Addr} {xs : List Value} (h : w.ownsRow base e size (.slice (some a) n' c) n xs) : ∃ g, a = ⟨g, 0, none⟩ := by
  rcases h.2 with ⟨hv, h0⟩ | ⟨g, cap', cur, hv, _⟩
  · injection hv with e; cases e
  · injection hv with e; exact ⟨g, Option.some.inj e⟩
end Go.Proofs.Ytbacdllokgcohaa
