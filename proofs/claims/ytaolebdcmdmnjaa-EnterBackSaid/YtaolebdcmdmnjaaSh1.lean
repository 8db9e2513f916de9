/-
  Package shape: size, holds, parent, has.
-/
import Derived.Test.YtaolebdcmdmnjaaInts
import Derived.Test.YtaolebdcmdmnjaaSh0
import Derived.Test.YtaolebdcmdmnjaaOnes
import Derived.Laws.ShiftsVar
namespace Go.Proofs.Ytaolebdcmdmnjaa
set_option maxRecDepth 100000
open Go.ChangeShapes Go.WideShapes Go.ChangeAt Go.RowKit

/-- a block that holds a shape, as a call's parameter -/
def box (w : World) (t : TypeId) (u v : Value) : World := w.alloc (.cells #[u, v] t)
theorem box_0 (w : World) (t : TypeId) (u v : Value) : (w.alloc (.cells #[u, v] t)).cell? ⟨w.heap.size, 0, none⟩ = some u := by rw [cell_of_row _ _ _ _ _ _ (heap_alloc_new w _)]; rfl
theorem box_1 (w : World) (t : TypeId) (u v : Value) : (w.alloc (.cells #[u, v] t)).cell? ⟨w.heap.size, 1, none⟩ = some v := by rw [cell_of_row _ _ _ _ _ _ (heap_alloc_new w _)]; rfl
theorem box_b (w : World) (o : Obj) : Below w.heap.size w (w.alloc o) := (Below.refl _ _).alloc (Nat.le_refl _) _
theorem box_x {w : World} {b off : Nat} {v : Value} (o : Obj) (hb : b < w.heap.size) (hx : w.cell? ⟨b, off, none⟩ = some v) : (w.alloc o).cell? ⟨b, off, none⟩ = some v := (World.cell?_alloc_lt _ _ _ hb).trans hx
theorem ints_form {w : World} {u : Value} {zs : List Int} (h : IntsAt w u zs) : ∃ A c, u = .slice A zs.length c := let ⟨A, c, e, _⟩ := h; ⟨A, c, e⟩
theorem ints_cell {w : World} {A : Option Addr} {n c : Nat} {zs : List Int} (h : IntsAt w (.slice A n c) zs) {k : Nat} (hk : k < zs.length) : ∃ b off, A = some ⟨b, off, none⟩ ∧ b < w.heap.size ∧ w.cell? ⟨b, off + k, none⟩ = some (.int .i64 (zs.getD k 0)) ∧ (Lit.int .i64 (zs.getD k 0)).wf = true := by
  obtain ⟨A', c', e, hl, hc⟩ := h
  obtain ⟨b, off, e2, hb, hx, hw⟩ := hc k hk
  injection e with e1 _ _
  subst e1
  have e3 : zs.getD k 0 = zs[k] := by simp [List.getD_eq_getElem?_getD, List.getElem?_eq_getElem hk]
  rw [e3]
  exact ⟨b, off, e2, hb, hx, hw⟩

theorem size_any (t : TypeId) (A B : Option Addr) (n c m d : Nat) (w : World) (hn : n ≤ 1000) (hm : m ≤ 1000) :
    Calls Try.prog 36 #[.agg #[.slice A n c, .slice B m d]] w fun e w' => e = .returned (.int .i64 (min n m : Nat)) ∧ Below w.heap.size w w' := by
  have x0 := box_0 w 24 (.slice A n c) (.slice B m d)
  have x1 := box_1 w 24 (.slice A n c) (.slice B m d)
  have HZ := Lib.hid (box_b w (.cells #[.slice A n c, .slice B m d] 24))
  have HM : Hid (min (n : Int) m = ((min n m : Nat) : Int)) := by show _ = _; omega
  go_enter Try.func36, Try.ntmps36
  go_wp2
  all_goals
    go_ret
    exact ⟨ret_int (by omega), HZ.out⟩
theorem holds_any (ks : List Int) (A B : Option Addr) (n c m d k : Nat) (w : World) (h : IntsAt w (.slice A n c) ks) (hn : n = ks.length) (hk : k < n) (hk2 : k < 1000) :
    Calls Try.prog 41 #[.agg #[.slice A n c, .slice B m d], .int .i64 k] w fun e w' => e = .returned (.bool (hl ks k)) ∧ Below w.heap.size w w' := by
  obtain ⟨b, off, rfl, hb, hx, hw⟩ := ints_cell h (k := k) (by omega)
  have x0 := box_0 w 24 (.slice (some ⟨b, off, none⟩) n c) (.slice B m d)
  have x1 := box_1 w 24 (.slice (some ⟨b, off, none⟩) n c) (.slice B m d)
  have x2 := box_x (.cells #[.slice (some ⟨b, off, none⟩) n c, .slice B m d] 24) hb hx
  have HZ := Lib.hid (box_b w (.cells #[.slice (some ⟨b, off, none⟩) n c, .slice B m d] 24))
  have HV : Hid (hl ks k = (ks.getD k 0 == 1 || ks.getD k 0 == 2)) := rfl
  have hki : (k : Int) < n := by omega
  clear hx h hn hw
  generalize ks.getD k 0 = z at *
  rcases bor_cases (a := z == 1) with g | g
  · have HV2 : Hid (hl ks k = true) := by show _ = _; rw [HV.out, g]; rfl
    clear HV
    go_enter Try.func41, Try.ntmps41
    go_wp2
    go_ret
    exact ⟨ret_bool HV2.out.symm, HZ.out⟩
  · have HV2 : Hid (hl ks k = (z == 2)) := by show _ = _; rw [HV.out, g]; rfl
    clear HV
    go_enter Try.func41, Try.ntmps41
    go_wp2
    go_ret
    exact ⟨ret_bool HV2.out.symm, HZ.out⟩
theorem parent_any (ps : List Int) (A B : Option Addr) (n c m d k : Nat) (w : World) (h : IntsAt w (.slice B m d) ps) (hm : m = ps.length) (hk : k < m) (hk2 : k < 1000) :
    Calls Try.prog 44 #[.agg #[.slice A n c, .slice B m d], .int .i64 k] w fun e w' => e = .returned (.int .i64 (par ps k)) ∧ Below w.heap.size w w' := by
  obtain ⟨b, off, rfl, hb, hx, hw⟩ := ints_cell h (k := k) (by omega)
  have x0 := box_0 w 24 (.slice A n c) (.slice (some ⟨b, off, none⟩) m d)
  have x1 := box_1 w 24 (.slice A n c) (.slice (some ⟨b, off, none⟩) m d)
  have x2 := box_x (.cells #[.slice A n c, .slice (some ⟨b, off, none⟩) m d] 24) hb hx
  have HZ := Lib.hid (box_b w (.cells #[.slice A n c, .slice (some ⟨b, off, none⟩) m d] 24))
  have HV : Hid (par ps k = min (ps.getD k 0) ((k : Int) - 1)) := rfl
  have hki : (k : Int) < m := by omega
  clear hx h hm hw
  generalize ps.getD k 0 = z at *
  go_enter Try.func44, Try.ntmps44
  go_wp2
  all_goals
    go_ret
    exact ⟨ret_int (by have := HV.out; omega), HZ.out⟩
theorem has_shr (s k : Nat) (hs : s < 4294967296) (hk : k < 32) : (bits .and .u32 ((s : Int) / 2 ^ k) 1 == 1) = s.testBit k := by
  have e : (s : Int) / 2 ^ k = ((s / 2 ^ k : Nat) : Int) := by norm_cast
  have hlt : s / 2 ^ k < 4294967296 := Nat.lt_of_le_of_lt (Nat.div_le_self _ _) hs
  have ha := u32_and_nat (s / 2 ^ k) 1 hlt (by omega)
  rw [Nat.and_one_is_mod] at ha
  have ha : bits .and .u32 ((s / 2 ^ k : Nat) : Int) 1 = (((s / 2 ^ k) % 2 : Nat) : Int) := by simpa using ha
  rw [e, ha, cnt_bit]
  cases s.testBit k <;> rfl
theorem hasb_any (s k : Nat) (w : World) (hs : s < 4294967296) (hk : k < 32) :
    Calls Try.prog 39 #[.int .u32 s, .int .i64 k] w fun e w' => e = .returned (.bool (s.testBit k)) ∧ w = w' := by
  have HV := Lib.hid (has_shr s k hs hk)
  go_enter Try.func39, Try.ntmps39
  go_wp2
  go_ret
  exact ⟨ret_bool HV.out, rfl⟩
end Go.Proofs.Ytaolebdcmdmnjaa
