/-
  Integers.
-/
import Derived.Test.YtkgjcahcpeehjaaGreatDoorInts
import Derived.Test.YtkgjcahcpeehjaaGreatDoorSh5
namespace Go.Proofs.YtkgjcahcpeehjaaGreatDoor
set_option maxRecDepth 100000
open Go.ChangeShapes Go.WideShapes Go.ChangeAt Go.RowKit

def IntsC (W : World) (v : Value) (zs : List Int) : Prop := IntsAt W v zs ∧ ∃ A c, v = .slice A zs.length c ∧ zs.length ≤ c
section
variable {H : Type} {enc : TypeId × Value → H}
theorem arg_intsC {t : TypeId} {d : DataW H} {W : World} {base : Nat} {v : Value} {p : List MemPlace} (ht : Tryz.prog.underlying t = some (.slice 3)) (hc : Tryz.prog.cellsOf 3 = 1)
    (hv : Value.okWide Tryz.prog W .any base t v) (h : DataW.Trod enc Tryz.prog W 0 (fun _ => true) true t v d p) : ∃ zs, IntsC W v zs := by
  obtain ⟨A, n, c, rfl⟩ := okWide_slice ht hv
  obtain ⟨fuel, hf⟩ := h
  rcases open_ints ht Tryz.underlying3 hc hf with ⟨hcs, _⟩ | ⟨a, len, cap, zs, hcs, _, hl, hm, hn, _, hcell, hwf⟩
  · simp [Value.cells] at hcs
    obtain ⟨rfl, rfl, rfl⟩ := hcs
    exact ⟨[], ⟨_, _, rfl, Nat.zero_le _, fun k h => by simp at h⟩, _, _, rfl, Nat.zero_le _⟩
  · simp [Value.cells] at hcs
    obtain ⟨rfl, rfl, rfl⟩ := hcs
    rw [if_pos rfl] at hn
    refine ⟨zs.take n, ⟨some a, c, by rw [List.length_take, Nat.min_eq_left (by omega)], by rw [List.length_take]; omega, fun k h => ?_⟩, some a, c, by rw [List.length_take, Nat.min_eq_left (by omega)], by rw [List.length_take]; omega⟩
    have hk : k < zs.length := by rw [List.length_take] at h; omega
    have hk' := hcell k hk
    have e : (zs.take n)[k] = zs[k] := by simp
    have e2 : zs.getD k 0 = zs[k] := by simp [List.getD_eq_getElem?_getD, List.getElem?_eq_getElem hk]
    rw [e2] at hk'
    obtain ⟨b, off, spot⟩ := a
    have hsp : spot = none := by
      have h0 := hcell 0 (by omega)
      simpa [Addr.add] using World.cell?_spot h0
    subst hsp
    rw [Go.WideShapes.add_plain] at hk'
    rw [e]
    exact ⟨b, off, rfl, World.block_lt_of_cell? W _ hk', hk', hwf _ (List.getElem_mem _)⟩
end
theorem IntsC.below {w w' : World} {v : Value} {zs : List Int} (h : IntsC w v zs) (hb : Below w.heap.size w w') : IntsC w' v zs := ⟨h.1.below hb, h.2⟩
end Go.Proofs.YtkgjcahcpeehjaaGreatDoor
namespace Go.Proofs.YtkgjcahcpeehjaaGreatDoor
set_option maxRecDepth 100000
open Go.ChangeShapes Go.WideShapes Go.ChangeAt Go.RowKit

def okI (l : List Int) : Prop := ∀ x ∈ l, (Lit.int .i64 x).wf = true
theorem icells_length (l : List Int) : (icells l).length = l.length := List.length_map ..
theorem icells_at (l : List Int) (j : Nat) (h : j < l.length) : (icells l)[j]? = some (.int .i64 l[j]) := by simp [icells, h]
theorem icells_one (l : List Int) : ∀ u ∈ icells l, u.oneCell' = true := by
  intro u hu
  simp only [icells, List.mem_map] at hu
  obtain ⟨p, _, rfl⟩ := hu
  rfl
theorem ints_of_own {w : World} {base c : Nat} {A : Option Addr} {l : List Int} (h : OwnI w base (.slice A l.length c) l) (ho : okI l) (hl : l.length ≤ 1000) : IntsAt w (.slice A l.length c) l := by
  refine ⟨A, c, rfl, by unfold maxLen; omega, fun k hk => ?_⟩
  obtain ⟨g, cap', e, _, hg, _, hc⟩ := own_form h (by omega)
  have eA : A = some ⟨g, 0, none⟩ := by injection e
  exact ⟨g, 0, eA, hg, by rw [Nat.zero_add]; exact hc _ _ (icells_at l k hk), ho _ (List.getElem_mem hk)⟩
theorem okI_of {w : World} {u : Value} {l : List Int} (h : IntsAt w u l) : okI l := fun x hx => by
  obtain ⟨A, c, _, _, hc⟩ := h
  obtain ⟨j, hj, rfl⟩ := List.getElem_of_mem hx
  obtain ⟨_, _, _, _, _, hw⟩ := hc j hj
  exact hw
theorem okI_take {l : List Int} (h : okI l) (n : Nat) : okI (l.take n) := fun x hx => h x (List.mem_of_mem_take hx)
def CopyITo (l : List Int) (w : World) (e : Ending) (w' : World) : Prop := ∃ v, e = .returned v ∧ OwnI w' w.heap.size v l ∧ Below w.heap.size w w'
set_option maxHeartbeats 2000000 in
theorem CopyI_any (l : List Int) (A : Option Addr) (cap : Nat) (w : World) (h : IntsAt w (.slice A l.length cap) l) (ha : l.length ≤ 1000) :
    Calls Tryz.prog 61 #[.slice A l.length cap] w (CopyITo l w) := by
  obtain ⟨i0, hi, hz0, hz1, hz2⟩ := info_parts Tryz.infoInt
  cases A with
  | none =>
    have e0 : l = [] := by
      cases l with
      | nil => rfl
      | cons x r =>
        obtain ⟨A', c', e, _, hc⟩ := h
        obtain ⟨b, off, e2, _⟩ := hc 0 (by simp)
        injection e with e1
        rw [← e1] at e2
        cases e2
    subst e0
    clear h
    go_enter Tryz.func61, Tryz.ntmps61
    go_wp2
    go_ret
    exact ⟨_, rfl, World.ownsRow_nil _ _ _ _, Below.refl _ _⟩
  | some a =>
    have HC : Hid (∀ j u, (icells l)[j]? = some u → w.cell? (a.add j) = some u) := fun j u hu => by
      have hj : j < l.length := by
        have := (List.getElem?_eq_some_iff.1 hu).1
        rwa [icells_length] at this
      obtain ⟨A', c', e, _, hc⟩ := h
      obtain ⟨b, off, e2, _, hx, _⟩ := hc j hj
      injection e with e1
      rw [← e1] at e2
      injection e2 with e2
      subst e2
      rw [icells_at l j hj] at hu
      rw [Go.WideShapes.add_plain, hx]; exact hu
    have HO := Lib.hid (icells_one l)
    have HL := Lib.hid (icells_length l)
    have HE : Hid (∀ v W, W.ownsRow w.heap.size 3 1 v l.length (icells l) → OwnI W w.heap.size v l) := fun v W h => h
    clear h
    generalize icells l = xs at *
    go_enter Tryz.func61, Tryz.ntmps61
    go_wp2_with (at_builtin; go_must (refine wpList_append_own _ rfl (.const (.slice none 0 0)) (.tmp 3) 37 rfl w.heap.size 3 i0 _ 1 8 Tryz.underlying37 hi hz0 hz1 hz2 rfl (by decide) (.slice none 0 0) 0 [] rfl (World.ownsRow_nil _ _ _ _) a l.length cap xs rfl (by have := HL.out; omega) HC.out HO.out (by unfold maxLen; omega) (by omega) (by simp) ?_); intro v' w4 hown' hg' _)
    have hg2 : w.grownBy w4 none := hg'
    go_ret
    refine ⟨v', rfl, HE.out _ _ (by simpa using hown'), hg2.os, hg2.tape, hg2.output, hg2.size, fun j hj => hg2.block j hj (by simp)⟩
theorem prop_one : prop [1] [-1] 1 = true := by decide +kernel
theorem one_ints (w : World) (x : Int) (hx : (Lit.int .i64 x).wf = true) : IntsAt (w.alloc (.cells #[.int .i64 x] 3)) (.slice (some ⟨w.heap.size, 0, none⟩) 1 1) [x] :=
  ⟨_, 1, rfl, by unfold maxLen; simp, fun k hk => by
    simp at hk
    subst hk
    exact ⟨_, 0, rfl, by simp, by rw [cell_of_row _ _ _ _ _ _ (heap_alloc_new w _)]; rfl, hx⟩⟩
end Go.Proofs.YtkgjcahcpeehjaaGreatDoor
