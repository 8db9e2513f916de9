import Derived.Test.YtkalfhhdljndfaaGreatDoorGr7
import Derived.Test.YtkalfhhdljndfaaGreatDoorPrint2
namespace Go.Proofs.YtkalfhhdljndfaaGreatDoor
set_option maxRecDepth 100000
open Go.ChangeShapes Go.WideShapes Go.ChangeAt Go.RowKit
theorem NewG_any (w : World) : Calls Tryz.prog 29 #[] w fun e w' => e = .returned (.pointer (some ⟨w.heap.size, 0, none⟩)) ∧ GrM w' w.heap.size (.slice none 0 0) [] 0 ∧ Below w.heap.size w w' := by
 go_enter Tryz.func29, Tryz.ntmps29
 go_wp2
 go_ret
 exact ⟨rfl, ⟨heap_alloc_new w _, World.ownsRow_nil _ _ _ _⟩, rbox w _⟩
def GlTo (l : List Gr) (w : World) (e : Ending) (w' : World) : Prop := ∃ A c, e = .returned (.slice A l.length c) ∧ OwnG w' w.heap.size (.slice A l.length c) l ∧ Below w.heap.size w w'
theorem glTo_mk {l m : List Gr} {n c : Nat} {A : Option Addr} {w w' : World} (hm : m = l) (hn : n = l.length) (h : OwnG w' w.heap.size (.slice A n c) m) (hb : Below w.heap.size w w') : GlTo l w (.returned (.slice A n c)) w' := by subst hm; subst hn; exact ⟨A, c, rfl, h, hb⟩
theorem gl_cells {w : World} {g c : Nat} {l : List Gr} (h : GAt w (some ⟨g, 0, none⟩) c l) : ∀ j u, (gcells l)[j]? = some u → w.cell? ((⟨g, 0, none⟩ : Addr).add j) = some u := fun j u hu => by
 have hadd : (⟨g, 0, none⟩ : Addr).add j = ⟨g, j, none⟩ := by unfold Addr.add; split <;> simp_all
 rw [hadd]
 have hj : j < l.length * 7 := by rw [← gcells_length]; exact (List.getElem?_eq_some_iff.1 hu).1
 have hk : j / 7 < l.length := by omega
 obtain ⟨g', e, _, hc⟩ := h.2 (j / 7) hk
 obtain rfl : g' = g := by have := Option.some.inj e; injection this with e1; exact e1.symm
 have e3 : j = j / 7 * 7 + j % 7 := by omega
 have h7 : j % 7 < 7 := Nat.mod_lt _ (by omega)
 rw [e3, gcells_at l (j / 7) (j % 7) hk h7] at hu
 rw [e3]
 exact hc _ _ h7 hu
set_option maxHeartbeats 1000000 in
theorem CloneG_any (l : List Gr) (A : Option Addr) (c : Nat) (w : World) (h : GAt w A c l) (hl : l.length ≤ 1000) : Calls Tryz.prog 84 #[.slice A l.length c] w (GlTo l w) := by
 obtain ⟨i0, hi, hz0, hz1, hz2⟩ := info_parts Tryz.infoGrant
 have hcc := h.1
 have qT : ∀ (w : World) (a : Option Addr) (n c n' c' : Nat), (binOp .eql 65 (.slice a n c) (.slice none n' c')).run Tryz.prog w = .ok (.bool a.isNone) w := fun w a n c n' c' => Lib.run_eql_slice_nil w _ _ a n c n' c' Tryz.underlying65
 cases A with
 | none =>
  have h0 : l = [] := by
   cases l with
   | nil => rfl
   | cons a r => obtain ⟨g, e, _⟩ := h.2 0 (by simp); cases e
  subst h0
  clear h
  go_enter Tryz.func84, Tryz.ntmps84
  go_wp2
  go_ret
  exact glTo_mk rfl rfl (World.ownsRow_nil _ _ _ _) (Below.refl _ _)
 | some a =>
  by_cases h0 : l.length = 0
  ·have e0 : l = [] := List.length_eq_zero_iff.1 h0
   subst e0
   clear h h0
   go_enter Tryz.func84, Tryz.ntmps84
   go_wp2_with (at_builtin; go_must (refine wpList_append_none rfl (.tmp 5) (.tmp 6) 65 rfl 68 i0 Tryz.underlying65 hi (some ⟨w.heap.size, 0, none⟩) 0 0 rfl (Nat.le_refl _) _ _ _ rfl rfl ?_))
   go_ret
   exact glTo_mk rfl rfl (World.ownsRow_lit w #[] 0 (Nat.le_refl _) (Nat.zero_le _) (by simp)) (rbox w _)
  ·have hpos : 0 < l.length := by omega
   obtain ⟨g, e, hgl, _⟩ := h.2 0 hpos
   obtain rfl := Option.some.inj e
   have HC : Hid (∀ O, ∀ j u, (gcells l)[j]? = some u → (w.alloc O).cell? ((⟨g, 0, none⟩ : Addr).add j) = some u) := fun O => gl_cells (h.below (rbox w O))
   have HL := Lib.hid (gcells_length l)
   have HO0 : Hid ((w.alloc (.cells #[] 68)).ownsRow w.heap.size 68 7 (.slice (some ⟨w.heap.size, 0, none⟩) 0 0) 0 []) := World.ownsRow_lit w #[] 0 (Nat.le_refl _) (Nat.zero_le _) (by simp)
   clear h e h0
   go_enter Tryz.func84, Tryz.ntmps84
   go_wp2_with (at_builtin; go_must (refine wpList_append_lies _ rfl (.tmp 5) (.tmp 6) 65 rfl w.heap.size 68 i0 _ 7 80 Tryz.underlying65 hi hz0 hz1 hz2 rfl (by decide) (.slice (some ⟨w.heap.size, 0, none⟩) 0 0) 0 [] rfl HO0.out ⟨g, 0, none⟩ l.length c (gcells l) rfl HL.out (HC.out _) (gcells_one l) hpos (by unfold maxLen; omega) (by omega) (by simp) _ rfl ?_); intro g9 cp9 w9 hown9 hg9 hat9 hlt9)
   go_ret
   have hown : OwnG w9 w.heap.size (.slice (some ⟨g9, 0, none⟩) l.length cp9) l := by
    show World.ownsRow _ _ _ _ _ _ _
    simpa using hown9
   exact glTo_mk rfl (by simp) (by simpa using hown) (((rbox w _)).grown hg9 (by simp) (fun j e => by cases e; exact Nat.le_refl _))
section
variable {b : Nat} {v : Value} {gs : List Gr} {last : Int} {w : World}
theorem ListG_any (h : GrM w b v gs last) (hl : gs.length ≤ 1000) : Calls Tryz.prog 31 #[.pointer (some ⟨b, 0, none⟩)] w (GlTo gs w) := by
 obtain ⟨A, c, rfl⟩ := own_slice h.own
 have q0 := h.q0
 have CL := Lib.hid (CloneG_any gs A c w (gAt_of h.own) hl)
 clear h
 go_enter Tryz.func31, Tryz.ntmps31
 go_wp2_with (go_at_call 84; refine CL.out.mono ?_; rintro e w2 ⟨A2, c2, rfl, ho2, hb2⟩)
 go_ret
 exact glTo_mk rfl rfl ho2 hb2
def OwnN (w : World) (base : Nat) (v : Value) (l : List Int) : Prop := w.ownsRow base 3 1 v l.length (l.map fun n => Value.int .i64 n)
def RemTo (p : List Gr × List Int) (w0 : World) (b : Nat) (v : Value) (last : Int) (e : Ending) (w' : World) : Prop := ∃ A c, e = .returned (.slice A p.2.length c) ∧ OwnN w' w0.heap.size (.slice A p.2.length c) p.2 ∧ GrTo w0 b v p.1 last w'
end
end Go.Proofs.YtkalfhhdljndfaaGreatDoor
