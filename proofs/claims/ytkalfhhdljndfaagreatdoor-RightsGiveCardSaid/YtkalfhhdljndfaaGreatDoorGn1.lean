/-
  Package duty: First, Apart; the document's Count, First.
-/
import Derived.Test.YtkalfhhdljndfaaGreatDoorDuty1
import Derived.Test.YtkalfhhdljndfaaGreatDoorSameL
import Derived.Test.YtkalfhhdljndfaaGreatDoorOwn
import Derived.Test.YtkalfhhdljndfaaGreatDoorRd4
import Derived.Deep.RegionWith
import Derived.Deep.DeepCutAuto
namespace Go.Proofs.YtkalfhhdljndfaaGreatDoor
set_option maxRecDepth 100000
open Go.ChangeShapes Go.WideShapes Go.ChangeAt Go.RowKit

section
variable (s : Nat) (l : List (Int × Nat)) (A : Option Addr) (c : Nat) (w : World)
set_option maxHeartbeats 1000000 in
theorem IdxSet_any (b : Nat) (hs : s < 4294967296) (h : StAt w A c l) (hl : l.length ≤ 1000000) (hb : b < w.heap.size) (hc : w.cell? ⟨b, 0, none⟩ = some (.int .u32 s)) :
    Calls Tryz.prog 136 #[.slice A l.length c, .func (.func 137) #[] #[.pointer (some ⟨b, 0, none⟩)]] w fun e w' => e = .returned (.int .i64 (fstI s l)) ∧ Below w.heap.size w w' := by
  have HS := Lib.hid h
  have hcc := h.1
  clear h
  go_enter Tryz.func136, Tryz.ntmps136
  go_wp2
  go_loopw [5, 8] (fun _ i wr => ∃ k : Nat, k ≤ l.length ∧ i = .int .i64 k ∧ Hid (Below w.heap.size w wr) ∧ Hid (∀ j (_ : j < k) (h : j < l.length), brk s l[j] = false)) (fun _ i _ => l.length - (intOf i).toNat)
  case atStart => exact ⟨0, Nat.zero_le _, rfl, Below.refl _ _, fun j hj _ => by omega⟩
  case round =>
    obtain ⟨k, hk, rfl, HB, HI⟩ := hrel
    by_cases hlt : k < l.length
    · obtain ⟨g, rfl, hgl, x1, x2, hr⟩ := (HS.out.below HB.out).2 k hlt
      have hb2 : b < wr.heap.size := Nat.lt_of_lt_of_le hb HB.out.size
      have hc2 := (HB.out.cell (p := ⟨b, 0, none⟩) hb).trans hc
      have CL := Lib.hid (clo_any s l[k] b wr hs hr hb2 hc2)
      have HH : Hid (brk s l[k] = true → fstI s l = k) := fun hb => fst_hit hlt hb fun j hj => HI.out j hj (by omega)
      have HT : Hid (brk s l[k] = false → ∀ j (_ : j < k + 1) (h : j < l.length), brk s l[j] = false) := fun hb j hj h => by
        by_cases e : j = k
        · subst e; exact hb
        · exact HI.out j (by omega) h
      clear hc2 hb2 hr
      generalize l[k] = a at *
      cases hq : brk s a
      · have HT2 := Lib.hid (HT.out hq)
        rw [hq] at CL
        clear hq HH HT HI
        go_wp2_with (go_at_call 137; refine CL.out.mono ?_; rintro e w2 ⟨rfl, hb2⟩)
        have HB2 := Lib.hid (below_then HB.out hb2 HB.out.size)
        go_roundw
        case rel => exact ⟨k + 1, by omega, by go_num, HB2, HT2⟩
        case measure => simp [intOf]; omega
      · have HE := Lib.hid (HH.out hq)
        rw [hq] at CL
        clear hq HH HT HI
        go_wp2_with (go_at_call 137; refine CL.out.mono ?_; rintro e w2 ⟨rfl, hb2⟩)
        go_ret
        exact ⟨ret_int HE.out.symm, below_then HB.out hb2 HB.out.size⟩
    · have HE : Hid (fstI s l = -1) := fst_miss fun j hj => HI.out j (by omega) hj
      clear HI
      go_wp2
      go_ret
      exact ⟨ret_int HE.out.symm, HB.out⟩
theorem First_any (hs : s < 4294967296) (h : StAt w A c l) (hl : l.length ≤ 1000000) :
    Calls Tryz.prog 99 #[.int .u32 s, .slice A l.length c] w fun e w' => e = .returned (.int .i64 (fstI s l)) ∧ Below w.heap.size w w' := by
  have R := heap_alloc_new w (.cells #[.int .u32 s] 40)
  have hbz : Below w.heap.size w (w.alloc (.cells #[.int .u32 s] 40)) := (Below.refl _ _).alloc (Nat.le_refl _) _
  have IX := Lib.hid (IdxSet_any s l A c (w.alloc (.cells #[.int .u32 s] 40)) w.heap.size hs (h.below hbz) hl (by simp) (by rw [cell_of_row _ _ _ _ _ _ R]; rfl))
  have HB := Lib.hid hbz
  have hmf : ∀ (fn : Fn) (first cap : Array Value) (w : World), (Instr.makeFunc fn first cap).run Tryz.prog w = .ok (.func fn first cap) w := fun _ _ _ _ => rfl
  clear h R hbz
  go_enter Tryz.func99, Tryz.ntmps99
  go_wp2_with (go_at_call 136; refine IX.out.mono ?_; rintro e w2 ⟨rfl, hb2⟩)
  go_ret
  exact ⟨rfl, below_then HB.out hb2 HB.out.size⟩
theorem Apart_any (hs : s < 4294967296) (h : StAt w A c l) (hl : l.length ≤ 1000000) :
    Calls Tryz.prog 44 #[.int .u32 s, .slice A l.length c] w fun e w' => e = .returned (.bool (decide (fstI s l < 0))) ∧ Below w.heap.size w w' := by
  have F := Lib.hid (First_any s l A c w hs h hl)
  clear h
  generalize fstI s l = r at *
  go_enter Tryz.func44, Tryz.ntmps44
  go_wp2_with (go_at_call 99; refine F.out.mono ?_; rintro e w2 ⟨rfl, hb2⟩)
  go_ret
  exact ⟨rfl, hb2⟩
end
end Go.Proofs.YtkalfhhdljndfaaGreatDoor
/-
  slices.Index and slices.Contains of texts.
-/
namespace Go.Proofs.YtkalfhhdljndfaaGreatDoor
set_option maxRecDepth 100000
open Go.ChangeShapes Go.WideShapes Go.ChangeAt Go.RowKit

theorem beq_tx (a c : Tx) : ((bs a).toList == (bs c).toList) = (a == c) := by rw [Lib.toList_data, Lib.toList_data, list_bs, list_bs]
/-- the place of a text; -1: none -/
def idxI (l : List Tx) (x : Tx) : Int := if x ∈ l then (l.idxOf x : Int) else -1
theorem idxOf_at {l : List Tx} {x : Tx} {k : Nat} (h : k < l.length) (e : x = l[k]) (hn : x ∉ l.take k) : l.idxOf x = k := by
  have hs : l = l.take k ++ l[k] :: l.drop (k + 1) := by rw [← List.drop_eq_getElem_cons h, List.take_append_drop]
  rw [hs, List.idxOf_append, if_neg hn, ← e, List.idxOf_cons_self, List.length_take]
  omega
set_option maxHeartbeats 1000000 in
theorem IndexX_any (l : List Tx) (x : Tx) (A : Option Addr) (c : Nat) (w : World) (h : ListAt w A c l) (hl : l.length ≤ 1000000) :
    Calls Tryz.prog 61 #[.slice A l.length c, .string (bs x)] w fun e w' => e = .returned (.int .i64 (idxI l x)) ∧ w = w' := by
  have hc := h.1
  have h := h.2
  go_enter Tryz.func61, Tryz.ntmps61
  go_wp2
  go_loop [5, 8] (fun _ i => ∃ k : Nat, k ≤ l.length ∧ i = .int .i64 k ∧ Hid (x ∉ l.take k)) (fun _ i => l.length - (intOf i).toNat)
  case atStart => exact ⟨0, Nat.zero_le _, rfl, by show ¬ _; simp⟩
  case round =>
    obtain ⟨k, hk, rfl, HI⟩ := hrel
    by_cases hlt : k < l.length
    · obtain ⟨b, rfl, _, hx⟩ := h k hlt
      have hsn : l.take (k + 1) = l.take k ++ [l[k]] := by rw [List.take_succ_eq_append_getElem hlt]
      have hme : l[k] ∈ l := List.getElem_mem hlt
      clear h
      by_cases he : x = l[k]
      · have HM : Hid (idxI l x = k) := by show _ = _; unfold idxI; rw [if_pos (by rw [he]; exact hme), idxOf_at hlt he HI.out]
        have hb : ((bs x).toList == (bs l[k]).toList) = true := by rw [beq_tx]; simp [he]
        clear he hme hsn
        generalize bs l[k] = y at *
        go_wp2
        go_ret
        exact ⟨ret_int HM.out.symm, rfl⟩
      · have HT : Hid (x ∉ l.take (k + 1)) := by
          show ¬ _
          rw [hsn, List.mem_append]
          exact fun hh => hh.elim HI.out (fun h => he (List.mem_singleton.1 h))
        have hb : ((bs x).toList == (bs l[k]).toList) = false := by rw [beq_tx]; simp [he]
        clear he hme hsn
        generalize bs l[k] = y at *
        go_wp2
        go_round
        case rel => exact ⟨k + 1, by omega, by go_num, HT⟩
        case measure => simp [intOf]; omega
    · have HT : Hid (idxI l x = -1) := by have := HI.out; rw [List.take_of_length_le (by omega)] at this; show _ = _; unfold idxI; rw [if_neg this]
      clear h
      go_wp2
      go_ret
      exact ⟨ret_int HT.out.symm, rfl⟩
theorem idxI_ge (l : List Tx) (x : Tx) : decide (0 ≤ idxI l x) = decide (x ∈ l) := by
  unfold idxI; split
  · rename_i h; simp [h]
  · rename_i h; simp [h]
theorem Contains_str (l : List Tx) (x : Tx) (A : Option Addr) (c : Nat) (w : World) (h : ListAt w A c l) (hl : l.length ≤ 1000000) :
    Calls Tryz.prog 135 #[.slice A l.length c, .string (bs x)] w fun e w' => e = .returned (.bool (decide (x ∈ l))) ∧ w = w' := by
  have HI := Lib.hid (IndexX_any l x A c w h hl)
  have HG := Lib.hid (idxI_ge l x)
  clear h
  go_enter Tryz.func135, Tryz.ntmps135
  go_wp2_with (go_at_call 61; refine HI.out.mono ?_; rintro e w1 ⟨rfl, rfl⟩)
  go_ret
  exact ⟨ret_bool HG.out, rfl⟩
end Go.Proofs.YtkalfhhdljndfaaGreatDoor
/-
  Package duty: Tasks.
-/
namespace Go.Proofs.YtkalfhhdljndfaaGreatDoor
set_option maxRecDepth 100000
open Go.ChangeShapes Go.WideShapes Go.ChangeAt Go.RowKit Go.Maps Go.WideMaps Go.ChangeMaps

/-- lists of texts in cells -/
def LLAt (w : World) (A : Option Addr) (c : Nat) (L : List (List Tx)) : Prop := L.length ≤ c ∧ ∀ j (hj : j < L.length), ∃ g B d, A = some ⟨g, 0, none⟩ ∧ g < w.heap.size ∧ w.cell? ⟨g, j, none⟩ = some (.slice B L[j].length d) ∧ ListAt w B d L[j]
theorem LLAt.below {w w' : World} {A : Option Addr} {c : Nat} {L : List (List Tx)} (h : LLAt w A c L) (hb : Below w.heap.size w w') : LLAt w' A c L :=
  ⟨h.1, fun j hj => let ⟨g, B, d, e, hl, hc, hL⟩ := h.2 j hj; ⟨g, B, d, e, Nat.lt_of_lt_of_le hl hb.size, (hb.cell (p := ⟨g, j, none⟩) hl).trans hc, hL.below hb⟩⟩
def SetAt (w : World) (b n : Nat) (O : List Tx) : Prop := w.ownsMap Tryz.prog 9 unitElem b n (setL O)
theorem SetAt.lt {w : World} {b n : Nat} {O : List Tx} (h : SetAt w b n O) : b < w.heap.size := by
  obtain ⟨es, clock, h1, _⟩ := h
  exact (Array.getElem?_eq_some_iff.1 h1).1
theorem SetAt.below {w w' : World} {b n : Nat} {O : List Tx} (h : SetAt w b n O) (hb : Below w.heap.size w w') : SetAt w' b n O := by
  have hl := h.lt
  obtain ⟨es, clock, h1, r⟩ := h
  exact ⟨es, clock, (hb.block _ hl).trans h1, r⟩
theorem SetAt.le {w : World} {b n m : Nat} {O : List Tx} (h : SetAt w b n O) (hn : n ≤ m) : SetAt w b m O := by
  obtain ⟨es, clock, h1, h2, h3, h4⟩ := h
  exact ⟨es, clock, h1, h2, Nat.le_trans h3 hn, h4⟩
end Go.Proofs.YtkalfhhdljndfaaGreatDoor
/-
  The maker of a plan's texts: the number that is next; a name. Of texts only how much they hold, and how many lines end in them.
-/
namespace Go.Proofs.YtkalfhhdljndfaaGreatDoor
set_option maxRecDepth 100000
open Go.ChangeShapes Go.WideShapes Go.ChangeAt Go.RowKit

/-- how many lines end in a text -/
def nl (t : ByteArray) : Nat := t.data.toList.count 10
theorem sz_lit (l : Array UInt8) : (⟨l⟩ : ByteArray).size = l.size := rfl

/-- where a maker stands: its plan's numbers came in; so many were taken -/
def Mk (W0 : World) (v : Value) (b k : Nat) (w : World) : Prop := Below W0.heap.size W0 w ∧ W0.heap.size ≤ b ∧ w.heap[b]? = some (.cells #[v, .int .i64 k] 114 (0, 0))
def NTo (W0 : World) (v : Value) (b k : Nat) (of : Int) (w : World) (e : Ending) (w' : World) : Prop := ∃ r : Nat, e = .returned (.int .i64 r) ∧ (r : Int) < of ∧ Mk W0 v b (k + 1) w' ∧ w.grownBy w' (some b)
theorem nTo_mk {W0 : World} {v : Value} {b k : Nat} {of x : Int} {w w' : World} (h0 : 0 ≤ x) (h1 : x < of) (h2 : Mk W0 v b (k + 1) w') (h3 : w.grownBy w' (some b)) : NTo W0 v b k of w (.returned (.int .i64 x)) w' :=
  ⟨x.toNat, by rw [Int.toNat_of_nonneg h0], by rw [Int.toNat_of_nonneg h0]; exact h1, h2, h3⟩
theorem mk_step {W0 : World} {v : Value} {b k : Nat} {w : World} (h : Mk W0 v b k w) : Mk W0 v b (k + 1) (w.setCell ⟨b, 1, none⟩ (.int .i64 ((k : Int) + 1))) := by
  obtain ⟨h1, h2, h3⟩ := h
  exact ⟨h1.grown (grown_setCell _ _ _ _) h1.size (fun j hj => by cases hj; exact h2), h2, by simpa using heap_set (j := 1) h3 (.int .i64 ((k : Int) + 1))⟩
theorem Mk.drewN {W0 : World} {v : Value} {b k : Nat} {w : World} (h : Mk W0 v b k w) (n : Nat) : Mk W0 v b k (w.drewN n) := ⟨below_drewN h.1 n, h.2.1, h.2.2⟩
theorem grown_drew' {w w' : World} {r : Option Nat} (n : Nat) (h : (w.drewN n).grownBy w' r) : w.grownBy w' r := ⟨h.os, h.tape, h.output, h.size, h.block⟩
theorem Mk.below {W0 : World} {v : Value} {b k : Nat} {w w' : World} (h : Mk W0 v b k w) (hb : Below w.heap.size w w') : Mk W0 v b k w' :=
  ⟨below_then h.1 hb h.1.size, h.2.1, (hb.block _ (Array.getElem?_eq_some_iff.1 h.2.2).1).trans h.2.2⟩
theorem StrAt.drewN {w : World} {t : Nat} {l : List Tx} (h : StrAt w t l) (n : Nat) : StrAt (w.drewN n) t l := h
theorem Mk.alloc {W0 : World} {v : Value} {b k : Nat} {w : World} (h : Mk W0 v b k w) (O : Obj) : Mk W0 v b k (w.alloc O) :=
  ⟨h.1.alloc h.1.size _, h.2.1, (heap_alloc_old _ _ (Array.getElem?_eq_some_iff.1 h.2.2).1).trans h.2.2⟩
set_option maxHeartbeats 2000000 in
theorem n_any (W0 : World) (v : Value) (zs : List Int) (hz : IntsAt W0 v zs) (b k : Nat) (of : Int) (w : World) (h : Mk W0 v b k w) (hk : k ≤ 1000000) (h1 : 1 ≤ of) (h2 : of ≤ 1000) :
    Calls Tryz.prog 102 #[.pointer (some ⟨b, 0, none⟩), .int .i64 of] w (NTo W0 v b k of w) := by
  obtain ⟨A, cap, rfl, hm, hx⟩ := hz
  have q0 : w.cell? ⟨b, 0, none⟩ = some (.slice A zs.length cap) := by rw [cell_of_row _ _ _ _ _ _ h.2.2]; rfl
  have q1 : w.cell? ⟨b, 1, none⟩ = some (.int .i64 k) := by rw [cell_of_row _ _ _ _ _ _ h.2.2]; rfl
  have f1 : w.frozen? ⟨b, 1, none⟩ = false := by simp [World.frozen?, h.2.2]
  have HS := fun n => Lib.hid (mk_step (h.drewN n))
  have ek : IntKind.i64.wrap ((k : Int) + 1) = (k : Int) + 1 := by rw [IntKind.wrap_i64]; omega
  by_cases hlt : k < zs.length
  · obtain ⟨g, off, rfl, hgl, hc, hwf⟩ := hx k hlt
    have hc' : w.cell? ⟨g, off + k, none⟩ = some (.int .i64 zs[k]) := (h.1.cell (p := ⟨g, off + k, none⟩) hgl).trans hc
    have hw := fun W => Within_any zs[k] of W hwf h1 (by omega)
    have hb := within_bd zs[k] of h1
    have HW := Lib.hid hw
    clear hw hx hc h hwf
    generalize zs[k] = x at *
    generalize zs.length = l at *
    go_enter Tryz.func102, Tryz.ntmps102
    go_wp2
    go_quiet (fail)
    go_wp2
    go_quiet (fail)
    go_wp2_with (go_at_call 27; refine (HW.out _).mono ?_; rintro e w1 ⟨rfl, rfl⟩)
    go_ret
    exact nTo_mk hb.1 hb.2 (HS _).out (grown_drew' _ (grown_setCell _ _ _ _))
  · have hw := fun W => Within_any 0 of W (by decide) h1 (by omega)
    have hb := within_bd 0 of h1
    have HW := Lib.hid hw
    clear hw hx h
    generalize zs.length = l at *
    go_enter Tryz.func102, Tryz.ntmps102
    go_wp2
    go_quiet (fail)
    go_wp2_with (go_at_call 27; refine (HW.out _).mono ?_; rintro e w1 ⟨rfl, rfl⟩)
    go_ret
    exact nTo_mk hb.1 hb.2 (HS _).out (grown_drew' _ (grown_setCell _ _ _ _))
theorem abc_at (m : Nat) (h : m < 12) : (ByteArray.mk #[97, 98, 99, 100, 101, 102, 103, 104, 105, 106, 107, 108]).extract m 12 = bs ([97, 98, 99, 100, 101, 102, 103, 104, 105, 106, 107, 108].drop m) := by
  rw [extract_bs]
  have : ∀ m, m < 12 → List.take (12 - m) (List.drop m (ByteArray.mk #[97, 98, 99, 100, 101, 102, 103, 104, 105, 106, 107, 108]).data.toList) = List.drop m [97, 98, 99, 100, 101, 102, 103, 104, 105, 106, 107, 108] := by decide
  rw [this m h]
theorem abc_nl : ∀ m, m < 12 → ∀ l ∈ [([97, 98, 99, 100, 101, 102, 103, 104, 105, 106, 107, 108] : List UInt8).drop m], (l.take 1).length = 1 ∧ (l.take 1).count 10 = 0 := by decide
/-- the letter of a number -/
def abc (n : Nat) : ByteArray := bs ((([97, 98, 99, 100, 101, 102, 103, 104, 105, 106, 107, 108] : List UInt8).drop (n % 12)).take 1)
theorem abc_sz (n : Nat) : (abc n).size = 1 := (abc_nl (n % 12) (Nat.mod_lt _ (by omega)) _ (List.mem_singleton.2 rfl)).1
theorem nmv_any (h : ByteArray) (hs : h.size = 1) (n : Nat) (hn : n ≤ 1000000) (w : World) : Calls Tryz.prog 103 #[.string h, .int .i64 n] w fun e w' => e = .returned (.string (h ++ abc n)) ∧ w = w' := by
  have hm : (n : Int).tmod 12 = ((n % 12 : Nat) : Int) := by rw [Int.tmod_eq_emod_of_nonneg (by omega)]; omega
  have hlt : n % 12 < 12 := Nat.mod_lt _ (by omega)
  unfold abc
  generalize n % 12 = m at *
  have hab := abc_at m hlt
  have hsz : (bs ([97, 98, 99, 100, 101, 102, 103, 104, 105, 106, 107, 108].drop m)).size = 12 - m := by rw [size_bs]; simp
  have hmi : (m : Int) ≤ 12 := by omega
  go_enter Tryz.func103, Tryz.ntmps103
  go_wp2
  go_ret
  have hx : ∀ l : List UInt8, (bs l).extract 0 1 = bs (l.take 1) := fun l => by rw [extract_bs]; rfl
  rw [hx]
  exact ⟨rfl, rfl⟩
end Go.Proofs.YtkalfhhdljndfaaGreatDoor
/-
  The maker's people: some text of some lines.
-/
namespace Go.Proofs.YtkalfhhdljndfaaGreatDoor
set_option maxRecDepth 100000
open Go.ChangeShapes Go.WideShapes Go.ChangeAt Go.RowKit

def duT : List Tx := [[115, 115, 100], [100, 115, 100]]
end Go.Proofs.YtkalfhhdljndfaaGreatDoor
/-
  The maker's texts again: how many lines end in them, and that no letter h and no y stands in them.
-/
namespace Go.Proofs.YtkalfhhdljndfaaGreatDoor
set_option maxRecDepth 100000
open Go.ChangeShapes Go.WideShapes Go.ChangeAt Go.RowKit

/-- how many lines end in a text, and a thousand for each h, each y -/
def nw (t : ByteArray) : Nat := t.data.toList.count 10 + 1000 * (t.data.toList.count 104 + t.data.toList.count 121)
theorem nw_app (a b : ByteArray) : nw (a ++ b) = nw a + nw b := by simp [nw, ByteArray.data_append]; omega
theorem nw_lit (l : Array UInt8) : nw ⟨l⟩ = l.toList.count 10 + 1000 * (l.toList.count 104 + l.toList.count 121) := rfl
def NmToW (n : Nat) (w : World) (e : Ending) (w' : World) : Prop := ∃ t : ByteArray, e = .returned (.string t) ∧ t.size = n ∧ nw t = 0 ∧ w = w'
theorem abc_nw (n : Nat) (h : n ≤ 6) : nw (abc n) = 0 := by
  have : ∀ m, m < 7 → nw (bs ((([97, 98, 99, 100, 101, 102, 103, 104, 105, 106, 107, 108] : List UInt8).drop (m % 12)).take 1)) = 0 := by decide
  exact this n (by omega)
theorem nmw_any (h : ByteArray) (hs : h.size = 1) (h0 : nw h = 0) (n : Nat) (hn : n ≤ 6) (w : World) : Calls Tryz.prog 103 #[.string h, .int .i64 n] w (NmToW 2 w) :=
  (nmv_any h hs n (by omega) w).mono fun _ _ ⟨he, hw⟩ => ⟨_, he, by rw [ByteArray.size_append, hs, abc_sz], by rw [nw_app, h0, abc_nw n hn], hw⟩
/-- some text, of so many bytes and lines at most; the maker went on -/
def TxToW (W0 : World) (v : Value) (b L R K : Nat) (_w : World) (e : Ending) (w' : World) : Prop := ∃ (t : ByteArray) (k : Nat), e = .returned (.string t) ∧ t.size ≤ L ∧ nw t ≤ R ∧ k ≤ K ∧ Mk W0 v b k w' ∧ Below W0.heap.size W0 w'
theorem txToW_mk {W0 : World} {v : Value} {b L R K : Nat} {w w' : World} {t : ByteArray} {k : Nat} (h1 : t.size ≤ L) (h2 : nw t ≤ R) (h3 : k ≤ K) (h4 : Mk W0 v b k w') : TxToW W0 v b L R K w (.returned (.string t)) w' := ⟨t, k, rfl, h1, h2, h3, h4, h4.1⟩
theorem nw_digs (n : Nat) : nw (bs (digs n)) = 0 := by
  have key : ∀ m, m < 10 → ∀ c ∈ [(10 : UInt8), 104, 121], ([dgt m] : List UInt8).count c = 0 := by decide
  have : ∀ c ∈ [(10 : UInt8), 104, 121], ∀ n, (digs n).count c = 0 := by
    intro c hc n
    induction n using Nat.strongRecOn with
    | ind n ih =>
      rw [digs]
      split
      · exact key n (by omega) c hc
      · rw [List.count_append, ih (n / 10) (by omega), key (n % 10) (by omega) c hc]
  show (digs n).count 10 + 1000 * ((digs n).count 104 + (digs n).count 121) = 0
  rw [this 10 (by simp) n, this 104 (by simp) n, this 121 (by simp) n]
end Go.Proofs.YtkalfhhdljndfaaGreatDoor
