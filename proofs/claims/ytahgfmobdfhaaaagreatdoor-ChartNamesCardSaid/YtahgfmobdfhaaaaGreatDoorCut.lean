/-
  Package chart: Valid, of a chart that may be.
-/
import Derived.Test.YtahgfmobdfhaaaaGreatDoorCh4
import Derived.Test.YtahgfmobdfhaaaaGreatDoorCh7
import Derived.Test.YtahgfmobdfhaaaaGreatDoorPol5
import Derived.Test.YtahgfmobdfhaaaaGreatDoorRuleSt
import Derived.Test.YtahgfmobdfhaaaaGreatDoorOwn
import Derived.Test.YtahgfmobdfhaaaaGreatDoorPrint2
import Derived.Lib.Hide
namespace Go.Proofs.YtahgfmobdfhaaaaGreatDoor
set_option maxRecDepth 100000
open Go.ChangeShapes Go.WideShapes Go.ChangeAt Go.RowKit

theorem there_yes (A B : Option Addr) (n c m d k : Nat) (w : World) (hk : k < n) :
    Calls Tryz.prog 38 #[.agg #[.slice A n c, .slice B m d], .int .i64 k] w fun e w' => e = .returned (.bool true) ∧ Below w.heap.size w w' := by
  have x0 := box_0 w 30 (.slice A n c) (.slice B m d)
  have HZ := Lib.hid (box_b w (.cells #[.slice A n c, .slice B m d] 30))
  have h1 : (0 : Int) ≤ k := by omega
  have h2 : (k : Int) < n := by omega
  go_enter Tryz.func38, Tryz.ntmps38
  go_wp2
  go_ret
  exact ⟨rfl, HZ.out⟩
theorem nameL_12 {x : Tx} (h : nameL x = true) : x.length ≤ 1000 := by
  unfold nameL at h
  simp only [Bool.and_eq_true, decide_eq_true_eq] at h
  omega
theorem optional_yes (x : Tx) (w : World) (h : optN x = true) : Calls Tryz.prog 40 #[.string (bs x)] w fun e w' => e = .returned (.bool true) ∧ w = w' := by
  by_cases hx : x = []
  · subst hx
    have hzb : ((bs []).toList == []) = true := by rw [Lib.toList_data, list_bs]; rfl
    have hzc : (bs []).toList.isEmpty = true := by rw [Lib.toList_data, list_bs]; rfl
    clear h
    go_enter Tryz.func40, Tryz.ntmps40
    go_wp2
    go_ret
    exact ⟨rfl, rfl⟩
  · have hn : nameL x = true := by unfold optN at h; simpa [hx] using h
    have b4 : ((bs x).toList == []) = false := by rw [Lib.toList_data, list_bs]; simpa using hx
    have b5 : (bs x).toList.isEmpty = false := by rw [Lib.toList_data, list_bs]; simpa using hx
    have NM := Lib.hid (fun W => Name_any (bs x) W (by rw [size_bs]; have := nameL_12 hn; unfold maxLen; omega))
    rw [list_bs, hn] at NM
    clear h hx hn
    go_enter Tryz.func40, Tryz.ntmps40
    go_wp2_with (go_at_call 36; refine (NM.out _).mono ?_; rintro e w2 ⟨rfl, rfl⟩)
    go_ret
    exact ⟨rfl, rfl⟩
section
variable {W : World} {t : Nat} {a0 a1 a2 a3 a4 a5 a6 : Value} {ty : TypeId} {fr : Nat × Nat}
theorem tr_q0 (R : W.heap[t]? = some (.cells #[a0, a1, a2, a3, a4, a5, a6] ty fr)) : W.cell? ⟨t, 0, none⟩ = some a0 := by rw [cell_of_row _ _ _ _ _ _ R]; rfl
theorem tr_q1 (R : W.heap[t]? = some (.cells #[a0, a1, a2, a3, a4, a5, a6] ty fr)) : W.cell? ⟨t, 1, none⟩ = some a1 := by rw [cell_of_row _ _ _ _ _ _ R]; rfl
theorem tr_q2 (R : W.heap[t]? = some (.cells #[a0, a1, a2, a3, a4, a5, a6] ty fr)) : W.cell? ⟨t, 2, none⟩ = some a2 := by rw [cell_of_row _ _ _ _ _ _ R]; rfl
theorem tr_q3 (R : W.heap[t]? = some (.cells #[a0, a1, a2, a3, a4, a5, a6] ty fr)) : W.cell? ⟨t, 3, none⟩ = some a3 := by rw [cell_of_row _ _ _ _ _ _ R]; rfl
theorem tr_q4 (R : W.heap[t]? = some (.cells #[a0, a1, a2, a3, a4, a5, a6] ty fr)) : W.cell? ⟨t, 4, none⟩ = some a4 := by rw [cell_of_row _ _ _ _ _ _ R]; rfl
theorem tr_q5 (R : W.heap[t]? = some (.cells #[a0, a1, a2, a3, a4, a5, a6] ty fr)) : W.cell? ⟨t, 5, none⟩ = some a5 := by rw [cell_of_row _ _ _ _ _ _ R]; rfl
theorem tr_q6 (R : W.heap[t]? = some (.cells #[a0, a1, a2, a3, a4, a5, a6] ty fr)) : W.cell? ⟨t, 6, none⟩ = some a6 := by rw [cell_of_row _ _ _ _ _ _ R]; rfl
end
set_option maxHeartbeats 2000000 in
theorem labelled_yes (t : Tr) (w : World) (h : lablB t = true) :
    Calls Tryz.prog 18 #[.agg #[.int .i64 t.kind, .int .i64 t.from_, .int .i64 t.to_, .string (bs t.event), .string (bs t.perm), .string (bs t.task), .int .i64 t.time]] w fun e w' => e = .returned (.bool true) ∧ Below w.heap.size w w' := by
  obtain ⟨kd, fr, tt, ev, pe, ta, ti⟩ := t
  have R := heap_alloc_new w (.cells #[.int .i64 kd, .int .i64 fr, .int .i64 tt, .string (bs ev), .string (bs pe), .string (bs ta), .int .i64 ti] 43)
  have HZ := Lib.hid (box_b w (.cells #[.int .i64 kd, .int .i64 fr, .int .i64 tt, .string (bs ev), .string (bs pe), .string (bs ta), .int .i64 ti] 43))
  have q0 := tr_q0 R; have q3 := tr_q3 R; have q4 := tr_q4 R; have q5 := tr_q5 R; have q6 := tr_q6 R
  have hzb : ((bs []).toList == []) = true := by rw [Lib.toList_data, list_bs]; rfl
  have hzc : (bs []).toList.isEmpty = true := by rw [Lib.toList_data, list_bs]; rfl
  unfold lablB at h
  simp only at h ⊢
  clear R
  by_cases h9 : kd = 9
  · rw [if_pos h9] at h
    subst h9
    simp only [Bool.and_eq_true, beq_iff_eq] at h
    obtain ⟨⟨⟨g1, g2⟩, g3⟩, rfl⟩ := h
    have hev : ev ≠ [] := nameL_ne g1
    have b4 : ((bs ev).toList == []) = false := by rw [Lib.toList_data, list_bs]; simpa using hev
    have b5 : (bs ev).toList.isEmpty = false := by rw [Lib.toList_data, list_bs]; simpa using hev
    have NM := Lib.hid (fun W => Name_any (bs ev) W (by rw [size_bs]; have := nameL_12 g1; unfold maxLen; omega))
    rw [list_bs, g1] at NM
    have O1 := Lib.hid (fun W => optional_yes pe W g2)
    have O2 := Lib.hid (fun W => optional_yes ta W g3)
    clear g1 g2 g3 hev
    go_enter Tryz.func18, Tryz.ntmps18
    go_wp2_with (first
      | (go_at_call 36; refine (NM.out _).mono ?_; rintro e w2 ⟨rfl, rfl⟩)
      | (go_at_call_of 40 (Value.string (bs pe)); refine (O1.out _).mono ?_; rintro e w2 ⟨rfl, rfl⟩)
      | (go_at_call_of 40 (Value.string (bs ta)); refine (O2.out _).mono ?_; rintro e w2 ⟨rfl, rfl⟩))
    go_ret
    exact ⟨rfl, HZ.out⟩
  rw [if_neg h9] at h
  have g9 : (kd == 9) = false := beq_eq_false_iff_ne.2 h9
  by_cases h10 : kd = 10
  · rw [if_pos h10] at h
    subst h10
    unfold silB at h
    simp only [Bool.and_eq_true, beq_iff_eq] at h
    obtain ⟨⟨⟨rfl, rfl⟩, rfl⟩, rfl⟩ := h
    clear h9
    go_enter Tryz.func18, Tryz.ntmps18
    go_wp2
    go_ret
    exact ⟨rfl, HZ.out⟩
  rw [if_neg h10] at h
  have g10 : (kd == 10) = false := beq_eq_false_iff_ne.2 h10
  by_cases h11 : kd = 11
  · rw [if_pos h11] at h
    subst h11
    unfold silB at h
    simp only [Bool.and_eq_true, beq_iff_eq, decide_eq_true_eq] at h
    obtain ⟨⟨⟨⟨rfl, rfl⟩, rfl⟩, t1⟩, t2⟩ := h
    clear h9 h10
    go_enter Tryz.func18, Tryz.ntmps18
    go_wp2
    go_ret
    exact ⟨rfl, HZ.out⟩
  · rw [if_neg h11] at h; cases h
set_option maxHeartbeats 2000000 in
theorem leads_yes (ks : List Int) (t : Tr) (A B : Option Addr) (n c m d : Nat) (w : World) (hI : IntsAt w (.slice A n c) ks) (hn : n = ks.length) (h : leadsB ks t = true) :
    Calls Tryz.prog 17 #[.agg #[.slice A n c, .slice B m d], .agg #[.int .i64 t.kind, .int .i64 t.from_, .int .i64 t.to_, .string (bs t.event), .string (bs t.perm), .string (bs t.task), .int .i64 t.time]] w fun e w' => e = .returned (.bool true) ∧ Below w.heap.size w w' := by
  obtain ⟨kd, fr, tt, ev, pe, ta, ti⟩ := t
  unfold leadsB thereB at h
  simp only [Bool.and_eq_true, decide_eq_true_eq] at h ⊢
  obtain ⟨⟨⟨a1, a2⟩, a3, a4⟩, a5⟩ := h
  obtain ⟨j, rfl⟩ : ∃ j : Nat, fr = j := ⟨fr.toNat, by omega⟩
  obtain ⟨i, rfl⟩ : ∃ i : Nat, tt = i := ⟨tt.toNat, by omega⟩
  rw [Int.toNat_natCast] at a5
  have hj : j < n := by omega
  have hi : i < n := by omega
  have hji : (j : Int) < n := by omega
  have hz1 := box_b w (.cells #[.slice A n c, .slice B m d] 30)
  have hz2 := below_then hz1 (box_b (w.alloc (.cells #[.slice A n c, .slice B m d] 30)) (.cells #[.int .i64 kd, .int .i64 j, .int .i64 i, .string (bs ev), .string (bs pe), .string (bs ta), .int .i64 ti] 43)) hz1.size
  have R := heap_alloc_new (w.alloc (.cells #[.slice A n c, .slice B m d] 30)) (.cells #[.int .i64 kd, .int .i64 j, .int .i64 i, .string (bs ev), .string (bs pe), .string (bs ta), .int .i64 ti] 43)
  have hs1 : (w.alloc (.cells #[.slice A n c, .slice B m d] 30)).heap.size = w.heap.size + 1 := by simp
  rw [hs1] at R
  have x0 := (World.cell?_alloc_lt (w.alloc (.cells #[.slice A n c, .slice B m d] 30)) (.cells #[.int .i64 kd, .int .i64 j, .int .i64 i, .string (bs ev), .string (bs pe), .string (bs ta), .int .i64 ti] 43) ⟨w.heap.size, 0, none⟩ (by simp)).trans (box_0 w 30 (.slice A n c) (.slice B m d))
  have x1 := (World.cell?_alloc_lt (w.alloc (.cells #[.slice A n c, .slice B m d] 30)) (.cells #[.int .i64 kd, .int .i64 j, .int .i64 i, .string (bs ev), .string (bs pe), .string (bs ta), .int .i64 ti] 43) ⟨w.heap.size, 1, none⟩ (by simp)).trans (box_1 w 30 (.slice A n c) (.slice B m d))
  have q1 := tr_q1 R; have q2 := tr_q2 R
  have hl2 : w.heap.size + 1 < ((w.alloc (.cells #[.slice A n c, .slice B m d] 30)).alloc (.cells #[.int .i64 kd, .int .i64 j, .int .i64 i, .string (bs ev), .string (bs pe), .string (bs ta), .int .i64 ti] 43)).heap.size := by simp
  have HI2 := Lib.hid (hI.below hz2)
  have HZ2 := Lib.hid hz2
  have T1 := Lib.hid (fun k W (hk : k < n) => there_yes A B n c m d k W hk)
  have SK := Lib.hid (fun W => stays_any (ks.getD j 0) W)
  rw [a5] at SK
  have HJ : Hid (j < ks.length) := by show _ < _; omega
  clear hI hz1 hz2 R a1 a2 a3 a4 a5 hs1 hn
  go_enter Tryz.func17, Tryz.ntmps17
  go_upto_region 1 with fail
  generalize (w.alloc (.cells #[.slice A n c, .slice B m d] 30)).alloc (.cells #[.int .i64 kd, .int .i64 j, .int .i64 i, .string (bs ev), .string (bs pe), .string (bs ta), .int .i64 ti] 43) = w1 at *
  obtain ⟨b, off, rfl, hb, hx, _⟩ := ints_cell HI2.out (k := j) HJ.out
  generalize ks.getD j 0 = x9 at *
  have hs1 : w.heap.size < w1.heap.size := by omega
  clear HI2 HJ
  go_wp2_with (first
    | (go_at_call_of 38 (Value.int .i64 j); refine (T1.out j _ hj).mono ?_; rintro e w2 ⟨rfl, hb2⟩; have k0 := (hb2.cell (p := ⟨w.heap.size, 0, none⟩) hs1).trans x0; have k1 := (hb2.cell (p := ⟨w.heap.size, 1, none⟩) hs1).trans x1; have k2 := (hb2.cell (p := ⟨w.heap.size + 1, 1, none⟩) hl2).trans q1; have k3 := (hb2.cell (p := ⟨w.heap.size + 1, 2, none⟩) hl2).trans q2; have kx := (hb2.cell (p := ⟨b, off + j, none⟩) hb).trans hx; have HB2 := Lib.hid hb2; clear hb2)
    | (go_at_call_of 38 (Value.int .i64 i); refine (T1.out i _ hi).mono ?_; rintro e w3 ⟨rfl, hb3⟩; have hb4 := below_then HB2.out hb3 HB2.out.size; have j0 := (hb4.cell (p := ⟨w.heap.size, 0, none⟩) hs1).trans x0; have j2 := (hb4.cell (p := ⟨w.heap.size + 1, 1, none⟩) hl2).trans q1; have jx := (hb4.cell (p := ⟨b, off + j, none⟩) hb).trans hx; have HB4 := Lib.hid hb4; clear hb3 hb4)
    | (go_at_call 39; refine (SK.out _).mono ?_; rintro e w5 ⟨rfl, rfl⟩))
  go_ret
  exact ⟨rfl, below_then HZ2.out HB4.out HZ2.out.size⟩
end Go.Proofs.YtahgfmobdfhaaaaGreatDoor
/-
  Package chart: Valid, of a chart that may be: the walk.
-/
namespace Go.Proofs.YtahgfmobdfhaaaaGreatDoor
set_option maxRecDepth 100000
open Go.ChangeShapes Go.WideShapes Go.ChangeAt Go.RowKit

theorem listAt_take {w : World} {A : Option Addr} {c : Nat} {l : List Tx} (h : ListAt w A c l) (i : Nat) : ListAt w A c (l.take i) := by
  refine ⟨Nat.le_trans (by rw [List.length_take]; omega) h.1, fun j hj => ?_⟩
  have hj2 : j < l.length := by rw [List.length_take] at hj; omega
  obtain ⟨b, e, hb, hx⟩ := h.2 j hj2
  exact ⟨b, e, hb, by rw [List.getElem_take]; exact hx⟩
/-- transitions in cells -/
def TAt (w : World) (A : Option Addr) (l : List Tr) : Prop := ∀ j (h : j < l.length), ∃ g, A = some ⟨g, 0, none⟩ ∧ g < w.heap.size ∧ ∀ f u, f < 7 → (tcell l[j])[f]? = some u → w.cell? ⟨g, j * 7 + f, none⟩ = some u
theorem TAt.below {w w' : World} {A : Option Addr} {l : List Tr} (h : TAt w A l) (hb : Below w.heap.size w w') : TAt w' A l := fun j hj =>
  let ⟨g, e, hl, hc⟩ := h j hj
  ⟨g, e, Nat.lt_of_lt_of_le hl hb.size, fun f u hf hu => (hb.cell (p := ⟨g, j * 7 + f, none⟩) hl).trans (hc f u hf hu)⟩
theorem tcells_at : ∀ (l : List Tr) (j f : Nat) (h : j < l.length), f < 7 → (tcells l)[j * 7 + f]? = (tcell l[j])[f]?
  | x :: r, 0, f, _, hf => by
    show (tcell x ++ tcells r)[_]? = _
    rw [List.getElem?_append_left (by show _ < 7; omega)]; simp
  | x :: r, j + 1, f, h, hf => by
    show (tcell x ++ tcells r)[_]? = _
    rw [List.getElem?_append_right (by show 7 ≤ _; omega), show (tcell x).length = 7 from rfl, show (j + 1) * 7 + f - 7 = j * 7 + f by omega]
    exact tcells_at r j f (by simpa using h) hf
theorem tAt_of {w : World} {base cap : Nat} {A : Option Addr} {l : List Tr} (h : OwnT w base (.slice A l.length cap) l) : TAt w A l := fun j hj => by
  obtain ⟨g, cap', e, _, hl, _, hc⟩ := own_form h (by omega)
  have eA : A = some ⟨g, 0, none⟩ := by injection e
  exact ⟨g, eA, hl, fun f u hf hu => hc _ _ (by rw [tcells_at l j f hj hf]; exact hu)⟩
section
variable (c : Ch) (AN AK AP AT : Option Addr) (cN cK cP cT : Nat) (w : World)
set_option maxHeartbeats 2000000 in
theorem named_yes (hN : ListAt w AN cN c.names) (hl : c.names.length ≤ 100) (h : namedB c = true) (nP : Nat) :
    Calls Tryz.prog 16 #[.agg #[.slice AN c.names.length cN, .slice AK c.kinds.length cK, .slice AP nP cP, .slice AT c.trans.length cT]] w fun e w' => e = .returned (.bool true) ∧ Below w.heap.size w w' := by
  have R := heap_alloc_new w (.cells #[.slice AN c.names.length cN, .slice AK c.kinds.length cK, .slice AP nP cP, .slice AT c.trans.length cT] 33)
  have hz := box_b w (.cells #[.slice AN c.names.length cN, .slice AK c.kinds.length cK, .slice AP nP cP, .slice AT c.trans.length cT] 33)
  have q0 : (w.alloc (.cells #[.slice AN c.names.length cN, .slice AK c.kinds.length cK, .slice AP nP cP, .slice AT c.trans.length cT] 33)).cell? ⟨w.heap.size, 0, none⟩ = some (.slice AN c.names.length cN) := by rw [cell_of_row _ _ _ _ _ _ R]; rfl
  have q1 : (w.alloc (.cells #[.slice AN c.names.length cN, .slice AK c.kinds.length cK, .slice AP nP cP, .slice AT c.trans.length cT] 33)).cell? ⟨w.heap.size, 1, none⟩ = some (.slice AK c.kinds.length cK) := by rw [cell_of_row _ _ _ _ _ _ R]; rfl
  have HN := Lib.hid (hN.below hz)
  have HZ := Lib.hid hz
  unfold namedB at h
  simp only [Bool.and_eq_true, beq_iff_eq, List.all_eq_true] at h
  have hkl := h.1
  have HA := Lib.hid h.2
  have hcN := hN.1
  rw [← hkl] at q1 ⊢
  rw [← hkl] at R hz q0 HN HZ
  clear h hN R hz hkl
  go_enter Tryz.func16, Tryz.ntmps16
  go_upto_region 3 with fail
  generalize w.alloc (.cells #[.slice AN c.names.length cN, .slice AK c.names.length cK, .slice AP nP cP, .slice AT c.trans.length cT] 33) = w1 at *
  go_wp2
  go_loop [16] (fun i => ∃ k : Nat, k ≤ c.names.length ∧ i = .int .i64 k) (fun i => c.names.length - (intOf i).toNat)
  case atStart => exact ⟨0, Nat.zero_le _, rfl⟩
  case round =>
    obtain ⟨k, hk, rfl⟩ := hrel
    by_cases hlt : k < c.names.length
    · obtain ⟨b, rfl, hbl, hx⟩ := HN.out.2 k hlt
      have ha := HA.out k (List.mem_range.2 hlt)
      rw [List.getD_eq_getElem?_getD, List.getElem?_eq_getElem hlt, Option.getD_some, Bool.not_eq_true', List.any_eq_false] at ha
      have hni : c.names[k] ∉ c.names.take k := fun hm => ha.2 _ hm (beq_self_eq_true _)
      have htl : (c.names.take k).length = k := by rw [List.length_take]; omega
      have CT := Contains_str (c.names.take k) c.names[k] (some ⟨b, 0, none⟩) cN w1 (listAt_take HN.out k) (by omega)
      have NM := Name_any (bs c.names[k]) w1 (by rw [size_bs]; have := nameL_12 ha.1; unfold maxLen; omega)
      rw [htl, decide_eq_false hni] at CT
      rw [list_bs, ha.1] at NM
      have CT := Lib.hid CT
      have NM := Lib.hid NM
      have hkc : (k : Int) ≤ cN := by omega
      clear ha hni htl
      generalize c.names[k] = x at *
      go_wp2_with (first
        | (go_at_call 36; refine NM.out.mono ?_; rintro e w2 ⟨rfl, rfl⟩)
        | (go_at_call 37; refine CT.out.mono ?_; rintro e w2 ⟨rfl, rfl⟩))
      go_round
      case rel => exact ⟨k + 1, by omega, by go_num⟩
      case measure => simp [intOf]; omega
    · go_wp2
      go_ret
      exact ⟨rfl, HZ.out⟩
set_option maxHeartbeats 4000000 in
theorem CValid_yes (hN : ListAt w AN cN c.names) (hI : IntsAt w (.slice AK c.kinds.length cK) c.kinds ∧ IntsAt w (.slice AP c.parents.length cP) c.parents) (hT : TAt w AT c.trans) (htc : c.trans.length ≤ cT) (hl : c.names.length ≤ 24) (h : validB c = true) :
    Calls Tryz.prog 8 #[.agg #[.slice AN c.names.length cN, .slice AK c.kinds.length cK, .slice AP c.parents.length cP, .slice AT c.trans.length cT]] w fun e w' => e = .returned (.bool true) ∧ Below w.heap.size w w' := by
  have R := heap_alloc_new w (.cells #[.slice AN c.names.length cN, .slice AK c.kinds.length cK, .slice AP c.parents.length cP, .slice AT c.trans.length cT] 33)
  have hz := box_b w (.cells #[.slice AN c.names.length cN, .slice AK c.kinds.length cK, .slice AP c.parents.length cP, .slice AT c.trans.length cT] 33)
  have hs1 : w.heap.size < (w.alloc (.cells #[.slice AN c.names.length cN, .slice AK c.kinds.length cK, .slice AP c.parents.length cP, .slice AT c.trans.length cT] 33)).heap.size := by simp
  unfold validB at h
  simp only [Bool.and_eq_true, decide_eq_true_eq, List.all_eq_true] at h
  obtain ⟨⟨⟨h1, h2⟩, h3⟩, h4⟩ := h
  have hkn : c.names.length = c.kinds.length := by
    have := h2
    unfold namedB at this
    simp only [Bool.and_eq_true, beq_iff_eq] at this
    exact this.1
  have hpn : c.kinds.length = c.parents.length := by
    rw [valB_def] at h1
    simp only [Bool.and_eq_true, beq_iff_eq] at h1
    exact h1.1.1.1.1
  generalize hw1 : w.alloc (.cells #[.slice AN c.names.length cN, .slice AK c.kinds.length cK, .slice AP c.parents.length cP, .slice AT c.trans.length cT] 33) = w1 at *
  have VA := fun X (hX : Below w1.heap.size w1 X) => Valid_any c.kinds c.parents AK AP c.kinds.length cK c.parents.length cP X ⟨(hI.1.below hz).below hX, (hI.2.below hz).below hX⟩ rfl rfl (by omega) (by omega)
  rw [h1] at VA
  have VA := Lib.hid VA
  have NA := Lib.hid (fun X (hX : Below w1.heap.size w1 X) => named_yes c AN AK AP AT cN cK cP cT X ((hN.below hz).below hX) (by omega) h2 c.parents.length)
  have LA := Lib.hid (fun X (hX : Below w1.heap.size w1 X) (t : Tr) (ht : t ∈ c.trans) => leads_yes c.kinds t AK AP c.kinds.length cK c.parents.length cP X ((hI.1.below hz).below hX) rfl (h4 t ht).1)
  have LB := Lib.hid (fun X (t : Tr) (ht : t ∈ c.trans) => labelled_yes t X (h4 t ht).2)
  have HT := Lib.hid (hT.below hz)
  have HZ := Lib.hid hz
  have HR := Lib.hid R
  have q0 : w1.cell? ⟨w.heap.size, 0, none⟩ = some (.slice AN c.names.length cN) := by rw [cell_of_row _ _ _ _ _ _ R]; rfl
  have q1 : w1.cell? ⟨w.heap.size, 1, none⟩ = some (.slice AK c.kinds.length cK) := by rw [cell_of_row _ _ _ _ _ _ R]; rfl
  have q2 : w1.cell? ⟨w.heap.size, 2, none⟩ = some (.slice AP c.parents.length cP) := by rw [cell_of_row _ _ _ _ _ _ R]; rfl
  have q3 : w1.cell? ⟨w.heap.size, 3, none⟩ = some (.slice AT c.trans.length cT) := by rw [cell_of_row _ _ _ _ _ _ R]; rfl
  have h3i : ¬ (48 : Int) < c.trans.length := by omega
  clear h1 h2 h4 hkn hpn hN hI hT R hz
  go_enter Tryz.func8, Tryz.ntmps8
  go_upto_region 1 with fail
  (try rw [hw1])
  clear hw1
  go_upto_region 3 with (first
    | (go_at_call 14; refine (VA.out _ (Below.refl _ _)).mono ?_; rintro e w2 ⟨rfl, hb2⟩; have k0 := (hb2.cell (p := ⟨w.heap.size, 0, none⟩) hs1).trans q0; have k1 := (hb2.cell (p := ⟨w.heap.size, 1, none⟩) hs1).trans q1; have k2 := (hb2.cell (p := ⟨w.heap.size, 2, none⟩) hs1).trans q2; have k3 := (hb2.cell (p := ⟨w.heap.size, 3, none⟩) hs1).trans q3; have HB2 := Lib.hid hb2; clear hb2)
    | (go_at_call 16; refine (NA.out _ HB2.out).mono ?_; rintro e w3 ⟨rfl, hb3⟩; have hb4 := below_then HB2.out hb3 HB2.out.size; have j3 := (hb4.cell (p := ⟨w.heap.size, 3, none⟩) hs1).trans q3; have HB4 := Lib.hid hb4; clear hb3 hb4))
  clear k0 k1 k2 k3 HB2 VA NA
  go_wp2
  go_loopw [23] (fun i wr => ∃ k : Nat, k ≤ c.trans.length ∧ i = .int .i64 k ∧ Hid (Below w1.heap.size w1 wr)) (fun i _ => c.trans.length - (intOf i).toNat)
  case atStart => exact ⟨0, Nat.zero_le _, rfl, HB4.out⟩
  case round =>
    obtain ⟨k, hk, rfl, HB⟩ := hrel
    by_cases hlt : k < c.trans.length
    · obtain ⟨g, rfl, hgl, hc⟩ := HT.out k hlt
      have hgr : g < wr.heap.size := Nat.lt_of_lt_of_le hgl HB.out.size
      have q := fun f u hf hu => (HB.out.cell (p := ⟨g, k * 7 + f, none⟩) hgl).trans (hc f u hf hu)
      have LK := fun X hX => LA.out X hX c.trans[k] (List.getElem_mem hlt)
      have BK := fun X => LB.out X c.trans[k] (List.getElem_mem hlt)
      clear hc
      generalize c.trans[k] = t at *
      obtain ⟨kd, fr, tt, ev, pe, ta, ti⟩ := t
      have LK := Lib.hid LK
      have BK := Lib.hid BK
      have r0 := q 0 _ (by omega) rfl; have r1 := q 1 _ (by omega) rfl; have r2 := q 2 _ (by omega) rfl; have r3 := q 3 _ (by omega) rfl; have r4 := q 4 _ (by omega) rfl; have r5 := q 5 _ (by omega) rfl; have r6 := q 6 _ (by omega) rfl
      simp only [Nat.add_zero] at r0
      clear q
      have hbx := box_b wr (.cells #[.int .i64 kd, .int .i64 fr, .int .i64 tt, .string (bs ev), .string (bs pe), .string (bs ta), .int .i64 ti] 43)
      have hb9 := below_then HB.out hbx HB.out.size
      have RT := heap_alloc_new wr (.cells #[.int .i64 kd, .int .i64 fr, .int .i64 tt, .string (bs ev), .string (bs pe), .string (bs ta), .int .i64 ti] 43)
      have hxl : wr.heap.size < (wr.alloc (.cells #[.int .i64 kd, .int .i64 fr, .int .i64 tt, .string (bs ev), .string (bs pe), .string (bs ta), .int .i64 ti] 43)).heap.size := by simp
      have s0 := tr_q0 RT; have s1 := tr_q1 RT; have s2 := tr_q2 RT; have s3 := tr_q3 RT; have s4 := tr_q4 RT; have s5 := tr_q5 RT; have s6 := tr_q6 RT
      have y1 := (hb9.cell (p := ⟨w.heap.size, 1, none⟩) hs1).trans q1
      have y2 := (hb9.cell (p := ⟨w.heap.size, 2, none⟩) hs1).trans q2
      have HB9 := Lib.hid hb9
      have HRT := Lib.hid RT
      clear hbx RT hb9
      go_wp2_with (first
        | (go_at_call 17; refine (LK.out _ HB9.out).mono ?_; rintro e w5 ⟨rfl, hb5⟩; have RT5 := (hb5.block _ hxl).trans HRT.out; have u0 := tr_q0 RT5; have u1 := tr_q1 RT5; have u2 := tr_q2 RT5; have u3 := tr_q3 RT5; have u4 := tr_q4 RT5; have u5 := tr_q5 RT5; have u6 := tr_q6 RT5; have HB5 := Lib.hid (below_then HB9.out hb5 HB9.out.size); clear hb5 RT5)
        | (go_at_call 18; refine (BK.out _).mono ?_; rintro e w6 ⟨rfl, hb6⟩; have HB6 := Lib.hid (below_then HB5.out hb6 HB5.out.size); clear hb6))
      go_roundw
      case rel => exact ⟨k + 1, by omega, by go_num, HB6.out⟩
      case measure => simp [intOf]; omega
    · go_wp2
      go_ret
      exact ⟨rfl, below_then HZ.out HB.out HZ.out.size⟩
end
end Go.Proofs.YtahgfmobdfhaaaaGreatDoor
/-
  The rules that ChartLimits makes, and what they are compiled to: plain.
-/
namespace Go.Proofs.YtahgfmobdfhaaaaGreatDoor
set_option maxRecDepth 100000

def sameB (s r : Ru) : Bool := decide (s.kind = r.kind) && decide (s.name = r.name) && decide (s.list = r.list) && decide (s.n = r.n) && decide (s.m = r.m) && decide (s.from_ = r.from_) && decide (s.to_ = r.to_) && decide (s.by_ = r.by_) && decide (s.task = r.task) && decide (s.in_ = r.in_)
theorem sameB_eq {s r : Ru} (h : sameB s r = true) : s = r := by
  obtain ⟨a1, a2, a3, a4, a5, a6, a7, a8, a9, a10⟩ := s
  obtain ⟨b1, b2, b3, b4, b5, b6, b7, b8, b9, b10⟩ := r
  simp only [sameB, Bool.and_eq_true, decide_eq_true_eq] at h
  obtain ⟨⟨⟨⟨⟨⟨⟨⟨⟨rfl, rfl⟩, rfl⟩, rfl⟩, rfl⟩, rfl⟩, rfl⟩, rfl⟩, rfl⟩, rfl⟩ := h
  rfl
def okIs (p : PR) (r : Ru) : Bool := match p with
  | .ok s => sameB s r
  | _ => false
theorem print_of {r : Ru} (h : okIs (parseL (joinP (lineP r))) r = true) : printP r ≠ none ∧ RuF r := by
  cases hp : parseL (joinP (lineP r)) with
  | bad c k => rw [hp] at h; cases h
  | empty => rw [hp] at h; cases h
  | ok s =>
    rw [hp] at h
    have e : s = r := sameB_eq h
    subst e
    rw [printP_some.2 ⟨rfl, hp⟩]
    exact ⟨by simp, parse_fields hp⟩
def isLen (p : ChR) (n m : Nat) : Bool := match p with
  | .ok c => decide (c.names.length = n) && decide (c.trans.length = m)
  | _ => false
theorem isLen_ok {p : ChR} {n m : Nat} (h : isLen p n m = true) : ∃ c, p = .ok c ∧ c.names.length = n ∧ c.trans.length = m := by
  cases p with
  | ok c =>
    simp only [isLen, Bool.and_eq_true, decide_eq_true_eq] at h
    exact ⟨c, rfl, h.1, h.2⟩
  | arg => cases h
  | none => cases h
  | bad a b => cases h
theorem wake_none : compL [] = .none := by
  have h : valB ({} : Ch).kinds ({} : Ch).parents = false := by decide +kernel
  unfold compL
  rw [takeL, if_neg (by rw [h]; decide)]
def oneR : Ru := { kind := 8, name := [115], n := 1 }
theorem one_ok : printP oneR ≠ none ∧ RuF oneR := print_of (by decide +kernel)
theorem wake_one : ∃ c, compL [(oneR, 1)] = .ok c ∧ c.names.length = 1 ∧ c.trans.length = 0 := isLen_ok (by decide +kernel)
end Go.Proofs.YtahgfmobdfhaaaaGreatDoor
/-
  Package chart: Compile of few rules; the document's example (law08's wakes).
-/
namespace Go.Proofs.YtahgfmobdfhaaaaGreatDoor
set_option maxRecDepth 100000
open Go.ChangeShapes Go.WideShapes Go.ChangeAt Go.RowKit

/-- rules without lists, in cells -/
theorem bare_in {w : World} {base cap : Nat} {A : Option Addr} {acc : List RL} (h : w.ownsRow base 41 11 (.slice A acc.length cap) acc.length (rcells acc)) (hl : ∀ x ∈ acc, x.2.2 = .slice none 0 0 ∧ x.1.list = []) : RIn w A acc :=
  rIn_of (base := base) (cap := cap) ⟨h, fun x hx => by rw [(hl x hx).1, (hl x hx).2]; exact ownL_nil _ _⟩
theorem Comp_bare (acc : List RL) (A : Option Addr) (cap base : Nat) (w : World) (h : w.ownsRow base 41 11 (.slice A acc.length cap) acc.length (rcells acc)) (hl : ∀ x ∈ acc, x.2.2 = .slice none 0 0 ∧ x.1.list = []) (ha : acc.length ≤ 1000)
    (hsm : ∀ x ∈ acc, Small x.1) (hpr : ∀ x ∈ acc.map er, printP x.1 ≠ none) (hg : HandleAt w) (ht : TabAt w) :
    Calls Tryz.prog 6 #[.slice A acc.length cap] w (CompTo (compL (acc.map er)) w) := by
  have h1 := Compile_any acc A cap w (bare_in h hl) ha (own_cap h) hsm (fun x hx => by rw [(hl x hx).2]; simp) (fun x hx B c e => by
    rw [(hl x hx).1] at e
    injection e with e1 e2 e3
    refine .inl ⟨(hl x hx).2, fun _ => e3.symm⟩) hg ht
  rwa [compR_ok hpr] at h1
theorem small_one : Small oneR := ⟨by decide, by decide, by decide⟩
theorem flt_below {w w' : World} {b : Nat} {l c k : Int} (h : FaultAt w b l c k) (hl : b < w.heap.size) (hb : Below w.heap.size w w') : FaultAt w' b l c k :=
  ⟨(hb.cell (p := ⟨b, 0, none⟩) hl).trans h.1, (hb.cell (p := ⟨b, 1, none⟩) hl).trans h.2.1, (hb.cell (p := ⟨b, 2, none⟩) hl).trans h.2.2⟩
theorem own_at1 {w : World} {b k : Nat} {v : Value} {l : List Tx} (h : OwnL w b v l) (hl : l.length = k) : w.ownsRow b 9 1 v k (scells l) := by subst hl; exact h
def accO : List RL := [(oneR, 1, .slice none 0 0)]
theorem Comp_one (W : World) (hg : HandleAt W) (ht : TabAt W) : ∃ c : Ch, c.names.length = 1 ∧ Calls Tryz.prog 6 #[.slice (some ⟨W.heap.size, 0, none⟩) 1 1] (W.alloc (.cells #[.int .i64 8, .string ⟨#[115]⟩, .slice none 0 0, .int .i64 1, .int .i64 0, .string ⟨#[]⟩, .string ⟨#[]⟩, .string ⟨#[]⟩, .string ⟨#[]⟩, .string ⟨#[]⟩, .int .i64 1] 41)) (CompTo (.ok c) (W.alloc (.cells #[.int .i64 8, .string ⟨#[115]⟩, .slice none 0 0, .int .i64 1, .int .i64 0, .string ⟨#[]⟩, .string ⟨#[]⟩, .string ⟨#[]⟩, .string ⟨#[]⟩, .string ⟨#[]⟩, .int .i64 1] 41))) := by
  obtain ⟨c, h1, h2, _⟩ := wake_one
  refine ⟨c, h2, ?_⟩
  have hb := box_b W (.cells #[.int .i64 8, .string ⟨#[115]⟩, .slice none 0 0, .int .i64 1, .int .i64 0, .string ⟨#[]⟩, .string ⟨#[]⟩, .string ⟨#[]⟩, .string ⟨#[]⟩, .string ⟨#[]⟩, .int .i64 1] 41)
  have h := Comp_bare accO (some ⟨W.heap.size, 0, none⟩) 1 W.heap.size (W.alloc (.cells #[.int .i64 8, .string ⟨#[115]⟩, .slice none 0 0, .int .i64 1, .int .i64 0, .string ⟨#[]⟩, .string ⟨#[]⟩, .string ⟨#[]⟩, .string ⟨#[]⟩, .string ⟨#[]⟩, .int .i64 1] 41)) (World.ownsRow_lit W #[.int .i64 8, .string ⟨#[115]⟩, .slice none 0 0, .int .i64 1, .int .i64 0, .string ⟨#[]⟩, .string ⟨#[]⟩, .string ⟨#[]⟩, .string ⟨#[]⟩, .string ⟨#[]⟩, .int .i64 1] 1 (Nat.le_refl _) (by unfold maxLen; omega) rfl) (fun x hx => by rw [List.mem_singleton.1 hx]; exact ⟨rfl, rfl⟩) (by decide) (fun x hx => by rw [List.mem_singleton.1 hx]; exact small_one) (fun x hx => by
    have e : x = (oneR, 1) := by simpa [accO, er] using hx
    rw [e]; exact one_ok.1) (hg.below' hb) (ht.below hb)
  have e : compL (accO.map er) = .ok c := h1
  rw [e] at h
  exact h
set_option maxHeartbeats 2000000 in
theorem wakes08 (w : World) (hg : HandleAt w) (ht : TabAt w) : Calls Tryz.prog 7 #[] w (TrueOn w) := by
  have c0 := Comp_bare [] none 0 0 w (World.ownsRow_nil _ _ _ _) (fun x hx => by cases hx) (by simp) (fun x hx => by cases hx) (fun x hx => by simp at hx) hg ht
  have e0 : compL (([] : List RL).map er) = .none := wake_none
  rw [e0] at c0
  have C0 : Hid (Calls Tryz.prog 6 #[.slice none 0 0] w (CompTo .none w)) := c0
  have HG := Lib.hid hg
  have HT := Lib.hid ht
  clear c0 e0 hg ht
  go_enter Tryz.func7, Tryz.ntmps7
  go_upto_region 2 with (go_at_call 6; refine C0.out.mono ?_; rintro e w1 ⟨hb1, fb, rfl, hf1, hf2, hF⟩)
  have hbx := box_b w1 (.cells #[.slice none 0 0, .slice none 0 0, .slice none 0 0, .slice none 0 0] 33)
  have hb2 := below_then hb1 hbx hb1.size
  have hF2 := flt_below hF hf2 hbx
  have hfl2 := Nat.lt_of_lt_of_le hf2 hbx.size
  clear hF hf2 hb1 hbx C0
  generalize w1.alloc (.cells #[.slice none 0 0, .slice none 0 0, .slice none 0 0, .slice none 0 0] 33) = w2 at *
  obtain ⟨c, hc1, hC⟩ := Comp_one w2 (HG.out.below' hb2) (HT.out.below hb2)
  have HC := Lib.hid hC
  have HC1 := Lib.hid hc1
  have hbr := box_b w2 (.cells #[.int .i64 8, .string ⟨#[115]⟩, .slice none 0 0, .int .i64 1, .int .i64 0, .string ⟨#[]⟩, .string ⟨#[]⟩, .string ⟨#[]⟩, .string ⟨#[]⟩, .string ⟨#[]⟩, .int .i64 1] 41)
  have HF2 := Lib.hid (flt_below hF2 hfl2 hbr)
  have hfl3 := Nat.lt_of_lt_of_le hfl2 hbr.size
  have HB2 := Lib.hid (below_then hb2 hbr hb2.size)
  clear hC hc1 hF2 hfl2 hb2 hbr
  go_upto_region 3 with (go_at_call 6; refine HC.out.mono ?_; rintro e w3 ⟨hb3, ⟨vN, vK, vP, vT, rfl, hA⟩, _, _⟩; have h9 := own_at1 hA.oN HC1.out; obtain ⟨AN, cN, rfl⟩ := own_slice h9; obtain ⟨AK, cK, rfl⟩ := own_slice hA.oK; obtain ⟨AP, cP, rfl⟩ := own_slice hA.oP; obtain ⟨AT, cT, rfl⟩ := own_slice hA.oT; have HF3 := Lib.hid (flt_below HF2.out hfl3 hb3); have hfl4 := Nat.lt_of_lt_of_le hfl3 hb3.size; have HB3 := Lib.hid (below_then HB2.out hb3 HB2.out.size); clear hb3 h9 hA)
  have R4 := heap_alloc_new w3 (.cells #[.slice AN 1 cN, .slice AK c.kinds.length cK, .slice AP c.parents.length cP, .slice AT c.trans.length cT] 33)
  have hb4 := box_b w3 (.cells #[.slice AN 1 cN, .slice AK c.kinds.length cK, .slice AP c.parents.length cP, .slice AT c.trans.length cT] 33)
  have q0 : (w3.alloc (.cells #[.slice AN 1 cN, .slice AK c.kinds.length cK, .slice AP c.parents.length cP, .slice AT c.trans.length cT] 33)).cell? ⟨w3.heap.size, 0, none⟩ = some (.slice AN 1 cN) := by rw [cell_of_row _ _ _ _ _ _ R4]; rfl
  have KI := Lib.hid (keepIs (.iface 60 (.pointer (some ⟨fb, 0, none⟩))) 3 3 (w3.alloc (.cells #[.slice AN 1 cN, .slice AK c.kinds.length cK, .slice AP c.parents.length cP, .slice AT c.trans.length cT] 33)) (.inr ⟨fb, 0, rfl, (flt_below HF3.out hfl4 hb4).2.2⟩) (by omega) (by omega))
  have HB4 := Lib.hid (below_then HB3.out hb4 HB3.out.size)
  clear R4 hb4 hfl4 hfl3 hf1
  go_wp2_with (go_at_call 15; refine KI.out.mono ?_; rintro e w5 ⟨rfl, rfl⟩)
  go_ret
  exact ⟨rfl, HB4.out⟩

end Go.Proofs.YtahgfmobdfhaaaaGreatDoor
/-
  A part of a walk that is proved apart.
-/
namespace Go.Proofs.YtahgfmobdfhaaaaGreatDoor

/-- a part of a walk that is proved apart -/
structure CutG (G : Prop) : Prop where
  out : G
end Go.Proofs.YtahgfmobdfhaaaaGreatDoor
