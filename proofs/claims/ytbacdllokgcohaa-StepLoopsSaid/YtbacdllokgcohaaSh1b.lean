/-
  Package chart: Valid, of a chart that may be: the walk.
-/
import Derived.Test.YtbacdllokgcohaaLw1
import Derived.Test.YtbacdllokgcohaaCA
import Derived.Deep.RegionHeld3
import Derived.Deep.RegionLaw
import Derived.Deep.RegionHeld2
import Derived.Test.YtbacdllokgcohaaRuleSt
import Derived.Test.YtbacdllokgcohaaD0
import Derived.Deep.DeepCutAuto
import Derived.Laws.StructEq
import Derived.ChangeKeysEq
import Derived.Test.YtbacdllokgcohaaShelf
import Derived.Test.YtbacdllokgcohaaRef01b
import Derived.Lib.QuietBelow
import Derived.Lib.ItoaMem
import Derived.Deep.Matrix
import Derived.Test.YtbacdllokgcohaaOwnSome
import Derived.Test.YtbacdllokgcohaaSameL
import Derived.Lib.Tables
namespace Go.Proofs.Ytbacdllokgcohaa
set_option maxRecDepth 100000
open Go.ChangeShapes Go.WideShapes Go.ChangeAt Go.RowKit

theorem listAt_take {w : World} {A : Option Addr} {c : Nat} {l : List Tx} (h : ListAt w A c l) (i : Nat) : ListAt w A c (l.take i) := by
  refine ⟨Nat.le_trans (by rw [List.length_take]; omega) h.1, fun j hj => ?_⟩
  have hj2 : j < l.length := by rw [List.length_take] at hj; omega
  obtain ⟨b, e, hb, hx⟩ := h.2 j hj2
  exact ⟨b, e, hb, by rw [List.getElem_take]; exact hx⟩
/-- transitions in cells -/
def TAt (w : World) (A : Option Addr) (l : List Tr) : Prop := ∀ j (h : j < l.length), ∃ g, A = some ⟨g, 0, none⟩ ∧ g < w.heap.size ∧ ∀ f u, f < 7 → (tcell l[j])[f]? = some u → w.cell? ⟨g, j * 7 + f, none⟩ = some u
theorem TAt.below {w w' : World} {A : Option Addr} {l : List Tr} (h : TAt w A l) (hb : Below w.heap.size w w') : TAt w' A l := fun j hj =>
  let ⟨g, e, hl, hc⟩ := h j hj
  ⟨g, e, Nat.lt_of_lt_of_le hl hb.size, fun f u hf hu => (hb.cell (p := ⟨g, j * 7 + f, none⟩) hl).trans (hc f u hf hu)⟩
theorem tcells_at : ∀ (l : List Tr) (j f : Nat) (h : j < l.length), f < 7 → (tcells l)[j * 7 + f]? = (tcell l[j])[f]?
  | x :: r, 0, f, _, hf => by
    show (tcell x ++ tcells r)[_]? = _
    rw [List.getElem?_append_left (by show _ < 7; omega)]; simp
  | x :: r, j + 1, f, h, hf => by
    show (tcell x ++ tcells r)[_]? = _
    rw [List.getElem?_append_right (by show 7 ≤ _; omega), show (tcell x).length = 7 from rfl, show (j + 1) * 7 + f - 7 = j * 7 + f by omega]
    exact tcells_at r j f (by simpa using h) hf
theorem tAt_of {w : World} {base cap : Nat} {A : Option Addr} {l : List Tr} (h : OwnT w base (.slice A l.length cap) l) : TAt w A l := fun j hj => by
  obtain ⟨g, cap', e, _, hl, _, hc⟩ := own_form h (by omega)
  have eA : A = some ⟨g, 0, none⟩ := by injection e
  exact ⟨g, eA, hl, fun f u hf hu => hc _ _ (by rw [tcells_at l j f hj hf]; exact hu)⟩
section
variable (c : Ch) (AN AK AP AT : Option Addr) (cN cK cP cT : Nat) (w : World)
set_option maxHeartbeats 2000000 in
theorem named_yes (hN : ListAt w AN cN c.names) (hl : c.names.length ≤ 100) (h : namedB c = true) (nP : Nat) :
    Calls Try.prog 56 #[.agg #[.slice AN c.names.length cN, .slice AK c.kinds.length cK, .slice AP nP cP, .slice AT c.trans.length cT]] w fun e w' => e = .returned (.bool true) ∧ Below w.heap.size w w' := by
  have R := heap_alloc_new w (.cells #[.slice AN c.names.length cN, .slice AK c.kinds.length cK, .slice AP nP cP, .slice AT c.trans.length cT] 28)
  have hz := box_b w (.cells #[.slice AN c.names.length cN, .slice AK c.kinds.length cK, .slice AP nP cP, .slice AT c.trans.length cT] 28)
  have q0 : (w.alloc (.cells #[.slice AN c.names.length cN, .slice AK c.kinds.length cK, .slice AP nP cP, .slice AT c.trans.length cT] 28)).cell? ⟨w.heap.size, 0, none⟩ = some (.slice AN c.names.length cN) := by rw [cell_of_row _ _ _ _ _ _ R]; rfl
  have q1 : (w.alloc (.cells #[.slice AN c.names.length cN, .slice AK c.kinds.length cK, .slice AP nP cP, .slice AT c.trans.length cT] 28)).cell? ⟨w.heap.size, 1, none⟩ = some (.slice AK c.kinds.length cK) := by rw [cell_of_row _ _ _ _ _ _ R]; rfl
  have HN := Lib.hid (hN.below hz)
  have HZ := Lib.hid hz
  unfold namedB at h
  simp only [Bool.and_eq_true, beq_iff_eq, List.all_eq_true] at h
  have hkl := h.1
  have HA := Lib.hid h.2
  have hcN := hN.1
  rw [← hkl] at q1 ⊢
  rw [← hkl] at R hz q0 HN HZ
  clear h hN R hz hkl
  go_enter Try.func56, Try.ntmps56
  go_upto_region 3 with fail
  generalize w.alloc (.cells #[.slice AN c.names.length cN, .slice AK c.names.length cK, .slice AP nP cP, .slice AT c.trans.length cT] 28) = w1 at *
  go_wp2
  go_loop [16] (fun i => ∃ k : Nat, k ≤ c.names.length ∧ i = .int .i64 k) (fun i => c.names.length - (intOf i).toNat)
  case atStart => exact ⟨0, Nat.zero_le _, rfl⟩
  case round =>
    obtain ⟨k, hk, rfl⟩ := hrel
    by_cases hlt : k < c.names.length
    · obtain ⟨b, rfl, hbl, hx⟩ := HN.out.2 k hlt
      have ha := HA.out k (List.mem_range.2 hlt)
      rw [List.getD_eq_getElem?_getD, List.getElem?_eq_getElem hlt, Option.getD_some, Bool.not_eq_true', List.any_eq_false] at ha
      have hni : c.names[k] ∉ c.names.take k := fun hm => ha.2 _ hm (beq_self_eq_true _)
      have htl : (c.names.take k).length = k := by rw [List.length_take]; omega
      have CT := Contains_str (c.names.take k) c.names[k] (some ⟨b, 0, none⟩) cN w1 (listAt_take HN.out k) (by omega)
      have NM := Name_any (bs c.names[k]) w1 (by rw [size_bs]; have := nameL_12 ha.1; unfold maxLen; omega)
      rw [htl, decide_eq_false hni] at CT
      rw [list_bs, ha.1] at NM
      have CT := Lib.hid CT
      have NM := Lib.hid NM
      have hkc : (k : Int) ≤ cN := by omega
      clear ha hni htl
      generalize c.names[k] = x at *
      go_wp2_with (first
        | (go_at_call 89; refine NM.out.mono ?_; rintro e w2 ⟨rfl, rfl⟩)
        | (go_at_call 90; refine CT.out.mono ?_; rintro e w2 ⟨rfl, rfl⟩))
      go_round
      case rel => exact ⟨k + 1, by omega, by go_num⟩
      case measure => simp [intOf]; omega
    · go_wp2
      go_ret
      exact ⟨rfl, HZ.out⟩
set_option maxHeartbeats 4000000 in
theorem CValid_yes (hN : ListAt w AN cN c.names) (hI : IntsAt w (.slice AK c.kinds.length cK) c.kinds ∧ IntsAt w (.slice AP c.parents.length cP) c.parents) (hT : TAt w AT c.trans) (htc : c.trans.length ≤ cT) (hl : c.names.length ≤ 24) (h : validB c = true) :
    Calls Try.prog 31 #[.agg #[.slice AN c.names.length cN, .slice AK c.kinds.length cK, .slice AP c.parents.length cP, .slice AT c.trans.length cT]] w fun e w' => e = .returned (.bool true) ∧ Below w.heap.size w w' := by
  have R := heap_alloc_new w (.cells #[.slice AN c.names.length cN, .slice AK c.kinds.length cK, .slice AP c.parents.length cP, .slice AT c.trans.length cT] 28)
  have hz := box_b w (.cells #[.slice AN c.names.length cN, .slice AK c.kinds.length cK, .slice AP c.parents.length cP, .slice AT c.trans.length cT] 28)
  have hs1 : w.heap.size < (w.alloc (.cells #[.slice AN c.names.length cN, .slice AK c.kinds.length cK, .slice AP c.parents.length cP, .slice AT c.trans.length cT] 28)).heap.size := by simp
  unfold validB at h
  simp only [Bool.and_eq_true, decide_eq_true_eq, List.all_eq_true] at h
  obtain ⟨⟨⟨h1, h2⟩, h3⟩, h4⟩ := h
  have hkn : c.names.length = c.kinds.length := by
    have := h2
    unfold namedB at this
    simp only [Bool.and_eq_true, beq_iff_eq] at this
    exact this.1
  have hpn : c.kinds.length = c.parents.length := by
    rw [valB_def] at h1
    simp only [Bool.and_eq_true, beq_iff_eq] at h1
    exact h1.1.1.1.1
  generalize hw1 : w.alloc (.cells #[.slice AN c.names.length cN, .slice AK c.kinds.length cK, .slice AP c.parents.length cP, .slice AT c.trans.length cT] 28) = w1 at *
  have VA := fun X (hX : Below w1.heap.size w1 X) => Valid_any c.kinds c.parents AK AP c.kinds.length cK c.parents.length cP X ⟨(hI.1.below hz).below hX, (hI.2.below hz).below hX⟩ rfl rfl (by omega) (by omega)
  rw [h1] at VA
  have VA := Lib.hid VA
  have NA := Lib.hid (fun X (hX : Below w1.heap.size w1 X) => named_yes c AN AK AP AT cN cK cP cT X ((hN.below hz).below hX) (by omega) h2 c.parents.length)
  have LA := Lib.hid (fun X (hX : Below w1.heap.size w1 X) (t : Tr) (ht : t ∈ c.trans) => leads_yes c.kinds t AK AP c.kinds.length cK c.parents.length cP X ((hI.1.below hz).below hX) rfl (h4 t ht).1)
  have LB := Lib.hid (fun X (t : Tr) (ht : t ∈ c.trans) => labelled_yes t X (h4 t ht).2)
  have HT := Lib.hid (hT.below hz)
  have HZ := Lib.hid hz
  have HR := Lib.hid R
  have q0 : w1.cell? ⟨w.heap.size, 0, none⟩ = some (.slice AN c.names.length cN) := by rw [cell_of_row _ _ _ _ _ _ R]; rfl
  have q1 : w1.cell? ⟨w.heap.size, 1, none⟩ = some (.slice AK c.kinds.length cK) := by rw [cell_of_row _ _ _ _ _ _ R]; rfl
  have q2 : w1.cell? ⟨w.heap.size, 2, none⟩ = some (.slice AP c.parents.length cP) := by rw [cell_of_row _ _ _ _ _ _ R]; rfl
  have q3 : w1.cell? ⟨w.heap.size, 3, none⟩ = some (.slice AT c.trans.length cT) := by rw [cell_of_row _ _ _ _ _ _ R]; rfl
  have h3i : ¬ (48 : Int) < c.trans.length := by omega
  clear h1 h2 h4 hkn hpn hN hI hT R hz
  go_enter Try.func31, Try.ntmps31
  go_upto_region 1 with fail
  (try rw [hw1])
  clear hw1
  go_upto_region 3 with (first
    | (go_at_call 55; refine (VA.out _ (Below.refl _ _)).mono ?_; rintro e w2 ⟨rfl, hb2⟩; have k0 := (hb2.cell (p := ⟨w.heap.size, 0, none⟩) hs1).trans q0; have k1 := (hb2.cell (p := ⟨w.heap.size, 1, none⟩) hs1).trans q1; have k2 := (hb2.cell (p := ⟨w.heap.size, 2, none⟩) hs1).trans q2; have k3 := (hb2.cell (p := ⟨w.heap.size, 3, none⟩) hs1).trans q3; have HB2 := Lib.hid hb2; clear hb2)
    | (go_at_call 56; refine (NA.out _ HB2.out).mono ?_; rintro e w3 ⟨rfl, hb3⟩; have hb4 := below_then HB2.out hb3 HB2.out.size; have j3 := (hb4.cell (p := ⟨w.heap.size, 3, none⟩) hs1).trans q3; have HB4 := Lib.hid hb4; clear hb3 hb4))
  clear k0 k1 k2 k3 HB2 VA NA
  go_wp2
  go_loopw [23] (fun i wr => ∃ k : Nat, k ≤ c.trans.length ∧ i = .int .i64 k ∧ Hid (Below w1.heap.size w1 wr)) (fun i _ => c.trans.length - (intOf i).toNat)
  case atStart => exact ⟨0, Nat.zero_le _, rfl, HB4.out⟩
  case round =>
    obtain ⟨k, hk, rfl, HB⟩ := hrel
    by_cases hlt : k < c.trans.length
    · obtain ⟨g, rfl, hgl, hc⟩ := HT.out k hlt
      have hgr : g < wr.heap.size := Nat.lt_of_lt_of_le hgl HB.out.size
      have q := fun f u hf hu => (HB.out.cell (p := ⟨g, k * 7 + f, none⟩) hgl).trans (hc f u hf hu)
      have LK := fun X hX => LA.out X hX c.trans[k] (List.getElem_mem hlt)
      have BK := fun X => LB.out X c.trans[k] (List.getElem_mem hlt)
      clear hc
      generalize c.trans[k] = t at *
      obtain ⟨kd, fr, tt, ev, pe, ta, ti⟩ := t
      have LK := Lib.hid LK
      have BK := Lib.hid BK
      have r0 := q 0 _ (by omega) rfl; have r1 := q 1 _ (by omega) rfl; have r2 := q 2 _ (by omega) rfl; have r3 := q 3 _ (by omega) rfl; have r4 := q 4 _ (by omega) rfl; have r5 := q 5 _ (by omega) rfl; have r6 := q 6 _ (by omega) rfl
      simp only [Nat.add_zero] at r0
      clear q
      have hbx := box_b wr (.cells #[.int .i64 kd, .int .i64 fr, .int .i64 tt, .string (bs ev), .string (bs pe), .string (bs ta), .int .i64 ti] 32)
      have hb9 := below_then HB.out hbx HB.out.size
      have RT := heap_alloc_new wr (.cells #[.int .i64 kd, .int .i64 fr, .int .i64 tt, .string (bs ev), .string (bs pe), .string (bs ta), .int .i64 ti] 32)
      have hxl : wr.heap.size < (wr.alloc (.cells #[.int .i64 kd, .int .i64 fr, .int .i64 tt, .string (bs ev), .string (bs pe), .string (bs ta), .int .i64 ti] 32)).heap.size := by simp
      have s0 := tr_q0 RT; have s1 := tr_q1 RT; have s2 := tr_q2 RT; have s3 := tr_q3 RT; have s4 := tr_q4 RT; have s5 := tr_q5 RT; have s6 := tr_q6 RT
      have y1 := (hb9.cell (p := ⟨w.heap.size, 1, none⟩) hs1).trans q1
      have y2 := (hb9.cell (p := ⟨w.heap.size, 2, none⟩) hs1).trans q2
      have HB9 := Lib.hid hb9
      have HRT := Lib.hid RT
      clear hbx RT hb9
      go_wp2_with (first
        | (go_at_call 57; refine (LK.out _ HB9.out).mono ?_; rintro e w5 ⟨rfl, hb5⟩; have RT5 := (hb5.block _ hxl).trans HRT.out; have u0 := tr_q0 RT5; have u1 := tr_q1 RT5; have u2 := tr_q2 RT5; have u3 := tr_q3 RT5; have u4 := tr_q4 RT5; have u5 := tr_q5 RT5; have u6 := tr_q6 RT5; have HB5 := Lib.hid (below_then HB9.out hb5 HB9.out.size); clear hb5 RT5)
        | (go_at_call 58; refine (BK.out _).mono ?_; rintro e w6 ⟨rfl, hb6⟩; have HB6 := Lib.hid (below_then HB5.out hb6 HB5.out.size); clear hb6))
      go_roundw
      case rel => exact ⟨k + 1, by omega, by go_num, HB6.out⟩
      case measure => simp [intOf]; omega
    · go_wp2
      go_ret
      exact ⟨rfl, below_then HZ.out HB.out HZ.out.size⟩
end
end Go.Proofs.Ytbacdllokgcohaa
/-
  Lists of numbers of 32 bits, and lists of lists of numbers, that come in: their cells.
-/
namespace Go.Proofs.Ytbacdllokgcohaa
set_option maxRecDepth 100000
open Go.ChangeShapes Go.WideShapes Go.ChangeAt Go.RowKit

/-- a list of numbers of 32 bits that comes in: its cells -/
def U32sAt (W : World) (v : Value) (rs : List Nat) : Prop := ∃ A cap, v = .slice A rs.length cap ∧ rs.length ≤ maxLen ∧
  ∀ k (h : k < rs.length), ∃ b off, A = some ⟨b, off, none⟩ ∧ b < W.heap.size ∧ W.cell? ⟨b, off + k, none⟩ = some (.int .u32 (rs[k] : Nat)) ∧ rs[k] < 4294967296
/-- a list of lists of integers that comes in -/
def RowsAt2 (W : World) (v : Value) (Z : List (List Int)) : Prop := ∃ A cap, v = .slice A Z.length cap ∧ Z.length ≤ maxLen ∧
  ∀ k (h : k < Z.length), ∃ b off u, A = some ⟨b, off, none⟩ ∧ b < W.heap.size ∧ W.cell? ⟨b, off + k, none⟩ = some u ∧ IntsAt W u Z[k]
end Go.Proofs.Ytbacdllokgcohaa
/-
  Package shape: has.
-/
namespace Go.Proofs.Ytbacdllokgcohaa
set_option maxRecDepth 100000
open Go.ChangeShapes Go.WideShapes Go.ChangeAt Go.RowKit

theorem has_shr (s k : Nat) (hs : s < 4294967296) (hk : k < 32) : (bits .and .u32 ((s : Int) / 2 ^ k) 1 == 1) = s.testBit k := by
  have e : (s : Int) / 2 ^ k = ((s / 2 ^ k : Nat) : Int) := by norm_cast
  have hlt : s / 2 ^ k < 4294967296 := Nat.lt_of_le_of_lt (Nat.div_le_self _ _) hs
  have ha := u32_and_nat (s / 2 ^ k) 1 hlt (by omega)
  rw [Nat.and_one_is_mod] at ha
  have ha : bits .and .u32 ((s / 2 ^ k : Nat) : Int) 1 = (((s / 2 ^ k) % 2 : Nat) : Int) := by simpa using ha
  rw [e, ha, cnt_bit]
  cases s.testBit k <;> rfl
end Go.Proofs.Ytbacdllokgcohaa
