/-
  Package paper: Pick, Tasks.
-/
import Derived.Test.YtaoinedndnleoaaGreatTkA
import Derived.Test.YtaoinedndnleoaaGreatSm0
namespace Go.Proofs.YtaoinedndnleoaaGreat
set_option maxRecDepth 100000
open Go.ChangeShapes Go.WideShapes Go.ChangeAt Go.RowKit

/-- the transition of an event (-1: none) -/
def pickC (c : Ch) (x : Cf) (ev : Tx) : Int := match sortD (lvT c) (enL c x.set 9 ev) with
  | [] => -1
  | k :: _ => k
set_option maxHeartbeats 4000000 in
theorem Pick_any (c : Ch) (n : Nat) (AN AK AP AT A7 A8 AD : Option Addr) (cN cK cP cT n7 c7 n8 c8 nD cD : Nat) (nm : ByteArray) (x : Cf) (ev : Tx) (w : World) (h : ChW w c n AK AP AT cK cP cT) (hs : x.set < 4294967296) (hok : OkC c) :
    Calls Tryz.prog 18 #[chV AN AK AP AT c.names.length cN n cK n cP c.trans.length cT, .agg #[.string nm, .int .u32 (x.set : Nat), .slice A7 n7 c7, .slice A8 n8 c8, .slice AD nD cD], .string (bs ev)] w fun e w' => e = .returned (.int .i64 (pickC c x ev)) ∧ Below w.heap.size w w' := by
  have EN := Lib.hid (fun W (hW : Below w.heap.size w W) => enabled_any c n AN AK AP AT A7 A8 cN cK cP cT n7 c7 n8 c8 x.set 9 ev W (h.below hW) hs (few_en hok x.set 9 ev))
  have hB0 : Below w.heap.size w ((w.alloc (.cells #[.slice AN c.names.length cN, .slice AK n cK, .slice AP n cP, .slice AT c.trans.length cT] 30)).alloc (.cells #[.string nm, .int .u32 (x.set : Nat), .slice A7 n7 c7, .slice A8 n8 c8, .slice AD nD cD] 59)) := ((Below.refl _ _).alloc (Nat.le_refl _) _).alloc (by simp) _
  have RC : ((w.alloc (.cells #[.slice AN c.names.length cN, .slice AK n cK, .slice AP n cP, .slice AT c.trans.length cT] 30)).alloc (.cells #[.string nm, .int .u32 (x.set : Nat), .slice A7 n7 c7, .slice A8 n8 c8, .slice AD nD cD] 59)).heap[w.heap.size]? = some (.cells #[.slice AN c.names.length cN, .slice AK n cK, .slice AP n cP, .slice AT c.trans.length cT] 30 (0, 0)) := (heap_alloc_old _ _ (by simp)).trans (heap_alloc_new _ _)
  have RR : ((w.alloc (.cells #[.slice AN c.names.length cN, .slice AK n cK, .slice AP n cP, .slice AT c.trans.length cT] 30)).alloc (.cells #[.string nm, .int .u32 (x.set : Nat), .slice A7 n7 c7, .slice A8 n8 c8, .slice AD nD cD] 59)).heap[w.heap.size + 1]? = some (.cells #[.string nm, .int .u32 (x.set : Nat), .slice A7 n7 c7, .slice A8 n8 c8, .slice AD nD cD] 59 (0, 0)) := by
    have := heap_alloc_new (w.alloc (.cells #[.slice AN c.names.length cN, .slice AK n cK, .slice AP n cP, .slice AT c.trans.length cT] 30)) (.cells #[.string nm, .int .u32 (x.set : Nat), .slice A7 n7 c7, .slice A8 n8 c8, .slice AD nD cD] 59)
    simpa using this
  have HB0 := Lib.hid hB0
  have HPK : Hid (pickC c x ev = match sortD (lvT c) (enL c x.set 9 ev) with | [] => -1 | k :: _ => (k : Int)) := rfl
  clear hB0 h hok hs
  generalize pickC c x ev = pk at *
  generalize sortD (lvT c) (enL c x.set 9 ev) = L at *
  go_enter Tryz.func18, Tryz.ntmps18
  go_upto_region 1 with fail
  generalize (w.alloc (.cells #[.slice AN c.names.length cN, .slice AK n cK, .slice AP n cP, .slice AT c.trans.length cT] 30)).alloc (.cells #[.string nm, .int .u32 (x.set : Nat), .slice A7 n7 c7, .slice A8 n8 c8, .slice AD nD cD] 59) = w0 at *
  have c0 := cell_of_row _ _ 0 _ _ _ RC; have c1 := cell_of_row _ _ 1 _ _ _ RC; have c2 := cell_of_row _ _ 2 _ _ _ RC; have c3 := cell_of_row _ _ 3 _ _ _ RC
  have e0 := cell_of_row _ _ 0 _ _ _ RR; have e1 := cell_of_row _ _ 1 _ _ _ RR; have e2 := cell_of_row _ _ 2 _ _ _ RR; have e3 := cell_of_row _ _ 3 _ _ _ RR; have e4 := cell_of_row _ _ 4 _ _ _ RR
  clear RC RR
  cases L with
  | nil =>
    go_wp2_with (go_at_call 19; refine (EN.out _ HB0.out).mono ?_; rintro e w5 ⟨hb5, v, rfl, hO⟩; obtain ⟨AO, cO, rfl⟩ := own_slice hO; have HB5 := Lib.hid hb5; clear hb5 hO)
    go_ret
    exact ⟨ret_int HPK.out.symm, below_then HB0.out HB5.out HB0.out.size⟩
  | cons k r =>
    have hlen : (((k :: r).map fun k : Nat => (k : Int)).length : Int) ≠ 0 := by simp; omega
    go_wp2_with (go_at_call 19; refine (EN.out _ HB0.out).mono ?_; rintro e w5 ⟨hb5, v, rfl, hO⟩; obtain ⟨AO, cO, rfl⟩ := own_slice hO; obtain ⟨gO, cap', e, _, hlO, _, hc⟩ := own_form hO (by simp); injection e with e _ _; subst e; have q0 := hc 0 (.int .i64 (k : Nat)) (by simp [icells]); have HB5 := Lib.hid hb5; clear hb5 hO hc)
    go_ret
    exact ⟨ret_int HPK.out.symm, below_then HB0.out HB5.out HB0.out.size⟩
def TasTo (l : List Tx) (w : World) (e : Ending) (w' : World) : Prop := Below w.heap.size w w' ∧ ∃ v, e = .returned v ∧ OwnL w' w.heap.size v l
set_option maxHeartbeats 4000000 in
theorem PTasks_any (ds : List Dn) (u : Tx) (vN : ByteArray) (s : Nat) (A7 A8 AD : Option Addr) (n7 c7 n8 c8 cD : Nat) (w : World) (hD : DnAt w AD cD ds) (hl : ds.length ≤ 1000) :
    Calls Tryz.prog 24 #[.agg #[.string vN, .int .u32 s, .slice A7 n7 c7, .slice A8 n8 c8, .slice AD ds.length cD], .string (bs u)] w (TasTo (tasksD ds u) w) := by
  have HTK := Lib.hid (fun k (hk : k < ds.length) => tasksD_take hk u)
  have HTL := Lib.hid (fun k => tasksD_len (ds.take k) u)
  have hcD := hD.1
  have HD := Lib.hid hD
  clear hD
  go_enter Tryz.func24, Tryz.ntmps24
  go_upto_region 3 with fail
  obtain ⟨i0, hi, hz0, hz1, hz2⟩ := info_parts Tryz.infoString
  go_loopw [5, 11] (fun v i wx => ∃ k : Nat, k ≤ ds.length ∧ i = .int .i64 k ∧ Hid (OwnL wx w.heap.size v (tasksD (ds.take k) u)) ∧ Hid (Below w.heap.size w wx)) (fun _ i _ => ds.length - (intOf i).toNat)
  case atStart => exact ⟨0, Nat.zero_le _, rfl, ownL_nil _ _, box_b w _⟩
  case round =>
    obtain ⟨k, hk, rfl, HO, HB⟩ := hrel
    by_cases hlt : k < ds.length
    · obtain ⟨g, rfl, hgl, hc⟩ := HD.out.2 k hlt
      have hkk := HTK.out k hlt
      have hll := HTL.out k
      rw [List.length_take] at hll
      have q := fun f v hf hu => (HB.out.cell (p := ⟨g, k * 2 + f, none⟩) hgl).trans (hc f v hf hu)
      clear hc
      generalize ds[k] = d at *
      obtain ⟨tk, us⟩ := d
      simp only at hkk
      have q0 := q 0 _ (by omega) rfl; have q1 := q 1 _ (by omega) rfl
      simp only [Nat.add_zero] at q0
      clear q
      go_upto_region 5 with fail
      have hbx := box_b wr (.cells #[.string (bs tk), .string (bs us)] 78)
      have R0 := heap_alloc_new wr (.cells #[.string (bs tk), .string (bs us)] 78)
      have HB2 := Lib.hid (below_then HB.out hbx HB.out.size)
      have HO2 := Lib.hid (own_below HO.out hbx HB.out.size)
      clear q0 q1 HO HB hbx
      generalize wr.heap.size = gr at *
      generalize wr.alloc (.cells #[.string (bs tk), .string (bs us)] 78) = wy at *
      have p0 := cell_of_row _ _ 0 _ _ _ R0; have p1 := cell_of_row _ _ 1 _ _ _ R0
      clear R0
      by_cases hu : us = u
      · rw [if_pos hu] at hkk
        have HKK := Lib.hid hkk
        have hb : ((bs us).toList == (bs u).toList) = true := by rw [beq_tx]; simp [hu]
        clear hkk hu
        generalize tasksD (ds.take k) u = tl at *
        have hbz := HB2.out.size
        go_wp2_with (at_builtin; go_must (refine wpList_append_own _ rfl (.tmp 19) (.tmp 22) 25 rfl w.heap.size 9 i0 _ 1 16 Tryz.underlying25 hi hz0 hz1 hz2 rfl (by decide) _ _ _ rfl (World.ownsRow.alloc HO2.out _) ⟨wy.heap.size, 0, none⟩ 1 1 (scells [tk]) rfl rfl (cells_new _ _ _) (sc_oneA _) (by unfold maxLen; omega) (by omega) (by simp; omega) ?_); intro v' w4 hown' hg' _)
        have HB4 : Hid (Below w.heap.size w w4) := (HB2.out.alloc HB2.out.size _).grown hg' (HB2.out.alloc HB2.out.size _).size (fun g e => (World.ownsRow.lt HO2.out g e).1)
        have HO4 : Hid (OwnL w4 w.heap.size v' (tl ++ [tk])) := ownL_snocA hown'
        go_roundw
        case rel => exact ⟨k + 1, by omega, by go_num, by show OwnL _ _ _ _; rw [HKK.out]; exact HO4.out, HB4.out⟩
        case measure => simp [intOf]; omega
      · rw [if_neg hu] at hkk
        have HKK := Lib.hid hkk
        have hb : ((bs us).toList == (bs u).toList) = false := by rw [beq_tx, beq_eq_false_iff_ne]; exact hu
        clear hkk hu
        go_wp2
        go_roundw
        case rel => exact ⟨k + 1, by omega, by go_num, by show OwnL _ _ _ _; rw [HKK.out]; exact HO2.out, HB2.out⟩
        case measure => simp [intOf]; omega
    · have HOE := Lib.hid (by have := HO.out; rwa [List.take_of_length_le (by omega)] at this : OwnL wr w.heap.size _ (tasksD ds u))
      go_wp2
      go_ret
      exact ⟨HB.out, _, rfl, HOE.out⟩
end Go.Proofs.YtaoinedndnleoaaGreat
