/-
  Package paper: Fire of a transition that there is not.
-/
import Derived.Test.YtaoinedndnleoaaGreatPb3
namespace Go.Proofs.YtaoinedndnleoaaGreat
set_option maxRecDepth 100000
open Go.ChangeShapes Go.WideShapes Go.ChangeAt Go.RowKit

/-- no document, and an error's number -/
def TakNo (err : Int) (w : World) (e : Ending) (w' : World) : Prop := e = .returned (.tuple #[papZ, .iface 50 (.int .i64 err)]) ∧ Below w.heap.size w w'
set_option maxHeartbeats 8000000 in
theorem PTake_arg (c : Ch) (n : Nat) (AN AK AP AT A7 A8 AD : Option Addr) (cN cK cP cT c7 c8 nD cD : Nat) (nm : ByteArray) (x : Cf) (kd i now : Int) (w : World) (h : ChW w c n AK AP AT cK cP cT) (hi : i < 0 ∨ (c.trans.length : Int) ≤ i ∨ ∃ (k : Nat) (hk : k < c.trans.length), i = k ∧ c.trans[k].kind ≠ kd) :
    Calls Tryz.prog 49 #[chV AN AK AP AT c.names.length cN n cK n cP c.trans.length cT, .agg #[.string nm, .int .u32 (x.set : Nat), .slice A7 n c7, .slice A8 n c8, .slice AD nD cD], .int .i64 kd, .int .i64 i, .int .i64 now] w (TakNo 1 w) := by
  obtain ⟨RC, RX, RR, _⟩ := rows3 w (.cells #[.slice AN c.names.length cN, .slice AK n cK, .slice AP n cP, .slice AT c.trans.length cT] 30) (.cells #[.string nm, .int .u32 (x.set : Nat), .slice A7 n c7, .slice A8 n c8, .slice AD nD cD] 59) (.cells #[.string ⟨#[]⟩, .int .u32 0, .slice none 0 0, .slice none 0 0, .slice none 0 0] 59)
  have hB0 : Below w.heap.size w (((w.alloc (.cells #[.slice AN c.names.length cN, .slice AK n cK, .slice AP n cP, .slice AT c.trans.length cT] 30)).alloc (.cells #[.string nm, .int .u32 (x.set : Nat), .slice A7 n c7, .slice A8 n c8, .slice AD nD cD] 59)).alloc (.cells #[.string ⟨#[]⟩, .int .u32 0, .slice none 0 0, .slice none 0 0, .slice none 0 0] 59)) := ((((Below.refl _ _).alloc (Nat.le_refl _) _).alloc (by simp) _).alloc (by simp; omega) _)
  have RC : (((w.alloc (.cells #[.slice AN c.names.length cN, .slice AK n cK, .slice AP n cP, .slice AT c.trans.length cT] 30)).alloc (.cells #[.string nm, .int .u32 (x.set : Nat), .slice A7 n c7, .slice A8 n c8, .slice AD nD cD] 59)).alloc (.cells #[.string ⟨#[]⟩, .int .u32 0, .slice none 0 0, .slice none 0 0, .slice none 0 0] 59)).heap[w.heap.size]? = some (.cells #[.slice AN c.names.length cN, .slice AK n cK, .slice AP n cP, .slice AT c.trans.length cT] 30 (0, 0)) := RC
  have RX : (((w.alloc (.cells #[.slice AN c.names.length cN, .slice AK n cK, .slice AP n cP, .slice AT c.trans.length cT] 30)).alloc (.cells #[.string nm, .int .u32 (x.set : Nat), .slice A7 n c7, .slice A8 n c8, .slice AD nD cD] 59)).alloc (.cells #[.string ⟨#[]⟩, .int .u32 0, .slice none 0 0, .slice none 0 0, .slice none 0 0] 59)).heap[w.heap.size + 1]? = some (.cells #[.string nm, .int .u32 (x.set : Nat), .slice A7 n c7, .slice A8 n c8, .slice AD nD cD] 59 (0, 0)) := RX
  have RR : (((w.alloc (.cells #[.slice AN c.names.length cN, .slice AK n cK, .slice AP n cP, .slice AT c.trans.length cT] 30)).alloc (.cells #[.string nm, .int .u32 (x.set : Nat), .slice A7 n c7, .slice A8 n c8, .slice AD nD cD] 59)).alloc (.cells #[.string ⟨#[]⟩, .int .u32 0, .slice none 0 0, .slice none 0 0, .slice none 0 0] 59)).heap[w.heap.size + 2]? = some (.cells #[.string ⟨#[]⟩, .int .u32 0, .slice none 0 0, .slice none 0 0, .slice none 0 0] 59 (0, 0)) := RR
  have htl := h.tl
  have htc := h.tc
  have htr := h.tr.below hB0
  clear h
  rcases hi with h | h | ⟨k, hk, rfl, hkd⟩
  · have h0 : i < 0 := h
    clear htr
    go_enter Tryz.func49, Tryz.ntmps49
    go_upto_region 1 with fail
    generalize ((w.alloc (.cells #[.slice AN c.names.length cN, .slice AK n cK, .slice AP n cP, .slice AT c.trans.length cT] 30)).alloc (.cells #[.string nm, .int .u32 (x.set : Nat), .slice A7 n c7, .slice A8 n c8, .slice AD nD cD] 59)).alloc (.cells #[.string ⟨#[]⟩, .int .u32 0, .slice none 0 0, .slice none 0 0, .slice none 0 0] 59) = w0 at *
    have c3 := cell_of_row _ _ 3 _ _ _ RC
    have RZ := RR
    have HBZ := hB0
    have d0 := cell_of_row _ _ 0 _ _ _ RZ; have d1 := cell_of_row _ _ 1 _ _ _ RZ; have d2 := cell_of_row _ _ 2 _ _ _ RZ; have d3 := cell_of_row _ _ 3 _ _ _ RZ; have d4 := cell_of_row _ _ 4 _ _ _ RZ
    have f0 := fz_of RZ 0; have f1 := fz_of RZ 1; have f2 := fz_of RZ 2; have f3 := fz_of RZ 3; have f4 := fz_of RZ 4
    go_wp2_with fail
    (try simp only [Exit.inBlock, Exit.then])
    refine bodyPost_ret (run_cellU rfl _ _ (w.heap.size + 2) _ _ _ _ rfl (set5_row _ _ _ _ _ RZ) Tryz.underlying59 rfl (by kernel_rfl)) rfl ?_
    exact ⟨rfl, set5_below HBZ (Nat.le_refl _) (by omega) _ _ _ _ _⟩
  · have hz : ¬ i < 0 := by omega
    have h0 : (c.trans.length : Int) ≤ i := h
    clear htr
    go_enter Tryz.func49, Tryz.ntmps49
    go_upto_region 1 with fail
    generalize ((w.alloc (.cells #[.slice AN c.names.length cN, .slice AK n cK, .slice AP n cP, .slice AT c.trans.length cT] 30)).alloc (.cells #[.string nm, .int .u32 (x.set : Nat), .slice A7 n c7, .slice A8 n c8, .slice AD nD cD] 59)).alloc (.cells #[.string ⟨#[]⟩, .int .u32 0, .slice none 0 0, .slice none 0 0, .slice none 0 0] 59) = w0 at *
    have c3 := cell_of_row _ _ 3 _ _ _ RC
    have RZ := RR
    have HBZ := hB0
    have d0 := cell_of_row _ _ 0 _ _ _ RZ; have d1 := cell_of_row _ _ 1 _ _ _ RZ; have d2 := cell_of_row _ _ 2 _ _ _ RZ; have d3 := cell_of_row _ _ 3 _ _ _ RZ; have d4 := cell_of_row _ _ 4 _ _ _ RZ
    have f0 := fz_of RZ 0; have f1 := fz_of RZ 1; have f2 := fz_of RZ 2; have f3 := fz_of RZ 3; have f4 := fz_of RZ 4
    go_wp2_with fail
    (try simp only [Exit.inBlock, Exit.then])
    refine bodyPost_ret (run_cellU rfl _ _ (w.heap.size + 2) _ _ _ _ rfl (set5_row _ _ _ _ _ RZ) Tryz.underlying59 rfl (by kernel_rfl)) rfl ?_
    exact ⟨rfl, set5_below HBZ (Nat.le_refl _) (by omega) _ _ _ _ _⟩
  · obtain ⟨g, rfl, hgl, hc⟩ := htr k hk
    have q0 := hc 0 _ (by omega) rfl
    simp only [Nat.add_zero] at q0
    have hz : ¬ (k : Int) < 0 := by omega
    have hle : ¬ (c.trans.length : Int) ≤ k := by omega
    have hlt : (k : Int) < c.trans.length := by omega
    have hge : (0 : Int) ≤ k := by omega
    clear hc htr
    generalize c.trans[k] = t at *
    obtain ⟨tk, tf, tt, te, tp, ta, ti⟩ := t
    simp only at hkd
    have b1 : (tk != kd) = true := by simpa using hkd
    have b2 : (tk == kd) = false := by simpa using hkd
    clear hkd
    go_enter Tryz.func49, Tryz.ntmps49
    go_upto_region 1 with fail
    generalize ((w.alloc (.cells #[.slice AN c.names.length cN, .slice AK n cK, .slice AP n cP, .slice (some ⟨g, 0, none⟩) c.trans.length cT] 30)).alloc (.cells #[.string nm, .int .u32 (x.set : Nat), .slice A7 n c7, .slice A8 n c8, .slice AD nD cD] 59)).alloc (.cells #[.string ⟨#[]⟩, .int .u32 0, .slice none 0 0, .slice none 0 0, .slice none 0 0] 59) = w0 at *
    have c3 := cell_of_row _ _ 3 _ _ _ RC
    have RZ := RR
    have HBZ := hB0
    have d0 := cell_of_row _ _ 0 _ _ _ RZ; have d1 := cell_of_row _ _ 1 _ _ _ RZ; have d2 := cell_of_row _ _ 2 _ _ _ RZ; have d3 := cell_of_row _ _ 3 _ _ _ RZ; have d4 := cell_of_row _ _ 4 _ _ _ RZ
    have f0 := fz_of RZ 0; have f1 := fz_of RZ 1; have f2 := fz_of RZ 2; have f3 := fz_of RZ 3; have f4 := fz_of RZ 4
    go_wp2_with fail
    (try simp only [Exit.inBlock, Exit.then])
    refine bodyPost_ret (run_cellU rfl _ _ (w.heap.size + 2) _ _ _ _ rfl (set5_row _ _ _ _ _ RZ) Tryz.underlying59 rfl (by kernel_rfl)) rfl ?_
    exact ⟨rfl, set5_below HBZ (Nat.le_refl _) (by omega) _ _ _ _ _⟩
set_option maxHeartbeats 4000000 in
theorem Fire_err (c : Ch) (n : Nat) (AN AK AP AT A7 A8 AD : Option Addr) (cN cK cP cT c7 c8 nD cD : Nat) (nm : ByteArray) (x : Cf) (i now err : Int) (u : Tx) (ap : List (List Tx)) (AL : Option Addr) (cL : Nat) (w : World)
    (hT : ∀ W, Below w.heap.size w W → Calls Tryz.prog 49 #[chV AN AK AP AT c.names.length cN n cK n cP c.trans.length cT, .agg #[.string nm, .int .u32 (x.set : Nat), .slice A7 n c7, .slice A8 n c8, .slice AD nD cD], .int .i64 9, .int .i64 i, .int .i64 now] W (TakNo err W)) :
    Calls Tryz.prog 20 #[chV AN AK AP AT c.names.length cN n cK n cP c.trans.length cT, .agg #[.string nm, .int .u32 (x.set : Nat), .slice A7 n c7, .slice A8 n c8, .slice AD nD cD], .int .i64 i, .string (bs u), .slice AL ap.length cL, .int .i64 now] w (FirTo n nm (.err err) w) := by
  have TN := Lib.hid hT
  clear hT
  obtain ⟨RC, RX, RR, _⟩ := rows3 w (.cells #[.slice AN c.names.length cN, .slice AK n cK, .slice AP n cP, .slice AT c.trans.length cT] 30) (.cells #[.string nm, .int .u32 (x.set : Nat), .slice A7 n c7, .slice A8 n c8, .slice AD nD cD] 59) (.cells #[.string ⟨#[]⟩, .int .u32 0, .slice none 0 0, .slice none 0 0, .slice none 0 0] 59)
  have hB0 : Below w.heap.size w (((w.alloc (.cells #[.slice AN c.names.length cN, .slice AK n cK, .slice AP n cP, .slice AT c.trans.length cT] 30)).alloc (.cells #[.string nm, .int .u32 (x.set : Nat), .slice A7 n c7, .slice A8 n c8, .slice AD nD cD] 59)).alloc (.cells #[.string ⟨#[]⟩, .int .u32 0, .slice none 0 0, .slice none 0 0, .slice none 0 0] 59)) := ((((Below.refl _ _).alloc (Nat.le_refl _) _).alloc (by simp) _).alloc (by simp; omega) _)
  have RC : (((w.alloc (.cells #[.slice AN c.names.length cN, .slice AK n cK, .slice AP n cP, .slice AT c.trans.length cT] 30)).alloc (.cells #[.string nm, .int .u32 (x.set : Nat), .slice A7 n c7, .slice A8 n c8, .slice AD nD cD] 59)).alloc (.cells #[.string ⟨#[]⟩, .int .u32 0, .slice none 0 0, .slice none 0 0, .slice none 0 0] 59)).heap[w.heap.size]? = some (.cells #[.slice AN c.names.length cN, .slice AK n cK, .slice AP n cP, .slice AT c.trans.length cT] 30 (0, 0)) := RC
  have RX : (((w.alloc (.cells #[.slice AN c.names.length cN, .slice AK n cK, .slice AP n cP, .slice AT c.trans.length cT] 30)).alloc (.cells #[.string nm, .int .u32 (x.set : Nat), .slice A7 n c7, .slice A8 n c8, .slice AD nD cD] 59)).alloc (.cells #[.string ⟨#[]⟩, .int .u32 0, .slice none 0 0, .slice none 0 0, .slice none 0 0] 59)).heap[w.heap.size + 1]? = some (.cells #[.string nm, .int .u32 (x.set : Nat), .slice A7 n c7, .slice A8 n c8, .slice AD nD cD] 59 (0, 0)) := RX
  have RR : (((w.alloc (.cells #[.slice AN c.names.length cN, .slice AK n cK, .slice AP n cP, .slice AT c.trans.length cT] 30)).alloc (.cells #[.string nm, .int .u32 (x.set : Nat), .slice A7 n c7, .slice A8 n c8, .slice AD nD cD] 59)).alloc (.cells #[.string ⟨#[]⟩, .int .u32 0, .slice none 0 0, .slice none 0 0, .slice none 0 0] 59)).heap[w.heap.size + 2]? = some (.cells #[.string ⟨#[]⟩, .int .u32 0, .slice none 0 0, .slice none 0 0, .slice none 0 0] 59 (0, 0)) := RR
  have HB0 := Lib.hid hB0
  clear hB0
  go_enter Tryz.func20, Tryz.ntmps20
  go_upto_region 1 with fail
  generalize ((w.alloc (.cells #[.slice AN c.names.length cN, .slice AK n cK, .slice AP n cP, .slice AT c.trans.length cT] 30)).alloc (.cells #[.string nm, .int .u32 (x.set : Nat), .slice A7 n c7, .slice A8 n c8, .slice AD nD cD] 59)).alloc (.cells #[.string ⟨#[]⟩, .int .u32 0, .slice none 0 0, .slice none 0 0, .slice none 0 0] 59) = w0 at *
  have c0 := cell_of_row _ _ 0 _ _ _ RC; have c1 := cell_of_row _ _ 1 _ _ _ RC; have c2 := cell_of_row _ _ 2 _ _ _ RC; have c3 := cell_of_row _ _ 3 _ _ _ RC
  have y0 := cell_of_row _ _ 0 _ _ _ RX; have y1 := cell_of_row _ _ 1 _ _ _ RX; have y2 := cell_of_row _ _ 2 _ _ _ RX; have y3 := cell_of_row _ _ 3 _ _ _ RX; have y4 := cell_of_row _ _ 4 _ _ _ RX
  have hlr := (Array.getElem?_eq_some_iff.1 RR).1
  have HRR := Lib.hid RR
  clear RC RX RR
  go_upto_region 2 with (go_at_call 49; refine (TN.out _ HB0.out).mono ?_; rintro e w5 ⟨rfl, hb5⟩; have HB5 := Lib.hid hb5; clear hb5)
  have HZ := Lib.hid (box_b w5 (.cells #[.string ⟨#[]⟩, .int .u32 0, .slice none 0 0, .slice none 0 0, .slice none 0 0] 59))
  have RZ := ((below_then HB5.out HZ.out HB5.out.size).block _ hlr).trans HRR.out
  have HBZ := Lib.hid (below_then (below_then HB0.out HB5.out HB0.out.size) HZ.out (below_then HB0.out HB5.out HB0.out.size).size)
  generalize w5.alloc (.cells #[.string ⟨#[]⟩, .int .u32 0, .slice none 0 0, .slice none 0 0, .slice none 0 0] 59) = w6 at *
  have d0 := cell_of_row _ _ 0 _ _ _ RZ; have d1 := cell_of_row _ _ 1 _ _ _ RZ; have d2 := cell_of_row _ _ 2 _ _ _ RZ; have d3 := cell_of_row _ _ 3 _ _ _ RZ; have d4 := cell_of_row _ _ 4 _ _ _ RZ
  have f0 := fz_of RZ 0; have f1 := fz_of RZ 1; have f2 := fz_of RZ 2; have f3 := fz_of RZ 3; have f4 := fz_of RZ 4
  go_wp2_with fail
  (try simp only [Exit.inBlock, Exit.then])
  refine bodyPost_ret (run_cellU2 rfl _ _ (w.heap.size + 2) _ _ _ _ rfl (set5_row _ _ _ _ _ RZ) Tryz.underlying59 rfl (by kernel_rfl)) rfl ?_
  exact ⟨set5_below HBZ.out (Nat.le_refl _) (by omega) _ _ _ _ _, rfl⟩
end Go.Proofs.YtaoinedndnleoaaGreat
