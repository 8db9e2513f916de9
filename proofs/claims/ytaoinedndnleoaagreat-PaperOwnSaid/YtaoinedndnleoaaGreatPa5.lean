/-
  Package paper: settle: the transitions that go by themselves.
-/
import Derived.Test.YtaoinedndnleoaaGreatPa4
import Derived.Test.YtaoinedndnleoaaGreatTil
namespace Go.Proofs.YtaoinedndnleoaaGreat
set_option maxRecDepth 100000
open Go.ChangeShapes Go.WideShapes Go.ChangeAt Go.RowKit

/-- a document behind all, and all transitions that were taken, or that there is no end -/
def SetTo (n : Nat) (nm : ByteArray) (vD : Value) (r : Option (Cf × List Nat)) (i : Int) (w : World) (e : Ending) (w' : World) : Prop := Below w.heap.size w w' ∧ match r with
  | none => e = .returned (.tuple #[papZ, .slice none 0 0, .iface 50 (.int .i64 10)])
  | some (y, out) => ∃ g3 gS vL, e = .returned (.tuple #[.agg #[.string nm, .int .u32 (y.set : Nat), .slice (some ⟨g3, 0, none⟩) n n, .slice (some ⟨gS, 0, none⟩) n n, vD], vL, .nilIface]) ∧ w.heap.size ≤ g3 ∧ CfR w.heap.size w' n y (.slice (some ⟨g3, 0, none⟩) n n) gS ∧ OwnI w' w.heap.size vL (i :: out.map fun k : Nat => (k : Int))
set_option maxHeartbeats 8000000 in
theorem Settle_any (c : Ch) (n : Nat) (AN AK AP AT A7 A8 AD : Option Addr) (cN cK cP cT c7 c8 nD cD : Nat) (nm : ByteArray) (x : Cf) (i now : Int) (w : World) (h : ChW w c n AK AP AT cK cP cT) (hx : Plc c.kinds c.parents n x) (hU : U32sAt w (.slice A7 n c7) x.past) (hS : IntsAt w (.slice A8 n c8) x.since) (hw : (Lit.int .i64 now).wf = true) (hok : OkC c) (hout : ∀ y out, runC c n now 16 x [] = some (y, out) → out.length ≤ 1000) :
    Calls Tryz.prog 51 #[chV AN AK AP AT c.names.length cN n cK n cP c.trans.length cT, .agg #[.string nm, .int .u32 (x.set : Nat), .slice A7 n c7, .slice A8 n c8, .slice AD nD cD], .int .i64 i, .int .i64 now] w (SetTo n nm (.slice AD nD cD) (runC c n now 16 x []) i w) := by
  obtain ⟨RC, RX, RR, _⟩ := rows3 w (.cells #[.slice AN c.names.length cN, .slice AK n cK, .slice AP n cP, .slice AT c.trans.length cT] 30) (.cells #[.string nm, .int .u32 (x.set : Nat), .slice A7 n c7, .slice A8 n c8, .slice AD nD cD] 59) (.cells #[.string ⟨#[]⟩, .int .u32 0, .slice none 0 0, .slice none 0 0, .slice none 0 0] 59)
  have hB0 : Below w.heap.size w (((w.alloc (.cells #[.slice AN c.names.length cN, .slice AK n cK, .slice AP n cP, .slice AT c.trans.length cT] 30)).alloc (.cells #[.string nm, .int .u32 (x.set : Nat), .slice A7 n c7, .slice A8 n c8, .slice AD nD cD] 59)).alloc (.cells #[.string ⟨#[]⟩, .int .u32 0, .slice none 0 0, .slice none 0 0, .slice none 0 0] 59)) := ((((Below.refl _ _).alloc (Nat.le_refl _) _).alloc (by simp) _).alloc (by simp; omega) _)
  have RC : (((w.alloc (.cells #[.slice AN c.names.length cN, .slice AK n cK, .slice AP n cP, .slice AT c.trans.length cT] 30)).alloc (.cells #[.string nm, .int .u32 (x.set : Nat), .slice A7 n c7, .slice A8 n c8, .slice AD nD cD] 59)).alloc (.cells #[.string ⟨#[]⟩, .int .u32 0, .slice none 0 0, .slice none 0 0, .slice none 0 0] 59)).heap[w.heap.size]? = some (.cells #[.slice AN c.names.length cN, .slice AK n cK, .slice AP n cP, .slice AT c.trans.length cT] 30 (0, 0)) := RC
  have RX : (((w.alloc (.cells #[.slice AN c.names.length cN, .slice AK n cK, .slice AP n cP, .slice AT c.trans.length cT] 30)).alloc (.cells #[.string nm, .int .u32 (x.set : Nat), .slice A7 n c7, .slice A8 n c8, .slice AD nD cD] 59)).alloc (.cells #[.string ⟨#[]⟩, .int .u32 0, .slice none 0 0, .slice none 0 0, .slice none 0 0] 59)).heap[w.heap.size + 1]? = some (.cells #[.string nm, .int .u32 (x.set : Nat), .slice A7 n c7, .slice A8 n c8, .slice AD nD cD] 59 (0, 0)) := RX
  have RR : (((w.alloc (.cells #[.slice AN c.names.length cN, .slice AK n cK, .slice AP n cP, .slice AT c.trans.length cT] 30)).alloc (.cells #[.string nm, .int .u32 (x.set : Nat), .slice A7 n c7, .slice A8 n c8, .slice AD nD cD] 59)).alloc (.cells #[.string ⟨#[]⟩, .int .u32 0, .slice none 0 0, .slice none 0 0, .slice none 0 0] 59)).heap[w.heap.size + 2]? = some (.cells #[.string ⟨#[]⟩, .int .u32 0, .slice none 0 0, .slice none 0 0, .slice none 0 0] 59 (0, 0)) := RR
  have RN := Lib.hid (fun W (hW : Below w.heap.size w W) => run_any c n AN AK AP AT A7 A8 cN cK cP cT c7 c8 x now (Plc c.kinds c.parents n) W (h.below hW) (hU.below hW) (hS.below hW) hw (runInv_plc h.sh h.nn hw h.ft (fun s => few_en hok s 10 [])) hx)
  have HB0 := Lib.hid hB0
  clear hB0 h hx hU hS hw hok
  generalize runC c n now 16 x [] = r at *
  have HOUT := Lib.hid hout
  clear hout
  go_enter Tryz.func51, Tryz.ntmps51
  go_upto_region 1 with fail
  generalize ((w.alloc (.cells #[.slice AN c.names.length cN, .slice AK n cK, .slice AP n cP, .slice AT c.trans.length cT] 30)).alloc (.cells #[.string nm, .int .u32 (x.set : Nat), .slice A7 n c7, .slice A8 n c8, .slice AD nD cD] 59)).alloc (.cells #[.string ⟨#[]⟩, .int .u32 0, .slice none 0 0, .slice none 0 0, .slice none 0 0] 59) = w0 at *
  have c0 := cell_of_row _ _ 0 _ _ _ RC; have c1 := cell_of_row _ _ 1 _ _ _ RC; have c2 := cell_of_row _ _ 2 _ _ _ RC; have c3 := cell_of_row _ _ 3 _ _ _ RC
  have y0 := cell_of_row _ _ 0 _ _ _ RX; have y1 := cell_of_row _ _ 1 _ _ _ RX; have y2 := cell_of_row _ _ 2 _ _ _ RX; have y3 := cell_of_row _ _ 3 _ _ _ RX; have y4 := cell_of_row _ _ 4 _ _ _ RX
  have hlr := (Array.getElem?_eq_some_iff.1 RR).1
  have HRR := Lib.hid RR
  have HRX := Lib.hid RX
  clear RC RX RR
  cases r with
  | none =>
    go_upto_region 2 with (go_at_call 21; refine (RN.out _ HB0.out).mono ?_; rintro e w5 ⟨hb5, he⟩; simp only at he; subst he; have HB5 := Lib.hid hb5; clear hb5)
    have HZ := Lib.hid (box_b w5 (.cells #[.int .u32 0, .slice none 0 0, .slice none 0 0] 40))
    have RZ := ((below_then HB5.out HZ.out HB5.out.size).block _ hlr).trans HRR.out
    generalize w5.alloc (.cells #[.int .u32 0, .slice none 0 0, .slice none 0 0] 40) = w6 at *
    have d0 := cell_of_row _ _ 0 _ _ _ RZ; have d1 := cell_of_row _ _ 1 _ _ _ RZ; have d2 := cell_of_row _ _ 2 _ _ _ RZ; have d3 := cell_of_row _ _ 3 _ _ _ RZ; have d4 := cell_of_row _ _ 4 _ _ _ RZ
    have f0 := fz_of RZ 0; have f1 := fz_of RZ 1; have f2 := fz_of RZ 2; have f3 := fz_of RZ 3; have f4 := fz_of RZ 4
    go_wp2_with fail
    (try simp only [Exit.inBlock, Exit.then])
    refine bodyPost_ret (run_cellU2 rfl _ _ (w.heap.size + 2) _ _ _ _ rfl (set5_row _ _ _ _ _ RZ) Tryz.underlying59 rfl (by kernel_rfl)) rfl ?_
    exact ⟨set5_below (below_then (below_then HB0.out HB5.out HB0.out.size) HZ.out (below_then HB0.out HB5.out HB0.out.size).size) (Nat.le_refl _) (by omega) _ _ _ _ _, rfl⟩
  | some yo =>
    obtain ⟨y, out⟩ := yo
    have hout := HOUT.out y out rfl
    clear HOUT
    go_upto_region 4 with (go_at_call 21; refine (RN.out _ HB0.out).mono ?_; rintro e w5 ⟨hb5, g3, gS, v, rfl, hg3, hR, hO⟩; obtain ⟨AO, cO, rfl⟩ := own_slice hO; have HB5 := Lib.hid hb5; have HRy := Lib.hid hR; have HO := Lib.hid hO; clear hb5 hR hO)
    have HZ := Lib.hid (box_b w5 (.cells #[.int .u32 (y.set : Nat), .slice (some ⟨g3, 0, none⟩) n n, .slice (some ⟨gS, 0, none⟩) n n] 40))
    have RY := heap_alloc_new w5 (.cells #[.int .u32 (y.set : Nat), .slice (some ⟨g3, 0, none⟩) n n, .slice (some ⟨gS, 0, none⟩) n n] 40)
    have HB6 : Hid (Below w0.heap.size w0 (w5.alloc (.cells #[.int .u32 (y.set : Nat), .slice (some ⟨g3, 0, none⟩) n n, .slice (some ⟨gS, 0, none⟩) n n] 40))) := below_then HB5.out HZ.out HB5.out.size
    have HR6 := Lib.hid (HRy.out.below HZ.out)
    have HO6 := Lib.hid (own_below HO.out HZ.out HB5.out.size)
    have hgS' : w0.heap.size ≤ gS := HRy.out.lo
    have hg3' : w0.heap.size ≤ g3 := hg3
    generalize w5.alloc (.cells #[.int .u32 (y.set : Nat), .slice (some ⟨g3, 0, none⟩) n n, .slice (some ⟨gS, 0, none⟩) n n] 40) = w6 at *
    have R1 := (HB6.out.block _ (by omega)).trans HRX.out
    have R2 := (HB6.out.block _ hlr).trans HRR.out
    have k0 := cell_of_row _ _ 0 _ _ _ RY; have k1 := cell_of_row _ _ 1 _ _ _ RY; have k2 := cell_of_row _ _ 2 _ _ _ RY
    have x0 := cell_of_row _ _ 0 _ _ _ R1; have x1 := cell_of_row _ _ 1 _ _ _ R1; have x2 := cell_of_row _ _ 2 _ _ _ R1; have x3 := cell_of_row _ _ 3 _ _ _ R1; have x4 := cell_of_row _ _ 4 _ _ _ R1
    have f1 := fz_of R1 1; have f2 := fz_of R1 2; have f3 := fz_of R1 3
    go_upto_region 5 with fail
    have hgr : w6.grownBy (((w6.setCell ⟨w.heap.size + 1, 1, none⟩ (.int .u32 (y.set : Nat))).setCell ⟨w.heap.size + 1, 2, none⟩ (.slice (some ⟨g3, 0, none⟩) n n)).setCell ⟨w.heap.size + 1, 3, none⟩ (.slice (some ⟨gS, 0, none⟩) n n)) (some (w.heap.size + 1)) := World.grownBy.trans (World.grownBy.trans (grown_setCell _ _ _ _) (grown_setCell _ _ _ _)) (grown_setCell _ _ _ _)
    have R7 : (((w6.setCell ⟨w.heap.size + 1, 1, none⟩ (.int .u32 (y.set : Nat))).setCell ⟨w.heap.size + 1, 2, none⟩ (.slice (some ⟨g3, 0, none⟩) n n)).setCell ⟨w.heap.size + 1, 3, none⟩ (.slice (some ⟨gS, 0, none⟩) n n)).heap[w.heap.size + 1]? = some (.cells #[(.string nm), (.int .u32 (y.set : Nat)), (.slice (some ⟨g3, 0, none⟩) n n), (.slice (some ⟨gS, 0, none⟩) n n), (.slice AD nD cD)] 59 (0, 0)) := by
      have e := heap_set (j := 3) (heap_set (j := 2) (heap_set (j := 1) R1 (.int .u32 (y.set : Nat))) (.slice (some ⟨g3, 0, none⟩) n n)) (.slice (some ⟨gS, 0, none⟩) n n)
      simpa using e
    have R8 := (hgr.block (w.heap.size + 1 + 1) (Array.getElem?_eq_some_iff.1 R2).1 (by simp)).trans R2
    have HR7 := Lib.hid (cfr_grown HR6.out hgr (by intro e; injection e with e; omega) (by intro e; injection e with e; omega))
    have HO7 := Lib.hid (World.ownsRow.kept HO6.out hgr (.inr fun e => by have := (World.ownsRow.lt HO6.out _ e).1; omega))
    have HB7 : Hid (Below w.heap.size w (((w6.setCell ⟨w.heap.size + 1, 1, none⟩ (.int .u32 (y.set : Nat))).setCell ⟨w.heap.size + 1, 2, none⟩ (.slice (some ⟨g3, 0, none⟩) n n)).setCell ⟨w.heap.size + 1, 3, none⟩ (.slice (some ⟨gS, 0, none⟩) n n))) := (below_then HB0.out HB6.out HB0.out.size).grown hgr (below_then HB0.out HB6.out HB0.out.size).size (fun g e => by cases e; omega)
    have HR8 := Lib.hid R8
    clear R1 R2 R8 hgr k0 k1 k2 x0 x1 x2 x3 x4 f1 f2 f3 RY HZ HB6 HR6 HO6 HO HRy HRX HRR HB5
    generalize (((w6.setCell ⟨w.heap.size + 1, 1, none⟩ (.int .u32 (y.set : Nat))).setCell ⟨w.heap.size + 1, 2, none⟩ (.slice (some ⟨g3, 0, none⟩) n n)).setCell ⟨w.heap.size + 1, 3, none⟩ (.slice (some ⟨gS, 0, none⟩) n n)) = w7 at *
    have p0 := cell_of_row _ _ 0 _ _ _ R7; have p1 := cell_of_row _ _ 1 _ _ _ R7; have p2 := cell_of_row _ _ 2 _ _ _ R7; have p3 := cell_of_row _ _ 3 _ _ _ R7; have p4 := cell_of_row _ _ 4 _ _ _ R7
    have hl7 := (Array.getElem?_eq_some_iff.1 R7).1
    have hl8 := (Array.getElem?_eq_some_iff.1 HR8.out).1
    obtain ⟨i1, ii, iz0, iz1, iz2⟩ := info_parts Tryz.infoInt
    have hS0 : w7.cell? ⟨w.heap.size + 1, 0, none⟩ = some (.string nm) ∧ w7.cell? ⟨w.heap.size + 1, 1, none⟩ = some (.int .u32 (y.set : Nat)) ∧ w7.cell? ⟨w.heap.size + 1, 2, none⟩ = some (.slice (some ⟨g3, 0, none⟩) n n) ∧ w7.cell? ⟨w.heap.size + 1, 3, none⟩ = some (.slice (some ⟨gS, 0, none⟩) n n) ∧ w7.cell? ⟨w.heap.size + 1, 4, none⟩ = some (.slice AD nD cD) := ⟨p0, p1, p2, p3, p4⟩
    clear R7 p0 p1 p2 p3 p4
    refine wp_region_til (S := fun w' => w'.cell? ⟨w.heap.size + 1, 0, none⟩ = some (.string nm) ∧ w'.cell? ⟨w.heap.size + 1, 1, none⟩ = some (.int .u32 (y.set : Nat)) ∧ w'.cell? ⟨w.heap.size + 1, 2, none⟩ = some (.slice (some ⟨g3, 0, none⟩) n n) ∧ w'.cell? ⟨w.heap.size + 1, 3, none⟩ = some (.slice (some ⟨gS, 0, none⟩) n n) ∧ w'.cell? ⟨w.heap.size + 1, 4, none⟩ = some (.slice AD nD cD)) 5 (by kernel_rfl) hS0 (fun hHeld => ?_)
    refine wpTil_take (i := 0) (v := ?_) rfl (by kernel_rfl) (by kernel_rfl) (by kernel_rfl) (by kernel_rfl) rfl rfl (fun _ _ _ h => h) (Or.inl ⟨by rfl, ?_⟩) hHeld ?_
    rotate_left
    · intro w hSw
      obtain ⟨hs1, hs2, hs3, hs4, hs5⟩ := hSw
      go_simp
      (try with_reducible rfl)
    rotate_left
    (try simp only [Act.put, List.setIfInBounds_toArray, List.set_cons_zero, List.set_cons_succ])
    refine wpTil_pure (i := 1) (v := ?_) rfl (by kernel_rfl) (by kernel_rfl) (by kernel_rfl) rfl (fun _ _ _ h => h) (Or.inl ⟨by rfl, ?_⟩) hHeld ?_
    rotate_left
    · intro w _
      go_simp
      (try with_reducible rfl)
    rotate_left
    (try simp only [Act.put, List.setIfInBounds_toArray, List.set_cons_zero, List.set_cons_succ])
    refine wpTil_pure (i := 3) (v := ?_) rfl (by kernel_rfl) (by kernel_rfl) (by kernel_rfl) rfl (fun _ _ _ h => h) (Or.inl ⟨by rfl, ?_⟩) hHeld ?_
    rotate_left
    · intro w _
      go_simp
      (try with_reducible rfl)
    rotate_left
    (try simp only [Act.put, List.setIfInBounds_toArray, List.set_cons_zero, List.set_cons_succ])
    refine wpTil_next (rs := [2]) (by kernel_rfl) (by simp) ?_
    refine NextT.cons rfl (fun K hK => ?_) NextT.nil
    go_simp
    have hS1 : ((w7.alloc (.cells #[.int .i64 i] 3)).cell? ⟨w.heap.size + 1, 0, none⟩ = some (.string nm) ∧ (w7.alloc (.cells #[.int .i64 i] 3)).cell? ⟨w.heap.size + 1, 1, none⟩ = some (.int .u32 (y.set : Nat)) ∧ (w7.alloc (.cells #[.int .i64 i] 3)).cell? ⟨w.heap.size + 1, 2, none⟩ = some (.slice (some ⟨g3, 0, none⟩) n n) ∧ (w7.alloc (.cells #[.int .i64 i] 3)).cell? ⟨w.heap.size + 1, 3, none⟩ = some (.slice (some ⟨gS, 0, none⟩) n n) ∧ (w7.alloc (.cells #[.int .i64 i] 3)).cell? ⟨w.heap.size + 1, 4, none⟩ = some (.slice AD nD cD)) := ⟨(World.cell?_alloc_lt _ _ _ hl7).trans hS0.1, (World.cell?_alloc_lt _ _ _ hl7).trans hS0.2.1, (World.cell?_alloc_lt _ _ _ hl7).trans hS0.2.2.1, (World.cell?_alloc_lt _ _ _ hl7).trans hS0.2.2.2.1, (World.cell?_alloc_lt _ _ _ hl7).trans hS0.2.2.2.2⟩
    refine hK.out _ _ (fun _ => hS1) (fun hH => ?_)
    clear hHeld
    have hHeld := hH rfl
    clear hK K hH
    refine wpTil_next (rs := [4]) (by kernel_rfl) (by simp) ?_
    refine NextT.cons rfl (fun K hK => ?_) NextT.nil
    have hbA : Below w7.heap.size w7 (w7.alloc (.cells #[.int .i64 i] 3)) := box_b w7 _
    have hO1 : OwnI (w7.alloc (.cells #[.int .i64 i] 3)) w.heap.size (.slice (some ⟨w7.heap.size, 0, none⟩) 1 1) [i] := World.ownsRow_lit w7 #[.int .i64 i] 1 HB7.out.size (by unfold maxLen; omega) (by simp)
    have hne3 : (some (w.heap.size + 1 + 1) : Option Nat) ≠ some g3 := by intro e; injection e with e; omega
    have hneS : (some (w.heap.size + 1 + 1) : Option Nat) ≠ some gS := by intro e; injection e with e; omega
    by_cases ho : out.length = 0
    · have e0 : out = [] := List.length_eq_zero_iff.1 ho
      subst e0
      refine step_append_zeroP rfl (.tmp 31) (.tmp 32) 22 rfl 3 i1 Tryz.underlying22 ii (some ⟨w7.heap.size, 0, none⟩) 1 1 rfl (Nat.le_refl _) AO 0 cO rfl rfl ?_
      refine hK.out _ _ (fun _ => hHeld) (fun _ => ?_)
      clear hK K
      have RZ : (w7.alloc (.cells #[.int .i64 i] 3)).drew.heap[w.heap.size + 1 + 1]? = some (.cells #[.string ⟨#[]⟩, .int .u32 0, .slice none 0 0, .slice none 0 0, .slice none 0 0] 59 (0, 0)) := (hbA.block _ hl8).trans HR8.out
      have hbD : Below w7.heap.size w7 (w7.alloc (.cells #[.int .i64 i] 3)).drew := below_drew hbA
      have hOD : OwnI (w7.alloc (.cells #[.int .i64 i] 3)).drew w.heap.size (.slice (some ⟨w7.heap.size, 0, none⟩) 1 1) [i] := hO1
      clear hS1 hO1 hbA
      generalize (w7.alloc (.cells #[.int .i64 i] 3)).drew = X1 at *
      have zd0 := cell_of_row _ _ 0 _ _ _ RZ; have zd1 := cell_of_row _ _ 1 _ _ _ RZ; have zd2 := cell_of_row _ _ 2 _ _ _ RZ; have zd3 := cell_of_row _ _ 3 _ _ _ RZ; have zd4 := cell_of_row _ _ 4 _ _ _ RZ
      have zf0 := fz_of RZ 0; have zf1 := fz_of RZ 1; have zf2 := fz_of RZ 2; have zf3 := fz_of RZ 3; have zf4 := fz_of RZ 4
      refine wpTil_next (rs := [5]) (by kernel_rfl) (by simp) ?_
      refine NextT.cons rfl (fun K hK => ?_) NextT.nil
      go_simp
      refine hK.out _ _ (fun h => by cases h) (fun _ => ?_)
      clear hK K hHeld
      refine wpTil_next (rs := [6]) (by kernel_rfl) (by simp) ?_
      refine NextT.cons rfl (fun K hK => ?_) NextT.nil
      go_simp
      refine hK.out _ _ (fun h => by cases h) (fun _ => ?_)
      clear hK K
      refine wpTil_next (rs := [7]) (by kernel_rfl) (by simp) ?_
      refine NextT.cons rfl (fun K hK => ?_) NextT.nil
      go_simp
      refine hK.out _ _ (fun h => by cases h) (fun _ => ?_)
      clear hK K
      refine wpTil_done (by kernel_rfl) ?_ _
      go_wp2_with fail
      (try simp only [Exit.inBlock, Exit.then])
      refine bodyPost_ret (run_cellU2 rfl _ _ (w.heap.size + 1 + 1) _ _ _ _ rfl (set5_row _ _ _ _ _ RZ) Tryz.underlying59 rfl (by kernel_rfl)) rfl ?_
      have hbw := below_then HB7.out hbD HB7.out.size
      exact ⟨set5_below hbw (Nat.le_refl _) (by omega) _ _ _ _ _, g3, gS, _, rfl, by have := HB0.out.size; omega, (cfr_grown (HR7.out.below hbD) (set5_grown _ _ _ _ _ _ _) hne3 hneS).base HB0.out.size, World.ownsRow.kept hOD (set5_grown _ _ _ _ _ _ _) (.inr (own_row_ne hOD RZ (by decide)))⟩
    · have hpos : 0 < out.length := by omega
      obtain ⟨gO, cap', eO, _, hgO, _, hcO⟩ := own_form HO7.out (by simpa using hpos)
      have eA : AO = some ⟨gO, 0, none⟩ := by injection eO
      subst eA
      have hol : out.length ≤ 1000 := hout
      have HC : Hid (∀ j u, (icells (out.map fun k : Nat => (k : Int)))[j]? = some u → (w7.alloc (.cells #[.int .i64 i] 3)).cell? ((⟨gO, 0, none⟩ : Addr).add j) = some u) := fun j u hu => by
        have hadd : (⟨gO, 0, none⟩ : Addr).add j = ⟨gO, j, none⟩ := by unfold Addr.add; split <;> simp_all
        rw [hadd]
        exact (hbA.cell (p := ⟨gO, j, none⟩) hgO).trans (hcO j u hu)
      refine step_append_lies _ rfl (.tmp 31) (.tmp 32) 22 rfl w.heap.size 3 i1 _ 1 8 Tryz.underlying22 ii iz0 iz1 iz2 rfl (by decide) (.slice (some ⟨w7.heap.size, 0, none⟩) 1 1) 1 (icells [i]) rfl hO1 ⟨gO, 0, none⟩ out.length cO (icells (out.map fun k : Nat => (k : Int))) rfl (by simp [icells]) HC.out (icells_one _) hpos (by unfold maxLen; omega) (by omega) (below_then HB7.out hbA HB7.out.size).size _ rfl ?_; intro g1 cp1 X1 hown1 hg1 hat1 hlt1
      have hbX : Below w7.heap.size w7 X1 := hbA.grown (⟨hg1.os, hg1.tape, hg1.output, hg1.size, hg1.block⟩ : (w7.alloc (.cells #[.int .i64 i] 3)).grownBy X1 (Value.slice (some ⟨w7.heap.size, 0, none⟩) 1 1).ownBlock) hbA.size (fun g e => by have := (World.ownsRow.lt (World.ownsRow_lit w7 #[.int .i64 i] 1 (Nat.le_refl _) (by unfold maxLen; omega) (by simp) : (w7.alloc (.cells #[.int .i64 i] 3)).ownsRow w7.heap.size 3 1 (.slice (some ⟨w7.heap.size, 0, none⟩) 1 1) 1 _) g e).1; exact this)
      have hS2 : X1.cell? ⟨w.heap.size + 1, 0, none⟩ = some (.string nm) ∧ X1.cell? ⟨w.heap.size + 1, 1, none⟩ = some (.int .u32 (y.set : Nat)) ∧ X1.cell? ⟨w.heap.size + 1, 2, none⟩ = some (.slice (some ⟨g3, 0, none⟩) n n) ∧ X1.cell? ⟨w.heap.size + 1, 3, none⟩ = some (.slice (some ⟨gS, 0, none⟩) n n) ∧ X1.cell? ⟨w.heap.size + 1, 4, none⟩ = some (.slice AD nD cD) := ⟨(hbX.cell (p := ⟨w.heap.size + 1, 0, none⟩) hl7).trans hS0.1, (hbX.cell (p := ⟨w.heap.size + 1, 1, none⟩) hl7).trans hS0.2.1, (hbX.cell (p := ⟨w.heap.size + 1, 2, none⟩) hl7).trans hS0.2.2.1, (hbX.cell (p := ⟨w.heap.size + 1, 3, none⟩) hl7).trans hS0.2.2.2.1, (hbX.cell (p := ⟨w.heap.size + 1, 4, none⟩) hl7).trans hS0.2.2.2.2⟩
      refine hK.out _ _ (fun _ => hS2) (fun _ => ?_)
      clear hK K hHeld
      have hHeld := hS2
      have RZ : X1.heap[w.heap.size + 1 + 1]? = _ := (hbX.block _ hl8).trans HR8.out
      have zd0 := cell_of_row _ _ 0 _ _ _ RZ; have zd1 := cell_of_row _ _ 1 _ _ _ RZ; have zd2 := cell_of_row _ _ 2 _ _ _ RZ; have zd3 := cell_of_row _ _ 3 _ _ _ RZ; have zd4 := cell_of_row _ _ 4 _ _ _ RZ
      have zf0 := fz_of RZ 0; have zf1 := fz_of RZ 1; have zf2 := fz_of RZ 2; have zf3 := fz_of RZ 3; have zf4 := fz_of RZ 4
      refine wpTil_next (rs := [5]) (by kernel_rfl) (by simp) ?_
      refine NextT.cons rfl (fun K hK => ?_) NextT.nil
      go_simp
      refine hK.out _ _ (fun h => by cases h) (fun _ => ?_)
      clear hK K hHeld
      refine wpTil_next (rs := [6]) (by kernel_rfl) (by simp) ?_
      refine NextT.cons rfl (fun K hK => ?_) NextT.nil
      go_simp
      refine hK.out _ _ (fun h => by cases h) (fun _ => ?_)
      clear hK K
      refine wpTil_next (rs := [7]) (by kernel_rfl) (by simp) ?_
      refine NextT.cons rfl (fun K hK => ?_) NextT.nil
      go_simp
      refine hK.out _ _ (fun h => by cases h) (fun _ => ?_)
      clear hK K
      refine wpTil_done (by kernel_rfl) ?_ _
      go_wp2_with fail
      (try simp only [Exit.inBlock, Exit.then])
      refine bodyPost_ret (run_cellU2 rfl _ _ (w.heap.size + 1 + 1) _ _ _ _ rfl (set5_row _ _ _ _ _ RZ) Tryz.underlying59 rfl (by kernel_rfl)) rfl ?_
      have hbw := below_then HB7.out hbX HB7.out.size
      have hO : OwnI X1 w.heap.size (.slice (some ⟨g1, 0, none⟩) (1 + out.length) cp1) (i :: out.map fun k : Nat => (k : Int)) := by
        show World.ownsRow _ _ _ _ _ _ _
        have e1 : (i :: out.map fun k : Nat => (k : Int)).length = 1 + out.length := by simp; omega
        have e2 : icells (i :: out.map fun k : Nat => (k : Int)) = icells [i] ++ icells (out.map fun k : Nat => (k : Int)) := by simp [icells]
        rw [e1, e2]; exact hown1
      exact ⟨set5_below hbw (Nat.le_refl _) (by omega) _ _ _ _ _, g3, gS, _, rfl, by have := HB0.out.size; omega, (cfr_grown (HR7.out.below hbX) (set5_grown _ _ _ _ _ _ _) hne3 hneS).base HB0.out.size, World.ownsRow.kept hO (set5_grown _ _ _ _ _ _ _) (.inr (own_row_ne hO RZ (by decide)))⟩
end Go.Proofs.YtaoinedndnleoaaGreat
