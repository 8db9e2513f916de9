/-
  Package paper: take, of a transition that may be taken.
-/
import Derived.Test.YtaoinedndnleoaaGreatTkA
import Derived.Test.YtaoinedndnleoaaGreatPa2
import Derived.Test.YtaoinedndnleoaaGreatTil
namespace Go.Proofs.YtaoinedndnleoaaGreat
set_option maxRecDepth 100000
open Go.ChangeShapes Go.WideShapes Go.ChangeAt Go.RowKit

theorem step_append_zeroP {Pg : Program} {w : World} {ops : Array Oper} {o : Oper} {a : Act} {K : Act → World → Prop} {Q : Exit → Act → World → Prop} {E : Prop} (hgd : o.guard = none) (s x : Operand) (t : TypeId)
    (ho : o.op = .call { callee := .builtin .append, args := #[s, x], argTypes := #[t, t] })
    (e : TypeId) (i : TypeInfo) (ht : Pg.underlying t = some (.slice e)) (hi : Pg.info? e = some i)
    (A : Option Addr) (n c : Nat) (hs : a.eval s = .slice A n c) (hnc : n ≤ c) (B : Option Addr) (L d : Nat) (hx : a.eval x = .slice B L d) (hL : L = 0)
    (h : K (a.put o.dst (.slice A n c)) w) :
    if Region.wanted o (yielded ops a.tmps) = true then Oper.wp Pg o a w K Q else E := by
  subst hL
  have hw : Region.wanted o (yielded ops a.tmps) = true := by simp [Region.wanted, hgd]
  rw [if_pos hw]
  have src : Src Pg i.size t (.slice B 0 d) 0 [] w := by
    refine ⟨.inl ⟨e, ht⟩, fun _ => rfl, ?_, ?_, by simp, fun _ h => by cases h⟩
    · cases B with
      | none => exact run_firstCells_none w i.size 0 0 d
      | some b => exact run_firstCells_some w i.size 0 b 0 d [] (by simp) (fun j v h => by simp at h)
    · cases B with
      | none => exact run_firstCells_none w.drew i.size 0 0 d
      | some b => exact run_firstCells_some w.drew i.size 0 b 0 d [] (by simp) (fun j v h => by simp at h)
  have hrun := run_append_nothing w t t o.type e i ht hi A n c hnc _ src
  unfold Oper.wp
  simp [execOp, ho, resolve, invoke, builtin, hs, hx, hrun, Result.andThen]
  exact h
theorem drew_rowP {X : World} {b : Nat} {o : Option Obj} (h : X.heap[b]? = o) : X.drew.heap[b]? = o := h
/-- a document behind a transition, in memory of its own -/
def PTakTo (n : Nat) (nm : ByteArray) (y : Cf) (ds : List Dn) (w : World) (e : Ending) (w' : World) : Prop := Below w.heap.size w w' ∧ ∃ g3 gS vD, e = .returned (.tuple #[.agg #[.string nm, .int .u32 (y.set : Nat), .slice (some ⟨g3, 0, none⟩) n n, .slice (some ⟨gS, 0, none⟩) n n, vD], .nilIface]) ∧ w.heap.size ≤ g3 ∧ CfR w.heap.size w' n y (.slice (some ⟨g3, 0, none⟩) n n) gS ∧ OwnDn w' w.heap.size vD ds ∧ (ds = [] → vD = .slice none 0 0)
set_option maxHeartbeats 8000000 in
theorem PTake_ok (c : Ch) (n : Nat) (AN AK AP AT A7 A8 AD : Option Addr) (cN cK cP cT c7 c8 cD : Nat) (nm : ByteArray) (x : Cf) (ds : List Dn) (k : Nat) (now : Int) (w : World) (h : ChW w c n AK AP AT cK cP cT) (hk : k < c.trans.length) (hin : x.set.testBit (frT c k) = true) (hx : Plc c.kinds c.parents n x) (hD : DnAt w AD cD ds) (hdl : ds.length ≤ 1000) (hU : U32sAt w (.slice A7 n c7) x.past) (hS : IntsAt w (.slice A8 n c8) x.since) (hw : (Lit.int .i64 now).wf = true) :
    Calls Tryz.prog 49 #[chV AN AK AP AT c.names.length cN n cK n cP c.trans.length cT, .agg #[.string nm, .int .u32 (x.set : Nat), .slice A7 n c7, .slice A8 n c8, .slice AD ds.length cD], .int .i64 c.trans[k].kind, .int .i64 k, .int .i64 now] w (PTakTo n nm (stepC c n now x k) ds w) := by
  obtain ⟨RC, RX, RR, _⟩ := rows3 w (.cells #[.slice AN c.names.length cN, .slice AK n cK, .slice AP n cP, .slice AT c.trans.length cT] 30) (.cells #[.string nm, .int .u32 (x.set : Nat), .slice A7 n c7, .slice A8 n c8, .slice AD ds.length cD] 59) (.cells #[.string ⟨#[]⟩, .int .u32 0, .slice none 0 0, .slice none 0 0, .slice none 0 0] 59)
  have hB0 : Below w.heap.size w (((w.alloc (.cells #[.slice AN c.names.length cN, .slice AK n cK, .slice AP n cP, .slice AT c.trans.length cT] 30)).alloc (.cells #[.string nm, .int .u32 (x.set : Nat), .slice A7 n c7, .slice A8 n c8, .slice AD ds.length cD] 59)).alloc (.cells #[.string ⟨#[]⟩, .int .u32 0, .slice none 0 0, .slice none 0 0, .slice none 0 0] 59)) := ((((Below.refl _ _).alloc (Nat.le_refl _) _).alloc (by simp) _).alloc (by simp; omega) _)
  have RC : (((w.alloc (.cells #[.slice AN c.names.length cN, .slice AK n cK, .slice AP n cP, .slice AT c.trans.length cT] 30)).alloc (.cells #[.string nm, .int .u32 (x.set : Nat), .slice A7 n c7, .slice A8 n c8, .slice AD ds.length cD] 59)).alloc (.cells #[.string ⟨#[]⟩, .int .u32 0, .slice none 0 0, .slice none 0 0, .slice none 0 0] 59)).heap[w.heap.size]? = some (.cells #[.slice AN c.names.length cN, .slice AK n cK, .slice AP n cP, .slice AT c.trans.length cT] 30 (0, 0)) := RC
  have RX : (((w.alloc (.cells #[.slice AN c.names.length cN, .slice AK n cK, .slice AP n cP, .slice AT c.trans.length cT] 30)).alloc (.cells #[.string nm, .int .u32 (x.set : Nat), .slice A7 n c7, .slice A8 n c8, .slice AD ds.length cD] 59)).alloc (.cells #[.string ⟨#[]⟩, .int .u32 0, .slice none 0 0, .slice none 0 0, .slice none 0 0] 59)).heap[w.heap.size + 1]? = some (.cells #[.string nm, .int .u32 (x.set : Nat), .slice A7 n c7, .slice A8 n c8, .slice AD ds.length cD] 59 (0, 0)) := RX
  have RR : (((w.alloc (.cells #[.slice AN c.names.length cN, .slice AK n cK, .slice AP n cP, .slice AT c.trans.length cT] 30)).alloc (.cells #[.string nm, .int .u32 (x.set : Nat), .slice A7 n c7, .slice A8 n c8, .slice AD ds.length cD] 59)).alloc (.cells #[.string ⟨#[]⟩, .int .u32 0, .slice none 0 0, .slice none 0 0, .slice none 0 0] 59)).heap[w.heap.size + 2]? = some (.cells #[.string ⟨#[]⟩, .int .u32 0, .slice none 0 0, .slice none 0 0, .slice none 0 0] 59 (0, 0)) := RR
  have TN := Lib.hid (fun W (hW : Below w.heap.size w W) => takeT_any c n AN AK AP AT A7 A8 cN cK cP cT c7 c8 x k now W (h.below hW) hx.ok (hU.below hW) (hS.below hW) hk hin hw (hx.pastOk h.sh (by have := h.nn; omega) _))
  have HSC : Hid (stepC c n now x k = movC c.kinds c.parents n x (frT c k) (toT c k) now) := rfl
  have HD := Lib.hid (fun W (hW : Below w.heap.size w W) => hD.below hW)
  have hdc := hD.1
  have htl := h.tl
  have htc := h.tc
  obtain ⟨g, rfl, hgl, hc⟩ := h.tr.below hB0 k hk
  have q0 := hc 0 _ (by omega) rfl
  simp only [Nat.add_zero] at q0
  have hz : ¬ (k : Int) < 0 := by omega
  have hle : ¬ (c.trans.length : Int) ≤ k := by omega
  have hlt : (k : Int) < c.trans.length := by omega
  have hge : (0 : Int) ≤ k := by omega
  have HB0 := Lib.hid hB0
  clear hc h hx hU hS hin hw hB0 hD
  generalize stepC c n now x k = y at *
  rw [← HSC.out] at TN
  clear HSC
  generalize c.trans[k] = t at *
  obtain ⟨tk, tf, tt, te, tp, ta, ti⟩ := t
  have q0 : _ = some (Value.int .i64 tk) := q0
  simp only
  go_enter Tryz.func49, Tryz.ntmps49
  go_upto_region 1 with fail
  generalize ((w.alloc (.cells #[.slice AN c.names.length cN, .slice AK n cK, .slice AP n cP, .slice (some ⟨g, 0, none⟩) c.trans.length cT] 30)).alloc (.cells #[.string nm, .int .u32 (x.set : Nat), .slice A7 n c7, .slice A8 n c8, .slice AD ds.length cD] 59)).alloc (.cells #[.string ⟨#[]⟩, .int .u32 0, .slice none 0 0, .slice none 0 0, .slice none 0 0] 59) = w0 at *
  have c0 := cell_of_row _ _ 0 _ _ _ RC; have c1 := cell_of_row _ _ 1 _ _ _ RC; have c2 := cell_of_row _ _ 2 _ _ _ RC; have c3 := cell_of_row _ _ 3 _ _ _ RC
  have y0 := cell_of_row _ _ 0 _ _ _ RX; have y1 := cell_of_row _ _ 1 _ _ _ RX; have y2 := cell_of_row _ _ 2 _ _ _ RX; have y3 := cell_of_row _ _ 3 _ _ _ RX; have y4 := cell_of_row _ _ 4 _ _ _ RX
  have hlr := (Array.getElem?_eq_some_iff.1 RR).1
  have HRR := Lib.hid RR
  clear RC RX RR
  go_upto_region 6 with (go_at_call 12; refine (TN.out _ HB0.out).mono ?_; rintro e w5 ⟨hb5, g3, gS, rfl, hg3, hR5⟩; have HB5 := Lib.hid hb5; have HR5 := Lib.hid hR5; clear hb5 hR5)
  have HZ := Lib.hid (box_b w5 (.cells #[.int .u32 (y.set : Nat), .slice (some ⟨g3, 0, none⟩) n n, .slice (some ⟨gS, 0, none⟩) n n] 40))
  have RY := heap_alloc_new w5 (.cells #[.int .u32 (y.set : Nat), .slice (some ⟨g3, 0, none⟩) n n, .slice (some ⟨gS, 0, none⟩) n n] 40)
  have HB6 : Hid (Below w0.heap.size w0 (w5.alloc (.cells #[.int .u32 (y.set : Nat), .slice (some ⟨g3, 0, none⟩) n n, .slice (some ⟨gS, 0, none⟩) n n] 40))) := below_then HB5.out HZ.out HB5.out.size
  have HR6 := Lib.hid (HR5.out.below HZ.out)
  generalize w5.alloc (.cells #[.int .u32 (y.set : Nat), .slice (some ⟨g3, 0, none⟩) n n, .slice (some ⟨gS, 0, none⟩) n n] 40) = w6 at *
  have hlx : w.heap.size + 1 < w0.heap.size := by omega
  have hlc : w5.heap.size < w6.heap.size := (Array.getElem?_eq_some_iff.1 RY).1
  have n0 := (HB6.out.cell (p := ⟨w.heap.size + 1, 0, none⟩) hlx).trans y0
  have n4 := (HB6.out.cell (p := ⟨w.heap.size + 1, 4, none⟩) hlx).trans y4
  have k0 := cell_of_row _ _ 0 _ _ _ RY; have k1 := cell_of_row _ _ 1 _ _ _ RY; have k2 := cell_of_row _ _ 2 _ _ _ RY
  have RZ := (HB6.out.block _ hlr).trans HRR.out
  have HRZ := Lib.hid RZ
  have hbw : Below w.heap.size w w6 := below_then HB0.out HB6.out HB0.out.size
  have HBW := Lib.hid hbw
  obtain ⟨i0, hi, hz0, hz1, hz2⟩ := info_parts Tryz.infoDone
  have hg3' : w0.heap.size ≤ g3 := hg3
  have hgS' : w0.heap.size ≤ gS := HR5.out.lo
  clear RY y0 y1 y2 y3 y4 c0 c1 c2 c3 HB5 HR5 HZ RZ hbw TN HRR
  by_cases hd0 : ds.length = 0
  · have e0 : ds = [] := List.length_eq_zero_iff.1 hd0
    subst e0
    clear hd0 HD
    refine wp_region_til (S := fun w' => w'.cell? ⟨w.heap.size + 1, 0, none⟩ = some (.string nm) ∧ w'.cell? ⟨w.heap.size + 1, 4, none⟩ = some (.slice AD ([] : List Dn).length cD) ∧ w'.cell? ⟨w5.heap.size, 0, none⟩ = some (.int .u32 (y.set : Nat)) ∧ w'.cell? ⟨w5.heap.size, 1, none⟩ = some (.slice (some ⟨g3, 0, none⟩) n n) ∧ w'.cell? ⟨w5.heap.size, 2, none⟩ = some (.slice (some ⟨gS, 0, none⟩) n n)) 7 (by kernel_rfl) ⟨n0, n4, k0, k1, k2⟩ (fun hHeld => ?_)
    refine wpTil_pure (i := 0) (v := ?_) rfl (by kernel_rfl) (by kernel_rfl) (by kernel_rfl) rfl (fun _ _ _ h => h) (Or.inl ⟨by rfl, ?_⟩) hHeld ?_
    rotate_left
    · intro w _
      go_simp
      (try with_reducible rfl)
    rotate_left
    (try simp only [Act.put, List.setIfInBounds_toArray, List.set_cons_zero, List.set_cons_succ])
    refine wpTil_take (i := 1) (v := ?_) rfl (by kernel_rfl) (by kernel_rfl) (by kernel_rfl) (by kernel_rfl) rfl rfl (fun _ _ _ h => h) (Or.inl ⟨by rfl, ?_⟩) hHeld ?_
    rotate_left
    · intro w hSw
      obtain ⟨hs1, hs2, hs3, hs4, hs5⟩ := hSw
      go_simp
      (try with_reducible rfl)
    rotate_left
    (try simp only [Act.put, List.setIfInBounds_toArray, List.set_cons_zero, List.set_cons_succ])
    refine wpTil_take (i := 2) (v := ?_) rfl (by kernel_rfl) (by kernel_rfl) (by kernel_rfl) (by kernel_rfl) rfl rfl (fun _ _ _ h => h) (Or.inl ⟨by rfl, ?_⟩) hHeld ?_
    rotate_left
    · intro w hSw
      obtain ⟨hs1, hs2, hs3, hs4, hs5⟩ := hSw
      go_simp
      (try with_reducible rfl)
    rotate_left
    (try simp only [Act.put, List.setIfInBounds_toArray, List.set_cons_zero, List.set_cons_succ])
    refine wpTil_pure (i := 3) (v := ?_) rfl (by kernel_rfl) (by kernel_rfl) (by kernel_rfl) rfl (fun _ _ _ h => h) (Or.inl ⟨by rfl, ?_⟩) hHeld ?_
    rotate_left
    · intro w _
      go_simp
      (try with_reducible rfl)
    rotate_left
    (try simp only [Act.put, List.setIfInBounds_toArray, List.set_cons_zero, List.set_cons_succ])
    refine wpTil_take (i := 4) (v := ?_) rfl (by kernel_rfl) (by kernel_rfl) (by kernel_rfl) (by kernel_rfl) rfl rfl (fun _ _ _ h => h) (Or.inl ⟨by rfl, ?_⟩) hHeld ?_
    rotate_left
    · intro w hSw
      obtain ⟨hs1, hs2, hs3, hs4, hs5⟩ := hSw
      go_simp
      (try with_reducible rfl)
    rotate_left
    (try simp only [Act.put, List.setIfInBounds_toArray, List.set_cons_zero, List.set_cons_succ])
    refine wpTil_next (rs := [5]) (by kernel_rfl) (by simp) ?_
    refine NextT.cons rfl (fun K hK => ?_) NextT.nil
    refine step_append_zeroP rfl (.const (.slice none 0 0)) (.tmp 52) 57 rfl 78 i0 Tryz.underlying57 hi none 0 0 rfl (Nat.le_refl _) AD 0 cD rfl rfl ?_
    refine hK.out _ _ (fun _ => hHeld) (fun _ => ?_)
    clear hK K
    refine wpTil_pure (i := 6) (v := ?_) rfl (by kernel_rfl) (by kernel_rfl) (by kernel_rfl) rfl (fun _ _ _ h => h) (Or.inl ⟨by rfl, ?_⟩) hHeld ?_
    rotate_left
    · intro w _
      go_simp
      (try with_reducible rfl)
    rotate_left
    (try simp only [Act.put, List.setIfInBounds_toArray, List.set_cons_zero, List.set_cons_succ])
    have RZ : w6.heap[w.heap.size + 1 + 1]? = _ := HRZ.out
    have zd0 := cell_of_row _ _ 0 _ _ _ RZ; have zd1 := cell_of_row _ _ 1 _ _ _ RZ; have zd2 := cell_of_row _ _ 2 _ _ _ RZ; have zd3 := cell_of_row _ _ 3 _ _ _ RZ; have zd4 := cell_of_row _ _ 4 _ _ _ RZ
    have zf0 := fz_of RZ 0; have zf1 := fz_of RZ 1; have zf2 := fz_of RZ 2; have zf3 := fz_of RZ 3; have zf4 := fz_of RZ 4
    refine wpTil_next (rs := [7]) (by kernel_rfl) (by simp) ?_
    refine NextT.cons rfl (fun K hK => ?_) NextT.nil
    go_simp
    refine hK.out _ _ (fun h => by cases h) (fun _ => ?_)
    clear hK K hHeld
    refine wpTil_next (rs := [8]) (by kernel_rfl) (by simp) ?_
    refine NextT.cons rfl (fun K hK => ?_) NextT.nil
    go_simp
    refine hK.out _ _ (fun h => by cases h) (fun _ => ?_)
    clear hK K
    refine wpTil_done (by kernel_rfl) ?_ _
    go_wp2_with fail
    (try simp only [Exit.inBlock, Exit.then])
    refine bodyPost_ret (run_cellU rfl _ _ (w.heap.size + 1 + 1) _ _ _ _ rfl (drew_rowP (set5_row _ _ _ _ _ RZ)) Tryz.underlying59 rfl (by kernel_rfl)) rfl ?_
    have hne3 : (some (w.heap.size + 1 + 1) : Option Nat) ≠ some g3 := by intro e; injection e with e; omega
    have hneS : (some (w.heap.size + 1 + 1) : Option Nat) ≠ some gS := by intro e; injection e with e; omega
    exact ⟨below_drew (set5_below HBW.out (Nat.le_refl _) (by omega) _ _ _ _ _), g3, gS, _, rfl, by have := HB0.out.size; omega, ((cfr_grown HR6.out (set5_grown _ _ _ _ _ _ _) hne3 hneS).below (below_drew (Below.refl _ _))).base HB0.out.size, World.ownsRow_nil _ _ _ _, fun _ => rfl⟩
  · have hpos : 0 < ds.length := by omega
    obtain ⟨gd, eD, hgd, _⟩ := (HD.out w6 HBW.out).2 0 hpos
    subst eD
    have HC := Lib.hid (dn_cells (HD.out w6 HBW.out))
    clear hd0 HD
    refine wp_region_til (S := fun w' => w'.cell? ⟨w.heap.size + 1, 0, none⟩ = some (.string nm) ∧ w'.cell? ⟨w.heap.size + 1, 4, none⟩ = some (.slice (some ⟨gd, 0, none⟩) ds.length cD) ∧ w'.cell? ⟨w5.heap.size, 0, none⟩ = some (.int .u32 (y.set : Nat)) ∧ w'.cell? ⟨w5.heap.size, 1, none⟩ = some (.slice (some ⟨g3, 0, none⟩) n n) ∧ w'.cell? ⟨w5.heap.size, 2, none⟩ = some (.slice (some ⟨gS, 0, none⟩) n n)) 7 (by kernel_rfl) ⟨n0, n4, k0, k1, k2⟩ (fun hHeld => ?_)
    refine wpTil_pure (i := 0) (v := ?_) rfl (by kernel_rfl) (by kernel_rfl) (by kernel_rfl) rfl (fun _ _ _ h => h) (Or.inl ⟨by rfl, ?_⟩) hHeld ?_
    rotate_left
    · intro w _
      go_simp
      (try with_reducible rfl)
    rotate_left
    (try simp only [Act.put, List.setIfInBounds_toArray, List.set_cons_zero, List.set_cons_succ])
    refine wpTil_take (i := 1) (v := ?_) rfl (by kernel_rfl) (by kernel_rfl) (by kernel_rfl) (by kernel_rfl) rfl rfl (fun _ _ _ h => h) (Or.inl ⟨by rfl, ?_⟩) hHeld ?_
    rotate_left
    · intro w hSw
      obtain ⟨hs1, hs2, hs3, hs4, hs5⟩ := hSw
      go_simp
      (try with_reducible rfl)
    rotate_left
    (try simp only [Act.put, List.setIfInBounds_toArray, List.set_cons_zero, List.set_cons_succ])
    refine wpTil_take (i := 2) (v := ?_) rfl (by kernel_rfl) (by kernel_rfl) (by kernel_rfl) (by kernel_rfl) rfl rfl (fun _ _ _ h => h) (Or.inl ⟨by rfl, ?_⟩) hHeld ?_
    rotate_left
    · intro w hSw
      obtain ⟨hs1, hs2, hs3, hs4, hs5⟩ := hSw
      go_simp
      (try with_reducible rfl)
    rotate_left
    (try simp only [Act.put, List.setIfInBounds_toArray, List.set_cons_zero, List.set_cons_succ])
    refine wpTil_pure (i := 3) (v := ?_) rfl (by kernel_rfl) (by kernel_rfl) (by kernel_rfl) rfl (fun _ _ _ h => h) (Or.inl ⟨by rfl, ?_⟩) hHeld ?_
    rotate_left
    · intro w _
      go_simp
      (try with_reducible rfl)
    rotate_left
    (try simp only [Act.put, List.setIfInBounds_toArray, List.set_cons_zero, List.set_cons_succ])
    refine wpTil_take (i := 4) (v := ?_) rfl (by kernel_rfl) (by kernel_rfl) (by kernel_rfl) (by kernel_rfl) rfl rfl (fun _ _ _ h => h) (Or.inl ⟨by rfl, ?_⟩) hHeld ?_
    rotate_left
    · intro w hSw
      obtain ⟨hs1, hs2, hs3, hs4, hs5⟩ := hSw
      go_simp
      (try with_reducible rfl)
    rotate_left
    (try simp only [Act.put, List.setIfInBounds_toArray, List.set_cons_zero, List.set_cons_succ])
    refine wpTil_next (rs := [5]) (by kernel_rfl) (by simp) ?_
    refine NextT.cons rfl (fun K hK => ?_) NextT.nil
    refine step_append_lies _ rfl (.const (.slice none 0 0)) (.tmp 52) 57 rfl w.heap.size 78 i0 _ 2 32 Tryz.underlying57 hi hz0 hz1 hz2 rfl (by decide) (.slice none 0 0) 0 [] rfl (World.ownsRow_nil _ _ _ _) ⟨gd, 0, none⟩ ds.length cD (dncells ds) rfl (dncells_length ds) HC.out (dncells_one ds) hpos (by unfold maxLen; omega) (by omega) HBW.out.size _ rfl ?_; intro g1 cp1 X1 hown1 hg1 hat1 hlt1
    have hgr : w6.grownBy X1 none := ⟨hg1.os, hg1.tape, hg1.output, hg1.size, hg1.block⟩
    have hbX : Below w6.heap.size w6 X1 := (Below.refl _ _).grown hgr (Nat.le_refl _) (fun g e => by cases e)
    have hlx6 : w.heap.size + 1 < w6.heap.size := by have := HB6.out.size; omega
    have hS1 : X1.cell? ⟨w.heap.size + 1, 0, none⟩ = some (.string nm) ∧ X1.cell? ⟨w.heap.size + 1, 4, none⟩ = some (.slice (some ⟨gd, 0, none⟩) ds.length cD) ∧ X1.cell? ⟨w5.heap.size, 0, none⟩ = some (.int .u32 (y.set : Nat)) ∧ X1.cell? ⟨w5.heap.size, 1, none⟩ = some (.slice (some ⟨g3, 0, none⟩) n n) ∧ X1.cell? ⟨w5.heap.size, 2, none⟩ = some (.slice (some ⟨gS, 0, none⟩) n n) :=
      ⟨(hbX.cell (p := ⟨w.heap.size + 1, 0, none⟩) hlx6).trans n0, (hbX.cell (p := ⟨w.heap.size + 1, 4, none⟩) hlx6).trans n4, (hbX.cell (p := ⟨w5.heap.size, 0, none⟩) hlc).trans k0, (hbX.cell (p := ⟨w5.heap.size, 1, none⟩) hlc).trans k1, (hbX.cell (p := ⟨w5.heap.size, 2, none⟩) hlc).trans k2⟩
    refine hK.out _ _ (fun _ => hS1) (fun _ => ?_)
    clear hK K hHeld
    have hHeld := hS1
    have hl6r : w.heap.size + 1 + 1 < w6.heap.size := (Array.getElem?_eq_some_iff.1 HRZ.out).1
    refine wpTil_pure (i := 6) (v := ?_) rfl (by kernel_rfl) (by kernel_rfl) (by kernel_rfl) rfl (fun _ _ _ h => h) (Or.inl ⟨by rfl, ?_⟩) hHeld ?_
    rotate_left
    · intro w _
      go_simp
      (try with_reducible rfl)
    rotate_left
    (try simp only [Act.put, List.setIfInBounds_toArray, List.set_cons_zero, List.set_cons_succ])
    have RZ : X1.heap[w.heap.size + 1 + 1]? = _ := (hbX.block _ hl6r).trans HRZ.out
    have zd0 := cell_of_row _ _ 0 _ _ _ RZ; have zd1 := cell_of_row _ _ 1 _ _ _ RZ; have zd2 := cell_of_row _ _ 2 _ _ _ RZ; have zd3 := cell_of_row _ _ 3 _ _ _ RZ; have zd4 := cell_of_row _ _ 4 _ _ _ RZ
    have zf0 := fz_of RZ 0; have zf1 := fz_of RZ 1; have zf2 := fz_of RZ 2; have zf3 := fz_of RZ 3; have zf4 := fz_of RZ 4
    refine wpTil_next (rs := [7]) (by kernel_rfl) (by simp) ?_
    refine NextT.cons rfl (fun K hK => ?_) NextT.nil
    go_simp
    refine hK.out _ _ (fun h => by cases h) (fun _ => ?_)
    clear hK K hHeld
    refine wpTil_next (rs := [8]) (by kernel_rfl) (by simp) ?_
    refine NextT.cons rfl (fun K hK => ?_) NextT.nil
    go_simp
    refine hK.out _ _ (fun h => by cases h) (fun _ => ?_)
    clear hK K
    refine wpTil_done (by kernel_rfl) ?_ _
    go_wp2_with fail
    (try simp only [Exit.inBlock, Exit.then])
    refine bodyPost_ret (run_cellU rfl _ _ (w.heap.size + 1 + 1) _ _ _ _ rfl (set5_row _ _ _ _ _ RZ) Tryz.underlying59 rfl (by kernel_rfl)) rfl ?_
    have hne3 : (some (w.heap.size + 1 + 1) : Option Nat) ≠ some g3 := by intro e; injection e with e; omega
    have hneS : (some (w.heap.size + 1 + 1) : Option Nat) ≠ some gS := by intro e; injection e with e; omega
    have hO : OwnDn X1 w.heap.size (.slice (some ⟨g1, 0, none⟩) ds.length cp1) ds := by show World.ownsRow _ _ _ _ _ _ _; simpa using hown1
    have hne : (.slice (some ⟨g1, 0, none⟩) ds.length cp1 : Value).ownBlock ≠ some (w.heap.size + 1 + 1) := own_row_ne hO RZ (by decide)
    exact ⟨set5_below (below_then HBW.out hbX HBW.out.size) (Nat.le_refl _) (by omega) _ _ _ _ _, g3, gS, _, rfl, by have := HB0.out.size; omega, (cfr_grown (HR6.out.below hbX) (set5_grown _ _ _ _ _ _ _) hne3 hneS).base HB0.out.size, World.ownsRow.kept hO (set5_grown _ _ _ _ _ _ _) (.inr hne), fun e => absurd hpos (by rw [e]; simp)⟩
end Go.Proofs.YtaoinedndnleoaaGreat
