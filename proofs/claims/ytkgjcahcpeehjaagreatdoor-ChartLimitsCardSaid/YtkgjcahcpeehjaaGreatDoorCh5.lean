/-
  Package chart: a state, a transition that is taken.
-/
import Derived.Test.YtkgjcahcpeehjaaGreatDoorCh3
import Derived.Deep.RegionHeld3
import Derived.Deep.RegionLaw
import Derived.Deep.RegionHeld2
namespace Go.Proofs.YtkgjcahcpeehjaaGreatDoor
set_option maxRecDepth 100000
open Go.ChangeShapes Go.WideShapes Go.ChangeAt Go.RowKit

theorem sc_one (x : Tx) : ∀ u ∈ scells [x], u.oneCell' = true := by intro u hu; simp [scells] at hu; subst hu; rfl
theorem grown_new {w X : World} {o : Obj} {row : Option Nat} (h : (w.alloc o).drew.grownBy X row) : w.grownBy X row := (World.grownBy_alloc w o row).andThen (⟨h.os, h.tape, h.output, h.size, h.block⟩ : (w.alloc o).grownBy X row) (fun j e => .inr e)
theorem ic_one (x : Int) : ∀ u ∈ icells [x], u.oneCell' = true := icells_one [x]
theorem ownL_snoc {X : World} {base : Nat} {v : Value} {l : List Tx} {x : Tx} (h : X.ownsRow base 9 1 v (l.length + 1) (scells l ++ scells [x])) : OwnL X base v (l ++ [x]) := by
  unfold OwnL
  rw [List.length_append]
  unfold scells at *
  rw [List.map_append]
  exact h
theorem ownI_snoc {X : World} {base : Nat} {v : Value} {l : List Int} {x : Int} (h : X.ownsRow base 3 1 v (l.length + 1) (icells l ++ icells [x])) : OwnI X base v (l ++ [x]) := by
  unfold OwnI
  rw [List.length_append]
  unfold icells at *
  rw [List.map_append]
  exact h
theorem lies_or {w : World} {o : Obj} {v : Value} {g1 n cp : Nat} (h : v.ownBlock = some g1 ∨ g1 = (w.alloc o).drew.heap.size) : ∀ g, (Value.slice (some ⟨g1, 0, none⟩) n cp).ownBlock = some g → v.ownBlock = some g ∨ w.heap.size ≤ g := fun g e => by
  have e1 : g1 = g := by simpa [Value.ownBlock] using e
  subst e1
  rcases h with h | h
  · exact .inl h
  · right; rw [h]; exact (box_b w o).size
theorem ru_keep {w X : World} {g b j : Nat} {cs : Array Value} {t : TypeId} {fz : Nat × Nat} {row : Option Nat} {v : Value} (h : w.heap[g]? = some (.cells cs t fz)) (hg : w.grownBy X row) (hr : row ≠ some g) (hb : b ≠ g) : (X.setCell ⟨b, j, none⟩ v).heap[g]? = some (.cells cs t fz) := by
  have hl := (Array.getElem?_eq_some_iff.1 h).1
  exact ((grown_setCell X b j v).block g (Nat.lt_of_lt_of_le hl hg.size) (fun e => hb (by simpa using e.symm))).trans ((hg.block g hl (fun e => hr e.symm)).trans h)
theorem grown_new1 {w X : World} {o : Obj} {row : Option Nat} (h : (w.alloc o).grownBy X row) : w.grownBy X row := (World.grownBy_alloc w o row).andThen h (fun j e => .inr e)
theorem lies_or1 {w : World} {o : Obj} {v : Value} {g1 n cp : Nat} (h : v.ownBlock = some g1 ∨ g1 = (w.alloc o).heap.size) : ∀ g, (Value.slice (some ⟨g1, 0, none⟩) n cp).ownBlock = some g → v.ownBlock = some g ∨ w.heap.size ≤ g := lies_or (o := o) h
theorem litb (a l : Tx) : ((bs a).toList == l) = (a == l) := by rw [Lib.toList_data, list_bs]
/-- the numbers of a chart are Go's -/
def ChI (c : Ch) : Prop := okI c.kinds ∧ okI c.parents
def TkTo (w0 W : World) (b : Nat) (acc : List RL) (c' : Ch) (vS : Value) (err : Int) (e : Ending) (w' : World) : Prop :=
  (err = 0 ∧ e = .returned .nilIface ∧ ∃ vN vK vP vT, BA w0 w' b acc c' vN vK vP vT vS) ∨ (err ≠ 0 ∧ e = .returned (.iface 34 (.int .i64 err)) ∧ Below W.heap.size W w')
theorem tkTo_no {w0 W : World} {b : Nat} {acc : List RL} {c' : Ch} {vS : Value} {err k : Int} {w' : World} (h : err = k) (hk : k ≠ 0) (hb : Below W.heap.size W w') : TkTo w0 W b acc c' vS err (.returned (.iface 34 (.int .i64 k))) w' := by
  subst h; exact .inr ⟨hk, rfl, hb⟩
set_option maxHeartbeats 8000000 in
theorem takeState_any {w0 W : World} {b : Nat} {acc : List RL} {c : Ch} {vN vK vP vT vS : Value} (R : BA w0 W b acc c vN vK vP vT vS) (hf : ChF c) (hi : ChI c) (r : Ru) (A : Option Addr) (n9 c9 : Nat) (ln : Int) (hn : (Lit.int .i64 r.n).wf = true) :
    Calls Tryz.prog 140 #[.pointer (some ⟨b, 0, none⟩), ruV r (.slice A n9 c9) ln] W (TkTo w0 W b acc (stAdd c r) vS (stErr c r)) := by
  obtain ⟨kd, nm, l, rn, rm, rf, rt, rb, ra, ri⟩ := r
  have R0 := heap_alloc_new W (.cells #[.int .i64 kd, .string (bs nm), .slice A n9 c9, .int .i64 rn, .int .i64 rm, .string (bs rf), .string (bs rt), .string (bs rb), .string (bs ra), .string (bs ri), .int .i64 ln] 24)
  have RB := R.below (box_b W (.cells #[.int .i64 kd, .string (bs nm), .slice A n9 c9, .int .i64 rn, .int .i64 rm, .string (bs rf), .string (bs rt), .string (bs rb), .string (bs ra), .string (bs ri), .int .i64 ln] 24))
  have HW := box_b W (.cells #[.int .i64 kd, .string (bs nm), .slice A n9 c9, .int .i64 rn, .int .i64 rm, .string (bs rf), .string (bs rt), .string (bs rb), .string (bs ra), .string (bs ri), .int .i64 ln] 24)
  obtain ⟨AN, cN, rfl⟩ := own_slice R.oN
  obtain ⟨AK, cK, rfl⟩ := own_slice R.oK
  obtain ⟨AP, cP, rfl⟩ := own_slice R.oP
  obtain ⟨AT, cT, rfl⟩ := own_slice R.oT
  have hbW := R.lt
  clear R
  simp only at hn
  dsimp only [ruV]
  have ST : Hid (stErr c ⟨kd, nm, l, rn, rm, rf, rt, rb, ra, ri⟩ = if nm ∈ c.names then 4 else if 24 ≤ c.names.length then 5 else if ri ≠ [] ∧ idxI c.names ri = -1 then 3 else if standB c.kinds rn (idxI c.names ri) = false then 1 else 0) := rfl
  have HF := Lib.hid hf
  have HI := Lib.hid hi
  clear hf hi
  generalize hes : stErr c ⟨kd, nm, l, rn, rm, rf, rt, rb, ra, ri⟩ = es at *
  clear hes
  go_enter Tryz.func140, Tryz.ntmps140
  go_upto_region 2 with (fail)
  generalize W.alloc (.cells #[.int .i64 kd, .string (bs nm), .slice A n9 c9, .int .i64 rn, .int .i64 rm, .string (bs rf), .string (bs rt), .string (bs rb), .string (bs ra), .string (bs ri), .int .i64 ln] 24) = W1 at *
  have q0 := RB.q0; have p1 := row_q1 R0; have p3 := row_q3 R0; have p9 := row_q9 R0
  have hnl := HF.out.nl
  have LN := listAt_of RB.oN
  have IX : Hid (∀ n, Calls Tryz.prog 174 #[.slice AN c.names.length cN, .string (bs ri)] (W1.drewN n) fun e w' => e = .returned (.int .i64 (idxI c.names ri)) ∧ w' = W1.drewN n) := fun n => (IndexX_any c.names ri AN cN (W1.drewN n) LN (by omega)).mono fun e w' h => ⟨h.1, h.2.symm⟩
  clear LN
  go_quiet ((go_at_call 174; exact Calls.quiet_of_same (IX.out _)))
  go_upto_region 3 with (fail)
  have RB2 := RB.below (below_drewN (Below.refl _ _) nq)
  have R02 := row_below R0 (below_drewN (Below.refl _ _) nq)
  have HW2 := below_drewN HW nq
  clear HW q0 p1 p3 p9 IX RB R0
  generalize W1.drewN nq = W2 at *
  have q0 := RB2.q0; have p1 := row_q1 R02; have p3 := row_q3 R02; have p9 := row_q9 R02
  have LN := listAt_of RB2.oN
  have CT : Hid (∀ n, Calls Tryz.prog 143 #[.slice AN c.names.length cN, .string (bs nm)] (W2.drewN n) fun e w' => e = .returned (.bool (decide (nm ∈ c.names))) ∧ w' = W2.drewN n) := fun n => (Contains_str c.names nm AN cN (W2.drewN n) LN (by omega)).mono fun e w' h => ⟨h.1, h.2.symm⟩
  clear LN
  by_cases h1 : nm ∈ c.names
  · have HE : Hid (es = 4) := by show _ = _; rw [ST.out, if_pos h1]
    rw [decide_eq_true h1] at CT
    clear h1 ST
    go_quiet ((go_at_call 143; exact Calls.quiet_of_same (CT.out _)))
    go_wp2
    go_ret
    exact tkTo_no HE.out (by decide) (below_drewN HW2 _)
  have ST2 : Hid (es = if 24 ≤ c.names.length then 5 else if ri ≠ [] ∧ idxI c.names ri = -1 then 3 else if standB c.kinds rn (idxI c.names ri) = false then 1 else 0) := by show _ = _; rw [ST.out, if_neg h1]
  rw [decide_eq_false h1] at CT
  have H1 := Lib.hid h1
  clear h1 ST
  go_quiet ((go_at_call 143; exact Calls.quiet_of_same (CT.out _)))
  go_upto_region 5 with (fail)
  have RB3 := RB2.below (below_drewN (Below.refl _ _) nq)
  have R03 := row_below R02 (below_drewN (Below.refl _ _) nq)
  have HW3 := below_drewN HW2 nq
  clear HW2 q0 p1 p3 p9 CT RB2 R02
  generalize W2.drewN nq = W3 at *
  have q0 := RB3.q0; have p1 := row_q1 R03; have p3 := row_q3 R03; have p9 := row_q9 R03
  by_cases h2 : 24 ≤ c.names.length
  · have HE : Hid (es = 5) := by show _ = _; rw [ST2.out, if_pos h2]
    have h2i : (24 : Int) ≤ c.names.length := by omega
    clear ST2
    go_wp2
    go_ret
    exact tkTo_no HE.out (by decide) HW3
  have ST3 : Hid (es = if ri ≠ [] ∧ idxI c.names ri = -1 then 3 else if standB c.kinds rn (idxI c.names ri) = false then 1 else 0) := by show _ = _; rw [ST2.out, if_neg h2]
  have h2i : ¬ (24 : Int) ≤ c.names.length := by omega
  have H2 := Lib.hid h2
  clear ST2 h2
  have hix := idxI_lt c.names ri
  generalize hpx : idxI c.names ri = px at *
  have HPX := Lib.hid hpx
  clear hpx
  by_cases h3 : ri ≠ [] ∧ px = -1
  · have HE : Hid (es = 3) := by show _ = _; rw [ST3.out, if_pos h3]
    obtain ⟨g3, rfl⟩ := h3
    have b3 : ((bs ri).toList != []) = true := by simp only [bne, litb]; simpa using g3
    have b4 : ((bs ri).toList == []) = false := by rw [litb]; simpa using g3
    have b5 : (bs ri).toList.isEmpty = false := by rw [Lib.toList_data, list_bs]; simpa using g3
    clear ST3 g3
    go_wp2
    go_ret
    exact tkTo_no HE.out (by decide) HW3
  have ST4 : Hid (es = if standB c.kinds rn px = false then 1 else 0) := by show _ = _; rw [ST3.out, if_neg h3]
  clear ST3
  go_upto_region 7 with (fail)
  go_cut [34] (fun x wx => wx = W3 ∧ x = .bool false)
  case first =>
    by_cases hr : ri = []
    · subst hr
      have hza : ((bs []).toList != []) = false := by simp only [bne, litb]; rfl
      have hzb : ((bs []).toList == []) = true := by rw [litb]; rfl
      have hzc : (bs []).toList.isEmpty = true := by rw [Lib.toList_data, list_bs]; rfl
      clear h3
      go_wp2
      go_meet
      exact ⟨rfl, rfl⟩
    · have hpn : (px == -1) = false := beq_eq_false_iff_ne.2 fun e => h3 ⟨hr, e⟩
      have b3 : ((bs ri).toList != []) = true := by simp only [bne, litb]; simpa using hr
      have b4 : ((bs ri).toList == []) = false := by rw [litb]; simpa using hr
      have b5 : (bs ri).toList.isEmpty = false := by rw [Lib.toList_data, list_bs]; simpa using hr
      clear h3 hr
      go_wp2
      go_meet
      exact ⟨rfl, rfl⟩
  case rest =>
  obtain ⟨hw9, rfl⟩ := hcut
  subst hw9
  obtain ⟨W3, rfl⟩ : ∃ w9 : World, w9 = wc := ⟨_, rfl⟩
  clear h3 p9
  have q1 := RB3.q1; have q2 := RB3.q2
  have hkl := HF.out.kl; have hpl := HF.out.pl
  have MS := Lib.hid (fun X (hX : Below W3.heap.size W3 X) => mayStand_any c.kinds AK AP c.kinds.length cK c.parents.length cP rn px X ((ints_of_own RB3.oK HI.out.1 (by omega)).below hX) rfl (by omega) (by omega))
  clear hkl hpl hix
  go_upto_region 9 with (fail)
  have hbl := RB3.lt
  have hrl : W.heap.size < W3.heap.size := (Array.getElem?_eq_some_iff.1 R03).1
  cases hsb : standB c.kinds rn px
  · have HE : Hid (es = 1) := by show _ = _; rw [ST4.out, if_pos hsb]
    rw [hsb] at MS
    clear hsb ST4
    go_region_held3 (fun w' => w'.cell? ⟨b, 1, none⟩ = some (.slice AK c.kinds.length cK) ∧ w'.cell? ⟨b, 2, none⟩ = some (.slice AP c.parents.length cP) ∧ w'.cell? ⟨W.heap.size, 3, none⟩ = some (.int .i64 rn))
      (first | exact ⟨q1, q2, p3⟩ | exact ⟨(hb5.cell (p := ⟨b, 1, none⟩) hbl).trans q1, (hb5.cell (p := ⟨b, 2, none⟩) hbl).trans q2, (hb5.cell (p := ⟨W.heap.size, 3, none⟩) hrl).trans p3⟩ | go_keep)
      (first
        | (go_at_call 175; refine (MS.out _ (by first | exact Below.refl _ _ | exact below_drew (Below.refl _ _))).mono ?_; rintro e w5 ⟨rfl, hb5⟩))
    go_wp2
    go_ret
    exact tkTo_no HE.out (by decide) (below_then HW3 (by first | exact hb5 | exact below_then (below_drew (Below.refl _ _)) hb5 (Nat.le_refl _)) HW3.size)
  have HE : Hid (es = 0) := by show _ = _; rw [ST4.out, if_neg (by rw [hsb]; decide)]
  rw [hsb] at MS
  clear hsb ST4
  go_region_held3 (fun w' => w'.cell? ⟨b, 1, none⟩ = some (.slice AK c.kinds.length cK) ∧ w'.cell? ⟨b, 2, none⟩ = some (.slice AP c.parents.length cP) ∧ w'.cell? ⟨W.heap.size, 3, none⟩ = some (.int .i64 rn))
    (first | exact ⟨q1, q2, p3⟩ | exact ⟨(hb5.cell (p := ⟨b, 1, none⟩) hbl).trans q1, (hb5.cell (p := ⟨b, 2, none⟩) hbl).trans q2, (hb5.cell (p := ⟨W.heap.size, 3, none⟩) hrl).trans p3⟩ | go_keep)
    (first
      | (go_at_call 175; refine (MS.out _ (by first | exact Below.refl _ _ | exact below_drew (Below.refl _ _))).mono ?_; rintro e w5 ⟨rfl, hb5⟩))
  have hb6 : Below W3.heap.size W3 w5 := (by first | exact hb5 | exact below_then (below_drew (Below.refl _ _)) hb5 (Nat.le_refl _))
  have RB4 := RB3.below hb6
  have R04 := row_below R03 hb6
  clear q0 q1 q2 p1 p3 RB3 R03 MS hbl hrl hb5 hb6
  obtain ⟨i0, hi, hz0, hz1, hz2⟩ := info_parts Tryz.infoString
  obtain ⟨i1, ii, iz0, iz1, iz2⟩ := info_parts Tryz.infoInt
  have q0 := RB4.q0; have p1 := row_q1 R04
  have hsz := RB4.be.size
  have hbg : b ≠ W.heap.size := by omega
  have y0 : ∀ O, (w5.alloc O).cell? ⟨b, 0, none⟩ = some (.slice AN c.names.length cN) := fun O => (World.cell?_alloc_lt _ _ _ RB4.lt).trans q0
  have t1 : (w5.alloc (.cells #[.string (bs nm)] 9)).drew.ownsRow w0.heap.size 9 1 (.slice AN c.names.length cN) c.names.length (scells c.names) := World.ownsRow.alloc RB4.oN _
  have t3 : ∀ j u, (scells [nm])[j]? = some u → ((w5.alloc (.cells #[.string (bs nm)] 9)).drew).cell? ((⟨w5.heap.size, 0, none⟩ : Addr).add j) = some u := cells_new w5 (scells [nm]) 9
  have t4 : w0.heap.size ≤ ((w5.alloc (.cells #[.string (bs nm)] 9)).drew).heap.size := Nat.le_trans hsz (box_b w5 _).size
  have t5 : c.names.length + 1 ≤ maxLen := by unfold maxLen; omega
  have t6 : (c.names.length + 1) * 16 ≤ 140737488355328 := by omega
  go_upto_region 11 with (fail)
  go_cut [62] (fun _ wx => ∃ v9, BA w0 wx b acc { c with names := c.names ++ [nm] } v9 (.slice AK c.kinds.length cK) (.slice AP c.parents.length cP) (.slice AT c.trans.length cT) vS ∧ wx.heap[W.heap.size]? = some (.cells #[.int .i64 kd, .string (bs nm), .slice A n9 c9, .int .i64 rn, .int .i64 rm, .string (bs rf), .string (bs rt), .string (bs rb), .string (bs ra), .string (bs ri), .int .i64 ln] 24 (0, 0)))
  case first =>
    go_region_law (
      (refine step_append_lies _ rfl (.tmp 58) (.tmp 61) 22 rfl w0.heap.size 9 i0 _ 1 16 Tryz.underlying22 hi hz0 hz1 hz2 rfl (by decide) (.slice AN c.names.length cN) c.names.length (scells c.names) (by simp [Act.eval]) t1 ⟨w5.heap.size, 0, none⟩ 1 1 (scells [nm]) (by simp [Act.eval]) rfl t3 (sc_one _) (by decide) t5 t6 t4 _ rfl ?_; intro g1 cp1 X1 hown1 hg1 hat1 hlt1
       have hg9 : w5.grownBy X1 (Value.ownBlock (.slice AN c.names.length cN)) := grown_new hg1
       have hr9 := RB4.row1 hg9 (own_row_ne RB4.oN RB4.row (by decide))
       have z1 : X1.frozen? ⟨b, 0, none⟩ = false := by simp [World.frozen?, hr9]
       have z2 := cell_of_row X1 b 0 _ _ _ hr9
       have RB5 := RB4.names hg9 (ownL_snoc hown1)
       have R05 := ru_keep (b := b) (j := 0) (v := .slice (some ⟨g1, 0, none⟩) (c.names.length + 1) cp1) R04 hg9 (own_row_ne RB4.oN R04 (by decide)) hbg))
    all_goals
      go_wp2_with fail
      go_meet
      exact ⟨_, RB5, R05⟩
  case rest =>
  obtain ⟨v1, RB6, R06⟩ := hcut
  clear RB4 R04 q0 y0 t1 t3 t4 t5 t6 hsz
  have RB4 := RB6
  have R04 := R06
  clear RB6 R06
  obtain ⟨w5, rfl⟩ : ∃ w9 : World, w9 = wc := ⟨_, rfl⟩
  have hsz := RB4.be.size
  have q0 := RB4.q1; have p3 := row_q3 R04
  have hkn : c.kinds.length ≤ 24 := by have := HF.out.kl; omega
  have y0 : ∀ O, (w5.alloc O).cell? ⟨b, 1, none⟩ = some (.slice AK c.kinds.length cK) := fun O => (World.cell?_alloc_lt _ _ _ RB4.lt).trans q0
  have t1 : (w5.alloc (.cells #[.int .i64 rn] 3)).drew.ownsRow w0.heap.size 3 1 (.slice AK c.kinds.length cK) c.kinds.length (icells c.kinds) := World.ownsRow.alloc RB4.oK _
  have t3 : ∀ j u, (icells [rn])[j]? = some u → ((w5.alloc (.cells #[.int .i64 rn] 3)).drew).cell? ((⟨w5.heap.size, 0, none⟩ : Addr).add j) = some u := cells_new w5 (icells [rn]) 3
  have t4 : w0.heap.size ≤ ((w5.alloc (.cells #[.int .i64 rn] 3)).drew).heap.size := Nat.le_trans hsz (box_b w5 _).size
  have t5 : c.kinds.length + 1 ≤ maxLen := by unfold maxLen; omega
  have t6 : (c.kinds.length + 1) * 8 ≤ 140737488355328 := by omega
  go_upto_region 12 with (fail)
  go_cut [74] (fun _ wx => ∃ v9, BA w0 wx b acc { c with names := c.names ++ [nm], kinds := c.kinds ++ [rn] } v1 v9 (.slice AP c.parents.length cP) (.slice AT c.trans.length cT) vS ∧ wx.heap[W.heap.size]? = some (.cells #[.int .i64 kd, .string (bs nm), .slice A n9 c9, .int .i64 rn, .int .i64 rm, .string (bs rf), .string (bs rt), .string (bs rb), .string (bs ra), .string (bs ri), .int .i64 ln] 24 (0, 0)))
  case first =>
    go_region_law (
      (refine step_append_lies _ rfl (.tmp 70) (.tmp 73) 37 rfl w0.heap.size 3 i1 _ 1 8 Tryz.underlying37 ii iz0 iz1 iz2 rfl (by decide) (.slice AK c.kinds.length cK) c.kinds.length (icells c.kinds) (by simp [Act.eval]) t1 ⟨w5.heap.size, 0, none⟩ 1 1 (icells [rn]) (by simp [Act.eval]) rfl t3 (ic_one _) (by decide) t5 t6 t4 _ rfl ?_; intro g1 cp1 X1 hown1 hg1 hat1 hlt1
       have hg9 : w5.grownBy X1 (Value.ownBlock (.slice AK c.kinds.length cK)) := grown_new hg1
       have hr9 := RB4.row1 hg9 (own_row_ne RB4.oK RB4.row (by decide))
       have z1 : X1.frozen? ⟨b, 1, none⟩ = false := by simp [World.frozen?, hr9]
       have z2 := cell_of_row X1 b 1 _ _ _ hr9
       have RB5 := RB4.kinds hg9 (ownI_snoc hown1) (lies_or hat1)
       have R05 := ru_keep (b := b) (j := 1) (v := .slice (some ⟨g1, 0, none⟩) (c.kinds.length + 1) cp1) R04 hg9 (own_row_ne RB4.oK R04 (by decide)) hbg))
    all_goals
      go_wp2_with fail
      go_meet
      exact ⟨_, RB5, R05⟩
  case rest =>
  obtain ⟨v2, RB6, R06⟩ := hcut
  clear RB4 R04 q0 y0 t1 t3 t4 t5 t6 hsz
  have RB4 := RB6
  have R04 := R06
  clear RB6 R06
  obtain ⟨w5, rfl⟩ : ∃ w9 : World, w9 = wc := ⟨_, rfl⟩
  have hsz := RB4.be.size
  have q0 := RB4.q2
  have hpn : c.parents.length ≤ 24 := by have := HF.out.pl; omega
  have y0 : ∀ O, (w5.alloc O).cell? ⟨b, 2, none⟩ = some (.slice AP c.parents.length cP) := fun O => (World.cell?_alloc_lt _ _ _ RB4.lt).trans q0
  have t1 : (w5.alloc (.cells #[.int .i64 px] 3)).ownsRow w0.heap.size 3 1 (.slice AP c.parents.length cP) c.parents.length (icells c.parents) := World.ownsRow.alloc RB4.oP _
  have t3 : ∀ j u, (icells [px])[j]? = some u → (w5.alloc (.cells #[.int .i64 px] 3)).cell? ((⟨w5.heap.size, 0, none⟩ : Addr).add j) = some u := cells_new w5 (icells [px]) 3
  have t4 : w0.heap.size ≤ (w5.alloc (.cells #[.int .i64 px] 3)).heap.size := Nat.le_trans hsz (box_b w5 _).size
  have t5 : c.parents.length + 1 ≤ maxLen := by unfold maxLen; omega
  have t6 : (c.parents.length + 1) * 8 ≤ 140737488355328 := by omega
  go_wp2_with (at_builtin; go_must (refine wpList_append_lies _ rfl (.tmp 83) (.tmp 85) 37 rfl w0.heap.size 3 i1 _ 1 8 Tryz.underlying37 ii iz0 iz1 iz2 rfl (by decide) (.slice AP c.parents.length cP) c.parents.length (icells c.parents) rfl t1 ⟨w5.heap.size, 0, none⟩ 1 1 (icells [px]) rfl rfl t3 (ic_one _) (by decide) t5 t6 t4 _ rfl ?_; intro g1 cp1 X1 hown1 hg1 hat1 hlt1; have hg9 : w5.grownBy X1 (Value.ownBlock (.slice AP c.parents.length cP)) := grown_new1 hg1; have hr9 := RB4.row1 hg9 (own_row_ne RB4.oP RB4.row (by decide)); have z1 : X1.frozen? ⟨b, 2, none⟩ = false := (by simp [World.frozen?, hr9]); have z2 := cell_of_row X1 b 2 _ _ _ hr9; have RB5 := RB4.parents hg9 (ownI_snoc hown1) (lies_or1 hat1)))
  go_ret
  have hst : stAdd c ⟨kd, nm, l, rn, rm, rf, rt, rb, ra, ri⟩ = { c with names := c.names ++ [nm], kinds := c.kinds ++ [rn], parents := c.parents ++ [px] } := by unfold stAdd; simp only [HPX.out]
  exact .inl ⟨HE.out, rfl, _, _, _, _, hst.symm ▸ RB5⟩
end Go.Proofs.YtkgjcahcpeehjaaGreatDoor
namespace Go.Proofs.YtkgjcahcpeehjaaGreatDoor
set_option maxRecDepth 100000
open Go.ChangeShapes Go.WideShapes Go.ChangeAt Go.RowKit

theorem t_one (t : Tr) : ∀ u ∈ tcells [t], u.oneCell' = true := by intro u hu; simp [tcells, tcell] at hu; rcases hu with rfl | rfl | rfl | rfl | rfl | rfl | rfl <;> rfl
theorem ownT_snoc {X : World} {base : Nat} {v : Value} {l : List Tr} {x : Tr} (h : X.ownsRow base 66 7 v (l.length + 1) (tcells l ++ tcells [x])) : OwnT X base v (l ++ [x]) := by
  unfold OwnT
  rw [List.length_append, tcells_snoc]
  have e : tcells [x] = tcell x := by simp [tcells]
  rw [e] at h
  exact h
set_option maxHeartbeats 8000000 in
theorem takeTrans_any {w0 W : World} {b : Nat} {acc : List RL} {c : Ch} {vN vK vP vT vS : Value} (R : BA w0 W b acc c vN vK vP vT vS) (hf : ChF c) (ha : acc.length ≤ 1000) (r : Ru) (A : Option Addr) (n9 c9 : Nat) (ln : Int) :
    Calls Tryz.prog 141 #[.pointer (some ⟨b, 0, none⟩), ruV r (.slice A n9 c9) ln] W (TkTo w0 W b acc (trAdd (acc.map er) c r) vS (trErr (acc.map er) c r)) := by
  obtain ⟨kd, nm, l, rn, rm, rf, rt, rb, ra, ri⟩ := r
  have R0 := heap_alloc_new W (.cells #[.int .i64 kd, .string (bs nm), .slice A n9 c9, .int .i64 rn, .int .i64 rm, .string (bs rf), .string (bs rt), .string (bs rb), .string (bs ra), .string (bs ri), .int .i64 ln] 24)
  have RB := R.below (box_b W (.cells #[.int .i64 kd, .string (bs nm), .slice A n9 c9, .int .i64 rn, .int .i64 rm, .string (bs rf), .string (bs rt), .string (bs rb), .string (bs ra), .string (bs ri), .int .i64 ln] 24))
  have HW := box_b W (.cells #[.int .i64 kd, .string (bs nm), .slice A n9 c9, .int .i64 rn, .int .i64 rm, .string (bs rf), .string (bs rt), .string (bs rb), .string (bs ra), .string (bs ri), .int .i64 ln] 24)
  obtain ⟨AT, cT, rfl⟩ := own_slice R.oT
  obtain ⟨AS, cS, rfl⟩ := own_slice R.oS
  have hcS : acc.length ≤ cS := own_cap R.oS
  have hbW := R.lt
  clear R
  dsimp only [ruV]
  have ST : Hid (trErr (acc.map er) c ⟨kd, nm, l, rn, rm, rf, rt, rb, ra, ri⟩ = if 48 ≤ c.trans.length then 5 else if idxI (nmS (acc.map er)) rf = -1 ∨ idxI (nmS (acc.map er)) rt = -1 then 3 else if stayB (knS (acc.map er) (idxI (nmS (acc.map er)) rf)) = false then 1 else 0) := rfl
  have HF := Lib.hid hf
  have HTA : Hid (trAdd (acc.map er) c ⟨kd, nm, l, rn, rm, rf, rt, rb, ra, ri⟩ = { c with trans := c.trans ++ [⟨kd, idxI (nmS (acc.map er)) rf, idxI (nmS (acc.map er)) rt, nm, rb, ra, rn⟩] }) := rfl
  have hi1 := idxI_lt (nmS (acc.map er)) rf
  have hnl : (nmS (acc.map er)).length = acc.length := by simp [nmS]
  rw [hnl] at hi1
  clear hf hnl
  generalize hes : trErr (acc.map er) c ⟨kd, nm, l, rn, rm, rf, rt, rb, ra, ri⟩ = es at *
  generalize hta : trAdd (acc.map er) c ⟨kd, nm, l, rn, rm, rf, rt, rb, ra, ri⟩ = cn at *
  clear hes hta
  go_enter Tryz.func141, Tryz.ntmps141
  go_upto_region 2 with (fail)
  generalize W.alloc (.cells #[.int .i64 kd, .string (bs nm), .slice A n9 c9, .int .i64 rn, .int .i64 rm, .string (bs rf), .string (bs rt), .string (bs rb), .string (bs ra), .string (bs ri), .int .i64 ln] 24) = W1 at *
  have q4 := RB.q4; have p5 := row_q5 R0; have p6 := row_q6 R0
  have hbl := RB.lt
  have hrl : W.heap.size < W1.heap.size := (Array.getElem?_eq_some_iff.1 R0).1
  have RI := rI2_of RB.oS RB.ls
  have FD : Hid (∀ X, Below W1.heap.size W1 X → ∀ y, Calls Tryz.prog 176 #[.pointer (some ⟨b, 0, none⟩), .string (bs y)] X fun e w' => e = .returned (.int .i64 (idxI (nmS (acc.map er)) y)) ∧ Below X.heap.size X w') := fun X hX y =>
    find_any acc y AS cS b X (RI.below hX) ha hcS (Nat.lt_of_lt_of_le hbl hX.size) ((hX.cell (p := ⟨b, 4, none⟩) hbl).trans q4)
  clear RI q4
  go_cut [6, 7] (fun x y wx => x = .int .i64 (idxI (nmS (acc.map er)) rf) ∧ y = .int .i64 (idxI (nmS (acc.map er)) rt) ∧ Hid (Below W1.heap.size W1 wx))
  case first =>
    clear RB
    go_region_held3 (fun w' => w'.cell? ⟨W.heap.size, 5, none⟩ = some (.string (bs rf)) ∧ w'.cell? ⟨W.heap.size, 6, none⟩ = some (.string (bs rt)))
      (first | exact ⟨p5, p6⟩ | exact ⟨(HB5.out.cell (p := ⟨W.heap.size, 5, none⟩) hrl).trans p5, (HB5.out.cell (p := ⟨W.heap.size, 6, none⟩) hrl).trans p6⟩ | exact ⟨(HB6.out.cell (p := ⟨W.heap.size, 5, none⟩) hrl).trans p5, (HB6.out.cell (p := ⟨W.heap.size, 6, none⟩) hrl).trans p6⟩ | go_keep)
      (first
        | (go_at_call_of 176 (Value.string (bs rf)); refine (FD.out _ (by first | exact Below.refl _ _ | exact below_drew (Below.refl _ _) | exact HB6.out) _).mono ?_; rintro e w5 ⟨rfl, hb5⟩; have HB5 : Hid (Below W1.heap.size W1 w5) := (by first | exact hb5 | exact below_then (below_drew (Below.refl _ _)) hb5 (Nat.le_refl _) | exact below_then HB6.out hb5 HB6.out.size))
        | (go_at_call_of 176 (Value.string (bs rt)); refine (FD.out _ (by first | exact Below.refl _ _ | exact below_drew (Below.refl _ _) | exact HB5.out) _).mono ?_; rintro e w6 ⟨rfl, hb6⟩; have HB6 : Hid (Below W1.heap.size W1 w6) := (by first | exact hb6 | exact below_then (below_drew (Below.refl _ _)) hb6 (Nat.le_refl _) | exact below_then HB5.out hb6 HB5.out.size)))
    all_goals
      go_wp2_with fail
      go_meet
      exact ⟨rfl, rfl, by first | exact HB6 | exact HB5⟩
  case rest =>
  obtain ⟨rfl, rfl, HB3⟩ := hcut
  have RB3 := RB.below HB3.out
  have R03 := row_below R0 HB3.out
  have HW3 := below_then HW HB3.out HW.size
  clear HW RB R0 p5 p6 FD HB3 hbl hrl
  obtain ⟨W3, rfl⟩ : ∃ w9 : World, w9 = wc := ⟨_, rfl⟩
  have q3 := RB3.q3; have q4 := RB3.q4
  generalize hfr : idxI (nmS (acc.map er)) rf = fr at *
  generalize hto : idxI (nmS (acc.map er)) rt = tt9 at *
  clear hfr hto
  have hbz := RB3.be
  by_cases h1 : 48 ≤ c.trans.length
  · have HE : Hid (es = 5) := by show _ = _; rw [ST.out, if_pos h1]
    have h1i : (48 : Int) ≤ c.trans.length := by omega
    clear ST
    go_wp2
    go_ret
    exact tkTo_no HE.out (by decide) HW3
  have ST2 : Hid (es = if fr = -1 ∨ tt9 = -1 then 3 else if stayB (knS (acc.map er) fr) = false then 1 else 0) := by show _ = _; rw [ST.out, if_neg h1]
  have h1i : ¬ (48 : Int) ≤ c.trans.length := by omega
  have htl : c.trans.length ≤ 48 := HF.out.tl
  clear ST h1
  go_upto_region 5 with (fail)
  by_cases h2 : fr = -1 ∨ tt9 = -1
  · have HE : Hid (es = 3) := by show _ = _; rw [ST2.out, if_pos h2]
    clear ST2
    by_cases e1 : fr = -1
    · subst e1
      clear h2 hi1
      go_wp2
      go_ret
      exact tkTo_no HE.out (by decide) HW3
    · have e2 : tt9 = -1 := by rcases h2 with h | h; exact absurd h e1; exact h
      have g1 : (fr == -1) = false := beq_eq_false_iff_ne.2 e1
      subst e2
      clear h2 e1 hi1
      go_wp2
      go_ret
      exact tkTo_no HE.out (by decide) HW3
  have ST3 : Hid (es = if stayB (knS (acc.map er) fr) = false then 1 else 0) := by show _ = _; rw [ST2.out, if_neg h2]
  have g1 : (fr == -1) = false := beq_eq_false_iff_ne.2 fun e => h2 (.inl e)
  have g2 : (tt9 == -1) = false := beq_eq_false_iff_ne.2 fun e => h2 (.inr e)
  obtain ⟨j, rfl⟩ : ∃ j : Nat, fr = j := ⟨fr.toNat, by have : fr ≠ -1 := fun e => h2 (.inl e); omega⟩
  have hj : j < acc.length := by omega
  have hji : (j : Int) < acc.length := by omega
  clear ST2 h2 hi1
  obtain ⟨g, rfl, hgl, hcs, hls⟩ := (rI2_of RB3.oS RB3.ls) j hj
  clear hls
  have hc3 := hcs 3 _ (by omega) rfl
  have hkn : knS (acc.map er) (j : Int) = acc[j].1.n := by unfold knS; rw [Int.toNat_natCast]; simp [List.getD_eq_getElem?_getD, hj, er]
  rw [hkn] at ST3
  clear hkn hcs
  generalize acc[j].1.n = kj at *
  have SY := Lib.hid (fun X => stays_any kj X)
  cases hst : stayB kj
  · have HE : Hid (es = 1) := by show _ = _; rw [ST3.out, if_pos hst]
    rw [hst] at SY
    clear hst ST3
    go_wp2_with (go_at_call 144; refine (SY.out _).mono ?_; rintro e w5 ⟨rfl, rfl⟩)
    go_ret
    exact tkTo_no HE.out (by decide) HW3
  have HE : Hid (es = 0) := by show _ = _; rw [ST3.out, if_neg (by rw [hst]; decide)]
  rw [hst] at SY
  clear hst ST3
  have p0 := row_q0 R03; have p1 := row_q1 R03; have p3 := row_q3 R03; have p7 := row_q7 R03; have p8 := row_q8 R03
  obtain ⟨i0, hi, hz0, hz1, hz2⟩ := info_parts Tryz.infoTrans
  have y0 : ∀ O, (W3.alloc O).cell? ⟨b, 3, none⟩ = some (.slice AT c.trans.length cT) := fun O => (World.cell?_alloc_lt _ _ _ RB3.lt).trans q3
  have t1 : (W3.alloc (.cells #[.int .i64 kd, .int .i64 j, .int .i64 tt9, .string (bs nm), .string (bs rb), .string (bs ra), .int .i64 rn] 66)).drew.ownsRow w0.heap.size 66 7 (.slice AT c.trans.length cT) c.trans.length (tcells c.trans) := World.ownsRow.alloc RB3.oT _
  have t3 : ∀ k u, (tcells [(⟨kd, j, tt9, nm, rb, ra, rn⟩ : Tr)])[k]? = some u → ((W3.alloc (.cells #[.int .i64 kd, .int .i64 j, .int .i64 tt9, .string (bs nm), .string (bs rb), .string (bs ra), .int .i64 rn] 66)).drew).cell? ((⟨W3.heap.size, 0, none⟩ : Addr).add k) = some u := cells_new W3 (tcells [(⟨kd, j, tt9, nm, rb, ra, rn⟩ : Tr)]) 66
  have t4 : w0.heap.size ≤ ((W3.alloc (.cells #[.int .i64 kd, .int .i64 j, .int .i64 tt9, .string (bs nm), .string (bs rb), .string (bs ra), .int .i64 rn] 66)).drew).heap.size := Nat.le_trans hbz.size (box_b W3 _).size
  have t5 : c.trans.length + 1 ≤ maxLen := by unfold maxLen; omega
  have t6 : (c.trans.length + 1) * 80 ≤ 140737488355328 := by omega
  go_upto_region 9 with (go_at_call 144; refine (SY.out _).mono ?_; rintro e w5 ⟨rfl, rfl⟩)
  clear SY hc3 q4 hgl hji hj
  have hrl3 : W.heap.size < W3.heap.size := (Array.getElem?_eq_some_iff.1 R03).1
  have hbg : b ≠ W.heap.size := by have := RB3.lt; omega
  have r0 : ∀ X : World, X.heap[W.heap.size]? = some (.cells #[.int .i64 kd, .string (bs nm), .slice A n9 c9, .int .i64 rn, .int .i64 rm, .string (bs rf), .string (bs rt), .string (bs rb), .string (bs ra), .string (bs ri), .int .i64 ln] 24 (0, 0)) → X.cell? ⟨W.heap.size, 0, none⟩ = some (.int .i64 kd) ∧ X.cell? ⟨W.heap.size, 1, none⟩ = some (.string (bs nm)) ∧ X.cell? ⟨W.heap.size, 3, none⟩ = some (.int .i64 rn) ∧ X.cell? ⟨W.heap.size, 7, none⟩ = some (.string (bs rb)) ∧ X.cell? ⟨W.heap.size, 8, none⟩ = some (.string (bs ra)) := fun X h => ⟨row_q0 h, row_q1 h, row_q3 h, row_q7 h, row_q8 h⟩
  refine wp_region_held_drew (S := fun w' => w'.cell? ⟨W.heap.size, 0, none⟩ = some (.int .i64 kd) ∧ w'.cell? ⟨W.heap.size, 1, none⟩ = some (.string (bs nm)) ∧ w'.cell? ⟨W.heap.size, 3, none⟩ = some (.int .i64 rn) ∧ w'.cell? ⟨W.heap.size, 7, none⟩ = some (.string (bs rb)) ∧ w'.cell? ⟨W.heap.size, 8, none⟩ = some (.string (bs ra))) (by kernel_rfl) ⟨p0, p1, p3, p7, p8⟩ (fun hHeld => ?_)
  refine wpAnyH_take (i := 0) (v := ?_) rfl (by kernel_rfl) (by kernel_rfl) (by kernel_rfl) (fun _ _ _ h => h) (Or.inl ⟨by rfl, ?_⟩) hHeld ?_
  rotate_left
  · intro w hSw
    (try dsimp only at hSw)
    go_simp
    (try with_reducible rfl)
  rotate_left
  (try simp only [Act.put, List.setIfInBounds_toArray, List.set_cons_zero, List.set_cons_succ])
  refine wpAnyH_take (i := 1) (v := ?_) rfl (by kernel_rfl) (by kernel_rfl) (by kernel_rfl) (fun _ _ _ h => h) (Or.inl ⟨by rfl, ?_⟩) hHeld ?_
  rotate_left
  · intro w hSw
    (try dsimp only at hSw)
    go_simp
    (try with_reducible rfl)
  rotate_left
  (try simp only [Act.put, List.setIfInBounds_toArray, List.set_cons_zero, List.set_cons_succ])
  refine wpAnyH_take (i := 2) (v := ?_) rfl (by kernel_rfl) (by kernel_rfl) (by kernel_rfl) (fun _ _ _ h => h) (Or.inl ⟨by rfl, ?_⟩) hHeld ?_
  rotate_left
  · intro w hSw
    (try dsimp only at hSw)
    go_simp
    (try with_reducible rfl)
  rotate_left
  (try simp only [Act.put, List.setIfInBounds_toArray, List.set_cons_zero, List.set_cons_succ])
  refine wpAnyH_take (i := 3) (v := ?_) rfl (by kernel_rfl) (by kernel_rfl) (by kernel_rfl) (fun _ _ _ h => h) (Or.inl ⟨by rfl, ?_⟩) hHeld ?_
  rotate_left
  · intro w hSw
    (try dsimp only at hSw)
    go_simp
    (try with_reducible rfl)
  rotate_left
  (try simp only [Act.put, List.setIfInBounds_toArray, List.set_cons_zero, List.set_cons_succ])
  refine wpAnyH_take (i := 5) (v := ?_) rfl (by kernel_rfl) (by kernel_rfl) (by kernel_rfl) (fun _ _ _ h => h) (Or.inl ⟨by rfl, ?_⟩) hHeld ?_
  rotate_left
  · intro w hSw
    (try dsimp only at hSw)
    go_simp
    (try with_reducible rfl)
  rotate_left
  (try simp only [Act.put, List.setIfInBounds_toArray, List.set_cons_zero, List.set_cons_succ])
  refine wpAnyH_take (i := 6) (v := ?_) rfl (by kernel_rfl) (by kernel_rfl) (by kernel_rfl) (fun _ _ _ h => h) (Or.inl ⟨by rfl, ?_⟩) hHeld ?_
  rotate_left
  · intro w hSw
    (try dsimp only at hSw)
    go_simp
    (try with_reducible rfl)
  rotate_left
  (try simp only [Act.put, List.setIfInBounds_toArray, List.set_cons_zero, List.set_cons_succ])
  refine wpAnyH_take (i := 7) (v := ?_) rfl (by kernel_rfl) (by kernel_rfl) (by kernel_rfl) (fun _ _ _ h => h) (Or.inl ⟨by rfl, ?_⟩) hHeld ?_
  rotate_left
  · intro w hSw
    (try dsimp only at hSw)
    go_simp
    (try with_reducible rfl)
  rotate_left
  (try simp only [Act.put, List.setIfInBounds_toArray, List.set_cons_zero, List.set_cons_succ])
  refine wpAnyH_take (i := 8) (v := ?_) rfl (by kernel_rfl) (by kernel_rfl) (by kernel_rfl) (fun _ _ _ h => h) (Or.inl ⟨by rfl, ?_⟩) hHeld ?_
  rotate_left
  · intro w hSw
    (try dsimp only at hSw)
    go_simp
    (try with_reducible rfl)
  rotate_left
  (try simp only [Act.put, List.setIfInBounds_toArray, List.set_cons_zero, List.set_cons_succ])
  refine wpAnyH_take (i := 9) (v := ?_) rfl (by kernel_rfl) (by kernel_rfl) (by kernel_rfl) (fun _ _ _ h => h) (Or.inl ⟨by rfl, ?_⟩) hHeld ?_
  rotate_left
  · intro w hSw
    (try dsimp only at hSw)
    go_simp
    (try with_reducible rfl)
  rotate_left
  (try simp only [Act.put, List.setIfInBounds_toArray, List.set_cons_zero, List.set_cons_succ])
  refine wpAnyH_take (i := 10) (v := ?_) rfl (by kernel_rfl) (by kernel_rfl) (by kernel_rfl) (fun _ _ _ h => h) (Or.inl ⟨by rfl, ?_⟩) hHeld ?_
  rotate_left
  · intro w hSw
    (try dsimp only at hSw)
    go_simp
    (try with_reducible rfl)
  rotate_left
  (try simp only [Act.put, List.setIfInBounds_toArray, List.set_cons_zero, List.set_cons_succ])
  refine wpAnyH_take (i := 11) (v := ?_) rfl (by kernel_rfl) (by kernel_rfl) (by kernel_rfl) (fun _ _ _ h => h) (Or.inl ⟨by rfl, ?_⟩) hHeld ?_
  rotate_left
  · intro w hSw
    (try dsimp only at hSw)
    go_simp
    (try with_reducible rfl)
  rotate_left
  (try simp only [Act.put, List.setIfInBounds_toArray, List.set_cons_zero, List.set_cons_succ])
  refine wpAnyH_take (i := 12) (v := ?_) rfl (by kernel_rfl) (by kernel_rfl) (by kernel_rfl) (fun _ _ _ h => h) (Or.inl ⟨by rfl, ?_⟩) hHeld ?_
  rotate_left
  · intro w hSw
    (try dsimp only at hSw)
    go_simp
    (try with_reducible rfl)
  rotate_left
  (try simp only [Act.put, List.setIfInBounds_toArray, List.set_cons_zero, List.set_cons_succ])
  refine wpAnyH_take (i := 13) (v := ?_) rfl (by kernel_rfl) (by kernel_rfl) (by kernel_rfl) (fun _ _ _ h => h) (Or.inl ⟨by rfl, ?_⟩) hHeld ?_
  rotate_left
  · intro w hSw
    (try dsimp only at hSw)
    go_simp
    (try with_reducible rfl)
  rotate_left
  (try simp only [Act.put, List.setIfInBounds_toArray, List.set_cons_zero, List.set_cons_succ])
  refine wpAnyH_take (i := 14) (v := ?_) rfl (by kernel_rfl) (by kernel_rfl) (by kernel_rfl) (fun _ _ _ h => h) (Or.inl ⟨by rfl, ?_⟩) hHeld ?_
  rotate_left
  · intro w hSw
    (try dsimp only at hSw)
    go_simp
    (try with_reducible rfl)
  rotate_left
  (try simp only [Act.put, List.setIfInBounds_toArray, List.set_cons_zero, List.set_cons_succ])
  refine wpAnyH_take (i := 15) (v := ?_) rfl (by kernel_rfl) (by kernel_rfl) (by kernel_rfl) (fun _ _ _ h => h) (Or.inl ⟨by rfl, ?_⟩) hHeld ?_
  rotate_left
  · intro w hSw
    (try dsimp only at hSw)
    go_simp
    (try with_reducible rfl)
  rotate_left
  (try simp only [Act.put, List.setIfInBounds_toArray, List.set_cons_zero, List.set_cons_succ])
  refine wpAnyH_take (i := 16) (v := ?_) rfl (by kernel_rfl) (by kernel_rfl) (by kernel_rfl) (fun _ _ _ h => h) (Or.inl ⟨by rfl, ?_⟩) hHeld ?_
  rotate_left
  · intro w hSw
    (try dsimp only at hSw)
    go_simp
    (try with_reducible rfl)
  rotate_left
  (try simp only [Act.put, List.setIfInBounds_toArray, List.set_cons_zero, List.set_cons_succ])
  refine wpAnyH_take (i := 17) (v := ?_) rfl (by kernel_rfl) (by kernel_rfl) (by kernel_rfl) (fun _ _ _ h => h) (Or.inl ⟨by rfl, ?_⟩) hHeld ?_
  rotate_left
  · intro w hSw
    (try dsimp only at hSw)
    go_simp
    (try with_reducible rfl)
  rotate_left
  (try simp only [Act.put, List.setIfInBounds_toArray, List.set_cons_zero, List.set_cons_succ])
  refine wpAnyH_ready (rs := [4, 18]) (by kernel_rfl) (by simp) ?_
  refine AllReadyH.cons rfl (fun K hK => ?_) (AllReadyH.cons rfl (fun K hK => ?_) AllReadyH.nil)
  · go_simp
    refine hK.out _ _ ⟨p0, p1, p3, p7, p8⟩ (fun hHeld => ?_)
    clear hK K
    refine wpAnyH_ready (rs := [18]) (by kernel_rfl) (by simp) ?_
    refine AllReadyH.cons rfl (fun K hK => ?_) AllReadyH.nil
    go_simp
    refine hK.out _ _ (r0 _ ((heap_alloc_old W3 _ hrl3).trans R03)) (fun hHeld => ?_)
    clear hK K
    refine wpAnyH_ready (rs := [19]) (by kernel_rfl) (by simp) ?_
    refine AllReadyH.cons rfl (fun K hK => ?_) AllReadyH.nil
    refine step_append_lies _ rfl (.tmp 51) (.tmp 65) 52 rfl w0.heap.size 66 i0 _ 7 80 Tryz.underlying52 hi hz0 hz1 hz2 rfl (by decide) (.slice AT c.trans.length cT) c.trans.length (tcells c.trans) (by simp [Act.eval]) t1 ⟨W3.heap.size, 0, none⟩ 1 1 (tcells [(⟨kd, j, tt9, nm, rb, ra, rn⟩ : Tr)]) (by simp [Act.eval]) rfl t3 (t_one _) (by decide) t5 t6 t4 _ rfl ?_; intro g1 cp1 X1 hown1 hg1 hat1 hlt1
    have hg9 : W3.grownBy X1 (Value.ownBlock (.slice AT c.trans.length cT)) := grown_new hg1
    have hr9 := RB3.row1 hg9 (own_row_ne RB3.oT RB3.row (by decide))
    have z1 : X1.frozen? ⟨b, 3, none⟩ = false := by simp [World.frozen?, hr9]
    have z2 := cell_of_row X1 b 3 _ _ _ hr9
    have R05 := (hg9.block W.heap.size hrl3 (fun e => own_row_ne RB3.oT R03 (by decide) e.symm)).trans R03
    have R06 := ru_keep (b := b) (j := 3) (v := .slice (some ⟨g1, 0, none⟩) (c.trans.length + 1) cp1) R03 hg9 (own_row_ne RB3.oT R03 (by decide)) hbg
    have RB5 := RB3.trans hg9 (ownT_snoc hown1)
    refine hK.out _ _ (r0 _ R05) (fun hHeld => ?_)
    clear hK K
    refine wpAnyH_take (i := 20) (v := ?_) rfl (by kernel_rfl) (by kernel_rfl) (by kernel_rfl) (fun _ _ _ h => h) (Or.inl ⟨by rfl, ?_⟩) hHeld ?_
    rotate_left
    · intro w hSw
      (try dsimp only at hSw)
      go_simp
      (try with_reducible rfl)
    rotate_left
    (try simp only [Act.put, List.setIfInBounds_toArray, List.set_cons_zero, List.set_cons_succ])
    refine wpAnyH_take (i := 21) (v := ?_) rfl (by kernel_rfl) (by kernel_rfl) (by kernel_rfl) (fun _ _ _ h => h) (Or.inl ⟨by rfl, ?_⟩) hHeld ?_
    rotate_left
    · intro w hSw
      (try dsimp only at hSw)
      go_simp
      (try with_reducible rfl)
    rotate_left
    (try simp only [Act.put, List.setIfInBounds_toArray, List.set_cons_zero, List.set_cons_succ])
    refine wpAnyH_ready (rs := [22]) (by kernel_rfl) (by simp) ?_
    refine AllReadyH.cons rfl (fun K hK => ?_) AllReadyH.nil
    go_simp
    refine hK.out _ _ (r0 _ R06) (fun hHeld => ?_)
    clear hK K
    refine wpAnyH_done (by kernel_rfl) ?_ _
    go_wp2
    go_ret
    exact .inl ⟨HE.out, rfl, _, _, _, _, HTA.out.symm ▸ RB5⟩
  · go_simp
    refine hK.out _ _ (r0 _ ((heap_alloc_old W3 _ hrl3).trans R03)) (fun hHeld => ?_)
    clear hK K
    refine wpAnyH_ready (rs := [4]) (by kernel_rfl) (by simp) ?_
    refine AllReadyH.cons rfl (fun K hK => ?_) AllReadyH.nil
    go_simp
    refine hK.out _ _ hHeld (fun hHeld => ?_)
    clear hK K
    refine wpAnyH_ready (rs := [19]) (by kernel_rfl) (by simp) ?_
    refine AllReadyH.cons rfl (fun K hK => ?_) AllReadyH.nil
    refine step_append_lies _ rfl (.tmp 51) (.tmp 65) 52 rfl w0.heap.size 66 i0 _ 7 80 Tryz.underlying52 hi hz0 hz1 hz2 rfl (by decide) (.slice AT c.trans.length cT) c.trans.length (tcells c.trans) (by simp [Act.eval]) t1 ⟨W3.heap.size, 0, none⟩ 1 1 (tcells [(⟨kd, j, tt9, nm, rb, ra, rn⟩ : Tr)]) (by simp [Act.eval]) rfl t3 (t_one _) (by decide) t5 t6 t4 _ rfl ?_; intro g1 cp1 X1 hown1 hg1 hat1 hlt1
    have hg9 : W3.grownBy X1 (Value.ownBlock (.slice AT c.trans.length cT)) := grown_new hg1
    have hr9 := RB3.row1 hg9 (own_row_ne RB3.oT RB3.row (by decide))
    have z1 : X1.frozen? ⟨b, 3, none⟩ = false := by simp [World.frozen?, hr9]
    have z2 := cell_of_row X1 b 3 _ _ _ hr9
    have R05 := (hg9.block W.heap.size hrl3 (fun e => own_row_ne RB3.oT R03 (by decide) e.symm)).trans R03
    have R06 := ru_keep (b := b) (j := 3) (v := .slice (some ⟨g1, 0, none⟩) (c.trans.length + 1) cp1) R03 hg9 (own_row_ne RB3.oT R03 (by decide)) hbg
    have RB5 := RB3.trans hg9 (ownT_snoc hown1)
    refine hK.out _ _ (r0 _ R05) (fun hHeld => ?_)
    clear hK K
    refine wpAnyH_take (i := 20) (v := ?_) rfl (by kernel_rfl) (by kernel_rfl) (by kernel_rfl) (fun _ _ _ h => h) (Or.inl ⟨by rfl, ?_⟩) hHeld ?_
    rotate_left
    · intro w hSw
      (try dsimp only at hSw)
      go_simp
      (try with_reducible rfl)
    rotate_left
    (try simp only [Act.put, List.setIfInBounds_toArray, List.set_cons_zero, List.set_cons_succ])
    refine wpAnyH_take (i := 21) (v := ?_) rfl (by kernel_rfl) (by kernel_rfl) (by kernel_rfl) (fun _ _ _ h => h) (Or.inl ⟨by rfl, ?_⟩) hHeld ?_
    rotate_left
    · intro w hSw
      (try dsimp only at hSw)
      go_simp
      (try with_reducible rfl)
    rotate_left
    (try simp only [Act.put, List.setIfInBounds_toArray, List.set_cons_zero, List.set_cons_succ])
    refine wpAnyH_ready (rs := [22]) (by kernel_rfl) (by simp) ?_
    refine AllReadyH.cons rfl (fun K hK => ?_) AllReadyH.nil
    go_simp
    refine hK.out _ _ (r0 _ R06) (fun hHeld => ?_)
    clear hK K
    refine wpAnyH_done (by kernel_rfl) ?_ _
    go_wp2
    go_ret
    exact .inl ⟨HE.out, rfl, _, _, _, _, HTA.out.symm ▸ RB5⟩
end Go.Proofs.YtkgjcahcpeehjaaGreatDoor
