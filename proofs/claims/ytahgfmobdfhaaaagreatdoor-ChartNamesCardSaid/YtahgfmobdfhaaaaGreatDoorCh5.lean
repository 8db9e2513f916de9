/-
  Package chart: a transition that is taken; a rule that is taken.
-/
import Derived.Test.YtahgfmobdfhaaaaGreatDoorCh4
import Derived.Deep.RegionHeld2
namespace Go.Proofs.YtahgfmobdfhaaaaGreatDoor
set_option maxRecDepth 100000
open Go.ChangeShapes Go.WideShapes Go.ChangeAt Go.RowKit

theorem t_one (t : Tr) : ∀ u ∈ tcells [t], u.oneCell' = true := by intro u hu; simp [tcells, tcell] at hu; rcases hu with rfl | rfl | rfl | rfl | rfl | rfl | rfl <;> rfl
theorem ownT_snoc {X : World} {base : Nat} {v : Value} {l : List Tr} {x : Tr} (h : X.ownsRow base 43 7 v (l.length + 1) (tcells l ++ tcells [x])) : OwnT X base v (l ++ [x]) := by
  unfold OwnT
  rw [List.length_append, tcells_snoc]
  have e : tcells [x] = tcell x := by simp [tcells]
  rw [e] at h
  exact h
set_option maxHeartbeats 8000000 in
theorem takeTrans_any {w0 W : World} {b : Nat} {acc : List RL} {c : Ch} {vN vK vP vT vS : Value} (R : BA w0 W b acc c vN vK vP vT vS) (hf : ChF c) (ha : acc.length ≤ 1000) (r : Ru) (A : Option Addr) (n9 c9 : Nat) (ln : Int) :
    Calls Tryz.prog 31 #[.pointer (some ⟨b, 0, none⟩), ruV r (.slice A n9 c9) ln] W (TkTo w0 W b acc (trAdd (acc.map er) c r) vS (trErr (acc.map er) c r)) := by
  obtain ⟨kd, nm, l, rn, rm, rf, rt, rb, ra, ri⟩ := r
  have R0 := heap_alloc_new W (.cells #[.int .i64 kd, .string (bs nm), .slice A n9 c9, .int .i64 rn, .int .i64 rm, .string (bs rf), .string (bs rt), .string (bs rb), .string (bs ra), .string (bs ri), .int .i64 ln] 41)
  have RB := R.below (box_b W (.cells #[.int .i64 kd, .string (bs nm), .slice A n9 c9, .int .i64 rn, .int .i64 rm, .string (bs rf), .string (bs rt), .string (bs rb), .string (bs ra), .string (bs ri), .int .i64 ln] 41))
  have HW := box_b W (.cells #[.int .i64 kd, .string (bs nm), .slice A n9 c9, .int .i64 rn, .int .i64 rm, .string (bs rf), .string (bs rt), .string (bs rb), .string (bs ra), .string (bs ri), .int .i64 ln] 41)
  obtain ⟨AT, cT, rfl⟩ := own_slice R.oT
  obtain ⟨AS, cS, rfl⟩ := own_slice R.oS
  have hcS : acc.length ≤ cS := own_cap R.oS
  have hbW := R.lt
  clear R
  dsimp only [ruV]
  have ST : Hid (trErr (acc.map er) c ⟨kd, nm, l, rn, rm, rf, rt, rb, ra, ri⟩ = if 48 ≤ c.trans.length then 5 else if idxI (nmS (acc.map er)) rf = -1 ∨ idxI (nmS (acc.map er)) rt = -1 then 3 else if stayB (knS (acc.map er) (idxI (nmS (acc.map er)) rf)) = false then 1 else 0) := rfl
  have HF := Lib.hid hf
  have HTA : Hid (trAdd (acc.map er) c ⟨kd, nm, l, rn, rm, rf, rt, rb, ra, ri⟩ = { c with trans := c.trans ++ [⟨kd, idxI (nmS (acc.map er)) rf, idxI (nmS (acc.map er)) rt, nm, rb, ra, rn⟩] }) := rfl
  have hi1 := idxI_lt (nmS (acc.map er)) rf
  have hnl : (nmS (acc.map er)).length = acc.length := by simp [nmS]
  rw [hnl] at hi1
  clear hf hnl
  generalize hes : trErr (acc.map er) c ⟨kd, nm, l, rn, rm, rf, rt, rb, ra, ri⟩ = es at *
  generalize hta : trAdd (acc.map er) c ⟨kd, nm, l, rn, rm, rf, rt, rb, ra, ri⟩ = cn at *
  clear hes hta
  go_enter Tryz.func31, Tryz.ntmps31
  go_upto_region 2 with (fail)
  generalize W.alloc (.cells #[.int .i64 kd, .string (bs nm), .slice A n9 c9, .int .i64 rn, .int .i64 rm, .string (bs rf), .string (bs rt), .string (bs rb), .string (bs ra), .string (bs ri), .int .i64 ln] 41) = W1 at *
  have q4 := RB.q4; have p5 := row_q5 R0; have p6 := row_q6 R0
  have hbl := RB.lt
  have hrl : W.heap.size < W1.heap.size := (Array.getElem?_eq_some_iff.1 R0).1
  have RI := rI2_of RB.oS RB.ls
  have FD : Hid (∀ X, Below W1.heap.size W1 X → ∀ y, Calls Tryz.prog 74 #[.pointer (some ⟨b, 0, none⟩), .string (bs y)] X fun e w' => e = .returned (.int .i64 (idxI (nmS (acc.map er)) y)) ∧ Below X.heap.size X w') := fun X hX y =>
    find_any acc y AS cS b X (RI.below hX) ha hcS (Nat.lt_of_lt_of_le hbl hX.size) ((hX.cell (p := ⟨b, 4, none⟩) hbl).trans q4)
  clear RI q4
  go_cut [6, 7] (fun x y wx => x = .int .i64 (idxI (nmS (acc.map er)) rf) ∧ y = .int .i64 (idxI (nmS (acc.map er)) rt) ∧ Hid (Below W1.heap.size W1 wx))
  case first =>
    clear RB
    go_region_held3 (fun w' => w'.cell? ⟨W.heap.size, 5, none⟩ = some (.string (bs rf)) ∧ w'.cell? ⟨W.heap.size, 6, none⟩ = some (.string (bs rt)))
      (first | exact ⟨p5, p6⟩ | exact ⟨(HB5.out.cell (p := ⟨W.heap.size, 5, none⟩) hrl).trans p5, (HB5.out.cell (p := ⟨W.heap.size, 6, none⟩) hrl).trans p6⟩ | exact ⟨(HB6.out.cell (p := ⟨W.heap.size, 5, none⟩) hrl).trans p5, (HB6.out.cell (p := ⟨W.heap.size, 6, none⟩) hrl).trans p6⟩ | go_keep)
      (first
        | (go_at_call_of 74 (Value.string (bs rf)); refine (FD.out _ (by first | exact Below.refl _ _ | exact below_drew (Below.refl _ _) | exact HB6.out) _).mono ?_; rintro e w5 ⟨rfl, hb5⟩; have HB5 : Hid (Below W1.heap.size W1 w5) := (by first | exact hb5 | exact below_then (below_drew (Below.refl _ _)) hb5 (Nat.le_refl _) | exact below_then HB6.out hb5 HB6.out.size))
        | (go_at_call_of 74 (Value.string (bs rt)); refine (FD.out _ (by first | exact Below.refl _ _ | exact below_drew (Below.refl _ _) | exact HB5.out) _).mono ?_; rintro e w6 ⟨rfl, hb6⟩; have HB6 : Hid (Below W1.heap.size W1 w6) := (by first | exact hb6 | exact below_then (below_drew (Below.refl _ _)) hb6 (Nat.le_refl _) | exact below_then HB5.out hb6 HB5.out.size)))
    all_goals
      go_wp2_with fail
      go_meet
      exact ⟨rfl, rfl, by first | exact HB6 | exact HB5⟩
  case rest =>
  obtain ⟨rfl, rfl, HB3⟩ := hcut
  have RB3 := RB.below HB3.out
  have R03 := row_below R0 HB3.out
  have HW3 := below_then HW HB3.out HW.size
  clear HW RB R0 p5 p6 FD HB3 hbl hrl
  obtain ⟨W3, rfl⟩ : ∃ w9 : World, w9 = wc := ⟨_, rfl⟩
  have q3 := RB3.q3; have q4 := RB3.q4
  generalize hfr : idxI (nmS (acc.map er)) rf = fr at *
  generalize hto : idxI (nmS (acc.map er)) rt = tt9 at *
  clear hfr hto
  have hbz := RB3.be
  by_cases h1 : 48 ≤ c.trans.length
  · have HE : Hid (es = 5) := by show _ = _; rw [ST.out, if_pos h1]
    have h1i : (48 : Int) ≤ c.trans.length := by omega
    clear ST
    go_wp2
    go_ret
    exact tkTo_no HE.out (by decide) HW3
  have ST2 : Hid (es = if fr = -1 ∨ tt9 = -1 then 3 else if stayB (knS (acc.map er) fr) = false then 1 else 0) := by show _ = _; rw [ST.out, if_neg h1]
  have h1i : ¬ (48 : Int) ≤ c.trans.length := by omega
  have htl : c.trans.length ≤ 48 := HF.out.tl
  clear ST h1
  go_upto_region 5 with (fail)
  by_cases h2 : fr = -1 ∨ tt9 = -1
  · have HE : Hid (es = 3) := by show _ = _; rw [ST2.out, if_pos h2]
    clear ST2
    by_cases e1 : fr = -1
    · subst e1
      clear h2 hi1
      go_wp2
      go_ret
      exact tkTo_no HE.out (by decide) HW3
    · have e2 : tt9 = -1 := by rcases h2 with h | h; exact absurd h e1; exact h
      have g1 : (fr == -1) = false := beq_eq_false_iff_ne.2 e1
      subst e2
      clear h2 e1 hi1
      go_wp2
      go_ret
      exact tkTo_no HE.out (by decide) HW3
  have ST3 : Hid (es = if stayB (knS (acc.map er) fr) = false then 1 else 0) := by show _ = _; rw [ST2.out, if_neg h2]
  have g1 : (fr == -1) = false := beq_eq_false_iff_ne.2 fun e => h2 (.inl e)
  have g2 : (tt9 == -1) = false := beq_eq_false_iff_ne.2 fun e => h2 (.inr e)
  obtain ⟨j, rfl⟩ : ∃ j : Nat, fr = j := ⟨fr.toNat, by have : fr ≠ -1 := fun e => h2 (.inl e); omega⟩
  have hj : j < acc.length := by omega
  have hji : (j : Int) < acc.length := by omega
  clear ST2 h2 hi1
  obtain ⟨g, rfl, hgl, hcs, hls⟩ := (rI2_of RB3.oS RB3.ls) j hj
  clear hls
  have hc3 := hcs 3 _ (by omega) rfl
  have hkn : knS (acc.map er) (j : Int) = acc[j].1.n := by unfold knS; rw [Int.toNat_natCast]; simp [List.getD_eq_getElem?_getD, hj, er]
  rw [hkn] at ST3
  clear hkn hcs
  generalize acc[j].1.n = kj at *
  have SY := Lib.hid (fun X => stays_any kj X)
  cases hst : stayB kj
  · have HE : Hid (es = 1) := by show _ = _; rw [ST3.out, if_pos hst]
    rw [hst] at SY
    clear hst ST3
    go_wp2_with (go_at_call 39; refine (SY.out _).mono ?_; rintro e w5 ⟨rfl, rfl⟩)
    go_ret
    exact tkTo_no HE.out (by decide) HW3
  have HE : Hid (es = 0) := by show _ = _; rw [ST3.out, if_neg (by rw [hst]; decide)]
  rw [hst] at SY
  clear hst ST3
  have p0 := row_q0 R03; have p1 := row_q1 R03; have p3 := row_q3 R03; have p7 := row_q7 R03; have p8 := row_q8 R03
  obtain ⟨i0, hi, hz0, hz1, hz2⟩ := info_parts Tryz.infoTrans
  have y0 : ∀ O, (W3.alloc O).cell? ⟨b, 3, none⟩ = some (.slice AT c.trans.length cT) := fun O => (World.cell?_alloc_lt _ _ _ RB3.lt).trans q3
  have t1 : (W3.alloc (.cells #[.int .i64 kd, .int .i64 j, .int .i64 tt9, .string (bs nm), .string (bs rb), .string (bs ra), .int .i64 rn] 43)).drew.ownsRow w0.heap.size 43 7 (.slice AT c.trans.length cT) c.trans.length (tcells c.trans) := World.ownsRow.alloc RB3.oT _
  have t3 : ∀ k u, (tcells [(⟨kd, j, tt9, nm, rb, ra, rn⟩ : Tr)])[k]? = some u → ((W3.alloc (.cells #[.int .i64 kd, .int .i64 j, .int .i64 tt9, .string (bs nm), .string (bs rb), .string (bs ra), .int .i64 rn] 43)).drew).cell? ((⟨W3.heap.size, 0, none⟩ : Addr).add k) = some u := cells_new W3 (tcells [(⟨kd, j, tt9, nm, rb, ra, rn⟩ : Tr)]) 43
  have t4 : w0.heap.size ≤ ((W3.alloc (.cells #[.int .i64 kd, .int .i64 j, .int .i64 tt9, .string (bs nm), .string (bs rb), .string (bs ra), .int .i64 rn] 43)).drew).heap.size := Nat.le_trans hbz.size (box_b W3 _).size
  have t5 : c.trans.length + 1 ≤ maxLen := by unfold maxLen; omega
  have t6 : (c.trans.length + 1) * 80 ≤ 140737488355328 := by omega
  go_upto_region 9 with (go_at_call 39; refine (SY.out _).mono ?_; rintro e w5 ⟨rfl, rfl⟩)
  clear SY hc3 q4 hgl hji hj
  have hrl3 : W.heap.size < W3.heap.size := (Array.getElem?_eq_some_iff.1 R03).1
  have hbg : b ≠ W.heap.size := by have := RB3.lt; omega
  have r0 : ∀ X : World, X.heap[W.heap.size]? = some (.cells #[.int .i64 kd, .string (bs nm), .slice A n9 c9, .int .i64 rn, .int .i64 rm, .string (bs rf), .string (bs rt), .string (bs rb), .string (bs ra), .string (bs ri), .int .i64 ln] 41 (0, 0)) → X.cell? ⟨W.heap.size, 0, none⟩ = some (.int .i64 kd) ∧ X.cell? ⟨W.heap.size, 1, none⟩ = some (.string (bs nm)) ∧ X.cell? ⟨W.heap.size, 3, none⟩ = some (.int .i64 rn) ∧ X.cell? ⟨W.heap.size, 7, none⟩ = some (.string (bs rb)) ∧ X.cell? ⟨W.heap.size, 8, none⟩ = some (.string (bs ra)) := fun X h => ⟨row_q0 h, row_q1 h, row_q3 h, row_q7 h, row_q8 h⟩
  refine wp_region_held_drew (S := fun w' => w'.cell? ⟨W.heap.size, 0, none⟩ = some (.int .i64 kd) ∧ w'.cell? ⟨W.heap.size, 1, none⟩ = some (.string (bs nm)) ∧ w'.cell? ⟨W.heap.size, 3, none⟩ = some (.int .i64 rn) ∧ w'.cell? ⟨W.heap.size, 7, none⟩ = some (.string (bs rb)) ∧ w'.cell? ⟨W.heap.size, 8, none⟩ = some (.string (bs ra))) (by kernel_rfl) ⟨p0, p1, p3, p7, p8⟩ (fun hHeld => ?_)
  refine wpAnyH_take (i := 0) (v := ?_) rfl (by kernel_rfl) (by kernel_rfl) (by kernel_rfl) (fun _ _ _ h => h) (Or.inl ⟨by rfl, ?_⟩) hHeld ?_
  rotate_left
  · intro w hSw
    (try dsimp only at hSw)
    go_simp
    (try with_reducible rfl)
  rotate_left
  (try simp only [Act.put, List.setIfInBounds_toArray, List.set_cons_zero, List.set_cons_succ])
  refine wpAnyH_take (i := 1) (v := ?_) rfl (by kernel_rfl) (by kernel_rfl) (by kernel_rfl) (fun _ _ _ h => h) (Or.inl ⟨by rfl, ?_⟩) hHeld ?_
  rotate_left
  · intro w hSw
    (try dsimp only at hSw)
    go_simp
    (try with_reducible rfl)
  rotate_left
  (try simp only [Act.put, List.setIfInBounds_toArray, List.set_cons_zero, List.set_cons_succ])
  refine wpAnyH_take (i := 2) (v := ?_) rfl (by kernel_rfl) (by kernel_rfl) (by kernel_rfl) (fun _ _ _ h => h) (Or.inl ⟨by rfl, ?_⟩) hHeld ?_
  rotate_left
  · intro w hSw
    (try dsimp only at hSw)
    go_simp
    (try with_reducible rfl)
  rotate_left
  (try simp only [Act.put, List.setIfInBounds_toArray, List.set_cons_zero, List.set_cons_succ])
  refine wpAnyH_take (i := 3) (v := ?_) rfl (by kernel_rfl) (by kernel_rfl) (by kernel_rfl) (fun _ _ _ h => h) (Or.inl ⟨by rfl, ?_⟩) hHeld ?_
  rotate_left
  · intro w hSw
    (try dsimp only at hSw)
    go_simp
    (try with_reducible rfl)
  rotate_left
  (try simp only [Act.put, List.setIfInBounds_toArray, List.set_cons_zero, List.set_cons_succ])
  refine wpAnyH_take (i := 5) (v := ?_) rfl (by kernel_rfl) (by kernel_rfl) (by kernel_rfl) (fun _ _ _ h => h) (Or.inl ⟨by rfl, ?_⟩) hHeld ?_
  rotate_left
  · intro w hSw
    (try dsimp only at hSw)
    go_simp
    (try with_reducible rfl)
  rotate_left
  (try simp only [Act.put, List.setIfInBounds_toArray, List.set_cons_zero, List.set_cons_succ])
  refine wpAnyH_take (i := 6) (v := ?_) rfl (by kernel_rfl) (by kernel_rfl) (by kernel_rfl) (fun _ _ _ h => h) (Or.inl ⟨by rfl, ?_⟩) hHeld ?_
  rotate_left
  · intro w hSw
    (try dsimp only at hSw)
    go_simp
    (try with_reducible rfl)
  rotate_left
  (try simp only [Act.put, List.setIfInBounds_toArray, List.set_cons_zero, List.set_cons_succ])
  refine wpAnyH_take (i := 7) (v := ?_) rfl (by kernel_rfl) (by kernel_rfl) (by kernel_rfl) (fun _ _ _ h => h) (Or.inl ⟨by rfl, ?_⟩) hHeld ?_
  rotate_left
  · intro w hSw
    (try dsimp only at hSw)
    go_simp
    (try with_reducible rfl)
  rotate_left
  (try simp only [Act.put, List.setIfInBounds_toArray, List.set_cons_zero, List.set_cons_succ])
  refine wpAnyH_take (i := 8) (v := ?_) rfl (by kernel_rfl) (by kernel_rfl) (by kernel_rfl) (fun _ _ _ h => h) (Or.inl ⟨by rfl, ?_⟩) hHeld ?_
  rotate_left
  · intro w hSw
    (try dsimp only at hSw)
    go_simp
    (try with_reducible rfl)
  rotate_left
  (try simp only [Act.put, List.setIfInBounds_toArray, List.set_cons_zero, List.set_cons_succ])
  refine wpAnyH_take (i := 9) (v := ?_) rfl (by kernel_rfl) (by kernel_rfl) (by kernel_rfl) (fun _ _ _ h => h) (Or.inl ⟨by rfl, ?_⟩) hHeld ?_
  rotate_left
  · intro w hSw
    (try dsimp only at hSw)
    go_simp
    (try with_reducible rfl)
  rotate_left
  (try simp only [Act.put, List.setIfInBounds_toArray, List.set_cons_zero, List.set_cons_succ])
  refine wpAnyH_take (i := 10) (v := ?_) rfl (by kernel_rfl) (by kernel_rfl) (by kernel_rfl) (fun _ _ _ h => h) (Or.inl ⟨by rfl, ?_⟩) hHeld ?_
  rotate_left
  · intro w hSw
    (try dsimp only at hSw)
    go_simp
    (try with_reducible rfl)
  rotate_left
  (try simp only [Act.put, List.setIfInBounds_toArray, List.set_cons_zero, List.set_cons_succ])
  refine wpAnyH_take (i := 11) (v := ?_) rfl (by kernel_rfl) (by kernel_rfl) (by kernel_rfl) (fun _ _ _ h => h) (Or.inl ⟨by rfl, ?_⟩) hHeld ?_
  rotate_left
  · intro w hSw
    (try dsimp only at hSw)
    go_simp
    (try with_reducible rfl)
  rotate_left
  (try simp only [Act.put, List.setIfInBounds_toArray, List.set_cons_zero, List.set_cons_succ])
  refine wpAnyH_take (i := 12) (v := ?_) rfl (by kernel_rfl) (by kernel_rfl) (by kernel_rfl) (fun _ _ _ h => h) (Or.inl ⟨by rfl, ?_⟩) hHeld ?_
  rotate_left
  · intro w hSw
    (try dsimp only at hSw)
    go_simp
    (try with_reducible rfl)
  rotate_left
  (try simp only [Act.put, List.setIfInBounds_toArray, List.set_cons_zero, List.set_cons_succ])
  refine wpAnyH_take (i := 13) (v := ?_) rfl (by kernel_rfl) (by kernel_rfl) (by kernel_rfl) (fun _ _ _ h => h) (Or.inl ⟨by rfl, ?_⟩) hHeld ?_
  rotate_left
  · intro w hSw
    (try dsimp only at hSw)
    go_simp
    (try with_reducible rfl)
  rotate_left
  (try simp only [Act.put, List.setIfInBounds_toArray, List.set_cons_zero, List.set_cons_succ])
  refine wpAnyH_take (i := 14) (v := ?_) rfl (by kernel_rfl) (by kernel_rfl) (by kernel_rfl) (fun _ _ _ h => h) (Or.inl ⟨by rfl, ?_⟩) hHeld ?_
  rotate_left
  · intro w hSw
    (try dsimp only at hSw)
    go_simp
    (try with_reducible rfl)
  rotate_left
  (try simp only [Act.put, List.setIfInBounds_toArray, List.set_cons_zero, List.set_cons_succ])
  refine wpAnyH_take (i := 15) (v := ?_) rfl (by kernel_rfl) (by kernel_rfl) (by kernel_rfl) (fun _ _ _ h => h) (Or.inl ⟨by rfl, ?_⟩) hHeld ?_
  rotate_left
  · intro w hSw
    (try dsimp only at hSw)
    go_simp
    (try with_reducible rfl)
  rotate_left
  (try simp only [Act.put, List.setIfInBounds_toArray, List.set_cons_zero, List.set_cons_succ])
  refine wpAnyH_take (i := 16) (v := ?_) rfl (by kernel_rfl) (by kernel_rfl) (by kernel_rfl) (fun _ _ _ h => h) (Or.inl ⟨by rfl, ?_⟩) hHeld ?_
  rotate_left
  · intro w hSw
    (try dsimp only at hSw)
    go_simp
    (try with_reducible rfl)
  rotate_left
  (try simp only [Act.put, List.setIfInBounds_toArray, List.set_cons_zero, List.set_cons_succ])
  refine wpAnyH_take (i := 17) (v := ?_) rfl (by kernel_rfl) (by kernel_rfl) (by kernel_rfl) (fun _ _ _ h => h) (Or.inl ⟨by rfl, ?_⟩) hHeld ?_
  rotate_left
  · intro w hSw
    (try dsimp only at hSw)
    go_simp
    (try with_reducible rfl)
  rotate_left
  (try simp only [Act.put, List.setIfInBounds_toArray, List.set_cons_zero, List.set_cons_succ])
  refine wpAnyH_ready (rs := [4, 18]) (by kernel_rfl) (by simp) ?_
  refine AllReadyH.cons rfl (fun K hK => ?_) (AllReadyH.cons rfl (fun K hK => ?_) AllReadyH.nil)
  · go_simp
    refine hK.out _ _ ⟨p0, p1, p3, p7, p8⟩ (fun hHeld => ?_)
    clear hK K
    refine wpAnyH_ready (rs := [18]) (by kernel_rfl) (by simp) ?_
    refine AllReadyH.cons rfl (fun K hK => ?_) AllReadyH.nil
    go_simp
    refine hK.out _ _ (r0 _ ((heap_alloc_old W3 _ hrl3).trans R03)) (fun hHeld => ?_)
    clear hK K
    refine wpAnyH_ready (rs := [19]) (by kernel_rfl) (by simp) ?_
    refine AllReadyH.cons rfl (fun K hK => ?_) AllReadyH.nil
    refine step_append_lies _ rfl (.tmp 51) (.tmp 65) 31 rfl w0.heap.size 43 i0 _ 7 80 Tryz.underlying31 hi hz0 hz1 hz2 rfl (by decide) (.slice AT c.trans.length cT) c.trans.length (tcells c.trans) (by simp [Act.eval]) t1 ⟨W3.heap.size, 0, none⟩ 1 1 (tcells [(⟨kd, j, tt9, nm, rb, ra, rn⟩ : Tr)]) (by simp [Act.eval]) rfl t3 (t_one _) (by decide) t5 t6 t4 _ rfl ?_; intro g1 cp1 X1 hown1 hg1 hat1 hlt1
    have hg9 : W3.grownBy X1 (Value.ownBlock (.slice AT c.trans.length cT)) := grown_new hg1
    have hr9 := RB3.row1 hg9 (own_row_ne RB3.oT RB3.row (by decide))
    have z1 : X1.frozen? ⟨b, 3, none⟩ = false := by simp [World.frozen?, hr9]
    have z2 := cell_of_row X1 b 3 _ _ _ hr9
    have R05 := (hg9.block W.heap.size hrl3 (fun e => own_row_ne RB3.oT R03 (by decide) e.symm)).trans R03
    have R06 := ru_keep (b := b) (j := 3) (v := .slice (some ⟨g1, 0, none⟩) (c.trans.length + 1) cp1) R03 hg9 (own_row_ne RB3.oT R03 (by decide)) hbg
    have RB5 := RB3.trans hg9 (ownT_snoc hown1)
    refine hK.out _ _ (r0 _ R05) (fun hHeld => ?_)
    clear hK K
    refine wpAnyH_take (i := 20) (v := ?_) rfl (by kernel_rfl) (by kernel_rfl) (by kernel_rfl) (fun _ _ _ h => h) (Or.inl ⟨by rfl, ?_⟩) hHeld ?_
    rotate_left
    · intro w hSw
      (try dsimp only at hSw)
      go_simp
      (try with_reducible rfl)
    rotate_left
    (try simp only [Act.put, List.setIfInBounds_toArray, List.set_cons_zero, List.set_cons_succ])
    refine wpAnyH_take (i := 21) (v := ?_) rfl (by kernel_rfl) (by kernel_rfl) (by kernel_rfl) (fun _ _ _ h => h) (Or.inl ⟨by rfl, ?_⟩) hHeld ?_
    rotate_left
    · intro w hSw
      (try dsimp only at hSw)
      go_simp
      (try with_reducible rfl)
    rotate_left
    (try simp only [Act.put, List.setIfInBounds_toArray, List.set_cons_zero, List.set_cons_succ])
    refine wpAnyH_ready (rs := [22]) (by kernel_rfl) (by simp) ?_
    refine AllReadyH.cons rfl (fun K hK => ?_) AllReadyH.nil
    go_simp
    refine hK.out _ _ (r0 _ R06) (fun hHeld => ?_)
    clear hK K
    refine wpAnyH_done (by kernel_rfl) ?_ _
    go_wp2
    go_ret
    exact .inl ⟨HE.out, rfl, _, _, _, _, HTA.out.symm ▸ RB5⟩
  · go_simp
    refine hK.out _ _ (r0 _ ((heap_alloc_old W3 _ hrl3).trans R03)) (fun hHeld => ?_)
    clear hK K
    refine wpAnyH_ready (rs := [4]) (by kernel_rfl) (by simp) ?_
    refine AllReadyH.cons rfl (fun K hK => ?_) AllReadyH.nil
    go_simp
    refine hK.out _ _ hHeld (fun hHeld => ?_)
    clear hK K
    refine wpAnyH_ready (rs := [19]) (by kernel_rfl) (by simp) ?_
    refine AllReadyH.cons rfl (fun K hK => ?_) AllReadyH.nil
    refine step_append_lies _ rfl (.tmp 51) (.tmp 65) 31 rfl w0.heap.size 43 i0 _ 7 80 Tryz.underlying31 hi hz0 hz1 hz2 rfl (by decide) (.slice AT c.trans.length cT) c.trans.length (tcells c.trans) (by simp [Act.eval]) t1 ⟨W3.heap.size, 0, none⟩ 1 1 (tcells [(⟨kd, j, tt9, nm, rb, ra, rn⟩ : Tr)]) (by simp [Act.eval]) rfl t3 (t_one _) (by decide) t5 t6 t4 _ rfl ?_; intro g1 cp1 X1 hown1 hg1 hat1 hlt1
    have hg9 : W3.grownBy X1 (Value.ownBlock (.slice AT c.trans.length cT)) := grown_new hg1
    have hr9 := RB3.row1 hg9 (own_row_ne RB3.oT RB3.row (by decide))
    have z1 : X1.frozen? ⟨b, 3, none⟩ = false := by simp [World.frozen?, hr9]
    have z2 := cell_of_row X1 b 3 _ _ _ hr9
    have R05 := (hg9.block W.heap.size hrl3 (fun e => own_row_ne RB3.oT R03 (by decide) e.symm)).trans R03
    have R06 := ru_keep (b := b) (j := 3) (v := .slice (some ⟨g1, 0, none⟩) (c.trans.length + 1) cp1) R03 hg9 (own_row_ne RB3.oT R03 (by decide)) hbg
    have RB5 := RB3.trans hg9 (ownT_snoc hown1)
    refine hK.out _ _ (r0 _ R05) (fun hHeld => ?_)
    clear hK K
    refine wpAnyH_take (i := 20) (v := ?_) rfl (by kernel_rfl) (by kernel_rfl) (by kernel_rfl) (fun _ _ _ h => h) (Or.inl ⟨by rfl, ?_⟩) hHeld ?_
    rotate_left
    · intro w hSw
      (try dsimp only at hSw)
      go_simp
      (try with_reducible rfl)
    rotate_left
    (try simp only [Act.put, List.setIfInBounds_toArray, List.set_cons_zero, List.set_cons_succ])
    refine wpAnyH_take (i := 21) (v := ?_) rfl (by kernel_rfl) (by kernel_rfl) (by kernel_rfl) (fun _ _ _ h => h) (Or.inl ⟨by rfl, ?_⟩) hHeld ?_
    rotate_left
    · intro w hSw
      (try dsimp only at hSw)
      go_simp
      (try with_reducible rfl)
    rotate_left
    (try simp only [Act.put, List.setIfInBounds_toArray, List.set_cons_zero, List.set_cons_succ])
    refine wpAnyH_ready (rs := [22]) (by kernel_rfl) (by simp) ?_
    refine AllReadyH.cons rfl (fun K hK => ?_) AllReadyH.nil
    go_simp
    refine hK.out _ _ (r0 _ R06) (fun hHeld => ?_)
    clear hK K
    refine wpAnyH_done (by kernel_rfl) ?_ _
    go_wp2
    go_ret
    exact .inl ⟨HE.out, rfl, _, _, _, _, HTA.out.symm ▸ RB5⟩
end Go.Proofs.YtahgfmobdfhaaaaGreatDoor
