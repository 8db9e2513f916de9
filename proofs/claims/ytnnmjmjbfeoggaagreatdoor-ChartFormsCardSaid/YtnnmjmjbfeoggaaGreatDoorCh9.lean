/-
  Package chart: a transition, a rule that is taken; Compile; Valid, of a chart that may be.
-/
import Derived.Test.YtnnmjmjbfeoggaaGreatDoorCh4
import Derived.Deep.RegionHeld2
import Derived.Test.YtnnmjmjbfeoggaaGreatDoorSmall
namespace Go.Proofs.YtnnmjmjbfeoggaaGreatDoor
set_option maxRecDepth 100000
open Go.ChangeShapes Go.WideShapes Go.ChangeAt Go.RowKit

theorem t_one (t : Tr) : ∀ u ∈ tcells [t], u.oneCell' = true := by intro u hu; simp [tcells, tcell] at hu; rcases hu with rfl | rfl | rfl | rfl | rfl | rfl | rfl <;> rfl
theorem ownT_snoc {X : World} {base : Nat} {v : Value} {l : List Tr} {x : Tr} (h : X.ownsRow base 62 7 v (l.length + 1) (tcells l ++ tcells [x])) : OwnT X base v (l ++ [x]) := by
  unfold OwnT
  rw [List.length_append, tcells_snoc]
  have e : tcells [x] = tcell x := by simp [tcells]
  rw [e] at h
  exact h
set_option maxHeartbeats 8000000 in
theorem takeTrans_any {w0 W : World} {b : Nat} {acc : List RL} {c : Ch} {vN vK vP vT vS : Value} (R : BA w0 W b acc c vN vK vP vT vS) (hf : ChF c) (ha : acc.length ≤ 1000) (r : Ru) (A : Option Addr) (n9 c9 : Nat) (ln : Int) :
    Calls Tryz.prog 112 #[.pointer (some ⟨b, 0, none⟩), ruV r (.slice A n9 c9) ln] W (TkTo w0 W b acc (trAdd (acc.map er) c r) vS (trErr (acc.map er) c r)) := by
  obtain ⟨kd, nm, l, rn, rm, rf, rt, rb, ra, ri⟩ := r
  have R0 := heap_alloc_new W (.cells #[.int .i64 kd, .string (bs nm), .slice A n9 c9, .int .i64 rn, .int .i64 rm, .string (bs rf), .string (bs rt), .string (bs rb), .string (bs ra), .string (bs ri), .int .i64 ln] 28)
  have RB := R.below (box_b W (.cells #[.int .i64 kd, .string (bs nm), .slice A n9 c9, .int .i64 rn, .int .i64 rm, .string (bs rf), .string (bs rt), .string (bs rb), .string (bs ra), .string (bs ri), .int .i64 ln] 28))
  have HW := box_b W (.cells #[.int .i64 kd, .string (bs nm), .slice A n9 c9, .int .i64 rn, .int .i64 rm, .string (bs rf), .string (bs rt), .string (bs rb), .string (bs ra), .string (bs ri), .int .i64 ln] 28)
  obtain ⟨AT, cT, rfl⟩ := own_slice R.oT
  obtain ⟨AS, cS, rfl⟩ := own_slice R.oS
  have hcS : acc.length ≤ cS := own_cap R.oS
  have hbW := R.lt
  clear R
  dsimp only [ruV]
  have ST : Hid (trErr (acc.map er) c ⟨kd, nm, l, rn, rm, rf, rt, rb, ra, ri⟩ = if 48 ≤ c.trans.length then 5 else if idxI (nmS (acc.map er)) rf = -1 ∨ idxI (nmS (acc.map er)) rt = -1 then 3 else if stayB (knS (acc.map er) (idxI (nmS (acc.map er)) rf)) = false then 1 else 0) := rfl
  have HF := Lib.hid hf
  have HTA : Hid (trAdd (acc.map er) c ⟨kd, nm, l, rn, rm, rf, rt, rb, ra, ri⟩ = { c with trans := c.trans ++ [⟨kd, idxI (nmS (acc.map er)) rf, idxI (nmS (acc.map er)) rt, nm, rb, ra, rn⟩] }) := rfl
  have hi1 := idxI_lt (nmS (acc.map er)) rf
  have hnl : (nmS (acc.map er)).length = acc.length := by simp [nmS]
  rw [hnl] at hi1
  clear hf hnl
  generalize hes : trErr (acc.map er) c ⟨kd, nm, l, rn, rm, rf, rt, rb, ra, ri⟩ = es at *
  generalize hta : trAdd (acc.map er) c ⟨kd, nm, l, rn, rm, rf, rt, rb, ra, ri⟩ = cn at *
  clear hes hta
  go_enter Tryz.func112, Tryz.ntmps112
  go_upto_region 2 with (fail)
  generalize W.alloc (.cells #[.int .i64 kd, .string (bs nm), .slice A n9 c9, .int .i64 rn, .int .i64 rm, .string (bs rf), .string (bs rt), .string (bs rb), .string (bs ra), .string (bs ri), .int .i64 ln] 28) = W1 at *
  have q4 := RB.q4; have p5 := row_q5 R0; have p6 := row_q6 R0
  have hbl := RB.lt
  have hrl : W.heap.size < W1.heap.size := (Array.getElem?_eq_some_iff.1 R0).1
  have RI := rI2_of RB.oS RB.ls
  have FD : Hid (∀ X, Below W1.heap.size W1 X → ∀ y, Calls Tryz.prog 155 #[.pointer (some ⟨b, 0, none⟩), .string (bs y)] X fun e w' => e = .returned (.int .i64 (idxI (nmS (acc.map er)) y)) ∧ Below X.heap.size X w') := fun X hX y =>
    find_any acc y AS cS b X (RI.below hX) ha hcS (Nat.lt_of_lt_of_le hbl hX.size) ((hX.cell (p := ⟨b, 4, none⟩) hbl).trans q4)
  clear RI q4
  go_cut [6, 7] (fun x y wx => x = .int .i64 (idxI (nmS (acc.map er)) rf) ∧ y = .int .i64 (idxI (nmS (acc.map er)) rt) ∧ Hid (Below W1.heap.size W1 wx))
  case first =>
    clear RB
    go_region_held3 (fun w' => w'.cell? ⟨W.heap.size, 5, none⟩ = some (.string (bs rf)) ∧ w'.cell? ⟨W.heap.size, 6, none⟩ = some (.string (bs rt)))
      (first | exact ⟨p5, p6⟩ | exact ⟨(HB5.out.cell (p := ⟨W.heap.size, 5, none⟩) hrl).trans p5, (HB5.out.cell (p := ⟨W.heap.size, 6, none⟩) hrl).trans p6⟩ | exact ⟨(HB6.out.cell (p := ⟨W.heap.size, 5, none⟩) hrl).trans p5, (HB6.out.cell (p := ⟨W.heap.size, 6, none⟩) hrl).trans p6⟩ | go_keep)
      (first
        | (go_at_call_of 155 (Value.string (bs rf)); refine (FD.out _ (by first | exact Below.refl _ _ | exact below_drew (Below.refl _ _) | exact HB6.out) _).mono ?_; rintro e w5 ⟨rfl, hb5⟩; have HB5 : Hid (Below W1.heap.size W1 w5) := (by first | exact hb5 | exact below_then (below_drew (Below.refl _ _)) hb5 (Nat.le_refl _) | exact below_then HB6.out hb5 HB6.out.size))
        | (go_at_call_of 155 (Value.string (bs rt)); refine (FD.out _ (by first | exact Below.refl _ _ | exact below_drew (Below.refl _ _) | exact HB5.out) _).mono ?_; rintro e w6 ⟨rfl, hb6⟩; have HB6 : Hid (Below W1.heap.size W1 w6) := (by first | exact hb6 | exact below_then (below_drew (Below.refl _ _)) hb6 (Nat.le_refl _) | exact below_then HB5.out hb6 HB5.out.size)))
    all_goals
      go_wp2_with fail
      go_meet
      exact ⟨rfl, rfl, by first | exact HB6 | exact HB5⟩
  case rest =>
  obtain ⟨rfl, rfl, HB3⟩ := hcut
  have RB3 := RB.below HB3.out
  have R03 := row_below R0 HB3.out
  have HW3 := below_then HW HB3.out HW.size
  clear HW RB R0 p5 p6 FD HB3 hbl hrl
  obtain ⟨W3, rfl⟩ : ∃ w9 : World, w9 = wc := ⟨_, rfl⟩
  have q3 := RB3.q3; have q4 := RB3.q4
  generalize hfr : idxI (nmS (acc.map er)) rf = fr at *
  generalize hto : idxI (nmS (acc.map er)) rt = tt9 at *
  clear hfr hto
  have hbz := RB3.be
  by_cases h1 : 48 ≤ c.trans.length
  · have HE : Hid (es = 5) := by show _ = _; rw [ST.out, if_pos h1]
    have h1i : (48 : Int) ≤ c.trans.length := by omega
    clear ST
    go_wp2
    go_ret
    exact tkTo_no HE.out (by decide) HW3
  have ST2 : Hid (es = if fr = -1 ∨ tt9 = -1 then 3 else if stayB (knS (acc.map er) fr) = false then 1 else 0) := by show _ = _; rw [ST.out, if_neg h1]
  have h1i : ¬ (48 : Int) ≤ c.trans.length := by omega
  have htl : c.trans.length ≤ 48 := HF.out.tl
  clear ST h1
  go_upto_region 5 with (fail)
  by_cases h2 : fr = -1 ∨ tt9 = -1
  · have HE : Hid (es = 3) := by show _ = _; rw [ST2.out, if_pos h2]
    clear ST2
    by_cases e1 : fr = -1
    · subst e1
      clear h2 hi1
      go_wp2
      go_ret
      exact tkTo_no HE.out (by decide) HW3
    · have e2 : tt9 = -1 := by rcases h2 with h | h; exact absurd h e1; exact h
      have g1 : (fr == -1) = false := beq_eq_false_iff_ne.2 e1
      subst e2
      clear h2 e1 hi1
      go_wp2
      go_ret
      exact tkTo_no HE.out (by decide) HW3
  have ST3 : Hid (es = if stayB (knS (acc.map er) fr) = false then 1 else 0) := by show _ = _; rw [ST2.out, if_neg h2]
  have g1 : (fr == -1) = false := beq_eq_false_iff_ne.2 fun e => h2 (.inl e)
  have g2 : (tt9 == -1) = false := beq_eq_false_iff_ne.2 fun e => h2 (.inr e)
  obtain ⟨j, rfl⟩ : ∃ j : Nat, fr = j := ⟨fr.toNat, by have : fr ≠ -1 := fun e => h2 (.inl e); omega⟩
  have hj : j < acc.length := by omega
  have hji : (j : Int) < acc.length := by omega
  clear ST2 h2 hi1
  obtain ⟨g, rfl, hgl, hcs, hls⟩ := (rI2_of RB3.oS RB3.ls) j hj
  clear hls
  have hc3 := hcs 3 _ (by omega) rfl
  have hkn : knS (acc.map er) (j : Int) = acc[j].1.n := by unfold knS; rw [Int.toNat_natCast]; simp [List.getD_eq_getElem?_getD, hj, er]
  rw [hkn] at ST3
  clear hkn hcs
  generalize acc[j].1.n = kj at *
  have SY := Lib.hid (fun X => stays_any kj X)
  cases hst : stayB kj
  · have HE : Hid (es = 1) := by show _ = _; rw [ST3.out, if_pos hst]
    rw [hst] at SY
    clear hst ST3
    go_wp2_with (go_at_call 120; refine (SY.out _).mono ?_; rintro e w5 ⟨rfl, rfl⟩)
    go_ret
    exact tkTo_no HE.out (by decide) HW3
  have HE : Hid (es = 0) := by show _ = _; rw [ST3.out, if_neg (by rw [hst]; decide)]
  rw [hst] at SY
  clear hst ST3
  have p0 := row_q0 R03; have p1 := row_q1 R03; have p3 := row_q3 R03; have p7 := row_q7 R03; have p8 := row_q8 R03
  obtain ⟨i0, hi, hz0, hz1, hz2⟩ := info_parts Tryz.infoTrans
  have y0 : ∀ O, (W3.alloc O).cell? ⟨b, 3, none⟩ = some (.slice AT c.trans.length cT) := fun O => (World.cell?_alloc_lt _ _ _ RB3.lt).trans q3
  have t1 : (W3.alloc (.cells #[.int .i64 kd, .int .i64 j, .int .i64 tt9, .string (bs nm), .string (bs rb), .string (bs ra), .int .i64 rn] 62)).drew.ownsRow w0.heap.size 62 7 (.slice AT c.trans.length cT) c.trans.length (tcells c.trans) := World.ownsRow.alloc RB3.oT _
  have t3 : ∀ k u, (tcells [(⟨kd, j, tt9, nm, rb, ra, rn⟩ : Tr)])[k]? = some u → ((W3.alloc (.cells #[.int .i64 kd, .int .i64 j, .int .i64 tt9, .string (bs nm), .string (bs rb), .string (bs ra), .int .i64 rn] 62)).drew).cell? ((⟨W3.heap.size, 0, none⟩ : Addr).add k) = some u := cells_new W3 (tcells [(⟨kd, j, tt9, nm, rb, ra, rn⟩ : Tr)]) 62
  have t4 : w0.heap.size ≤ ((W3.alloc (.cells #[.int .i64 kd, .int .i64 j, .int .i64 tt9, .string (bs nm), .string (bs rb), .string (bs ra), .int .i64 rn] 62)).drew).heap.size := Nat.le_trans hbz.size (box_b W3 _).size
  have t5 : c.trans.length + 1 ≤ maxLen := by unfold maxLen; omega
  have t6 : (c.trans.length + 1) * 80 ≤ 140737488355328 := by omega
  go_upto_region 9 with (go_at_call 120; refine (SY.out _).mono ?_; rintro e w5 ⟨rfl, rfl⟩)
  clear SY hc3 q4 hgl hji hj
  have hrl3 : W.heap.size < W3.heap.size := (Array.getElem?_eq_some_iff.1 R03).1
  have hbg : b ≠ W.heap.size := by have := RB3.lt; omega
  have r0 : ∀ X : World, X.heap[W.heap.size]? = some (.cells #[.int .i64 kd, .string (bs nm), .slice A n9 c9, .int .i64 rn, .int .i64 rm, .string (bs rf), .string (bs rt), .string (bs rb), .string (bs ra), .string (bs ri), .int .i64 ln] 28 (0, 0)) → X.cell? ⟨W.heap.size, 0, none⟩ = some (.int .i64 kd) ∧ X.cell? ⟨W.heap.size, 1, none⟩ = some (.string (bs nm)) ∧ X.cell? ⟨W.heap.size, 3, none⟩ = some (.int .i64 rn) ∧ X.cell? ⟨W.heap.size, 7, none⟩ = some (.string (bs rb)) ∧ X.cell? ⟨W.heap.size, 8, none⟩ = some (.string (bs ra)) := fun X h => ⟨row_q0 h, row_q1 h, row_q3 h, row_q7 h, row_q8 h⟩
  refine wp_region_held_drew (S := fun w' => w'.cell? ⟨W.heap.size, 0, none⟩ = some (.int .i64 kd) ∧ w'.cell? ⟨W.heap.size, 1, none⟩ = some (.string (bs nm)) ∧ w'.cell? ⟨W.heap.size, 3, none⟩ = some (.int .i64 rn) ∧ w'.cell? ⟨W.heap.size, 7, none⟩ = some (.string (bs rb)) ∧ w'.cell? ⟨W.heap.size, 8, none⟩ = some (.string (bs ra))) (by kernel_rfl) ⟨p0, p1, p3, p7, p8⟩ (fun hHeld => ?_)
  refine wpAnyH_take (i := 0) (v := ?_) rfl (by kernel_rfl) (by kernel_rfl) (by kernel_rfl) (fun _ _ _ h => h) (Or.inl ⟨by rfl, ?_⟩) hHeld ?_
  rotate_left
  · intro w hSw
    (try dsimp only at hSw)
    go_simp
    (try with_reducible rfl)
  rotate_left
  (try simp only [Act.put, List.setIfInBounds_toArray, List.set_cons_zero, List.set_cons_succ])
  refine wpAnyH_take (i := 1) (v := ?_) rfl (by kernel_rfl) (by kernel_rfl) (by kernel_rfl) (fun _ _ _ h => h) (Or.inl ⟨by rfl, ?_⟩) hHeld ?_
  rotate_left
  · intro w hSw
    (try dsimp only at hSw)
    go_simp
    (try with_reducible rfl)
  rotate_left
  (try simp only [Act.put, List.setIfInBounds_toArray, List.set_cons_zero, List.set_cons_succ])
  refine wpAnyH_take (i := 2) (v := ?_) rfl (by kernel_rfl) (by kernel_rfl) (by kernel_rfl) (fun _ _ _ h => h) (Or.inl ⟨by rfl, ?_⟩) hHeld ?_
  rotate_left
  · intro w hSw
    (try dsimp only at hSw)
    go_simp
    (try with_reducible rfl)
  rotate_left
  (try simp only [Act.put, List.setIfInBounds_toArray, List.set_cons_zero, List.set_cons_succ])
  refine wpAnyH_take (i := 3) (v := ?_) rfl (by kernel_rfl) (by kernel_rfl) (by kernel_rfl) (fun _ _ _ h => h) (Or.inl ⟨by rfl, ?_⟩) hHeld ?_
  rotate_left
  · intro w hSw
    (try dsimp only at hSw)
    go_simp
    (try with_reducible rfl)
  rotate_left
  (try simp only [Act.put, List.setIfInBounds_toArray, List.set_cons_zero, List.set_cons_succ])
  refine wpAnyH_take (i := 5) (v := ?_) rfl (by kernel_rfl) (by kernel_rfl) (by kernel_rfl) (fun _ _ _ h => h) (Or.inl ⟨by rfl, ?_⟩) hHeld ?_
  rotate_left
  · intro w hSw
    (try dsimp only at hSw)
    go_simp
    (try with_reducible rfl)
  rotate_left
  (try simp only [Act.put, List.setIfInBounds_toArray, List.set_cons_zero, List.set_cons_succ])
  refine wpAnyH_take (i := 6) (v := ?_) rfl (by kernel_rfl) (by kernel_rfl) (by kernel_rfl) (fun _ _ _ h => h) (Or.inl ⟨by rfl, ?_⟩) hHeld ?_
  rotate_left
  · intro w hSw
    (try dsimp only at hSw)
    go_simp
    (try with_reducible rfl)
  rotate_left
  (try simp only [Act.put, List.setIfInBounds_toArray, List.set_cons_zero, List.set_cons_succ])
  refine wpAnyH_take (i := 7) (v := ?_) rfl (by kernel_rfl) (by kernel_rfl) (by kernel_rfl) (fun _ _ _ h => h) (Or.inl ⟨by rfl, ?_⟩) hHeld ?_
  rotate_left
  · intro w hSw
    (try dsimp only at hSw)
    go_simp
    (try with_reducible rfl)
  rotate_left
  (try simp only [Act.put, List.setIfInBounds_toArray, List.set_cons_zero, List.set_cons_succ])
  refine wpAnyH_take (i := 8) (v := ?_) rfl (by kernel_rfl) (by kernel_rfl) (by kernel_rfl) (fun _ _ _ h => h) (Or.inl ⟨by rfl, ?_⟩) hHeld ?_
  rotate_left
  · intro w hSw
    (try dsimp only at hSw)
    go_simp
    (try with_reducible rfl)
  rotate_left
  (try simp only [Act.put, List.setIfInBounds_toArray, List.set_cons_zero, List.set_cons_succ])
  refine wpAnyH_take (i := 9) (v := ?_) rfl (by kernel_rfl) (by kernel_rfl) (by kernel_rfl) (fun _ _ _ h => h) (Or.inl ⟨by rfl, ?_⟩) hHeld ?_
  rotate_left
  · intro w hSw
    (try dsimp only at hSw)
    go_simp
    (try with_reducible rfl)
  rotate_left
  (try simp only [Act.put, List.setIfInBounds_toArray, List.set_cons_zero, List.set_cons_succ])
  refine wpAnyH_take (i := 10) (v := ?_) rfl (by kernel_rfl) (by kernel_rfl) (by kernel_rfl) (fun _ _ _ h => h) (Or.inl ⟨by rfl, ?_⟩) hHeld ?_
  rotate_left
  · intro w hSw
    (try dsimp only at hSw)
    go_simp
    (try with_reducible rfl)
  rotate_left
  (try simp only [Act.put, List.setIfInBounds_toArray, List.set_cons_zero, List.set_cons_succ])
  refine wpAnyH_take (i := 11) (v := ?_) rfl (by kernel_rfl) (by kernel_rfl) (by kernel_rfl) (fun _ _ _ h => h) (Or.inl ⟨by rfl, ?_⟩) hHeld ?_
  rotate_left
  · intro w hSw
    (try dsimp only at hSw)
    go_simp
    (try with_reducible rfl)
  rotate_left
  (try simp only [Act.put, List.setIfInBounds_toArray, List.set_cons_zero, List.set_cons_succ])
  refine wpAnyH_take (i := 12) (v := ?_) rfl (by kernel_rfl) (by kernel_rfl) (by kernel_rfl) (fun _ _ _ h => h) (Or.inl ⟨by rfl, ?_⟩) hHeld ?_
  rotate_left
  · intro w hSw
    (try dsimp only at hSw)
    go_simp
    (try with_reducible rfl)
  rotate_left
  (try simp only [Act.put, List.setIfInBounds_toArray, List.set_cons_zero, List.set_cons_succ])
  refine wpAnyH_take (i := 13) (v := ?_) rfl (by kernel_rfl) (by kernel_rfl) (by kernel_rfl) (fun _ _ _ h => h) (Or.inl ⟨by rfl, ?_⟩) hHeld ?_
  rotate_left
  · intro w hSw
    (try dsimp only at hSw)
    go_simp
    (try with_reducible rfl)
  rotate_left
  (try simp only [Act.put, List.setIfInBounds_toArray, List.set_cons_zero, List.set_cons_succ])
  refine wpAnyH_take (i := 14) (v := ?_) rfl (by kernel_rfl) (by kernel_rfl) (by kernel_rfl) (fun _ _ _ h => h) (Or.inl ⟨by rfl, ?_⟩) hHeld ?_
  rotate_left
  · intro w hSw
    (try dsimp only at hSw)
    go_simp
    (try with_reducible rfl)
  rotate_left
  (try simp only [Act.put, List.setIfInBounds_toArray, List.set_cons_zero, List.set_cons_succ])
  refine wpAnyH_take (i := 15) (v := ?_) rfl (by kernel_rfl) (by kernel_rfl) (by kernel_rfl) (fun _ _ _ h => h) (Or.inl ⟨by rfl, ?_⟩) hHeld ?_
  rotate_left
  · intro w hSw
    (try dsimp only at hSw)
    go_simp
    (try with_reducible rfl)
  rotate_left
  (try simp only [Act.put, List.setIfInBounds_toArray, List.set_cons_zero, List.set_cons_succ])
  refine wpAnyH_take (i := 16) (v := ?_) rfl (by kernel_rfl) (by kernel_rfl) (by kernel_rfl) (fun _ _ _ h => h) (Or.inl ⟨by rfl, ?_⟩) hHeld ?_
  rotate_left
  · intro w hSw
    (try dsimp only at hSw)
    go_simp
    (try with_reducible rfl)
  rotate_left
  (try simp only [Act.put, List.setIfInBounds_toArray, List.set_cons_zero, List.set_cons_succ])
  refine wpAnyH_take (i := 17) (v := ?_) rfl (by kernel_rfl) (by kernel_rfl) (by kernel_rfl) (fun _ _ _ h => h) (Or.inl ⟨by rfl, ?_⟩) hHeld ?_
  rotate_left
  · intro w hSw
    (try dsimp only at hSw)
    go_simp
    (try with_reducible rfl)
  rotate_left
  (try simp only [Act.put, List.setIfInBounds_toArray, List.set_cons_zero, List.set_cons_succ])
  refine wpAnyH_ready (rs := [4, 18]) (by kernel_rfl) (by simp) ?_
  refine AllReadyH.cons rfl (fun K hK => ?_) (AllReadyH.cons rfl (fun K hK => ?_) AllReadyH.nil)
  · go_simp
    refine hK.out _ _ ⟨p0, p1, p3, p7, p8⟩ (fun hHeld => ?_)
    clear hK K
    refine wpAnyH_ready (rs := [18]) (by kernel_rfl) (by simp) ?_
    refine AllReadyH.cons rfl (fun K hK => ?_) AllReadyH.nil
    go_simp
    refine hK.out _ _ (r0 _ ((heap_alloc_old W3 _ hrl3).trans R03)) (fun hHeld => ?_)
    clear hK K
    refine wpAnyH_ready (rs := [19]) (by kernel_rfl) (by simp) ?_
    refine AllReadyH.cons rfl (fun K hK => ?_) AllReadyH.nil
    refine step_append_lies _ rfl (.tmp 51) (.tmp 65) 48 rfl w0.heap.size 62 i0 _ 7 80 Tryz.underlying48 hi hz0 hz1 hz2 rfl (by decide) (.slice AT c.trans.length cT) c.trans.length (tcells c.trans) (by simp [Act.eval]) t1 ⟨W3.heap.size, 0, none⟩ 1 1 (tcells [(⟨kd, j, tt9, nm, rb, ra, rn⟩ : Tr)]) (by simp [Act.eval]) rfl t3 (t_one _) (by decide) t5 t6 t4 _ rfl ?_; intro g1 cp1 X1 hown1 hg1 hat1 hlt1
    have hg9 : W3.grownBy X1 (Value.ownBlock (.slice AT c.trans.length cT)) := grown_new hg1
    have hr9 := RB3.row1 hg9 (own_row_ne RB3.oT RB3.row (by decide))
    have z1 : X1.frozen? ⟨b, 3, none⟩ = false := by simp [World.frozen?, hr9]
    have z2 := cell_of_row X1 b 3 _ _ _ hr9
    have R05 := (hg9.block W.heap.size hrl3 (fun e => own_row_ne RB3.oT R03 (by decide) e.symm)).trans R03
    have R06 := ru_keep (b := b) (j := 3) (v := .slice (some ⟨g1, 0, none⟩) (c.trans.length + 1) cp1) R03 hg9 (own_row_ne RB3.oT R03 (by decide)) hbg
    have RB5 := RB3.trans hg9 (ownT_snoc hown1)
    refine hK.out _ _ (r0 _ R05) (fun hHeld => ?_)
    clear hK K
    refine wpAnyH_take (i := 20) (v := ?_) rfl (by kernel_rfl) (by kernel_rfl) (by kernel_rfl) (fun _ _ _ h => h) (Or.inl ⟨by rfl, ?_⟩) hHeld ?_
    rotate_left
    · intro w hSw
      (try dsimp only at hSw)
      go_simp
      (try with_reducible rfl)
    rotate_left
    (try simp only [Act.put, List.setIfInBounds_toArray, List.set_cons_zero, List.set_cons_succ])
    refine wpAnyH_take (i := 21) (v := ?_) rfl (by kernel_rfl) (by kernel_rfl) (by kernel_rfl) (fun _ _ _ h => h) (Or.inl ⟨by rfl, ?_⟩) hHeld ?_
    rotate_left
    · intro w hSw
      (try dsimp only at hSw)
      go_simp
      (try with_reducible rfl)
    rotate_left
    (try simp only [Act.put, List.setIfInBounds_toArray, List.set_cons_zero, List.set_cons_succ])
    refine wpAnyH_ready (rs := [22]) (by kernel_rfl) (by simp) ?_
    refine AllReadyH.cons rfl (fun K hK => ?_) AllReadyH.nil
    go_simp
    refine hK.out _ _ (r0 _ R06) (fun hHeld => ?_)
    clear hK K
    refine wpAnyH_done (by kernel_rfl) ?_ _
    go_wp2
    go_ret
    exact .inl ⟨HE.out, rfl, _, _, _, _, HTA.out.symm ▸ RB5⟩
  · go_simp
    refine hK.out _ _ (r0 _ ((heap_alloc_old W3 _ hrl3).trans R03)) (fun hHeld => ?_)
    clear hK K
    refine wpAnyH_ready (rs := [4]) (by kernel_rfl) (by simp) ?_
    refine AllReadyH.cons rfl (fun K hK => ?_) AllReadyH.nil
    go_simp
    refine hK.out _ _ hHeld (fun hHeld => ?_)
    clear hK K
    refine wpAnyH_ready (rs := [19]) (by kernel_rfl) (by simp) ?_
    refine AllReadyH.cons rfl (fun K hK => ?_) AllReadyH.nil
    refine step_append_lies _ rfl (.tmp 51) (.tmp 65) 48 rfl w0.heap.size 62 i0 _ 7 80 Tryz.underlying48 hi hz0 hz1 hz2 rfl (by decide) (.slice AT c.trans.length cT) c.trans.length (tcells c.trans) (by simp [Act.eval]) t1 ⟨W3.heap.size, 0, none⟩ 1 1 (tcells [(⟨kd, j, tt9, nm, rb, ra, rn⟩ : Tr)]) (by simp [Act.eval]) rfl t3 (t_one _) (by decide) t5 t6 t4 _ rfl ?_; intro g1 cp1 X1 hown1 hg1 hat1 hlt1
    have hg9 : W3.grownBy X1 (Value.ownBlock (.slice AT c.trans.length cT)) := grown_new hg1
    have hr9 := RB3.row1 hg9 (own_row_ne RB3.oT RB3.row (by decide))
    have z1 : X1.frozen? ⟨b, 3, none⟩ = false := by simp [World.frozen?, hr9]
    have z2 := cell_of_row X1 b 3 _ _ _ hr9
    have R05 := (hg9.block W.heap.size hrl3 (fun e => own_row_ne RB3.oT R03 (by decide) e.symm)).trans R03
    have R06 := ru_keep (b := b) (j := 3) (v := .slice (some ⟨g1, 0, none⟩) (c.trans.length + 1) cp1) R03 hg9 (own_row_ne RB3.oT R03 (by decide)) hbg
    have RB5 := RB3.trans hg9 (ownT_snoc hown1)
    refine hK.out _ _ (r0 _ R05) (fun hHeld => ?_)
    clear hK K
    refine wpAnyH_take (i := 20) (v := ?_) rfl (by kernel_rfl) (by kernel_rfl) (by kernel_rfl) (fun _ _ _ h => h) (Or.inl ⟨by rfl, ?_⟩) hHeld ?_
    rotate_left
    · intro w hSw
      (try dsimp only at hSw)
      go_simp
      (try with_reducible rfl)
    rotate_left
    (try simp only [Act.put, List.setIfInBounds_toArray, List.set_cons_zero, List.set_cons_succ])
    refine wpAnyH_take (i := 21) (v := ?_) rfl (by kernel_rfl) (by kernel_rfl) (by kernel_rfl) (fun _ _ _ h => h) (Or.inl ⟨by rfl, ?_⟩) hHeld ?_
    rotate_left
    · intro w hSw
      (try dsimp only at hSw)
      go_simp
      (try with_reducible rfl)
    rotate_left
    (try simp only [Act.put, List.setIfInBounds_toArray, List.set_cons_zero, List.set_cons_succ])
    refine wpAnyH_ready (rs := [22]) (by kernel_rfl) (by simp) ?_
    refine AllReadyH.cons rfl (fun K hK => ?_) AllReadyH.nil
    go_simp
    refine hK.out _ _ (r0 _ R06) (fun hHeld => ?_)
    clear hK K
    refine wpAnyH_done (by kernel_rfl) ?_ _
    go_wp2
    go_ret
    exact .inl ⟨HE.out, rfl, _, _, _, _, HTA.out.symm ▸ RB5⟩
end Go.Proofs.YtnnmjmjbfeoggaaGreatDoor
namespace Go.Proofs.YtnnmjmjbfeoggaaGreatDoor
set_option maxRecDepth 100000
open Go.ChangeShapes Go.WideShapes Go.ChangeAt Go.RowKit

section
variable {w0 W : World} {b : Nat} {acc : List RL} {c : Ch} {vN vK vP vT vS : Value}
theorem tk_zero {c' : Ch} {err : Int} {e : Ending} {w' : World} (h : TkTo w0 W b acc c' vS err e w') (h0 : err = 0) : e = .returned .nilIface ∧ ∃ vN vK vP vT, BA w0 w' b acc c' vN vK vP vT vS := by
  rcases h with h | h
  · exact h.2
  · exact absurd h0 h.1
theorem tk_pos {c' : Ch} {err : Int} {e : Ending} {w' : World} (h : TkTo w0 W b acc c' vS err e w') (h0 : err ≠ 0) : e = .returned (.iface 36 (.int .i64 err)) ∧ Below W.heap.size W w' := by
  rcases h with h | h
  · exact absurd h.1 h0
  · exact h.2
theorem tk_on {c' : Ch} {err : Int} {e : Ending} {w' : World} (h0 : err = 0) (he : e = .returned .nilIface) (h : ∃ vN vK vP vT, BA w0 w' b acc c' vN vK vP vT vS) : TkTo w0 W b acc c' vS err e w' := .inl ⟨h0, he, h⟩
set_option maxHeartbeats 4000000 in
theorem takeR_any (R : BA w0 W b acc c vN vK vP vT vS) (hf : ChF c) (hi : ChI c) (ha : acc.length ≤ 1000) (r : Ru) (A : Option Addr) (n9 c9 : Nat) (ln : Int) (hn : (Lit.int .i64 r.n).wf = true) :
    Calls Tryz.prog 66 #[.pointer (some ⟨b, 0, none⟩), ruV r (.slice A n9 c9) ln] W (TkTo w0 W b acc (takeC (acc.map er) c r) vS (takeE (acc.map er) c r)) := by
  have RB := R.below (box_b W (.cells #[.int .i64 r.kind, .string (bs r.name), .slice A n9 c9, .int .i64 r.n, .int .i64 r.m, .string (bs r.from_), .string (bs r.to_), .string (bs r.by_), .string (bs r.task), .string (bs r.in_), .int .i64 ln] 28))
  have HW := Lib.hid (box_b W (.cells #[.int .i64 r.kind, .string (bs r.name), .slice A n9 c9, .int .i64 r.n, .int .i64 r.m, .string (bs r.from_), .string (bs r.to_), .string (bs r.by_), .string (bs r.task), .string (bs r.in_), .int .i64 ln] 28))
  have TS := Lib.hid (takeState_any RB hf hi r A n9 c9 ln hn)
  have TT := Lib.hid (takeTrans_any RB hf ha r A n9 c9 ln)
  have HE1 : Hid (takeE (acc.map er) c r = if r.kind = 8 then stErr c r else if isTr r then trErr (acc.map er) c r else 0) := rfl
  have HC1 : Hid (takeC (acc.map er) c r = if r.kind = 8 then stAdd c r else if isTr r then trAdd (acc.map er) c r else c) := rfl
  have HT1 : Hid (isTr r ↔ (r.kind = 9 ∨ r.kind = 10 ∨ r.kind = 11)) := Iff.rfl
  generalize stErr c r = e1 at *
  generalize trErr (acc.map er) c r = e2 at *
  generalize takeE (acc.map er) c r = e3 at *
  generalize takeC (acc.map er) c r = c3 at *
  generalize stAdd c r = c1 at *
  generalize trAdd (acc.map er) c r = c2 at *
  obtain ⟨kd, nm, l, rn, rm, rf, rt, rb, ra, ri⟩ := r
  simp only at hn
  dsimp only [ruV] at TS TT ⊢
  have R0 := heap_alloc_new W (.cells #[.int .i64 kd, .string (bs nm), .slice A n9 c9, .int .i64 rn, .int .i64 rm, .string (bs rf), .string (bs rt), .string (bs rb), .string (bs ra), .string (bs ri), .int .i64 ln] 28)
  have p0 := row_q0 R0; have p1 := row_q1 R0; have p2 := row_q2 R0; have p3 := row_q3 R0; have p4 := row_q4 R0; have p5 := row_q5 R0; have p6 := row_q6 R0; have p7 := row_q7 R0; have p8 := row_q8 R0; have p9 := row_q9 R0; have p10 := row_q10 R0
  clear R0 R hf hi
  by_cases h8 : kd = 8
  · have HE : Hid (e3 = e1) := by show _ = _; rw [HE1.out, if_pos h8]
    have HC : Hid (c3 = c1) := by show _ = _; rw [HC1.out, if_pos h8]
    clear HE1 HC1 HT1 TT RB
    subst h8
    by_cases h0 : e1 = 0
    · have TZ := Lib.hid (TS.out.mono fun e w' h => tk_zero h h0)
      have H0 := Lib.hid h0
      clear h0 TS
      go_enter Tryz.func66, Tryz.ntmps66
      go_wp2_with (go_at_call 111; refine TZ.out.mono ?_; rintro e w2 ⟨rfl, h2⟩)
      go_ret
      exact tk_on (HE.out.trans H0.out) rfl (HC.out.symm ▸ h2)
    · have TZ := Lib.hid (TS.out.mono fun e w' h => tk_pos h h0)
      have H0 := Lib.hid h0
      clear h0 TS
      go_enter Tryz.func66, Tryz.ntmps66
      go_wp2_with (go_at_call 111; refine TZ.out.mono ?_; rintro e w2 ⟨rfl, h2⟩)
      go_ret
      exact tkTo_no HE.out H0.out (below_then HW.out h2 HW.out.size)
  have g8 : (kd == 8) = false := beq_eq_false_iff_ne.2 h8
  by_cases ht : kd = 9 ∨ kd = 10 ∨ kd = 11
  · have HE : Hid (e3 = e2) := by show _ = _; rw [HE1.out, if_neg h8, if_pos (HT1.out.2 ht)]
    have HC : Hid (c3 = c2) := by show _ = _; rw [HC1.out, if_neg h8, if_pos (HT1.out.2 ht)]
    clear HE1 HC1 HT1 TS RB h8
    by_cases h0 : e2 = 0
    · have TZ := Lib.hid (TT.out.mono fun e w' h => tk_zero h h0)
      have H0 := Lib.hid h0
      clear h0 TT
      rcases ht with rfl | rfl | rfl
      all_goals
        go_enter Tryz.func66, Tryz.ntmps66
        go_wp2_with (go_at_call 112; refine TZ.out.mono ?_; rintro e w2 ⟨rfl, h2⟩)
        go_ret
        exact tk_on (HE.out.trans H0.out) rfl (HC.out.symm ▸ h2)
    · have TZ := Lib.hid (TT.out.mono fun e w' h => tk_pos h h0)
      have H0 := Lib.hid h0
      clear h0 TT
      rcases ht with rfl | rfl | rfl
      all_goals
        go_enter Tryz.func66, Tryz.ntmps66
        go_wp2_with (go_at_call 112; refine TZ.out.mono ?_; rintro e w2 ⟨rfl, h2⟩)
        go_ret
        exact tkTo_no HE.out H0.out (below_then HW.out h2 HW.out.size)
  · have HE : Hid (e3 = 0) := by show _ = _; rw [HE1.out, if_neg h8, if_neg (fun h => ht (HT1.out.1 h))]
    have HC : Hid (c3 = c) := by show _ = _; rw [HC1.out, if_neg h8, if_neg (fun h => ht (HT1.out.1 h))]
    have g9 : (kd == 9) = false := beq_eq_false_iff_ne.2 fun e => ht (.inl e)
    have g10 : (kd == 10) = false := beq_eq_false_iff_ne.2 fun e => ht (.inr (.inl e))
    have g11 : (kd == 11) = false := beq_eq_false_iff_ne.2 fun e => ht (.inr (.inr e))
    have HR := Lib.hid RB
    clear HE1 HC1 HT1 TS TT h8 ht RB
    go_enter Tryz.func66, Tryz.ntmps66
    go_wp2
    go_ret
    exact tk_on HE.out rfl (HC.out.symm ▸ ⟨_, _, _, _, HR.out⟩)
end
end Go.Proofs.YtnnmjmjbfeoggaaGreatDoor
namespace Go.Proofs.YtnnmjmjbfeoggaaGreatDoor
set_option maxRecDepth 100000
open Go.ChangeShapes Go.WideShapes Go.ChangeAt Go.RowKit

theorem run_cellT {P : Program} {fn : Func} {p u : Tmp} {ty : TypeId} (h : fn.results = #[.cell p ty, .tmp u]) (tmps : Array Value) (w : World) (g : Nat) (t : TypeId) (cs : Array Value) (fr : Nat × Nat) (d : TypeDesc)
    (hp : tmps.getD p undef = .pointer (some ⟨g, 0, none⟩)) (hg : w.heap[g]? = some (.cells cs t fr))
    (hu : P.underlying ty = some d) (hd : (match d with | .struct _ | .array _ _ => true | _ => false) = true) (hi : (P.info? ty).map (·.size) = some cs.size) :
    (results fn tmps).run P w = .ok (.tuple #[.agg cs, tmps.getD u undef]) w := by
  have hp' : tmps[p]?.getD undef = .pointer (some ⟨g, 0, none⟩) := by simpa using hp
  simp [results, h, hp', asAddr, run_loadVar_row w g t ty cs fr d hg hu hd hi]
abbrev chZ : Value := .agg #[.slice none 0 0, .slice none 0 0, .slice none 0 0, .slice none 0 0]
/-- four cells of a chart, stored one by one -/
theorem ch_tell {W : World} {t : Nat} {a0 a1 a2 a3 : Value} (b0 b1 b2 b3 : Value) (R : W.heap[t]? = some (.cells #[a0, a1, a2, a3] 50 (0, 0))) :
    ((((W.setCell ⟨t, 0, none⟩ b0).setCell ⟨t, 1, none⟩ b1).setCell ⟨t, 2, none⟩ b2).setCell ⟨t, 3, none⟩ b3).heap[t]? = some (.cells #[b0, b1, b2, b3] 50 (0, 0)) ∧
    W.grownBy ((((W.setCell ⟨t, 0, none⟩ b0).setCell ⟨t, 1, none⟩ b1).setCell ⟨t, 2, none⟩ b2).setCell ⟨t, 3, none⟩ b3) (some t) := by
  have e := heap_set (j := 3) (heap_set (j := 2) (heap_set (j := 1) (heap_set (j := 0) R b0) b1) b2) b3
  exact ⟨by simpa using e, World.grownBy.trans (World.grownBy.trans (World.grownBy.trans (grown_setCell _ _ _ _) (grown_setCell _ _ _ _)) (grown_setCell _ _ _ _)) (grown_setCell _ _ _ _)⟩
theorem fz_of {W : World} {t : Nat} {cs : Array Value} {ty : TypeId} (R : W.heap[t]? = some (.cells cs ty (0, 0))) (j : Nat) : W.frozen? ⟨t, j, none⟩ = false := by simp [World.frozen?, R]
/-- a chart in memory of the call's own -/
structure ChAt (base : Nat) (W : World) (c : Ch) (vN vK vP vT : Value) : Prop where
  oN : OwnL W base vN c.names
  oK : OwnI W base vK c.kinds
  oP : OwnI W base vP c.parents
  ap : ∀ g, vK.ownBlock = some g → vP.ownBlock = some g → False
  oT : OwnT W base vT c.trans
theorem takeL_zero {sts : List (Ru × Nat)} {x : Ru × Nat} {l : List (Ru × Nat)} {c : Ch} (h : takeE sts c x.1 = 0) : takeL sts (x :: l) c = takeL sts l (takeC sts c x.1) := by rw [takeL, if_pos h]
theorem takeL_pos {sts : List (Ru × Nat)} {x : Ru × Nat} {l : List (Ru × Nat)} {c : Ch} (h : takeE sts c x.1 ≠ 0) : takeL sts (x :: l) c = .bad x.2 (takeE sts c x.1) := by rw [takeL, if_neg h]
theorem chI_take {sts : List (Ru × Nat)} {c : Ch} {r : Ru} (hf : ChF c) (hi : ChI c) (hn : (Lit.int .i64 r.n).wf = true) : ChI (takeC sts c r) := by
  unfold takeC
  split
  · refine ⟨fun x hx => ?_, fun x hx => ?_⟩
    · rcases List.mem_append.1 hx with h | h
      · exact hi.1 x h
      · rw [List.mem_singleton.1 h]; exact hn
    · rcases List.mem_append.1 hx with h | h
      · exact hi.2 x h
      · rw [List.mem_singleton.1 h]
        have := idxI_lt c.names r.in_
        have := hf.nl
        exact WalkArith.wf_i64 (by omega)
  · split
    · exact hi
    · exact hi
noncomputable def compR (l : List (Ru × Nat)) : ChR := by classical exact if ∀ x ∈ l, printP x.1 ≠ none then compL l else .arg
theorem compR_ok {l : List (Ru × Nat)} (h : ∀ x ∈ l, printP x.1 ≠ none) : compR l = compL l := by unfold compR; rw [if_pos h]
theorem compR_no {l : List (Ru × Nat)} {x : Ru × Nat} (hx : x ∈ l) (h : printP x.1 = none) : compR l = .arg := by unfold compR; rw [if_neg fun h9 => h9 x hx h]
def FltTo (ln k : Int) (cl : Int) (w : World) (e : Ending) (w' : World) : Prop := ∃ b, e = .returned (.tuple #[chZ, .iface 124 (.pointer (some ⟨b, 0, none⟩))]) ∧ w.heap.size ≤ b ∧ b < w'.heap.size ∧ FaultAt w' b ln cl k
def CompTo (p : ChR) (w : World) (e : Ending) (w' : World) : Prop := Below w.heap.size w w' ∧ match p with
  | .arg => e = .returned (.tuple #[chZ, .iface 36 (.int .i64 1)])
  | .bad ln k => FltTo ln k 1 w e w'
  | .none => FltTo 0 3 0 w e w'
  | .ok c => (∃ vN vK vP vT, e = .returned (.tuple #[.agg #[vN, vK, vP, vT], .nilIface]) ∧ ChAt w.heap.size w' c vN vK vP vT) ∧ ChF c ∧ ChI c
set_option maxHeartbeats 8000000 in
theorem Compile_any (acc : List RL) (A : Option Addr) (cap : Nat) (w : World) (hR : RIn w A acc) (ha : acc.length ≤ 1000) (hac : acc.length ≤ cap) (hsm : ∀ x ∈ acc, Small x.1) (hll : ∀ x ∈ acc, x.1.list.length ≤ 1000000)
    (hli : ∀ x ∈ acc, ∀ B c, x.2.2 = .slice B x.1.list.length c → LIn w B c x.1.list) (hg : HandleAt w) (ht : TabAt w) :
    Calls Tryz.prog 27 #[.slice A acc.length cap] w (CompTo (compR (acc.map er)) w) := by
  have HR := Lib.hid hR
  have HS := Lib.hid hsm
  have HI := Lib.hid hli
  have HH := Lib.hid hg
  have HT := Lib.hid ht
  have HLL := Lib.hid hll
  clear hR hsm hli hg ht hll
  have RC := heap_alloc_new w (.cells #[.slice none 0 0, .slice none 0 0, .slice none 0 0, .slice none 0 0] 50)
  have hb0 := box_b w (.cells #[.slice none 0 0, .slice none 0 0, .slice none 0 0, .slice none 0 0] 50)
  have hs0 : (w.alloc (.cells #[.slice none 0 0, .slice none 0 0, .slice none 0 0, .slice none 0 0] 50)).heap.size = w.heap.size + 1 := by simp
  have HB0 := Lib.hid hb0
  have HRC := Lib.hid RC
  clear hb0 RC
  go_enter Tryz.func27, Tryz.ntmps27
  go_upto_region 2 with fail
  generalize w.alloc (.cells #[.slice none 0 0, .slice none 0 0, .slice none 0 0, .slice none 0 0] 50) = w1 at *
  go_loopw [14] (fun i wr => ∃ k : Nat, k ≤ acc.length ∧ i = .int .i64 k ∧ Hid (∀ x ∈ (acc.take k).map er, printP x.1 ≠ none) ∧ Below w1.heap.size w1 wr) (fun i _ => acc.length - (intOf i).toNat)
  case atStart => exact ⟨0, Nat.zero_le _, rfl, (fun x hx => by simp at hx), Below.refl _ _⟩
  case round =>
    obtain ⟨k, hk, rfl, HP, hbw⟩ := hrel
    by_cases hlt : k < acc.length
    · obtain ⟨g, rfl, hgl, hc, B, c2, e2, hL⟩ := HR.out k hlt
      have hb1 : Below w.heap.size w wr := below_then HB0.out hbw HB0.out.size
      have hsk := HS.out _ (List.getElem_mem hlt)
      have hLI := (HI.out _ (List.getElem_mem hlt) B c2 e2).below hb1
      have hsn : (acc.take (k + 1)).map er = (acc.take k).map er ++ [er acc[k]] := by rw [List.take_succ_eq_append_getElem hlt, List.map_append]; rfl
      have hmem : er acc[k] ∈ acc.map er := List.mem_map_of_mem (List.getElem_mem hlt)
      have HSN := Lib.hid hsn
      have HME := Lib.hid hmem
      have hbz := hbw.size
      have q := fun f u hf hu => (hb1.cell (p := ⟨g, k * 11 + f, none⟩) hgl).trans (hc f u hf hu)
      clear hc hsn hmem hL
      generalize acc[k] = x at *
      obtain ⟨⟨kd, nm, l, rn, rm, rf, rt, rb, ra, ri⟩, ln, L⟩ := x
      obtain rfl : L = .slice B l.length c2 := e2
      simp only at hLI hsk
      have q0 := q 0 _ (by omega) rfl; have q1 := q 1 _ (by omega) rfl; have q2 := q 2 _ (by omega) rfl; have q3 := q 3 _ (by omega) rfl; have q4 := q 4 _ (by omega) rfl; have q5 := q 5 _ (by omega) rfl; have q6 := q 6 _ (by omega) rfl; have q7 := q 7 _ (by omega) rfl; have q8 := q 8 _ (by omega) rfl; have q9 := q 9 _ (by omega) rfl; have q10 := q 10 _ (by omega) rfl
      simp only [Nat.add_zero] at q0
      clear q
      have hbx := box_b wr (.cells #[.int .i64 kd, .string (bs nm), .slice B l.length c2, .int .i64 rn, .int .i64 rm, .string (bs rf), .string (bs rt), .string (bs rb), .string (bs ra), .string (bs ri), .int .i64 ln] 28)
      have PI := Lib.hid (print_in ⟨kd, nm, l, rn, rm, rf, rt, rb, ra, ri⟩ B c2 ln (wr.alloc (.cells #[.int .i64 kd, .string (bs nm), .slice B l.length c2, .int .i64 rn, .int .i64 rm, .string (bs rf), .string (bs rt), .string (bs rb), .string (bs ra), .string (bs ri), .int .i64 ln] 28)) (hLI.below hbx) hsk.1 hsk.2.1 hsk.2.2 ((HH.out.below' hb1).below' hbx) ((HT.out.below hb1).below hbx))
      have R0 := heap_alloc_new wr (.cells #[.int .i64 kd, .string (bs nm), .slice B l.length c2, .int .i64 rn, .int .i64 rm, .string (bs rf), .string (bs rt), .string (bs rb), .string (bs ra), .string (bs ri), .int .i64 ln] 28)
      have p0 := row_q0 R0; have p1 := row_q1 R0; have p2 := row_q2 R0; have p3 := row_q3 R0; have p4 := row_q4 R0; have p5 := row_q5 R0; have p6 := row_q6 R0; have p7 := row_q7 R0; have p8 := row_q8 R0; have p9 := row_q9 R0; have p10 := row_q10 R0
      have HBX := Lib.hid (below_then hbw hbx hbz)
      dsimp only [ruV] at PI
      clear hsk hLI hb1 R0 hbx
      cases hp : printP ⟨kd, nm, l, rn, rm, rf, rt, rb, ra, ri⟩ with
      | none =>
        have HE : Hid (compR (acc.map er) = .arg) := compR_no HME.out hp
        rw [hp] at PI
        clear hp HSN HME HP
        go_wp2_with (go_at_call 42; refine PI.out.mono ?_; rintro e w2 ⟨hb2, rfl⟩; have HB2 := Lib.hid (below_then HBX.out hb2 HBX.out.size); have RZ := (HB2.out.block _ (Array.getElem?_eq_some_iff.1 HRC.out).1).trans HRC.out; have c0 := cell_of_row w2 w.heap.size 0 _ _ _ RZ; have c1 := cell_of_row w2 w.heap.size 1 _ _ _ RZ; have c2 := cell_of_row w2 w.heap.size 2 _ _ _ RZ; have c3 := cell_of_row w2 w.heap.size 3 _ _ _ RZ; have f0 := fz_of RZ 0; have f1 := fz_of RZ 1; have f2 := fz_of RZ 2; have f3 := fz_of RZ 3)
        obtain ⟨h8, hg8⟩ := ch_tell (.slice none 0 0) (.slice none 0 0) (.slice none 0 0) (.slice none 0 0) RZ
        (try simp only [Exit.inBlock, Exit.then])
        refine bodyPost_ret (run_cellT rfl _ _ w.heap.size _ _ _ _ rfl h8 Tryz.underlying50 rfl (by kernel_rfl)) rfl ?_
        rw [HE.out]
        have hbz2 := below_then HB0.out HB2.out HB0.out.size
        exact ⟨hbz2.grown hg8 hbz2.size (fun g e => by cases e; exact Nat.le_refl _), rfl⟩
      | some t =>
        have HP2 : Hid (∀ x ∈ (acc.take (k + 1)).map er, printP x.1 ≠ none) := fun x hx => by
          rw [HSN.out, List.mem_append, List.mem_singleton] at hx
          rcases hx with hx | rfl
          · exact HP.out x hx
          · show printP ⟨kd, nm, l, rn, rm, rf, rt, rb, ra, ri⟩ ≠ none
            rw [hp]; simp
        rw [hp] at PI
        clear hp HSN HME HP
        go_wp2_with (go_at_call 42; refine PI.out.mono ?_; rintro e w2 ⟨hb2, rfl⟩)
        go_roundw
        case rel => exact ⟨k + 1, by omega, by go_num, HP2.out, below_then HBX.out hb2 HBX.out.size⟩
        case measure => simp [intOf]; omega
    · have HPA : Hid (compR (acc.map er) = compL (acc.map er)) := compR_ok (by have := HP.out; rwa [List.take_of_length_le (by omega)] at this)
      clear HP
      go_upto_region 8 with fail
      have hb1 : Below w.heap.size w wr := below_then HB0.out hbw HB0.out.size
      have hbk := box_b wr (.cells #[.int .i64 8] 3)
      have hb3 := below_then hb1 hbk hb1.size
      have OF := Lib.hid (Of_any6 acc A cap [8] (some ⟨wr.heap.size, 0, none⟩) 1 (wr.alloc (.cells #[.int .i64 8] 3)) (HR.out.below hb3) (fun j hj => by
        simp at hj
        subst hj
        exact ⟨_, rfl, by simp, by rw [cell_of_row _ _ _ _ _ _ (heap_alloc_new wr _)]; rfl⟩) (by decide) (by decide) ha hac HLL.out)
      have HBK := Lib.hid (below_then hbw hbk hbw.size)
      clear hb1 hbk hb3
      go_upto_region 9 with (go_at_call 18; refine OF.out.mono ?_; rintro e w2 ⟨vS, accS, rfl, hacs, hrows, hb2⟩; obtain ⟨AS, cS, rfl⟩ := own_slice hrows.1; have HB2 := Lib.hid (below_then HBK.out hb2 HBK.out.size); have HRO := Lib.hid hrows; have HAC := Lib.hid hacs; clear hb2 hrows hacs)
      have hws : (wr.alloc (.cells #[.int .i64 8] 3)).heap.size = wr.heap.size + 1 := by simp
      have hw1r := hbw.size
      have HSL : Hid (accS.map er = stsOf (acc.map er)) := HAC.out
      have hal : accS.length ≤ 1000 := by
        have h1 := congrArg List.length HAC.out
        have h2 := List.length_filter_le (kindIn [8]) (acc.map er)
        simp only [List.length_map] at h1 h2
        omega
      have hbn := box_b w2 (.cells #[.slice none 0 0, .slice none 0 0, .slice none 0 0, .slice none 0 0, .slice AS accS.length cS] 122)
      have hBA : BA w1 (w2.alloc (.cells #[.slice none 0 0, .slice none 0 0, .slice none 0 0, .slice none 0 0, .slice AS accS.length cS] 122)) w2.heap.size accS {} (.slice none 0 0) (.slice none 0 0) (.slice none 0 0) (.slice none 0 0) (.slice AS accS.length cS) :=
        ⟨heap_alloc_new _ _, HB2.out.size, World.ownsRow_nil _ _ _ _, World.ownsRow_nil _ _ _ _, World.ownsRow_nil _ _ _ _, fun g e => by simp [Value.ownBlock] at e, World.ownsRow_nil _ _ _ _,
          World.ownsRow.alloc (own_base HRO.out.1 (by omega)) _, fun x hx => by obtain ⟨B9, c9, e9⟩ := own_slice (HRO.out.2 x hx); exact ⟨B9, _, c9, e9⟩, below_then HB2.out hbn HB2.out.size⟩
      have HBA := Lib.hid hBA
      have hb2 : w2.heap.size < (w2.alloc (.cells #[.slice none 0 0, .slice none 0 0, .slice none 0 0, .slice none 0 0, .slice AS accS.length cS] 122)).heap.size := by simp
      clear hBA hbn HRO HAC HBK HB2 OF hws
      generalize w2.heap.size = b at *
      generalize w2.alloc (.cells #[.slice none 0 0, .slice none 0 0, .slice none 0 0, .slice none 0 0, .slice AS accS.length cS] 122) = w3 at *
      go_wp2
      go_loopw [34] (fun i wx => ∃ (k : Nat) (c : Ch) (vN vK vP vT : Value), k ≤ acc.length ∧ i = .int .i64 k ∧ Hid (compL (acc.map er) = takeL (stsOf (acc.map er)) ((acc.map er).drop k) c) ∧ Hid (ChF c) ∧ Hid (ChI c) ∧ Hid (BA w1 wx b accS c vN vK vP vT (.slice AS accS.length cS))) (fun i _ => acc.length - (intOf i).toNat)
      case atStart => exact ⟨0, {}, _, _, _, _, Nat.zero_le _, rfl, rfl, chF_nil, ⟨(fun x hx => by simp at hx), (fun x hx => by simp at hx)⟩, HBA.out⟩
      case round =>
        obtain ⟨k, c, vN, vK, vP, vT, hk, rfl, HP, HF, HCI, HA⟩ := hrel
        by_cases hlt : k < acc.length
        · have hbe := HA.out.be
          have hb1 : Below w.heap.size w wr := below_then HB0.out hbe HB0.out.size
          obtain ⟨g, rfl, hgl, hc, B, c2, e2, hL⟩ := HR.out k hlt
          have hsk := HS.out _ (List.getElem_mem hlt)
          have hdr : (acc.map er).drop k = er acc[k] :: (acc.map er).drop (k + 1) := by rw [List.drop_eq_getElem_cons (by simpa using hlt)]; simp
          have hpp := HP.out
          rw [hdr, ← HSL.out] at hpp
          have q := fun f u hf hu => (hb1.cell (p := ⟨g, k * 11 + f, none⟩) hgl).trans (hc f u hf hu)
          clear hc hL hdr
          generalize acc[k] = x at *
          obtain ⟨⟨kd, nm, l, rn, rm, rf, rt, rb, ra, ri⟩, ln, L⟩ := x
          obtain rfl : L = .slice B l.length c2 := e2
          simp only at hsk
          have q0 := q 0 _ (by omega) rfl; have q1 := q 1 _ (by omega) rfl; have q2 := q 2 _ (by omega) rfl; have q3 := q 3 _ (by omega) rfl; have q4 := q 4 _ (by omega) rfl; have q5 := q 5 _ (by omega) rfl; have q6 := q 6 _ (by omega) rfl; have q7 := q 7 _ (by omega) rfl; have q8 := q 8 _ (by omega) rfl; have q9 := q 9 _ (by omega) rfl; have q10 := q 10 _ (by omega) rfl
          simp only [Nat.add_zero] at q0
          clear q
          have hbx := box_b wr (.cells #[.int .i64 kd, .string (bs nm), .slice B l.length c2, .int .i64 rn, .int .i64 rm, .string (bs rf), .string (bs rt), .string (bs rb), .string (bs ra), .string (bs ri), .int .i64 ln] 28)
          have hwf : (Lit.int .i64 rn).wf = true := WalkArith.wf_i64 (by have := hsk.1; omega)
          have TK := takeR_any (HA.out.below hbx) HF.out HCI.out hal ⟨kd, nm, l, rn, rm, rf, rt, rb, ra, ri⟩ B l.length c2 ln hwf
          have HCN := Lib.hid (chI_take (sts := accS.map er) HF.out HCI.out (r := ⟨kd, nm, l, rn, rm, rf, rt, rb, ra, ri⟩) hwf)
          have HFN : Hid (takeE (accS.map er) c ⟨kd, nm, l, rn, rm, rf, rt, rb, ra, ri⟩ = 0 → ChF (takeC (accS.map er) c ⟨kd, nm, l, rn, rm, rf, rt, rb, ra, ri⟩)) := fun h => take_f HF.out h
          have R0 := heap_alloc_new wr (.cells #[.int .i64 kd, .string (bs nm), .slice B l.length c2, .int .i64 rn, .int .i64 rm, .string (bs rf), .string (bs rt), .string (bs rb), .string (bs ra), .string (bs ri), .int .i64 ln] 28)
          have p0 := row_q0 R0; have p1 := row_q1 R0; have p2 := row_q2 R0; have p3 := row_q3 R0; have p4 := row_q4 R0; have p5 := row_q5 R0; have p6 := row_q6 R0; have p7 := row_q7 R0; have p8 := row_q8 R0; have p9 := row_q9 R0; have p10 := row_q10 R0
          have HBX := Lib.hid (below_then hbe hbx hbe.size)
          have HR0 := Lib.hid R0
          have hxr : wr.heap.size < (wr.alloc (.cells #[.int .i64 kd, .string (bs nm), .slice B l.length c2, .int .i64 rn, .int .i64 rm, .string (bs rf), .string (bs rt), .string (bs rb), .string (bs ra), .string (bs ri), .int .i64 ln] 28)).heap.size := by simp
          have HP1 : Hid (takeE (accS.map er) c ⟨kd, nm, l, rn, rm, rf, rt, rb, ra, ri⟩ = 0 → compL (acc.map er) = takeL (accS.map er) ((acc.map er).drop (k + 1)) (takeC (accS.map er) c ⟨kd, nm, l, rn, rm, rf, rt, rb, ra, ri⟩)) := fun h => hpp.trans (takeL_zero h)
          have HP2 : Hid (takeE (accS.map er) c ⟨kd, nm, l, rn, rm, rf, rt, rb, ra, ri⟩ ≠ 0 → compL (acc.map er) = .bad ln (takeE (accS.map er) c ⟨kd, nm, l, rn, rm, rf, rt, rb, ra, ri⟩)) := fun h => hpp.trans (takeL_pos h)
          clear hpp
          dsimp only [ruV] at TK
          clear hsk hb1 R0 hbx hwf HP HF HCI HA
          generalize takeE (accS.map er) c ⟨kd, nm, l, rn, rm, rf, rt, rb, ra, ri⟩ = e9 at *
          generalize takeC (accS.map er) c ⟨kd, nm, l, rn, rm, rf, rt, rb, ra, ri⟩ = cn at *
          by_cases he : e9 = 0
          · have HPP : Hid (compL (acc.map er) = takeL (stsOf (acc.map er)) ((acc.map er).drop (k + 1)) cn) := by show _ = _; rw [HP1.out he, HSL.out]
            have HFF := Lib.hid (HFN.out he)
            have TZ := Lib.hid (TK.mono fun e w' h => tk_zero h he)
            clear he HP1 HP2 HFN TK
            go_wp2_with (go_at_call 66; refine TZ.out.mono ?_; rintro e w5 ⟨rfl, vN9, vK9, vP9, vT9, hba9⟩; have HBA9 := Lib.hid hba9; clear hba9)
            go_roundw
            case rel => exact ⟨k + 1, cn, vN9, vK9, vP9, vT9, by omega, by go_num, HPP.out, HFF.out, HCN.out, HBA9.out⟩
            case measure => simp [intOf]; omega
          · have HPP : Hid (compL (acc.map er) = .bad ln e9) := HP2.out he
            have TZ := Lib.hid (TK.mono fun e w' h => tk_pos h he)
            clear he HP1 HP2 HFN TK HCN
            go_wp2_with (go_at_call 66; refine TZ.out.mono ?_; rintro e w5 ⟨rfl, hb5⟩; have HB5 := Lib.hid (below_then HBX.out hb5 HBX.out.size); have RZ := (HB5.out.block _ (Array.getElem?_eq_some_iff.1 HRC.out).1).trans HRC.out; have p10 := row_q10 (row_below HR0.out hb5); have c0 := cell_of_row w5 w.heap.size 0 _ _ _ RZ; have c1 := cell_of_row w5 w.heap.size 1 _ _ _ RZ; have c2 := cell_of_row w5 w.heap.size 2 _ _ _ RZ; have c3 := cell_of_row w5 w.heap.size 3 _ _ _ RZ; have f0 := fz_of RZ 0; have f1 := fz_of RZ 1; have f2 := fz_of RZ 2; have f3 := fz_of RZ 3)
            have hrz : w.heap.size < w5.heap.size := (Array.getElem?_eq_some_iff.1 RZ).1
            go_region
            all_goals
              go_wp2
              obtain ⟨h8, hg8⟩ := ch_tell (.slice none 0 0) (.slice none 0 0) (.slice none 0 0) (.slice none 0 0) RZ
              have hXs : ((((w5.setCell ⟨w.heap.size, 0, none⟩ (.slice none 0 0)).setCell ⟨w.heap.size, 1, none⟩ (.slice none 0 0)).setCell ⟨w.heap.size, 2, none⟩ (.slice none 0 0)).setCell ⟨w.heap.size, 3, none⟩ (.slice none 0 0)).heap.size = w5.heap.size := by simp [World.setCell]
              generalize (((w5.setCell ⟨w.heap.size, 0, none⟩ (.slice none 0 0)).setCell ⟨w.heap.size, 1, none⟩ (.slice none 0 0)).setCell ⟨w.heap.size, 2, none⟩ (.slice none 0 0)).setCell ⟨w.heap.size, 3, none⟩ (.slice none 0 0) = X at *
              have hXl : w.heap.size < X.heap.size := by omega
              have h9 : ((X.alloc (.cells #[.int .i64 ln, .int .i64 1, .iface 36 (.int .i64 e9)] 126)).drew).heap[w.heap.size]? = some (.cells #[.slice none 0 0, .slice none 0 0, .slice none 0 0, .slice none 0 0] 50 (0, 0)) := (heap_alloc_old X _ hXl).trans h8
              have RF : ((X.alloc (.cells #[.int .i64 ln, .int .i64 1, .iface 36 (.int .i64 e9)] 126)).drew).heap[w5.heap.size]? = some (.cells #[.int .i64 ln, .int .i64 1, .iface 36 (.int .i64 e9)] 126 (0, 0)) := by have := heap_alloc_new X (.cells #[.int .i64 ln, .int .i64 1, .iface 36 (.int .i64 e9)] 126); rw [hXs] at this; exact this
              have hl5 := (Array.getElem?_eq_some_iff.1 RF).1
              (try simp only [Exit.inBlock, Exit.then])
              refine bodyPost_ret (run_cellT rfl _ _ w.heap.size _ _ _ _ rfl h9 Tryz.underlying50 rfl (by kernel_rfl)) rfl ?_
              have hbz5 := below_then HB0.out HB5.out HB0.out.size
              have hbzX := hbz5.grown hg8 hbz5.size (fun g e => by cases e; exact Nat.le_refl _)
              rw [HPA.out, HPP.out]
              exact ⟨below_drew (below_then hbzX (box_b X _) hbzX.size), w5.heap.size, rfl, Nat.le_of_lt hrz, hl5, by rw [cell_of_row _ _ _ _ _ _ RF]; rfl, by rw [cell_of_row _ _ _ _ _ _ RF]; rfl, by rw [cell_of_row _ _ _ _ _ _ RF]; rfl⟩
        · have hpp := HP.out
          rw [List.drop_of_length_le (by simp; omega), takeL] at hpp
          have hbe := HA.out.be
          obtain ⟨AN, cN, rfl⟩ := own_slice HA.out.oN
          obtain ⟨AK, cK, rfl⟩ := own_slice HA.out.oK
          obtain ⟨AP, cP, rfl⟩ := own_slice HA.out.oP
          obtain ⟨AT, cT, rfl⟩ := own_slice HA.out.oT
          have q0 := HA.out.q0; have q1 := HA.out.q1; have q2 := HA.out.q2; have q3 := HA.out.q3
          have hkl := HF.out.kl; have hpl := HF.out.pl; have hnl := HF.out.nl
          have VA := Lib.hid (Valid_any c.kinds c.parents AK AP c.kinds.length cK c.parents.length cP wr ⟨ints_of_own HA.out.oK HCI.out.1 (by omega), ints_of_own HA.out.oP HCI.out.2 (by omega)⟩ rfl rfl (by omega) (by omega))
          clear hkl hpl hnl
          have HBE := Lib.hid hbe
          have hbl := HA.out.lt
          have HQ : Hid (∀ X, Below wr.heap.size wr X → X.cell? ⟨b, 0, none⟩ = some (.slice AN c.names.length cN) ∧ X.cell? ⟨b, 1, none⟩ = some (.slice AK c.kinds.length cK) ∧ X.cell? ⟨b, 2, none⟩ = some (.slice AP c.parents.length cP) ∧ X.cell? ⟨b, 3, none⟩ = some (.slice AT c.trans.length cT)) := fun X hX =>
            ⟨(hX.cell (p := ⟨b, 0, none⟩) hbl).trans q0, (hX.cell (p := ⟨b, 1, none⟩) hbl).trans q1, (hX.cell (p := ⟨b, 2, none⟩) hbl).trans q2, (hX.cell (p := ⟨b, 3, none⟩) hbl).trans q3⟩
          clear hbe
          cases hv : valB c.kinds c.parents
          · have HPP : Hid (compL (acc.map er) = .none) := by show _ = _; rw [hpp, if_neg (by rw [hv]; decide)]
            rw [hv] at VA
            clear hv hpp HP
            go_wp2_with (go_at_call 53; refine VA.out.mono ?_; rintro e w5 ⟨rfl, hb5⟩; have HB5 := Lib.hid (below_then HBE.out hb5 HBE.out.size); have RZ0 := (HB5.out.block _ (Array.getElem?_eq_some_iff.1 HRC.out).1).trans HRC.out; have RZ := (heap_alloc_old w5 (.cells #[.int .i64 0, .int .i64 0, .iface 36 (.int .i64 3)] 126) (Array.getElem?_eq_some_iff.1 RZ0).1).trans RZ0; have c0 := cell_of_row (w5.alloc (.cells #[.int .i64 0, .int .i64 0, .iface 36 (.int .i64 3)] 126)) w.heap.size 0 _ _ _ RZ; have c1 := cell_of_row (w5.alloc (.cells #[.int .i64 0, .int .i64 0, .iface 36 (.int .i64 3)] 126)) w.heap.size 1 _ _ _ RZ; have c2 := cell_of_row (w5.alloc (.cells #[.int .i64 0, .int .i64 0, .iface 36 (.int .i64 3)] 126)) w.heap.size 2 _ _ _ RZ; have c3 := cell_of_row (w5.alloc (.cells #[.int .i64 0, .int .i64 0, .iface 36 (.int .i64 3)] 126)) w.heap.size 3 _ _ _ RZ; have f0 := fz_of RZ 0; have f1 := fz_of RZ 1; have f2 := fz_of RZ 2; have f3 := fz_of RZ 3)
            obtain ⟨h8, hg8⟩ := ch_tell (.slice none 0 0) (.slice none 0 0) (.slice none 0 0) (.slice none 0 0) RZ
            have RF := heap_alloc_new w5 (.cells #[.int .i64 0, .int .i64 0, .iface 36 (.int .i64 3)] 126)
            have hl5 := (Array.getElem?_eq_some_iff.1 RF).1
            have hrz : w.heap.size < w5.heap.size := (Array.getElem?_eq_some_iff.1 RZ0).1
            have RF2 := (hg8.block w5.heap.size hl5 (by simp; omega)).trans RF
            (try simp only [Exit.inBlock, Exit.then])
            refine bodyPost_ret (run_cellT rfl _ _ w.heap.size _ _ _ _ rfl h8 Tryz.underlying50 rfl (by kernel_rfl)) rfl ?_
            have hbz5 := below_then HB0.out HB5.out HB0.out.size
            have hbz6 := below_then hbz5 (box_b w5 (.cells #[.int .i64 0, .int .i64 0, .iface 36 (.int .i64 3)] 126)) hbz5.size
            rw [HPA.out, HPP.out]
            exact ⟨hbz6.grown hg8 hbz6.size (fun g e => by cases e; exact Nat.le_refl _), w5.heap.size, rfl, Nat.le_of_lt hrz, Nat.lt_of_lt_of_le hl5 hg8.size, by rw [cell_of_row _ _ _ _ _ _ RF2]; rfl, by rw [cell_of_row _ _ _ _ _ _ RF2]; rfl, by rw [cell_of_row _ _ _ _ _ _ RF2]; rfl⟩
          · have HPP : Hid (compL (acc.map er) = .ok c) := by show _ = _; rw [hpp, if_pos hv]
            rw [hv] at VA
            clear hv hpp HP
            go_wp2_with (go_at_call 53; refine VA.out.mono ?_; rintro e w5 ⟨rfl, hb5⟩; have HB5 := Lib.hid (below_then HBE.out hb5 HBE.out.size); have RZ := (HB5.out.block _ (Array.getElem?_eq_some_iff.1 HRC.out).1).trans HRC.out; have c0 := cell_of_row w5 w.heap.size 0 _ _ _ RZ; have c1 := cell_of_row w5 w.heap.size 1 _ _ _ RZ; have c2 := cell_of_row w5 w.heap.size 2 _ _ _ RZ; have c3 := cell_of_row w5 w.heap.size 3 _ _ _ RZ; have f0 := fz_of RZ 0; have f1 := fz_of RZ 1; have f2 := fz_of RZ 2; have f3 := fz_of RZ 3; obtain ⟨x0, x1, x2, x3⟩ := HQ.out _ hb5; have HA5 := Lib.hid (HA.out.below hb5))
            obtain ⟨h8, hg8⟩ := ch_tell (.slice AN c.names.length cN) (.slice AK c.kinds.length cK) (.slice AP c.parents.length cP) (.slice AT c.trans.length cT) RZ
            (try simp only [Exit.inBlock, Exit.then])
            refine bodyPost_ret (run_cellT rfl _ _ w.heap.size _ _ _ _ rfl h8 Tryz.underlying50 rfl (by kernel_rfl)) rfl ?_
            have hbz5 := below_then HB0.out HB5.out HB0.out.size
            rw [HPA.out, HPP.out]
            have hA := HA5.out
            have hne : ∀ {e s n : Nat} {v : Value} {xs : List Value}, w5.ownsRow w1.heap.size e s v n xs → v.ownBlock = none ∨ v.ownBlock ≠ some w.heap.size := fun h => .inr fun e => by have := (World.ownsRow.lt h _ e).1; omega
            exact ⟨hbz5.grown hg8 hbz5.size (fun g e => by cases e; exact Nat.le_refl _), ⟨_, _, _, _, rfl, own_base (World.ownsRow.kept hA.oN hg8 (hne hA.oN)) (by omega), own_base (World.ownsRow.kept hA.oK hg8 (hne hA.oK)) (by omega), own_base (World.ownsRow.kept hA.oP hg8 (hne hA.oP)) (by omega), hA.ap, own_base (World.ownsRow.kept hA.oT hg8 (hne hA.oT)) (by omega)⟩, HF.out, HCI.out⟩
end Go.Proofs.YtnnmjmjbfeoggaaGreatDoor
namespace Go.Proofs.YtnnmjmjbfeoggaaGreatDoor
set_option maxRecDepth 100000
open Go.ChangeShapes Go.WideShapes Go.ChangeAt Go.RowKit

theorem there_yes (A B : Option Addr) (n c m d k : Nat) (w : World) (hk : k < n) :
    Calls Tryz.prog 104 #[.agg #[.slice A n c, .slice B m d], .int .i64 k] w fun e w' => e = .returned (.bool true) ∧ Below w.heap.size w w' := by
  have x0 := box_0 w 47 (.slice A n c) (.slice B m d)
  have HZ := Lib.hid (box_b w (.cells #[.slice A n c, .slice B m d] 47))
  have h1 : (0 : Int) ≤ k := by omega
  have h2 : (k : Int) < n := by omega
  go_enter Tryz.func104, Tryz.ntmps104
  go_wp2
  go_ret
  exact ⟨rfl, HZ.out⟩
theorem nameL_12 {x : Tx} (h : nameL x = true) : x.length ≤ 1000 := by
  unfold nameL at h
  simp only [Bool.and_eq_true, decide_eq_true_eq] at h
  omega
theorem optional_yes (x : Tx) (w : World) (h : optN x = true) : Calls Tryz.prog 121 #[.string (bs x)] w fun e w' => e = .returned (.bool true) ∧ w = w' := by
  by_cases hx : x = []
  · subst hx
    have hzb : ((bs []).toList == []) = true := by rw [Lib.toList_data, list_bs]; rfl
    have hzc : (bs []).toList.isEmpty = true := by rw [Lib.toList_data, list_bs]; rfl
    clear h
    go_enter Tryz.func121, Tryz.ntmps121
    go_wp2
    go_ret
    exact ⟨rfl, rfl⟩
  · have hn : nameL x = true := by unfold optN at h; simpa [hx] using h
    have b4 : ((bs x).toList == []) = false := by rw [Lib.toList_data, list_bs]; simpa using hx
    have b5 : (bs x).toList.isEmpty = false := by rw [Lib.toList_data, list_bs]; simpa using hx
    have NM := Lib.hid (fun W => Name_any (bs x) W (by rw [size_bs]; have := nameL_12 hn; unfold maxLen; omega))
    rw [list_bs, hn] at NM
    clear h hx hn
    go_enter Tryz.func121, Tryz.ntmps121
    go_wp2_with (go_at_call 118; refine (NM.out _).mono ?_; rintro e w2 ⟨rfl, rfl⟩)
    go_ret
    exact ⟨rfl, rfl⟩
section
variable {W : World} {t : Nat} {a0 a1 a2 a3 a4 a5 a6 : Value} {ty : TypeId} {fr : Nat × Nat}
theorem tr_q0 (R : W.heap[t]? = some (.cells #[a0, a1, a2, a3, a4, a5, a6] ty fr)) : W.cell? ⟨t, 0, none⟩ = some a0 := by rw [cell_of_row _ _ _ _ _ _ R]; rfl
theorem tr_q1 (R : W.heap[t]? = some (.cells #[a0, a1, a2, a3, a4, a5, a6] ty fr)) : W.cell? ⟨t, 1, none⟩ = some a1 := by rw [cell_of_row _ _ _ _ _ _ R]; rfl
theorem tr_q2 (R : W.heap[t]? = some (.cells #[a0, a1, a2, a3, a4, a5, a6] ty fr)) : W.cell? ⟨t, 2, none⟩ = some a2 := by rw [cell_of_row _ _ _ _ _ _ R]; rfl
theorem tr_q3 (R : W.heap[t]? = some (.cells #[a0, a1, a2, a3, a4, a5, a6] ty fr)) : W.cell? ⟨t, 3, none⟩ = some a3 := by rw [cell_of_row _ _ _ _ _ _ R]; rfl
theorem tr_q4 (R : W.heap[t]? = some (.cells #[a0, a1, a2, a3, a4, a5, a6] ty fr)) : W.cell? ⟨t, 4, none⟩ = some a4 := by rw [cell_of_row _ _ _ _ _ _ R]; rfl
theorem tr_q5 (R : W.heap[t]? = some (.cells #[a0, a1, a2, a3, a4, a5, a6] ty fr)) : W.cell? ⟨t, 5, none⟩ = some a5 := by rw [cell_of_row _ _ _ _ _ _ R]; rfl
theorem tr_q6 (R : W.heap[t]? = some (.cells #[a0, a1, a2, a3, a4, a5, a6] ty fr)) : W.cell? ⟨t, 6, none⟩ = some a6 := by rw [cell_of_row _ _ _ _ _ _ R]; rfl
end
set_option maxHeartbeats 2000000 in
theorem labelled_yes (t : Tr) (w : World) (h : lablB t = true) :
    Calls Tryz.prog 74 #[.agg #[.int .i64 t.kind, .int .i64 t.from_, .int .i64 t.to_, .string (bs t.event), .string (bs t.perm), .string (bs t.task), .int .i64 t.time]] w fun e w' => e = .returned (.bool true) ∧ Below w.heap.size w w' := by
  obtain ⟨kd, fr, tt, ev, pe, ta, ti⟩ := t
  have R := heap_alloc_new w (.cells #[.int .i64 kd, .int .i64 fr, .int .i64 tt, .string (bs ev), .string (bs pe), .string (bs ta), .int .i64 ti] 62)
  have HZ := Lib.hid (box_b w (.cells #[.int .i64 kd, .int .i64 fr, .int .i64 tt, .string (bs ev), .string (bs pe), .string (bs ta), .int .i64 ti] 62))
  have q0 := tr_q0 R; have q3 := tr_q3 R; have q4 := tr_q4 R; have q5 := tr_q5 R; have q6 := tr_q6 R
  have hzb : ((bs []).toList == []) = true := by rw [Lib.toList_data, list_bs]; rfl
  have hzc : (bs []).toList.isEmpty = true := by rw [Lib.toList_data, list_bs]; rfl
  unfold lablB at h
  simp only at h ⊢
  clear R
  by_cases h9 : kd = 9
  · rw [if_pos h9] at h
    subst h9
    simp only [Bool.and_eq_true, beq_iff_eq] at h
    obtain ⟨⟨⟨g1, g2⟩, g3⟩, rfl⟩ := h
    have hev : ev ≠ [] := nameL_ne g1
    have b4 : ((bs ev).toList == []) = false := by rw [Lib.toList_data, list_bs]; simpa using hev
    have b5 : (bs ev).toList.isEmpty = false := by rw [Lib.toList_data, list_bs]; simpa using hev
    have NM := Lib.hid (fun W => Name_any (bs ev) W (by rw [size_bs]; have := nameL_12 g1; unfold maxLen; omega))
    rw [list_bs, g1] at NM
    have O1 := Lib.hid (fun W => optional_yes pe W g2)
    have O2 := Lib.hid (fun W => optional_yes ta W g3)
    clear g1 g2 g3 hev
    go_enter Tryz.func74, Tryz.ntmps74
    go_wp2_with (first
      | (go_at_call 118; refine (NM.out _).mono ?_; rintro e w2 ⟨rfl, rfl⟩)
      | (go_at_call_of 121 (Value.string (bs pe)); refine (O1.out _).mono ?_; rintro e w2 ⟨rfl, rfl⟩)
      | (go_at_call_of 121 (Value.string (bs ta)); refine (O2.out _).mono ?_; rintro e w2 ⟨rfl, rfl⟩))
    go_ret
    exact ⟨rfl, HZ.out⟩
  rw [if_neg h9] at h
  have g9 : (kd == 9) = false := beq_eq_false_iff_ne.2 h9
  by_cases h10 : kd = 10
  · rw [if_pos h10] at h
    subst h10
    unfold silB at h
    simp only [Bool.and_eq_true, beq_iff_eq] at h
    obtain ⟨⟨⟨rfl, rfl⟩, rfl⟩, rfl⟩ := h
    clear h9
    go_enter Tryz.func74, Tryz.ntmps74
    go_wp2
    go_ret
    exact ⟨rfl, HZ.out⟩
  rw [if_neg h10] at h
  have g10 : (kd == 10) = false := beq_eq_false_iff_ne.2 h10
  by_cases h11 : kd = 11
  · rw [if_pos h11] at h
    subst h11
    unfold silB at h
    simp only [Bool.and_eq_true, beq_iff_eq, decide_eq_true_eq] at h
    obtain ⟨⟨⟨⟨rfl, rfl⟩, rfl⟩, t1⟩, t2⟩ := h
    clear h9 h10
    go_enter Tryz.func74, Tryz.ntmps74
    go_wp2
    go_ret
    exact ⟨rfl, HZ.out⟩
  · rw [if_neg h11] at h; cases h
set_option maxHeartbeats 2000000 in
theorem leads_yes (ks : List Int) (t : Tr) (A B : Option Addr) (n c m d : Nat) (w : World) (hI : IntsAt w (.slice A n c) ks) (hn : n = ks.length) (h : leadsB ks t = true) :
    Calls Tryz.prog 73 #[.agg #[.slice A n c, .slice B m d], .agg #[.int .i64 t.kind, .int .i64 t.from_, .int .i64 t.to_, .string (bs t.event), .string (bs t.perm), .string (bs t.task), .int .i64 t.time]] w fun e w' => e = .returned (.bool true) ∧ Below w.heap.size w w' := by
  obtain ⟨kd, fr, tt, ev, pe, ta, ti⟩ := t
  unfold leadsB thereB at h
  simp only [Bool.and_eq_true, decide_eq_true_eq] at h ⊢
  obtain ⟨⟨⟨a1, a2⟩, a3, a4⟩, a5⟩ := h
  obtain ⟨j, rfl⟩ : ∃ j : Nat, fr = j := ⟨fr.toNat, by omega⟩
  obtain ⟨i, rfl⟩ : ∃ i : Nat, tt = i := ⟨tt.toNat, by omega⟩
  rw [Int.toNat_natCast] at a5
  have hj : j < n := by omega
  have hi : i < n := by omega
  have hji : (j : Int) < n := by omega
  have hz1 := box_b w (.cells #[.slice A n c, .slice B m d] 47)
  have hz2 := below_then hz1 (box_b (w.alloc (.cells #[.slice A n c, .slice B m d] 47)) (.cells #[.int .i64 kd, .int .i64 j, .int .i64 i, .string (bs ev), .string (bs pe), .string (bs ta), .int .i64 ti] 62)) hz1.size
  have R := heap_alloc_new (w.alloc (.cells #[.slice A n c, .slice B m d] 47)) (.cells #[.int .i64 kd, .int .i64 j, .int .i64 i, .string (bs ev), .string (bs pe), .string (bs ta), .int .i64 ti] 62)
  have hs1 : (w.alloc (.cells #[.slice A n c, .slice B m d] 47)).heap.size = w.heap.size + 1 := by simp
  rw [hs1] at R
  have x0 := (World.cell?_alloc_lt (w.alloc (.cells #[.slice A n c, .slice B m d] 47)) (.cells #[.int .i64 kd, .int .i64 j, .int .i64 i, .string (bs ev), .string (bs pe), .string (bs ta), .int .i64 ti] 62) ⟨w.heap.size, 0, none⟩ (by simp)).trans (box_0 w 47 (.slice A n c) (.slice B m d))
  have x1 := (World.cell?_alloc_lt (w.alloc (.cells #[.slice A n c, .slice B m d] 47)) (.cells #[.int .i64 kd, .int .i64 j, .int .i64 i, .string (bs ev), .string (bs pe), .string (bs ta), .int .i64 ti] 62) ⟨w.heap.size, 1, none⟩ (by simp)).trans (box_1 w 47 (.slice A n c) (.slice B m d))
  have q1 := tr_q1 R; have q2 := tr_q2 R
  have hl2 : w.heap.size + 1 < ((w.alloc (.cells #[.slice A n c, .slice B m d] 47)).alloc (.cells #[.int .i64 kd, .int .i64 j, .int .i64 i, .string (bs ev), .string (bs pe), .string (bs ta), .int .i64 ti] 62)).heap.size := by simp
  have HI2 := Lib.hid (hI.below hz2)
  have HZ2 := Lib.hid hz2
  have T1 := Lib.hid (fun k W (hk : k < n) => there_yes A B n c m d k W hk)
  have SK := Lib.hid (fun W => stays_any (ks.getD j 0) W)
  rw [a5] at SK
  have HJ : Hid (j < ks.length) := by show _ < _; omega
  clear hI hz1 hz2 R a1 a2 a3 a4 a5 hs1 hn
  go_enter Tryz.func73, Tryz.ntmps73
  go_upto_region 1 with fail
  generalize (w.alloc (.cells #[.slice A n c, .slice B m d] 47)).alloc (.cells #[.int .i64 kd, .int .i64 j, .int .i64 i, .string (bs ev), .string (bs pe), .string (bs ta), .int .i64 ti] 62) = w1 at *
  obtain ⟨b, off, rfl, hb, hx, _⟩ := ints_cell HI2.out (k := j) HJ.out
  generalize ks.getD j 0 = x9 at *
  have hs1 : w.heap.size < w1.heap.size := by omega
  clear HI2 HJ
  go_wp2_with (first
    | (go_at_call_of 104 (Value.int .i64 j); refine (T1.out j _ hj).mono ?_; rintro e w2 ⟨rfl, hb2⟩; have k0 := (hb2.cell (p := ⟨w.heap.size, 0, none⟩) hs1).trans x0; have k1 := (hb2.cell (p := ⟨w.heap.size, 1, none⟩) hs1).trans x1; have k2 := (hb2.cell (p := ⟨w.heap.size + 1, 1, none⟩) hl2).trans q1; have k3 := (hb2.cell (p := ⟨w.heap.size + 1, 2, none⟩) hl2).trans q2; have kx := (hb2.cell (p := ⟨b, off + j, none⟩) hb).trans hx; have HB2 := Lib.hid hb2; clear hb2)
    | (go_at_call_of 104 (Value.int .i64 i); refine (T1.out i _ hi).mono ?_; rintro e w3 ⟨rfl, hb3⟩; have hb4 := below_then HB2.out hb3 HB2.out.size; have j0 := (hb4.cell (p := ⟨w.heap.size, 0, none⟩) hs1).trans x0; have j2 := (hb4.cell (p := ⟨w.heap.size + 1, 1, none⟩) hl2).trans q1; have jx := (hb4.cell (p := ⟨b, off + j, none⟩) hb).trans hx; have HB4 := Lib.hid hb4; clear hb3 hb4)
    | (go_at_call 120; refine (SK.out _).mono ?_; rintro e w5 ⟨rfl, rfl⟩))
  go_ret
  exact ⟨rfl, below_then HZ2.out HB4.out HZ2.out.size⟩
end Go.Proofs.YtnnmjmjbfeoggaaGreatDoor
namespace Go.Proofs.YtnnmjmjbfeoggaaGreatDoor
set_option maxRecDepth 100000
open Go.ChangeShapes Go.WideShapes Go.ChangeAt Go.RowKit

theorem listAt_take {w : World} {A : Option Addr} {c : Nat} {l : List Tx} (h : ListAt w A c l) (i : Nat) : ListAt w A c (l.take i) := by
  refine ⟨Nat.le_trans (by rw [List.length_take]; omega) h.1, fun j hj => ?_⟩
  have hj2 : j < l.length := by rw [List.length_take] at hj; omega
  obtain ⟨b, e, hb, hx⟩ := h.2 j hj2
  exact ⟨b, e, hb, by rw [List.getElem_take]; exact hx⟩
/-- transitions in cells -/
def TAt (w : World) (A : Option Addr) (l : List Tr) : Prop := ∀ j (h : j < l.length), ∃ g, A = some ⟨g, 0, none⟩ ∧ g < w.heap.size ∧ ∀ f u, f < 7 → (tcell l[j])[f]? = some u → w.cell? ⟨g, j * 7 + f, none⟩ = some u
theorem TAt.below {w w' : World} {A : Option Addr} {l : List Tr} (h : TAt w A l) (hb : Below w.heap.size w w') : TAt w' A l := fun j hj =>
  let ⟨g, e, hl, hc⟩ := h j hj
  ⟨g, e, Nat.lt_of_lt_of_le hl hb.size, fun f u hf hu => (hb.cell (p := ⟨g, j * 7 + f, none⟩) hl).trans (hc f u hf hu)⟩
theorem tcells_at : ∀ (l : List Tr) (j f : Nat) (h : j < l.length), f < 7 → (tcells l)[j * 7 + f]? = (tcell l[j])[f]?
  | x :: r, 0, f, _, hf => by
    show (tcell x ++ tcells r)[_]? = _
    rw [List.getElem?_append_left (by show _ < 7; omega)]; simp
  | x :: r, j + 1, f, h, hf => by
    show (tcell x ++ tcells r)[_]? = _
    rw [List.getElem?_append_right (by show 7 ≤ _; omega), show (tcell x).length = 7 from rfl, show (j + 1) * 7 + f - 7 = j * 7 + f by omega]
    exact tcells_at r j f (by simpa using h) hf
theorem tAt_of {w : World} {base cap : Nat} {A : Option Addr} {l : List Tr} (h : OwnT w base (.slice A l.length cap) l) : TAt w A l := fun j hj => by
  obtain ⟨g, cap', e, _, hl, _, hc⟩ := own_form h (by omega)
  have eA : A = some ⟨g, 0, none⟩ := by injection e
  exact ⟨g, eA, hl, fun f u hf hu => hc _ _ (by rw [tcells_at l j f hj hf]; exact hu)⟩
section
variable (c : Ch) (AN AK AP AT : Option Addr) (cN cK cP cT : Nat) (w : World)
set_option maxHeartbeats 2000000 in
theorem named_yes (hN : ListAt w AN cN c.names) (hl : c.names.length ≤ 100) (h : namedB c = true) (nP : Nat) :
    Calls Tryz.prog 72 #[.agg #[.slice AN c.names.length cN, .slice AK c.kinds.length cK, .slice AP nP cP, .slice AT c.trans.length cT]] w fun e w' => e = .returned (.bool true) ∧ Below w.heap.size w w' := by
  have R := heap_alloc_new w (.cells #[.slice AN c.names.length cN, .slice AK c.kinds.length cK, .slice AP nP cP, .slice AT c.trans.length cT] 50)
  have hz := box_b w (.cells #[.slice AN c.names.length cN, .slice AK c.kinds.length cK, .slice AP nP cP, .slice AT c.trans.length cT] 50)
  have q0 : (w.alloc (.cells #[.slice AN c.names.length cN, .slice AK c.kinds.length cK, .slice AP nP cP, .slice AT c.trans.length cT] 50)).cell? ⟨w.heap.size, 0, none⟩ = some (.slice AN c.names.length cN) := by rw [cell_of_row _ _ _ _ _ _ R]; rfl
  have q1 : (w.alloc (.cells #[.slice AN c.names.length cN, .slice AK c.kinds.length cK, .slice AP nP cP, .slice AT c.trans.length cT] 50)).cell? ⟨w.heap.size, 1, none⟩ = some (.slice AK c.kinds.length cK) := by rw [cell_of_row _ _ _ _ _ _ R]; rfl
  have HN := Lib.hid (hN.below hz)
  have HZ := Lib.hid hz
  unfold namedB at h
  simp only [Bool.and_eq_true, beq_iff_eq, List.all_eq_true] at h
  have hkl := h.1
  have HA := Lib.hid h.2
  have hcN := hN.1
  rw [← hkl] at q1 ⊢
  rw [← hkl] at R hz q0 HN HZ
  clear h hN R hz hkl
  go_enter Tryz.func72, Tryz.ntmps72
  go_upto_region 3 with fail
  generalize w.alloc (.cells #[.slice AN c.names.length cN, .slice AK c.names.length cK, .slice AP nP cP, .slice AT c.trans.length cT] 50) = w1 at *
  go_wp2
  go_loop [16] (fun i => ∃ k : Nat, k ≤ c.names.length ∧ i = .int .i64 k) (fun i => c.names.length - (intOf i).toNat)
  case atStart => exact ⟨0, Nat.zero_le _, rfl⟩
  case round =>
    obtain ⟨k, hk, rfl⟩ := hrel
    by_cases hlt : k < c.names.length
    · obtain ⟨b, rfl, hbl, hx⟩ := HN.out.2 k hlt
      have ha := HA.out k (List.mem_range.2 hlt)
      rw [List.getD_eq_getElem?_getD, List.getElem?_eq_getElem hlt, Option.getD_some, Bool.not_eq_true', List.any_eq_false] at ha
      have hni : c.names[k] ∉ c.names.take k := fun hm => ha.2 _ hm (beq_self_eq_true _)
      have htl : (c.names.take k).length = k := by rw [List.length_take]; omega
      have CT := Contains_str (c.names.take k) c.names[k] (some ⟨b, 0, none⟩) cN w1 (listAt_take HN.out k) (by omega)
      have NM := Name_any (bs c.names[k]) w1 (by rw [size_bs]; have := nameL_12 ha.1; unfold maxLen; omega)
      rw [htl, decide_eq_false hni] at CT
      rw [list_bs, ha.1] at NM
      have CT := Lib.hid CT
      have NM := Lib.hid NM
      have hkc : (k : Int) ≤ cN := by omega
      clear ha hni htl
      generalize c.names[k] = x at *
      go_wp2_with (first
        | (go_at_call 118; refine NM.out.mono ?_; rintro e w2 ⟨rfl, rfl⟩)
        | (go_at_call 119; refine CT.out.mono ?_; rintro e w2 ⟨rfl, rfl⟩))
      go_round
      case rel => exact ⟨k + 1, by omega, by go_num⟩
      case measure => simp [intOf]; omega
    · go_wp2
      go_ret
      exact ⟨rfl, HZ.out⟩
set_option maxHeartbeats 4000000 in
theorem CValid_yes (hN : ListAt w AN cN c.names) (hI : IntsAt w (.slice AK c.kinds.length cK) c.kinds ∧ IntsAt w (.slice AP c.parents.length cP) c.parents) (hT : TAt w AT c.trans) (htc : c.trans.length ≤ cT) (hl : c.names.length ≤ 24) (h : validB c = true) :
    Calls Tryz.prog 32 #[.agg #[.slice AN c.names.length cN, .slice AK c.kinds.length cK, .slice AP c.parents.length cP, .slice AT c.trans.length cT]] w fun e w' => e = .returned (.bool true) ∧ Below w.heap.size w w' := by
  have R := heap_alloc_new w (.cells #[.slice AN c.names.length cN, .slice AK c.kinds.length cK, .slice AP c.parents.length cP, .slice AT c.trans.length cT] 50)
  have hz := box_b w (.cells #[.slice AN c.names.length cN, .slice AK c.kinds.length cK, .slice AP c.parents.length cP, .slice AT c.trans.length cT] 50)
  have hs1 : w.heap.size < (w.alloc (.cells #[.slice AN c.names.length cN, .slice AK c.kinds.length cK, .slice AP c.parents.length cP, .slice AT c.trans.length cT] 50)).heap.size := by simp
  unfold validB at h
  simp only [Bool.and_eq_true, decide_eq_true_eq, List.all_eq_true] at h
  obtain ⟨⟨⟨h1, h2⟩, h3⟩, h4⟩ := h
  have hkn : c.names.length = c.kinds.length := by
    have := h2
    unfold namedB at this
    simp only [Bool.and_eq_true, beq_iff_eq] at this
    exact this.1
  have hpn : c.kinds.length = c.parents.length := by
    rw [valB_def] at h1
    simp only [Bool.and_eq_true, beq_iff_eq] at h1
    exact h1.1.1.1.1
  generalize hw1 : w.alloc (.cells #[.slice AN c.names.length cN, .slice AK c.kinds.length cK, .slice AP c.parents.length cP, .slice AT c.trans.length cT] 50) = w1 at *
  have VA := fun X (hX : Below w1.heap.size w1 X) => Valid_any c.kinds c.parents AK AP c.kinds.length cK c.parents.length cP X ⟨(hI.1.below hz).below hX, (hI.2.below hz).below hX⟩ rfl rfl (by omega) (by omega)
  rw [h1] at VA
  have VA := Lib.hid VA
  have NA := Lib.hid (fun X (hX : Below w1.heap.size w1 X) => named_yes c AN AK AP AT cN cK cP cT X ((hN.below hz).below hX) (by omega) h2 c.parents.length)
  have LA := Lib.hid (fun X (hX : Below w1.heap.size w1 X) (t : Tr) (ht : t ∈ c.trans) => leads_yes c.kinds t AK AP c.kinds.length cK c.parents.length cP X ((hI.1.below hz).below hX) rfl (h4 t ht).1)
  have BA := Lib.hid (fun X (t : Tr) (ht : t ∈ c.trans) => labelled_yes t X (h4 t ht).2)
  have HT := Lib.hid (hT.below hz)
  have HZ := Lib.hid hz
  have HR := Lib.hid R
  have q0 : w1.cell? ⟨w.heap.size, 0, none⟩ = some (.slice AN c.names.length cN) := by rw [cell_of_row _ _ _ _ _ _ R]; rfl
  have q1 : w1.cell? ⟨w.heap.size, 1, none⟩ = some (.slice AK c.kinds.length cK) := by rw [cell_of_row _ _ _ _ _ _ R]; rfl
  have q2 : w1.cell? ⟨w.heap.size, 2, none⟩ = some (.slice AP c.parents.length cP) := by rw [cell_of_row _ _ _ _ _ _ R]; rfl
  have q3 : w1.cell? ⟨w.heap.size, 3, none⟩ = some (.slice AT c.trans.length cT) := by rw [cell_of_row _ _ _ _ _ _ R]; rfl
  have h3i : ¬ (48 : Int) < c.trans.length := by omega
  clear h1 h2 h4 hkn hpn hN hI hT R hz
  go_enter Tryz.func32, Tryz.ntmps32
  go_upto_region 1 with fail
  (try rw [hw1])
  clear hw1
  go_upto_region 3 with (first
    | (go_at_call 53; refine (VA.out _ (Below.refl _ _)).mono ?_; rintro e w2 ⟨rfl, hb2⟩; have k0 := (hb2.cell (p := ⟨w.heap.size, 0, none⟩) hs1).trans q0; have k1 := (hb2.cell (p := ⟨w.heap.size, 1, none⟩) hs1).trans q1; have k2 := (hb2.cell (p := ⟨w.heap.size, 2, none⟩) hs1).trans q2; have k3 := (hb2.cell (p := ⟨w.heap.size, 3, none⟩) hs1).trans q3; have HB2 := Lib.hid hb2; clear hb2)
    | (go_at_call 72; refine (NA.out _ HB2.out).mono ?_; rintro e w3 ⟨rfl, hb3⟩; have hb4 := below_then HB2.out hb3 HB2.out.size; have j3 := (hb4.cell (p := ⟨w.heap.size, 3, none⟩) hs1).trans q3; have HB4 := Lib.hid hb4; clear hb3 hb4))
  clear k0 k1 k2 k3 HB2 VA NA
  go_wp2
  go_loopw [23] (fun i wr => ∃ k : Nat, k ≤ c.trans.length ∧ i = .int .i64 k ∧ Hid (Below w1.heap.size w1 wr)) (fun i _ => c.trans.length - (intOf i).toNat)
  case atStart => exact ⟨0, Nat.zero_le _, rfl, HB4.out⟩
  case round =>
    obtain ⟨k, hk, rfl, HB⟩ := hrel
    by_cases hlt : k < c.trans.length
    · obtain ⟨g, rfl, hgl, hc⟩ := HT.out k hlt
      have hgr : g < wr.heap.size := Nat.lt_of_lt_of_le hgl HB.out.size
      have q := fun f u hf hu => (HB.out.cell (p := ⟨g, k * 7 + f, none⟩) hgl).trans (hc f u hf hu)
      have LK := fun X hX => LA.out X hX c.trans[k] (List.getElem_mem hlt)
      have BK := fun X => BA.out X c.trans[k] (List.getElem_mem hlt)
      clear hc
      generalize c.trans[k] = t at *
      obtain ⟨kd, fr, tt, ev, pe, ta, ti⟩ := t
      have LK := Lib.hid LK
      have BK := Lib.hid BK
      have r0 := q 0 _ (by omega) rfl; have r1 := q 1 _ (by omega) rfl; have r2 := q 2 _ (by omega) rfl; have r3 := q 3 _ (by omega) rfl; have r4 := q 4 _ (by omega) rfl; have r5 := q 5 _ (by omega) rfl; have r6 := q 6 _ (by omega) rfl
      simp only [Nat.add_zero] at r0
      clear q
      have hbx := box_b wr (.cells #[.int .i64 kd, .int .i64 fr, .int .i64 tt, .string (bs ev), .string (bs pe), .string (bs ta), .int .i64 ti] 62)
      have hb9 := below_then HB.out hbx HB.out.size
      have RT := heap_alloc_new wr (.cells #[.int .i64 kd, .int .i64 fr, .int .i64 tt, .string (bs ev), .string (bs pe), .string (bs ta), .int .i64 ti] 62)
      have hxl : wr.heap.size < (wr.alloc (.cells #[.int .i64 kd, .int .i64 fr, .int .i64 tt, .string (bs ev), .string (bs pe), .string (bs ta), .int .i64 ti] 62)).heap.size := by simp
      have s0 := tr_q0 RT; have s1 := tr_q1 RT; have s2 := tr_q2 RT; have s3 := tr_q3 RT; have s4 := tr_q4 RT; have s5 := tr_q5 RT; have s6 := tr_q6 RT
      have y1 := (hb9.cell (p := ⟨w.heap.size, 1, none⟩) hs1).trans q1
      have y2 := (hb9.cell (p := ⟨w.heap.size, 2, none⟩) hs1).trans q2
      have HB9 := Lib.hid hb9
      have HRT := Lib.hid RT
      clear hbx RT hb9
      go_wp2_with (first
        | (go_at_call 73; refine (LK.out _ HB9.out).mono ?_; rintro e w5 ⟨rfl, hb5⟩; have RT5 := (hb5.block _ hxl).trans HRT.out; have u0 := tr_q0 RT5; have u1 := tr_q1 RT5; have u2 := tr_q2 RT5; have u3 := tr_q3 RT5; have u4 := tr_q4 RT5; have u5 := tr_q5 RT5; have u6 := tr_q6 RT5; have HB5 := Lib.hid (below_then HB9.out hb5 HB9.out.size); clear hb5 RT5)
        | (go_at_call 74; refine (BK.out _).mono ?_; rintro e w6 ⟨rfl, hb6⟩; have HB6 := Lib.hid (below_then HB5.out hb6 HB5.out.size); clear hb6))
      go_roundw
      case rel => exact ⟨k + 1, by omega, by go_num, HB6.out⟩
      case measure => simp [intOf]; omega
    · go_wp2
      go_ret
      exact ⟨rfl, below_then HZ.out HB.out HZ.out.size⟩
end
end Go.Proofs.YtnnmjmjbfeoggaaGreatDoor
