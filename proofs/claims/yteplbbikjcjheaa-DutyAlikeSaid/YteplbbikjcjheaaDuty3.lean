/-
  The sets that the statements on duties are made of; the document's example.
-/
import Derived.Test.YteplbbikjcjheaaDuty2
import Derived.Test.YteplbbikjcjheaaDRow
import Derived.Test.YteplbbikjcjheaaDArg
import Derived.Test.YteplbbikjcjheaaWithin
namespace Go.Proofs.Yteplbbikjcjheaa
set_option maxRecDepth 100000
open Go.ChangeShapes Go.WideShapes Go.ChangeAt Go.RowKit

def adj (z : Int) : Int := if z.tmod 5 = 4 then z else within z 6
def stTo (zs : List Int) (rs : List Nat) (k : Nat) : List (Int × Nat) := (List.range k).map fun i => (adj (zs.getD i 0), rs.getD i 0)
def stN (zs : List Int) (rs : List Nat) : Nat := min 6 (min zs.length rs.length)
def stL (zs : List Int) (rs : List Nat) : List (Int × Nat) := stTo zs rs (stN zs rs)
theorem stTo_length (zs : List Int) (rs : List Nat) (k : Nat) : (stTo zs rs k).length = k := by simp [stTo]
theorem stTo_succ (zs : List Int) (rs : List Nat) (k : Nat) : stTo zs rs (k + 1) = stTo zs rs k ++ [(adj (zs.getD k 0), rs.getD k 0)] := by simp [stTo, List.range_succ]
theorem stL_len (zs : List Int) (rs : List Nat) : (stL zs rs).length ≤ 6 := by unfold stL; rw [stTo_length]; unfold stN; omega
def SetsTo (l : List (Int × Nat)) (w : World) (e : Ending) (w' : World) : Prop := ∃ v1 v2, e = .returned (.tuple #[v1, v2]) ∧ OwnS w' w.heap.size v1 l ∧ OwnR w' w.heap.size v2 l ∧ Below w.heap.size w w'
theorem setsTo_mk {l : List (Int × Nat)} {w w' : World} {v1 v2 : Value} (h1 : OwnS w' w.heap.size v1 l) (h2 : OwnR w' w.heap.size v2 l) (h4 : Below w.heap.size w w') : SetsTo l w (.returned (.tuple #[v1, v2])) w' := ⟨v1, v2, rfl, h1, h2, h4⟩
set_option maxHeartbeats 4000000 in
theorem Sets_any (v u : Value) (zs : List Int) (rs : List Nat) (w : World) (hz : IntsAt w v zs) (hr : U32sAt w u rs) :
    Calls Try.prog 28 #[v, u] w (SetsTo (stL zs rs) w) := by
  obtain ⟨iA, uA, zA0, zA1, zA2⟩ := info_parts Try.infoSet
  obtain ⟨iB, uB, zB0, zB1, zB2⟩ := info_parts Try.infoSetR
  obtain ⟨A, c, rfl, hzl, hzc⟩ := hz
  obtain ⟨B, d, rfl, hrl, hrc⟩ := hr
  have HZ := Lib.hid hzc
  have HR := Lib.hid hrc
  clear hzc hrc
  unfold maxLen at hzl hrl
  go_enter Try.func28, Try.ntmps28
  go_wp2
  go_loopw [6, 7, 8] (fun a b i wr => ∃ k : Nat, k ≤ stN zs rs ∧ i = .int .i64 k ∧ Hid (OwnS wr w.heap.size a (stTo zs rs k)) ∧ Hid (OwnR wr w.heap.size b (stTo zs rs k)) ∧ Hid (Below w.heap.size w wr)) (fun _ _ i _ => stN zs rs - (intOf i).toNat)
  case atStart => exact ⟨0, Nat.zero_le _, rfl, World.ownsRow_nil _ _ _ _, World.ownsRow_nil _ _ _ _, Below.refl _ _⟩
  case round =>
    obtain ⟨k, hk, rfl, HA, HB, HW⟩ := hrel
    have hN : stN zs rs = min 6 (min zs.length rs.length) := rfl
    by_cases hall : k < stN zs rs
    · have h1 : k < zs.length := by omega
      have h2 : k < rs.length := by omega
      have h3 : (k : Int) < 6 := by omega
      have HSN := Lib.hid (stTo_succ zs rs k)
      obtain ⟨gz, oz, rfl, hgz, hcz, hwf⟩ := HZ.out k h1
      obtain ⟨gr, or, rfl, hgr, hcr, hlt⟩ := HR.out k h2
      have ez : zs.getD k 0 = zs[k] := by simp [List.getD_eq_getElem?_getD, h1]
      have er : rs.getD k 0 = rs[k] := by simp [List.getD_eq_getElem?_getD, h2]
      rw [ez, er] at HSN
      have x1 := (HW.out.cell (p := ⟨gz, oz + k, none⟩) hgz).trans hcz
      have x2 := (HW.out.cell (p := ⟨gr, or + k, none⟩) hgr).trans hcr
      have WI := Lib.hid (fun W => Within_any zs[k] 6 W hwf (by omega) (by omega))
      have HN := Lib.hid hN
      have g1 : decide (k < zs.length) = true := by simpa using h1
      have g2 : decide (k < rs.length) = true := by simpa using h2
      clear hcz hcr ez er hwf hlt
      generalize rs[k] = r at *
      generalize zs[k] = z at *
      have hLl : (stTo zs rs k).length ≤ 20 := by rw [stTo_length]; omega
      have hA := HA.out
      have hB := HB.out
      have hZ := HW.out
      unfold OwnS at hA
      unfold OwnR at hB
      have hL2 := stTo_length zs rs k
      rw [hL2] at hA hB hLl
      have key : ∃ n : Int, adj z = n ∧ ((z.tmod 5 = 4 ∧ n = z) ∨ (¬ z.tmod 5 = 4 ∧ n = within z 6)) := by
        refine ⟨_, rfl, ?_⟩
        by_cases h5 : z.tmod 5 = 4
        · exact .inl ⟨h5, by unfold adj; rw [if_pos h5]⟩
        · exact .inr ⟨h5, by unfold adj; rw [if_neg h5]⟩
      obtain ⟨n, hn, hways⟩ := key
      rw [hn] at HSN
      have HL := Lib.hid hL2
      clear hn hL2 hN
      generalize hSL : stcells (stTo zs rs k) = SL at *
      have HSL := Lib.hid hSL
      clear hSL
      rcases hways with ⟨h5, rfl⟩ | ⟨h5, hnw⟩
      case' inl => skip
      case' inr => rw [← hnw] at WI; clear hnw
      all_goals
        go_upto_region 9 with (go_at_call 9; refine (WI.out _).mono ?_; rintro e w4 ⟨rfl, rfl⟩)
        clear WI h5 x1
        have rA := hA
        have rB := hB
        have rZ := hZ
        go_region_held3 (fun w' => w'.cell? ⟨gr, or + k, none⟩ = some (.int .u32 r))
          (first | exact x2 | exact (rZ1.cell (p := ⟨gr, or + k, none⟩) hgr).trans ((rZ.cell (p := ⟨gr, or + k, none⟩) hgr).symm.trans x2) | exact (rZ2.cell (p := ⟨gr, or + k, none⟩) hgr).trans ((rZ.cell (p := ⟨gr, or + k, none⟩) hgr).symm.trans x2) | go_keep)
          (first
          | (have _t := rA1; refine step_app2 rfl (.tmp 35) (.tmp 42) 55 rfl w.heap.size 72 iA _ Try.underlying55 uA zA0 zA1 zA2 rfl _ _ _ rfl (by first | exact rA1 | exact World.ownsRow.alloc rA1 _ | exact World.ownsRow.alloc (World.ownsRow.alloc rA1 _) _) _ _ _ rfl (by first | exact cells_new _ _ _ | exact new_two _ _ _ _ | exact new_one _ _ _ _ | exact new_far hg1 (new_one _ _ _ _) (fun k e => Nat.ne_of_lt (Nat.lt_of_lt_of_le (rA.lt k e).2 (by first | exact Nat.le_refl _ | exact Nat.le_succ _ | simp))) | exact new_far hg1 (new_one _ _ _ _) (fun k e => Nat.ne_of_lt (Nat.lt_of_lt_of_le (rB.lt k e).2 (by first | exact Nat.le_refl _ | exact Nat.le_succ _ | simp))) | exact new_far hg1 (cells_new _ _ _) (fun k e => Nat.ne_of_lt (Nat.lt_of_lt_of_le (rA.lt k e).2 (by first | exact Nat.le_refl _ | exact Nat.le_succ _ | simp))) | exact new_far hg1 (cells_new _ _ _) (fun k e => Nat.ne_of_lt (Nat.lt_of_lt_of_le (rB.lt k e).2 (by first | exact Nat.le_refl _ | exact Nat.le_succ _ | simp))) | exact new_far hg1 (new_two _ _ _ _) (fun k e => Nat.ne_of_lt (Nat.lt_of_lt_of_le (rA.lt k e).2 (by first | exact Nat.le_refl _ | exact Nat.le_succ _ | simp))) | exact new_far hg1 (new_two _ _ _ _) (fun k e => Nat.ne_of_lt (Nat.lt_of_lt_of_le (rB.lt k e).2 (by first | exact Nat.le_refl _ | exact Nat.le_succ _ | simp)))) hLl 90 _ _ _ (by first | exact rB1 | exact World.ownsRow.alloc rB1 _ | exact World.ownsRow.alloc (World.ownsRow.alloc rB1 _) _) (by decide) w rfl (by first | exact rZ1 | exact below_drew rZ1 | exact Below.alloc rZ1 rZ1.size _ | exact Below.alloc (Below.alloc rZ1 rZ1.size _) (Below.alloc rZ1 rZ1.size _).size _ | exact Below.alloc (below_drew rZ1) (below_drew rZ1).size _ | exact Below.alloc (Below.alloc (below_drew rZ1) (below_drew rZ1).size _) (Below.alloc (below_drew rZ1) (below_drew rZ1).size _).size _) ?_; intro vA w2 rA2 rB2 rZ2 _)
          | (have _t := rA1; refine step_app2 rfl (.tmp 44) (.tmp 51) 56 rfl w.heap.size 90 iB _ Try.underlying56 uB zB0 zB1 zB2 rfl _ _ _ rfl (by first | exact rB1 | exact World.ownsRow.alloc rB1 _ | exact World.ownsRow.alloc (World.ownsRow.alloc rB1 _) _) _ _ _ rfl (by first | exact cells_new _ _ _ | exact new_two _ _ _ _ | exact new_one _ _ _ _ | exact new_far hg1 (new_one _ _ _ _) (fun k e => Nat.ne_of_lt (Nat.lt_of_lt_of_le (rA.lt k e).2 (by first | exact Nat.le_refl _ | exact Nat.le_succ _ | simp))) | exact new_far hg1 (new_one _ _ _ _) (fun k e => Nat.ne_of_lt (Nat.lt_of_lt_of_le (rB.lt k e).2 (by first | exact Nat.le_refl _ | exact Nat.le_succ _ | simp))) | exact new_far hg1 (cells_new _ _ _) (fun k e => Nat.ne_of_lt (Nat.lt_of_lt_of_le (rA.lt k e).2 (by first | exact Nat.le_refl _ | exact Nat.le_succ _ | simp))) | exact new_far hg1 (cells_new _ _ _) (fun k e => Nat.ne_of_lt (Nat.lt_of_lt_of_le (rB.lt k e).2 (by first | exact Nat.le_refl _ | exact Nat.le_succ _ | simp))) | exact new_far hg1 (new_two _ _ _ _) (fun k e => Nat.ne_of_lt (Nat.lt_of_lt_of_le (rA.lt k e).2 (by first | exact Nat.le_refl _ | exact Nat.le_succ _ | simp))) | exact new_far hg1 (new_two _ _ _ _) (fun k e => Nat.ne_of_lt (Nat.lt_of_lt_of_le (rB.lt k e).2 (by first | exact Nat.le_refl _ | exact Nat.le_succ _ | simp)))) hLl 72 _ _ _ (by first | exact rA1 | exact World.ownsRow.alloc rA1 _ | exact World.ownsRow.alloc (World.ownsRow.alloc rA1 _) _) (by decide) w rfl (by first | exact rZ1 | exact below_drew rZ1 | exact Below.alloc rZ1 rZ1.size _ | exact Below.alloc (Below.alloc rZ1 rZ1.size _) (Below.alloc rZ1 rZ1.size _).size _ | exact Below.alloc (below_drew rZ1) (below_drew rZ1).size _ | exact Below.alloc (Below.alloc (below_drew rZ1) (below_drew rZ1).size _) (Below.alloc (below_drew rZ1) (below_drew rZ1).size _).size _) ?_; intro vB w2 rB2 rA2 rZ2 _)
          | (refine step_app2 rfl (.tmp 35) (.tmp 42) 55 rfl w.heap.size 72 iA _ Try.underlying55 uA zA0 zA1 zA2 rfl _ _ _ rfl (by first | exact rA | exact World.ownsRow.alloc rA _ | exact World.ownsRow.alloc (World.ownsRow.alloc rA _) _) _ _ _ rfl (by first | exact cells_new _ _ _ | exact new_two _ _ _ _ | exact new_one _ _ _ _ | exact new_far hg1 (new_one _ _ _ _) (fun k e => Nat.ne_of_lt (Nat.lt_of_lt_of_le (rA.lt k e).2 (by first | exact Nat.le_refl _ | exact Nat.le_succ _ | simp))) | exact new_far hg1 (new_one _ _ _ _) (fun k e => Nat.ne_of_lt (Nat.lt_of_lt_of_le (rB.lt k e).2 (by first | exact Nat.le_refl _ | exact Nat.le_succ _ | simp))) | exact new_far hg1 (cells_new _ _ _) (fun k e => Nat.ne_of_lt (Nat.lt_of_lt_of_le (rA.lt k e).2 (by first | exact Nat.le_refl _ | exact Nat.le_succ _ | simp))) | exact new_far hg1 (cells_new _ _ _) (fun k e => Nat.ne_of_lt (Nat.lt_of_lt_of_le (rB.lt k e).2 (by first | exact Nat.le_refl _ | exact Nat.le_succ _ | simp))) | exact new_far hg1 (new_two _ _ _ _) (fun k e => Nat.ne_of_lt (Nat.lt_of_lt_of_le (rA.lt k e).2 (by first | exact Nat.le_refl _ | exact Nat.le_succ _ | simp))) | exact new_far hg1 (new_two _ _ _ _) (fun k e => Nat.ne_of_lt (Nat.lt_of_lt_of_le (rB.lt k e).2 (by first | exact Nat.le_refl _ | exact Nat.le_succ _ | simp)))) hLl 90 _ _ _ (by first | exact rB | exact World.ownsRow.alloc rB _ | exact World.ownsRow.alloc (World.ownsRow.alloc rB _) _) (by decide) w rfl (by first | exact rZ | exact below_drew rZ | exact Below.alloc rZ rZ.size _ | exact Below.alloc (Below.alloc rZ rZ.size _) (Below.alloc rZ rZ.size _).size _ | exact Below.alloc (below_drew rZ) (below_drew rZ).size _ | exact Below.alloc (Below.alloc (below_drew rZ) (below_drew rZ).size _) (Below.alloc (below_drew rZ) (below_drew rZ).size _).size _) ?_; intro vA w1 rA1 rB1 rZ1 hg1)
          | (refine step_app2 rfl (.tmp 44) (.tmp 51) 56 rfl w.heap.size 90 iB _ Try.underlying56 uB zB0 zB1 zB2 rfl _ _ _ rfl (by first | exact rB | exact World.ownsRow.alloc rB _ | exact World.ownsRow.alloc (World.ownsRow.alloc rB _) _) _ _ _ rfl (by first | exact cells_new _ _ _ | exact new_two _ _ _ _ | exact new_one _ _ _ _ | exact new_far hg1 (new_one _ _ _ _) (fun k e => Nat.ne_of_lt (Nat.lt_of_lt_of_le (rA.lt k e).2 (by first | exact Nat.le_refl _ | exact Nat.le_succ _ | simp))) | exact new_far hg1 (new_one _ _ _ _) (fun k e => Nat.ne_of_lt (Nat.lt_of_lt_of_le (rB.lt k e).2 (by first | exact Nat.le_refl _ | exact Nat.le_succ _ | simp))) | exact new_far hg1 (cells_new _ _ _) (fun k e => Nat.ne_of_lt (Nat.lt_of_lt_of_le (rA.lt k e).2 (by first | exact Nat.le_refl _ | exact Nat.le_succ _ | simp))) | exact new_far hg1 (cells_new _ _ _) (fun k e => Nat.ne_of_lt (Nat.lt_of_lt_of_le (rB.lt k e).2 (by first | exact Nat.le_refl _ | exact Nat.le_succ _ | simp))) | exact new_far hg1 (new_two _ _ _ _) (fun k e => Nat.ne_of_lt (Nat.lt_of_lt_of_le (rA.lt k e).2 (by first | exact Nat.le_refl _ | exact Nat.le_succ _ | simp))) | exact new_far hg1 (new_two _ _ _ _) (fun k e => Nat.ne_of_lt (Nat.lt_of_lt_of_le (rB.lt k e).2 (by first | exact Nat.le_refl _ | exact Nat.le_succ _ | simp)))) hLl 72 _ _ _ (by first | exact rA | exact World.ownsRow.alloc rA _ | exact World.ownsRow.alloc (World.ownsRow.alloc rA _) _) (by decide) w rfl (by first | exact rZ | exact below_drew rZ | exact Below.alloc rZ rZ.size _ | exact Below.alloc (Below.alloc rZ rZ.size _) (Below.alloc rZ rZ.size _).size _ | exact Below.alloc (below_drew rZ) (below_drew rZ).size _ | exact Below.alloc (Below.alloc (below_drew rZ) (below_drew rZ).size _) (Below.alloc (below_drew rZ) (below_drew rZ).size _).size _) ?_; intro vB w1 rB1 rA1 rZ1 hg1))
        all_goals
          go_wp2
          go_roundw
          case rel => exact ⟨k + 1, by omega, by go_num, by show World.ownsRow _ _ _ _ _ _ _; rw [HSN.out, List.length_append, stcells_snoc, HL.out, HSL.out]; exact rA2, by show World.ownsRow _ _ _ _ _ _ _; rw [HSN.out, List.length_append, stcells_snoc, HL.out, HSL.out]; exact rB2, rZ2⟩
          case measure => simp [intOf]; omega
    · have e : k = stN zs rs := by omega
      rw [e] at HA HB
      have hA : Hid (OwnS wr w.heap.size _ (stL zs rs)) := HA
      have hB : Hid (OwnR wr w.heap.size _ (stL zs rs)) := HB
      have hd : ¬ k < zs.length ∨ (k < zs.length ∧ ¬ k < rs.length) ∨ (k < zs.length ∧ k < rs.length ∧ ¬ (k : Int) < 6) := by omega
      clear HA HB hall hk hN e
      rcases hd with h1 | ⟨h1, h2⟩ | ⟨h1, h2, h3⟩
      · have g1 : decide (k < zs.length) = false := by simpa using h1
        clear h1
        go_wp2
        go_ret2
        exact setsTo_mk hA.out hB.out HW.out
      · have g1 : decide (k < zs.length) = true := by simpa using h1
        have g2 : decide (k < rs.length) = false := by simpa using h2
        clear h1 h2
        go_wp2
        go_ret2
        exact setsTo_mk hA.out hB.out HW.out
      · have g1 : decide (k < zs.length) = true := by simpa using h1
        have g2 : decide (k < rs.length) = true := by simpa using h2
        have g3 : decide ((k : Int) < 6) = false := by simpa using h3
        clear h1 h2 h3
        go_wp2
        go_ret2
        exact setsTo_mk hA.out hB.out HW.out

theorem one_at (W : World) : StAt (W.alloc (.cells #[.int .i64 2, .int .u32 3] 72)) (some ⟨W.heap.size, 0, none⟩) 1 [(2, 3)] := by
  have R := heap_alloc_new W (.cells #[.int .i64 2, .int .u32 3] 72)
  refine ⟨Nat.le_refl _, fun j hj => ?_⟩
  simp at hj
  subst hj
  exact ⟨_, rfl, by simp, by rw [cell_of_row _ _ _ _ _ _ R]; rfl, by rw [cell_of_row _ _ _ _ _ _ R]; rfl, by show (3 : Nat) < 4294967296; decide⟩
theorem fst3 : decide (fstI 3 [(2, 3)] < 0) = false := by decide
theorem fst1 : decide (fstI 1 [(2, 3)] < 0) = true := by decide
theorem wakes05 (w : World) : Calls Try.prog 34 #[] w (TrueOn w) := by
  have A3 : Hid (∀ W : World, Calls Try.prog 33 #[.int .u32 3, .slice (some ⟨W.heap.size, 0, none⟩) 1 1] (W.alloc (.cells #[.int .i64 2, .int .u32 3] 72)) fun e w' => e = .returned (.bool false) ∧ Below W.heap.size W w') := fun W => by
    have h := Apart_any 3 [(2, 3)] _ 1 _ (by decide) (one_at W) (by decide)
    rw [fst3] at h
    exact h.mono fun e w' ⟨he, hb⟩ => ⟨he, below_then ((Below.refl _ _).alloc (Nat.le_refl _) _) hb (by simp)⟩
  have A1 : Hid (∀ W : World, Calls Try.prog 33 #[.int .u32 1, .slice (some ⟨W.heap.size, 0, none⟩) 1 1] (W.alloc (.cells #[.int .i64 2, .int .u32 3] 72)) fun e w' => e = .returned (.bool true) ∧ Below W.heap.size W w') := fun W => by
    have h := Apart_any 1 [(2, 3)] _ 1 _ (by decide) (one_at W) (by decide)
    rw [fst1] at h
    exact h.mono fun e w' ⟨he, hb⟩ => ⟨he, below_then ((Below.refl _ _).alloc (Nat.le_refl _) _) hb (by simp)⟩
  go_enter Try.func34, Try.ntmps34
  go_wp2_with (first
    | (go_at_call_of 33 (Value.int .u32 3); refine (A3.out w).mono ?_; rintro e w1 ⟨rfl, hb1⟩)
    | (go_at_call_of 33 (Value.int .u32 1); refine (A1.out w1).mono ?_; rintro e w2 ⟨rfl, hb2⟩))
  go_ret
  exact ⟨rfl, below_then hb1 hb2 hb1.size⟩
end Go.Proofs.Yteplbbikjcjheaa
