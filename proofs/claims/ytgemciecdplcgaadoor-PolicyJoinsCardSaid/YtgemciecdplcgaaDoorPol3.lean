/-
  policy.Parse: the walk.
-/
import Derived.Test.YtgemciecdplcgaaDoorPol2
import Derived.OwnWalk
import Derived.Deep.DeepMust
namespace Go.Proofs.YtgemciecdplcgaaDoor
set_option maxRecDepth 100000
open Go.ChangeShapes Go.WideShapes Go.ChangeAt Go.RowKit

theorem Pol_long (s : ByteArray) (w : World) (hs : 4096 < s.size) : Calls Tryd.prog 7 #[.string s] w (PolTo .limit w) := by
  have h : (4096 : Int) < s.size := by omega
  clear hs
  go_enter Tryd.func7, Tryd.ntmps7
  go_wp2
  go_ret2
  exact ⟨Below.refl _ _, rfl⟩
set_option maxHeartbeats 4000000 in
theorem Pol_lines (s : ByteArray) (ls : List Tx) (w : World) (hs : s.size ≤ 4096) (hn : ls.length ≤ 4097) (hle : ∀ t ∈ ls, t.length ≤ 4096)
    (hsp : ∀ W, Calls Tryd.prog 17 #[.string s, .string ⟨#[10]⟩] W fun e w' => e = .returned (.slice (some ⟨W.heap.size, 0, none⟩) ls.length ls.length) ∧ w' = W.alloc (.cells (ls.map fun t => Value.string (bs t)).toArray 9)) :
    Calls Tryd.prog 7 #[.string s] w (PolTo (polL ls 1 []) w) := by
  have hs' : ¬ (4096 : Int) < s.size := by omega
  have HSP := Lib.hid hsp
  have HLE := Lib.hid hle
  clear hsp hs hle
  obtain ⟨i0, hi, hz0, hz1, hz2⟩ := info_parts Tryd.infoRule
  go_enter Tryd.func7, Tryd.ntmps7
  go_upto_region 5 with (go_at_call 17; refine (HSP.out _).mono ?_; rintro e w1 ⟨rfl, rfl⟩)
  have HA : Hid (StrAt (w.alloc (.cells (ls.map fun t => Value.string (bs t)).toArray 9)) w.heap.size ls) := strAt_alloc w ls _
  have hz1' : (w.alloc (.cells (ls.map fun t => Value.string (bs t)).toArray 9)).heap.size = w.heap.size + 1 := by simp
  have HB1 : Hid (Below w.heap.size w (w.alloc (.cells (ls.map fun t => Value.string (bs t)).toArray 9))) := (Below.refl _ _).alloc (Nat.le_refl _) _
  generalize hw1 : w.alloc (.cells (ls.map fun t => Value.string (bs t)).toArray 9) = w1 at *
  clear hw1 HSP
  go_loopw [4, 18] (fun l i wr => ∃ (k : Nat) (acc : List RL), k ≤ ls.length ∧ i = .int .i64 k ∧ acc.length ≤ 160 ∧ Hid (polL ls 1 [] = polL (ls.drop k) (k + 1) (acc.map er)) ∧ Hid (RowsAt wr w1.heap.size l acc) ∧ Below w1.heap.size w1 wr) (fun _ i _ => ls.length - (intOf i).toNat)
  case atStart => exact ⟨0, [], Nat.zero_le _, rfl, Nat.zero_le _, rfl, rows_nil _ _, Below.refl _ _⟩
  case round =>
    obtain ⟨k, acc, hk, rfl, ha, HP, HR, hbw⟩ := hrel
    by_cases hlt : k < ls.length
    · have hx : wr.cell? ⟨w.heap.size, k, none⟩ = some (.string (bs ls[k])) := (hbw.cell (p := ⟨w.heap.size, k, none⟩) (by simp only; omega)).trans (HA.out k hlt)
      have hpar : ∀ W, Calls Tryd.prog 18 #[.string (bs ls[k]), .int .i64 ((k : Int) + 1)] W (ParseTo (parseL ls[k]) ((k : Int) + 1) W) := fun W => parse_line ls[k] (k + 1) W (HLE.out _ (List.getElem_mem hlt))
      have hbz := hbw.size
      generalize hp : parseL ls[k] = p at hpar
      have HPAR := Lib.hid hpar
      clear hpar
      generalize ls[k] = t at hx HPAR
      cases p with
      | bad c d =>
        have HE : Hid (polL ls 1 [] = .bad (k + 1) c d) := HP.out.trans (pol_bad hlt hp)
        clear HP hp HR
        have HPAR' : Hid (∀ W, Calls Tryd.prog 18 #[.string (bs t), .int .i64 ((k : Int) + 1)] W (ParseTo (.bad c d) ((k : Int) + 1) W)) := HPAR
        clear HPAR
        go_wp2_with (go_at_call 18; refine (HPAR'.out _).mono ?_; rintro e w2 ⟨hb2, fb, rfl, hf1, hf2, hF⟩; dsimp only [zeroV, zero11])
        have hs2 := hb2.size
        go_ret2
        exact polTo_bad HE.out ((below_then (below_then HB1.out hbw (by omega)) hb2 (by omega)).alloc (by omega) _) (by omega) (by simp; omega) (fault_below hF hf2 ((Below.refl _ _).alloc (Nat.le_refl _) _))
      | empty =>
        have HE : Hid (polL ls 1 [] = polL (ls.drop (k + 1)) (k + 1 + 1) (acc.map er)) := HP.out.trans (pol_empty hlt hp)
        clear HP hp
        have HPAR' : Hid (∀ W, Calls Tryd.prog 18 #[.string (bs t), .int .i64 ((k : Int) + 1)] W (ParseTo .empty ((k : Int) + 1) W)) := HPAR
        clear HPAR
        go_wp2_with (go_at_call 18; refine (HPAR'.out _).mono ?_; rintro e w2 ⟨hb2, rfl⟩; dsimp only [zeroV, zero11])
        have hs2 := hb2.size
        go_roundw
        case rel => exact ⟨k + 1, acc, by omega, by go_num, ha, HE.out, HR.out.below (hb2.alloc hs2 _) hbz, (below_then hbw hb2 hbz).alloc (by omega) _⟩
        case measure => simp [intOf]; omega
      | ok u =>
        obtain ⟨kd, nm, l, rn, rm, rf, rt, rb, ra, ri⟩ := u
        have HPAR' : Hid (∀ W, Calls Tryd.prog 18 #[.string (bs t), .int .i64 ((k : Int) + 1)] W (ParseTo (.ok ⟨kd, nm, l, rn, rm, rf, rt, rb, ra, ri⟩) ((k : Int) + 1) W)) := HPAR
        clear HPAR
        obtain ⟨A, cap, rfl⟩ := own_slice HR.out.1
        go_upto_region 12 with (go_at_call 18; refine (HPAR'.out _).mono ?_; rintro e w2 ⟨hb2, L1, rfl, ho1⟩; obtain ⟨A1, c1, rfl⟩ := own_slice ho1; dsimp only [ruV])
        have hs2 := hb2.size
        have RA : (w2.alloc (.cells #[.int .i64 kd, .string (bs nm), .slice A1 l.length c1, .int .i64 rn, .int .i64 rm, .string (bs rf), .string (bs rt), .string (bs rb), .string (bs ra), .string (bs ri), .int .i64 ((k : Int) + 1)] 42)).heap[w2.heap.size]? = some (.cells #[.int .i64 kd, .string (bs nm), .slice A1 l.length c1, .int .i64 rn, .int .i64 rm, .string (bs rf), .string (bs rt), .string (bs rb), .string (bs ra), .string (bs ri), .int .i64 ((k : Int) + 1)] 42 (0, 0)) := heap_alloc_new _ _
        have HL : Hid (OwnL (w2.alloc (.cells #[.int .i64 kd, .string (bs nm), .slice A1 l.length c1, .int .i64 rn, .int .i64 rm, .string (bs rf), .string (bs rt), .string (bs rb), .string (bs ra), .string (bs ri), .int .i64 ((k : Int) + 1)] 42)) w1.heap.size (.slice A1 l.length c1) l) := own_base (own_below ho1 ((Below.refl _ _).alloc (Nat.le_refl _) _) hs2) hbz
        have HR3 : Hid (RowsAt (w2.alloc (.cells #[.int .i64 kd, .string (bs nm), .slice A1 l.length c1, .int .i64 rn, .int .i64 rm, .string (bs rf), .string (bs rt), .string (bs rb), .string (bs ra), .string (bs ri), .int .i64 ((k : Int) + 1)] 42)) w1.heap.size (.slice A acc.length cap) acc) := HR.out.below (hb2.alloc hs2 _) hbz
        have hb3 : Below w1.heap.size w1 (w2.alloc (.cells #[.int .i64 kd, .string (bs nm), .slice A1 l.length c1, .int .i64 rn, .int .i64 rm, .string (bs rf), .string (bs rt), .string (bs rb), .string (bs ra), .string (bs ri), .int .i64 ((k : Int) + 1)] 42)) := (below_then hbw hb2 hbz).alloc (by omega) _
        have hs3 : w2.heap.size < (w2.alloc (.cells #[.int .i64 kd, .string (bs nm), .slice A1 l.length c1, .int .i64 rn, .int .i64 rm, .string (bs rf), .string (bs rt), .string (bs rb), .string (bs ra), .string (bs ri), .int .i64 ((k : Int) + 1)] 42)).heap.size := by simp
        clear ho1 HR HPAR'
        generalize hw3 : w2.alloc (.cells #[.int .i64 kd, .string (bs nm), .slice A1 l.length c1, .int .i64 rn, .int .i64 rm, .string (bs rf), .string (bs rt), .string (bs rb), .string (bs ra), .string (bs ri), .int .i64 ((k : Int) + 1)] 42) = w3 at *
        clear hw3 hb2
        by_cases hfull : acc.length = 160
        · have HE : Hid (polL ls 1 [] = .bad (k + 1) 1 5) := HP.out.trans (pol_full hlt hp (by simpa using hfull))
          clear HP hp HR3 HL
          rw [hfull]
          go_wp2
          go_ret2
          refine polTo_bad HE.out ((below_then HB1.out hb3 (by omega)).alloc (by omega) _) (by omega) (by simp) ?_
          exact ⟨new_cell w3 _ _ 0, new_cell w3 _ _ 1, new_cell w3 _ _ 2⟩
        · have HE : Hid (polL ls 1 [] = polL (ls.drop (k + 1)) (k + 1 + 1) ((acc ++ [((⟨kd, nm, l, rn, rm, rf, rt, rb, ra, ri⟩ : Ru), k + 1, Value.slice A1 l.length c1)]).map er)) := by
            show _ = _
            rw [List.map_append]
            exact HP.out.trans (pol_ok hlt hp (by simpa using hfull))
          clear HP hp
          have hfi : ¬ (acc.length : Int) = 160 := by omega
          have p0 := row_q0 RA; have p1 := row_q1 RA; have p2 := row_q2 RA; have p3 := row_q3 RA; have p4 := row_q4 RA; have p5 := row_q5 RA; have p6 := row_q6 RA; have p7 := row_q7 RA; have p8 := row_q8 RA; have p9 := row_q9 RA; have p10 := row_q10 RA
          clear RA
          go_wp2_with (at_builtin; go_must (refine wpList_append_own _ rfl (.tmp 44) (.tmp 46) 23 rfl w1.heap.size 42 i0 _ 11 152 Tryd.underlying23 hi hz0 hz1 hz2 rfl (by decide) _ _ _ rfl (HR3.out.1.alloc _) ⟨w3.heap.size, 0, none⟩ 1 1 [.int .i64 kd, .string (bs nm), .slice A1 l.length c1, .int .i64 rn, .int .i64 rm, .string (bs rf), .string (bs rt), .string (bs rb), .string (bs ra), .string (bs ri), .int .i64 ((k : Int) + 1)] rfl rfl (cells_new _ _ _) (by intro u hu; simp at hu; rcases hu with rfl | rfl | rfl | rfl | rfl | rfl | rfl | rfl | rfl | rfl | rfl <;> rfl) (by unfold maxLen; omega) (by omega) (by have := hb3.size; simp; omega) ?_); intro v' w4 hown' hg' _)
          have hg2 : (w3.alloc (.cells #[.int .i64 kd, .string (bs nm), .slice A1 l.length c1, .int .i64 rn, .int .i64 rm, .string (bs rf), .string (bs rt), .string (bs rb), .string (bs ra), .string (bs ri), .int .i64 ((k : Int) + 1)] 42)).grownBy w4 (Value.slice A acc.length cap).ownBlock := hg'
          have hb4 : Below w1.heap.size w1 w4 := (hb3.alloc (by have := hb3.size; omega) _).grown hg2 (by have := hb3.size; simp; omega) (fun g hg => (HR3.out.1.lt g hg).1)
          clear hg'
          have HN : Hid (RowsAt w4 w1.heap.size v' (acc ++ [((⟨kd, nm, l, rn, rm, rf, rt, rb, ra, ri⟩ : Ru), k + 1, Value.slice A1 l.length c1)])) := by
            have hB : Below w3.heap.size w3 (w3.alloc (.cells #[.int .i64 kd, .string (bs nm), .slice A1 l.length c1, .int .i64 rn, .int .i64 rm, .string (bs rf), .string (bs rt), .string (bs rb), .string (bs ra), .string (bs ri), .int .i64 ((k : Int) + 1)] 42)) := (Below.refl _ _).alloc (Nat.le_refl _) _
            have hba := hb3.size
            have hO := own_below HR3.out.1 hB hba
            refine ⟨?_, fun x hx => ?_⟩
            · rw [rcells_snoc, List.length_append]
              exact hown'
            · have hxo : OwnL w3 w1.heap.size x.2.2 x.1.list := by
                rcases List.mem_append.1 hx with hx | hx
                · exact HR3.out.2 x hx
                · rw [List.mem_singleton.1 hx]; exact HL.out
              exact (own_below hxo hB hba).kept hg2 (own_apart (own_below hxo hB hba) hO)
          clear hown' HR3 HL
          go_roundw
          case rel => exact ⟨k + 1, _, by omega, by go_num, by simp; omega, HE.out, HN.out, hb4⟩
          case measure => simp [intOf]; omega
    · have HE : Hid (polL ls 1 [] = .ok (acc.map er)) := HP.out.trans (pol_end (by omega))
      clear HP
      go_wp2
      go_ret2
      exact polTo_ok HE.out (below_then HB1.out hbw (by omega)) (HR.out.base (by omega))
theorem Pol_any (s : ByteArray) (w : World) : Calls Tryd.prog 7 #[.string s] w (PolTo (polT s.data.toList) w) := by
  unfold polT
  by_cases h : 4096 < s.data.toList.length
  · rw [if_pos h]; exact Pol_long s w h
  · rw [if_neg h]
    rw [size_list] at h
    obtain ⟨h1, h2⟩ := lines_len s.data.toList
    rw [size_list] at h1 h2
    exact Pol_lines s _ w (by omega) (by omega) (fun t ht => by have := h2 t ht; omega) (fun W => Split_nl s W (by omega))
end Go.Proofs.YtgemciecdplcgaaDoor
