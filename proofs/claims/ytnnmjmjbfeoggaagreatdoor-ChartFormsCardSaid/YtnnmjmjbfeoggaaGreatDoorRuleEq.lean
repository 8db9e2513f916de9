/-
  Errors kept; rules the same.
-/
import Derived.Test.YtnnmjmjbfeoggaaGreatDoorAs
import Derived.Test.YtnnmjmjbfeoggaaGreatDoorParse
import Derived.Test.YtnnmjmjbfeoggaaGreatDoorSameL
namespace Go.Proofs.YtnnmjmjbfeoggaaGreatDoor
set_option maxRecDepth 100000
open Go.ChangeShapes Go.WideShapes Go.ChangeAt Go.RowKit

/-- Is: an error that is c, asked for n -/
theorem keepIs (v : Value) (c n : Int) (w : World) (hv : IsErr w v c) (hn : 1 ≤ n) (hn2 : n ≤ 14) :
    Calls Tryz.prog 14 #[v, .int .i64 n] w fun e w' => e = .returned (.bool (c == n)) ∧ w = w' := by
  have h0 : (n == 0) = false := by simp; omega
  by_cases hcn : c = n
  · subst hcn
    have h1 := fun W (h : IsErr W v c) => Is_any v c c W h
    simp only [beq_self_eq_true] at h1 ⊢
    have h2 := fun W (h : IsErr W v c) m (hm : ¬ c = m) => Is_any v c m W h
    have H2 := Lib.hid h2
    have hv0 := hv
    have H1 : Hid (Calls Tryz.prog 47 #[v, .iface 36 (.int .i64 c)] w fun e w' => e = .returned (.bool true) ∧ w = w') := h1 w hv
    have HV := Lib.hid hv
    clear h1 h2 hv0
    rcases hv with rfl | ⟨b, o, rfl, hc⟩
    all_goals
      go_enter Tryz.func14, Tryz.ntmps14
      go_wp2_with (go_at_call 47; refine H1.out.mono ?_; rintro e w1 ⟨rfl, rfl⟩)
      go_loop [5] (fun i => ∃ k : Nat, 1 ≤ k ∧ k ≤ 15 ∧ i = .int .i64 k) (fun i => 15 - (intOf i).toNat)
      case atStart => exact ⟨1, by omega, by omega, rfl⟩
      case round =>
        obtain ⟨k, hk1, hk2, rfl⟩ := hrel
        by_cases hk : k ≤ 14
        · by_cases hkc : (k : Int) = c
          · have g1 : ((k : Int) != c) = false := by simp [hkc]
            have HK := Lib.hid hkc
            clear hkc
            go_wp2
            go_round
            case rel => exact ⟨k + 1, by omega, by omega, by go_num⟩
            case measure => simp [intOf]; omega
          · have g1 : ((k : Int) != c) = true := by simp [hkc]
            have hf : (c == (k : Int)) = false := by simp; omega
            have H3 := H2.out w HV.out k (by omega)
            rw [hf] at H3
            clear hf
            go_wp2_with (go_at_call 47; refine H3.mono ?_; rintro e w1 ⟨rfl, rfl⟩)
            go_round
            case rel => exact ⟨k + 1, by omega, by omega, by go_num⟩
            case measure => simp [intOf]; omega
        · go_wp2
          go_ret
          exact ⟨rfl, rfl⟩
  · have hf : (c == n) = false := by simpa using hcn
    have H1 := Is_any v c n w hv
    rw [hf] at H1 ⊢
    rcases hv with rfl | ⟨b, o, rfl, hc⟩
    all_goals
      go_enter Tryz.func14, Tryz.ntmps14
      go_wp2_with (go_at_call 47; refine H1.mono ?_; rintro e w1 ⟨rfl, rfl⟩)
      go_ret
      exact ⟨rfl, rfl⟩
end Go.Proofs.YtnnmjmjbfeoggaaGreatDoor
namespace Go.Proofs.YtnnmjmjbfeoggaaGreatDoor
set_option maxRecDepth 100000
open Go.ChangeShapes Go.WideShapes Go.ChangeAt Go.RowKit

set_option maxHeartbeats 2000000 in
theorem keepRule (r : Ru) (A B : Option Addr) (ca cb : Nat) (la lb : Int) (w : World) (hl : r.list.length ≤ 9223372036854775807) (ha : ListAt w A ca r.list) (hb : ListAt w B cb r.list) :
    Calls Tryz.prog 49 #[ruV r (.slice A r.list.length ca) la, ruV r (.slice B r.list.length cb) lb] w fun e w' => e = .returned (.bool true) ∧ Below w.heap.size w w' := by
  obtain ⟨kd, nm, l, rn, rm, rf, rt, rb, ra, ri⟩ := r
  dsimp only [ruV]
  simp only at hl ha hb
  have hB : Below w.heap.size w ((w.alloc (.cells #[.int .i64 kd, .string (bs nm), .slice A l.length ca, .int .i64 rn, .int .i64 rm, .string (bs rf), .string (bs rt), .string (bs rb), .string (bs ra), .string (bs ri), .int .i64 la] 28)).alloc (.cells #[.int .i64 kd, .string (bs nm), .slice B l.length cb, .int .i64 rn, .int .i64 rm, .string (bs rf), .string (bs rt), .string (bs rb), .string (bs ra), .string (bs ri), .int .i64 lb] 28)) := ((Below.refl _ _).alloc (Nat.le_refl _) _).alloc (by simp) _
  have sm := Same_at l A B ca cb ((w.alloc (.cells #[.int .i64 kd, .string (bs nm), .slice A l.length ca, .int .i64 rn, .int .i64 rm, .string (bs rf), .string (bs rt), .string (bs rb), .string (bs ra), .string (bs ri), .int .i64 la] 28)).alloc (.cells #[.int .i64 kd, .string (bs nm), .slice B l.length cb, .int .i64 rn, .int .i64 rm, .string (bs rf), .string (bs rt), .string (bs rb), .string (bs ra), .string (bs ri), .int .i64 lb] 28)) hl (ha.below hB) (hb.below hB)
  have RA0 : ((w.alloc (.cells #[.int .i64 kd, .string (bs nm), .slice A l.length ca, .int .i64 rn, .int .i64 rm, .string (bs rf), .string (bs rt), .string (bs rb), .string (bs ra), .string (bs ri), .int .i64 la] 28)).alloc (.cells #[.int .i64 kd, .string (bs nm), .slice B l.length cb, .int .i64 rn, .int .i64 rm, .string (bs rf), .string (bs rt), .string (bs rb), .string (bs ra), .string (bs ri), .int .i64 lb] 28)).heap[w.heap.size]? = some (.cells #[.int .i64 kd, .string (bs nm), .slice A l.length ca, .int .i64 rn, .int .i64 rm, .string (bs rf), .string (bs rt), .string (bs rb), .string (bs ra), .string (bs ri), .int .i64 la] 28 (0, 0)) := row_alloc (heap_alloc_new _ _) _
  have RB0 : ((w.alloc (.cells #[.int .i64 kd, .string (bs nm), .slice A l.length ca, .int .i64 rn, .int .i64 rm, .string (bs rf), .string (bs rt), .string (bs rb), .string (bs ra), .string (bs ri), .int .i64 la] 28)).alloc (.cells #[.int .i64 kd, .string (bs nm), .slice B l.length cb, .int .i64 rn, .int .i64 rm, .string (bs rf), .string (bs rt), .string (bs rb), .string (bs ra), .string (bs ri), .int .i64 lb] 28)).heap[w.heap.size + 1]? = some (.cells #[.int .i64 kd, .string (bs nm), .slice B l.length cb, .int .i64 rn, .int .i64 rm, .string (bs rf), .string (bs rt), .string (bs rb), .string (bs ra), .string (bs ri), .int .i64 lb] 28 (0, 0)) := alloc_at (by simp) _
  have SM := Lib.hid sm
  have HB := Lib.hid hB
  clear sm hB ha hb
  go_enter Tryz.func49, Tryz.ntmps49
  go_wp2_with (go_at_call 99; refine SM.out.mono ?_; rintro e w1 ⟨rfl, hb1⟩; have RA := row_below RA0 hb1; have RB := row_below RB0 hb1; have p0 := row_q0 RA; have r0 := row_q0 RB; have p1 := row_q1 RA; have r1 := row_q1 RB; have p2 := row_q2 RA; have r2 := row_q2 RB; have p3 := row_q3 RA; have r3 := row_q3 RB; have p4 := row_q4 RA; have r4 := row_q4 RB; have p5 := row_q5 RA; have r5 := row_q5 RB; have p6 := row_q6 RA; have r6 := row_q6 RB; have p7 := row_q7 RA; have r7 := row_q7 RB; have p8 := row_q8 RA; have r8 := row_q8 RB; have p9 := row_q9 RA; have r9 := row_q9 RB; have p10 := row_q10 RA; have r10 := row_q10 RB)
  go_ret
  exact ⟨rfl, below_then HB.out hb1 (by simp; omega)⟩

end Go.Proofs.YtnnmjmjbfeoggaaGreatDoor
