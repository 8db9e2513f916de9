/-
  RulePlaces: as many blanks ahead of a line move what is wrong by as many columns: the walk.
-/
import Derived.Test.YtgmhgiihbgcigaaDoorShift
import Derived.Test.YtgmhgiihbgcigaaDoorRule02
namespace Go.Proofs.YtgmhgiihbgcigaaDoor
set_option maxRecDepth 100000
open Go.ChangeShapes Go.WideShapes Go.ChangeAt Go.RowKit

theorem HandleAt.below {w w' : World} (h : HandleAt w) (hb : Below w.heap.size w w') : HandleAt w' := (hb.cell (World.block_lt_of_cell? w _ h)).trans h
theorem FaultAt.below {w w' : World} {b : Nat} {l c k : Int} (h : FaultAt w b l c k) (hl : b < w.heap.size) (hb : Below w.heap.size w w') : FaultAt w' b l c k :=
  ⟨(hb.cell (p := ⟨b, 0, none⟩) hl).trans h.1, (hb.cell (p := ⟨b, 1, none⟩) hl).trans h.2.1, (hb.cell (p := ⟨b, 2, none⟩) hl).trans h.2.2⟩
theorem parse_small (t : ByteArray) (n : Int) (w : World) (h : t.size ≤ 100000) : Calls Tryd.prog 7 #[.string t, .int .i64 n] w (ParseTo (parseL t.data.toList) n w) :=
  Parse_any t n w (by omega) (fun _ => by have := partL_le t.data.toList; rw [size_list] at this; omega)
theorem parse_code {L : List UInt8} {c : Nat} {k : Int} (h : parseL L = .bad c k) : k = 1 ∨ k = 2 := by
  unfold parseL at h
  split at h
  · cases h; exact .inr rfl
  · split at h
    · cases h
    · unfold parseW at h
      split at h
      · cases h; exact .inr rfl
      · split at h
        · cases h; exact .inl rfl
        · cases h
theorem own_max {w : World} {base : Nat} {v : Value} {l : List Tx} (h : OwnL w base v l) : l.length ≤ 9223372036854775807 := by
  rcases h.2 with ⟨_, h0⟩ | ⟨g, cap, cur, _, _, _, hc, hm, _⟩
  · omega
  · unfold maxLen at hm; omega
theorem blanks_snoc (k : Nat) : bs (blanks k) ++ ⟨#[32]⟩ = bs (blanks (k + 1)) := by
  have e : (⟨#[32]⟩ : ByteArray) = bs [32] := rfl
  rw [e, bs_append]; congr 1
  unfold blanks; rw [List.replicate_succ']
set_option maxHeartbeats 4000000 in
theorem places02_walk (w : World) (s : ByteArray) (v : Value) (zs : List Int) (hz : IntsAt w v zs) (a b : Int) (ha : (Lit.int .i64 a).wf = true) (hb : (Lit.int .i64 b).wf = true) (hg : HandleAt w) :
    Calls Tryd.prog 3 #[.string s, v, .int .i64 a, .int .i64 b] w (TrueOn w) := by
  have hwa := fun W => Within_any a 20 W ha (by omega) (by omega)
  have hwb := fun W => Within_any b 500 W hb (by omega) (by omega)
  have h1 := within_bd a 20 (by omega)
  have h2 := within_bd b 500 (by omega)
  obtain ⟨n, hn⟩ : ∃ n : Nat, within a 20 = n := ⟨(within a 20).toNat, by omega⟩
  generalize within b 500 = ln at *
  rw [hn] at hwa h1
  have HWA := Lib.hid hwa
  have HWB := Lib.hid hwb
  have HL := Lib.hid (Line_any s v zs w hz)
  clear hwa hwb hn hz
  have tok1 : True := trivial
  go_enter Tryd.func3, Tryd.ntmps3
  go_upto_region 4 with (first
    | (go_at_call 5; refine HL.out.mono ?_; rintro e w1 ⟨t, rfl, ht, hb1⟩)
    | (have _t := tok1; go_at_call 6; refine (HWA.out _).mono ?_; rintro e w2 ⟨rfl, rfl⟩; clear tok1 _t)
    | (go_at_call 6; refine (HWB.out _).mono ?_; rintro e w3 ⟨rfl, rfl⟩))
  have C1 := fun W => parse_small t 1 W (by omega)
  have C2 := fun W => parse_small (bs (blanks n) ++ t) ln W (by rw [ByteArray.size_append, size_bs]; simp [blanks]; omega)
  have hcat : (bs (blanks n) ++ t).data.toList = blanks n ++ t.data.toList := by simp [ByteArray.data_append]; rfl
  rw [hcat, parse_blanks] at C2
  have hcode : ∀ c k, parseL t.data.toList = .bad c k → c ≤ 201 := fun c k h => by have := parse_col h; rw [size_list] at this; omega
  clear hcat
  generalize parseL t.data.toList = p at *
  have HC1 := Lib.hid C1
  have HC2 := Lib.hid C2
  have HH : Hid (HandleAt w1) := hg.below hb1
  clear C1 C2 HL hg
  go_upto_region 5 with fail
  go_loop [10, 11] (fun t' i => ∃ k : Nat, k ≤ n ∧ i = .int .i64 k ∧ t' = .string (bs (blanks k))) (fun _ i => n - (intOf i).toNat)
  case atStart => exact ⟨0, Nat.zero_le _, rfl, rfl⟩
  case round =>
    obtain ⟨k, hk, rfl, rfl⟩ := hrel
    by_cases hlt : k < n
    · have hbk := blanks_snoc k
      have hbz : (bs (blanks k)).size ≤ 20 := by rw [size_bs]; simp [blanks]; omega
      go_wp2
      go_round
      case rel => exact ⟨k + 1, by omega, by go_num, rfl⟩
      case measure => simp [intOf]; omega
    · obtain rfl : k = n := by omega
      have hbz : (bs (blanks k)).size ≤ 20 := by rw [size_bs]; simp [blanks]; omega
      clear HWA HWB
      cases p with
      | bad c kd =>
        have hcl := hcode c kd rfl
        have HC2' : Hid (∀ W, Calls Tryd.prog 7 #[.string (bs (blanks k) ++ t), .int .i64 ln] W (ParseTo (.bad (c + k) kd) ln W)) := HC2
        clear HC2 hcode
        go_upto_region 9 with (go_at_call 7; refine (HC1.out _).mono ?_; rintro e w2 ⟨hb2, fb, rfl, hf1, hf2, hF⟩; dsimp only [zeroV, zero11])
        have HF3 : Hid (FaultAt (w2.alloc (.cells zero11 27)) fb 1 c kd) := hF.below hf2 ((Below.refl _ _).alloc (Nat.le_refl _) _)
        have HH3 : Hid (HandleAt (w2.alloc (.cells zero11 27))) := (HH.out.below hb2).below ((Below.refl _ _).alloc (Nat.le_refl _) _)
        have hf3 : fb < (w2.alloc (.cells zero11 27)).heap.size := by simp; omega
        have hB3 : Below w.heap.size w (w2.alloc (.cells zero11 27)) := (below_then hb1 hb2 hb1.size).alloc (by have := hb1.size; have := hb2.size; omega) _
        have HB3 := Lib.hid hB3
        clear hF HH hB3
        go_upto_region 10 with (go_at_call 7; refine (HC2'.out _).mono ?_; rintro e w4 ⟨hb4, gb, rfl, hg1, hg2, hG⟩; dsimp only [zeroV, zero11])
        have HF5 : Hid (FaultAt (w4.alloc (.cells zero11 27)) fb 1 c kd) := (HF3.out.below hf3 hb4).below (Nat.lt_of_lt_of_le hf3 hb4.size) ((Below.refl _ _).alloc (Nat.le_refl _) _)
        have HG5 : Hid (FaultAt (w4.alloc (.cells zero11 27)) gb ln ((c + k : Nat) : Int) kd) := hG.below hg2 ((Below.refl _ _).alloc (Nat.le_refl _) _)
        have HH5 : Hid (HandleAt (w4.alloc (.cells zero11 27))) := (HH3.out.below hb4).below ((Below.refl _ _).alloc (Nat.le_refl _) _)
        have hs3 : w.heap.size ≤ (w2.alloc (.cells zero11 27)).heap.size := HB3.out.size
        have hB5 : Below w.heap.size w (w4.alloc (.cells zero11 27)) := (below_then HB3.out hb4 hs3).alloc (Nat.le_trans hs3 hb4.size) _
        have HB5 := Lib.hid hB5
        have hg5 : gb < (w4.alloc (.cells zero11 27)).heap.size := by simp; omega
        have hf5 : fb < (w4.alloc (.cells zero11 27)).heap.size := by have := hb4.size; simp at this ⊢; omega
        clear hG hB5 HF3 HH3 HB3
        generalize hw5 : w4.alloc (.cells #[.int .i64 0, .string ⟨#[]⟩, .slice none 0 0, .int .i64 0, .int .i64 0, .string ⟨#[]⟩, .string ⟨#[]⟩, .string ⟨#[]⟩, .string ⟨#[]⟩, .string ⟨#[]⟩, .int .i64 0] 27) = w5
        rw [show w4.alloc (.cells zero11 27) = w5 from hw5] at HF5 HG5 HH5 HB5 hg5 hf5
        clear hw5 hb4 hs3
        go_wp2
        go_quiet (fail)
        have KA : ∀ n, Calls Tryd.prog 10 #[.iface 49 (.pointer (some ⟨fb, 0, none⟩))] (w5.drewN n) fun e w' => e = .returned (.tuple #[.int .i64 1, .int .i64 c, .bool true]) ∧ Below w5.heap.size w5 w' := fun n => (keepAt fb 1 c kd (w5.drewN n) HF5.out HH5.out).mono fun e w' h => ⟨h.1, ⟨h.2.os, h.2.tape, h.2.output, h.2.size, h.2.block⟩⟩
        go_upto_region 15 with (go_at_call 10; refine (KA _).mono ?_; rintro e w6 ⟨rfl, hb6⟩)
        have hF6 := HF5.out.below hf5 hb6
        have hG6 := HG5.out.below hg5 hb6
        have hf6 := Nat.lt_of_lt_of_le hf5 hb6.size
        have hg6 := Nat.lt_of_lt_of_le hg5 hb6.size
        have KB := keepAt gb ln ((c + k : Nat) : Int) kd w6 hG6 (HH5.out.below hb6)
        have hB6 : Below w.heap.size w w6 := below_then HB5.out hb6 HB5.out.size
        go_upto_region 16 with (go_at_call 10; refine KB.mono ?_; rintro e w7 ⟨rfl, hb7⟩)
        have KC : Calls Tryd.prog 11 #[.iface 49 (.pointer (some ⟨fb, 0, none⟩)), .int .i64 2] w7 _ := keepIs _ kd 2 w7 (.inr ⟨fb, 0, rfl, (hF6.below hf6 hb7).2.2⟩) (by omega) (by omega)
        have KD : Calls Tryd.prog 11 #[.iface 49 (.pointer (some ⟨gb, 0, none⟩)), .int .i64 2] w7 _ := keepIs _ kd 2 w7 (.inr ⟨gb, 0, rfl, (hG6.below hg6 hb7).2.2⟩) (by omega) (by omega)
        have hB7 : Below w.heap.size w w7 := below_then hB6 hb7 hB6.size
        have e1 : IntKind.i64.wrap ((c : Int) + k) = ((c + k : Nat) : Int) := by rw [IntKind.wrap_i64]; omega
        clear hF6 hG6 hf6 hg6 KA KB hB6 hf5 hg5 HF5 HG5 HH5 HB5 hb6 hb7
        have tok1 : True := trivial
        go_wp2_with (first
          | (have _t := tok1; go_at_call 11; refine KC.mono ?_; rintro e w8 ⟨rfl, rfl⟩; clear tok1 _t)
          | (go_at_call 11; refine KD.mono ?_; rintro e w8 ⟨rfl, rfl⟩)
          | (go_at_call 9; refine (wakes02 _).mono ?_; rintro e w9 ⟨rfl, hb9⟩))
        go_ret
        exact ⟨rfl, below_then hB7 hb9 hB7.size⟩
      | empty =>
        have HC2' : Hid (∀ W, Calls Tryd.prog 7 #[.string (bs (blanks k) ++ t), .int .i64 ln] W (ParseTo .empty ln W)) := HC2
        clear HC2 hcode HH
        go_upto_region 9 with (go_at_call 7; refine (HC1.out _).mono ?_; rintro e w2 ⟨hb2, rfl⟩; dsimp only [zeroV, zero11])
        have hB3 : Below w.heap.size w (w2.alloc (.cells zero11 27)) := (below_then hb1 hb2 hb1.size).alloc (by have := hb1.size; have := hb2.size; omega) _
        have RA3 : (w2.alloc (.cells zero11 27)).heap[w2.heap.size]? = some (.cells #[.int .i64 0, .string ⟨#[]⟩, .slice none 0 0, .int .i64 0, .int .i64 0, .string ⟨#[]⟩, .string ⟨#[]⟩, .string ⟨#[]⟩, .string ⟨#[]⟩, .string ⟨#[]⟩, .int .i64 0] 27 (0, 0)) := heap_alloc_new _ _
        have HB3 := Lib.hid hB3
        clear hB3
        go_upto_region 10 with (go_at_call 7; refine (HC2'.out _).mono ?_; rintro e w4 ⟨hb4, rfl⟩; dsimp only [zeroV, zero11])
        have RA : (w4.alloc (.cells zero11 27)).heap[w2.heap.size]? = some (.cells #[.int .i64 0, .string ⟨#[]⟩, .slice none 0 0, .int .i64 0, .int .i64 0, .string ⟨#[]⟩, .string ⟨#[]⟩, .string ⟨#[]⟩, .string ⟨#[]⟩, .string ⟨#[]⟩, .int .i64 0] 27 (0, 0)) := row_alloc (row_below RA3 hb4) _
        have RB : (w4.alloc (.cells zero11 27)).heap[w4.heap.size]? = some (.cells #[.int .i64 0, .string ⟨#[]⟩, .slice none 0 0, .int .i64 0, .int .i64 0, .string ⟨#[]⟩, .string ⟨#[]⟩, .string ⟨#[]⟩, .string ⟨#[]⟩, .string ⟨#[]⟩, .int .i64 0] 27 (0, 0)) := heap_alloc_new _ _
        have hB5 : Below w.heap.size w (w4.alloc (.cells zero11 27)) := (below_then HB3.out hb4 HB3.out.size).alloc (Nat.le_trans HB3.out.size hb4.size) _
        have HB5 := Lib.hid hB5
        clear hB5 HB3 RA3
        generalize hw5 : w4.alloc (.cells #[.int .i64 0, .string ⟨#[]⟩, .slice none 0 0, .int .i64 0, .int .i64 0, .string ⟨#[]⟩, .string ⟨#[]⟩, .string ⟨#[]⟩, .string ⟨#[]⟩, .string ⟨#[]⟩, .int .i64 0] 27) = w5
        rw [show w4.alloc (.cells zero11 27) = w5 from hw5] at RA RB HB5
        clear hw5 hb4
        have KR : ∀ n, Calls Tryd.prog 8 #[.agg #[.int .i64 0, .string ⟨#[]⟩, .slice none 0 0, .int .i64 0, .int .i64 0, .string ⟨#[]⟩, .string ⟨#[]⟩, .string ⟨#[]⟩, .string ⟨#[]⟩, .string ⟨#[]⟩, .int .i64 0], .agg #[.int .i64 0, .string ⟨#[]⟩, .slice none 0 0, .int .i64 0, .int .i64 0, .string ⟨#[]⟩, .string ⟨#[]⟩, .string ⟨#[]⟩, .string ⟨#[]⟩, .string ⟨#[]⟩, .int .i64 0]] (w5.drewN n) fun e w' => e = .returned (.bool true) ∧ Below w5.heap.size w5 w' := fun n =>
          (keepRule { kind := 0 } none none 0 0 0 0 (w5.drewN n) (by simp) ⟨Nat.le_refl _, fun j hj => by simp at hj⟩ ⟨Nat.le_refl _, fun j hj => by simp at hj⟩).mono fun e w' h => ⟨h.1, ⟨h.2.os, h.2.tape, h.2.output, h.2.size, h.2.block⟩⟩
        go_wp2
        go_quiet (fail)
        have p0 := row_q0 RA; have r0 := row_q0 RB; have p1 := row_q1 RA; have r1 := row_q1 RB; have p2 := row_q2 RA; have r2 := row_q2 RB; have p3 := row_q3 RA; have r3 := row_q3 RB; have p4 := row_q4 RA; have r4 := row_q4 RB; have p5 := row_q5 RA; have r5 := row_q5 RB; have p6 := row_q6 RA; have r6 := row_q6 RB; have p7 := row_q7 RA; have r7 := row_q7 RB; have p8 := row_q8 RA; have r8 := row_q8 RB; have p9 := row_q9 RA; have r9 := row_q9 RB; have p10 := row_q10 RA; have r10 := row_q10 RB
        go_wp2_with (first
          | (go_at_call 8; refine (KR _).mono ?_; rintro e w6 ⟨rfl, hb6⟩)
          | (go_at_call 9; refine (wakes02 _).mono ?_; rintro e w9 ⟨rfl, hb9⟩))
        have hB6 := below_then HB5.out hb6 HB5.out.size
        go_ret
        exact ⟨rfl, below_then hB6 hb9 hB6.size⟩
      | ok r =>
        obtain ⟨kd, nm, l, rn, rm, rf, rt, rb, ra, ri⟩ := r
        have HC2' : Hid (∀ W, Calls Tryd.prog 7 #[.string (bs (blanks k) ++ t), .int .i64 ln] W (ParseTo (.ok ⟨kd, nm, l, rn, rm, rf, rt, rb, ra, ri⟩) ln W)) := HC2
        clear HC2 hcode HH
        go_upto_region 9 with (go_at_call 7; refine (HC1.out _).mono ?_; rintro e w2 ⟨hb2, L1, rfl, ho1⟩; obtain ⟨A1, c1, rfl⟩ := own_slice ho1; dsimp only [ruV])
        have hlm : l.length ≤ 9223372036854775807 := own_max ho1
        have hB3 : Below w.heap.size w (w2.alloc (.cells #[.int .i64 kd, .string (bs nm), .slice A1 l.length c1, .int .i64 rn, .int .i64 rm, .string (bs rf), .string (bs rt), .string (bs rb), .string (bs ra), .string (bs ri), .int .i64 1] 27)) := (below_then hb1 hb2 hb1.size).alloc (by have := hb1.size; have := hb2.size; omega) _
        have RA3 : (w2.alloc (.cells #[.int .i64 kd, .string (bs nm), .slice A1 l.length c1, .int .i64 rn, .int .i64 rm, .string (bs rf), .string (bs rt), .string (bs rb), .string (bs ra), .string (bs ri), .int .i64 1] 27)).heap[w2.heap.size]? = some (.cells #[.int .i64 kd, .string (bs nm), .slice A1 l.length c1, .int .i64 rn, .int .i64 rm, .string (bs rf), .string (bs rt), .string (bs rb), .string (bs ra), .string (bs ri), .int .i64 1] 27 (0, 0)) := heap_alloc_new _ _
        have LA3 : ListAt (w2.alloc (.cells #[.int .i64 kd, .string (bs nm), .slice A1 l.length c1, .int .i64 rn, .int .i64 rm, .string (bs rf), .string (bs rt), .string (bs rb), .string (bs ra), .string (bs ri), .int .i64 1] 27)) A1 c1 l := (listAt_of ho1).below ((Below.refl _ _).alloc (Nat.le_refl _) _)
        have HB3 := Lib.hid hB3
        clear hB3 ho1
        go_upto_region 10 with (go_at_call 7; refine (HC2'.out _).mono ?_; rintro e w4 ⟨hb4, L2, rfl, ho2⟩; obtain ⟨A2, c2, rfl⟩ := own_slice ho2; dsimp only [ruV])
        have RA : (w4.alloc (.cells #[.int .i64 kd, .string (bs nm), .slice A2 l.length c2, .int .i64 rn, .int .i64 rm, .string (bs rf), .string (bs rt), .string (bs rb), .string (bs ra), .string (bs ri), .int .i64 ln] 27)).heap[w2.heap.size]? = some (.cells #[.int .i64 kd, .string (bs nm), .slice A1 l.length c1, .int .i64 rn, .int .i64 rm, .string (bs rf), .string (bs rt), .string (bs rb), .string (bs ra), .string (bs ri), .int .i64 1] 27 (0, 0)) := row_alloc (row_below RA3 hb4) _
        have RB : (w4.alloc (.cells #[.int .i64 kd, .string (bs nm), .slice A2 l.length c2, .int .i64 rn, .int .i64 rm, .string (bs rf), .string (bs rt), .string (bs rb), .string (bs ra), .string (bs ri), .int .i64 ln] 27)).heap[w4.heap.size]? = some (.cells #[.int .i64 kd, .string (bs nm), .slice A2 l.length c2, .int .i64 rn, .int .i64 rm, .string (bs rf), .string (bs rt), .string (bs rb), .string (bs ra), .string (bs ri), .int .i64 ln] 27 (0, 0)) := heap_alloc_new _ _
        have LA : ListAt (w4.alloc (.cells #[.int .i64 kd, .string (bs nm), .slice A2 l.length c2, .int .i64 rn, .int .i64 rm, .string (bs rf), .string (bs rt), .string (bs rb), .string (bs ra), .string (bs ri), .int .i64 ln] 27)) A1 c1 l := (LA3.below hb4).below ((Below.refl _ _).alloc (Nat.le_refl _) _)
        have LB : ListAt (w4.alloc (.cells #[.int .i64 kd, .string (bs nm), .slice A2 l.length c2, .int .i64 rn, .int .i64 rm, .string (bs rf), .string (bs rt), .string (bs rb), .string (bs ra), .string (bs ri), .int .i64 ln] 27)) A2 c2 l := (listAt_of ho2).below ((Below.refl _ _).alloc (Nat.le_refl _) _)
        have hB5 : Below w.heap.size w (w4.alloc (.cells #[.int .i64 kd, .string (bs nm), .slice A2 l.length c2, .int .i64 rn, .int .i64 rm, .string (bs rf), .string (bs rt), .string (bs rb), .string (bs ra), .string (bs ri), .int .i64 ln] 27)) := (below_then HB3.out hb4 HB3.out.size).alloc (Nat.le_trans HB3.out.size hb4.size) _
        have HB5 := Lib.hid hB5
        clear hB5 HB3 RA3 ho2 LA3
        generalize hw5 : w4.alloc (.cells #[.int .i64 kd, .string (bs nm), .slice A2 l.length c2, .int .i64 rn, .int .i64 rm, .string (bs rf), .string (bs rt), .string (bs rb), .string (bs ra), .string (bs ri), .int .i64 ln] 27) = w5 at *
        clear hw5 hb4
        have KR : ∀ n, Calls Tryd.prog 8 #[.agg #[.int .i64 kd, .string (bs nm), .slice A1 l.length c1, .int .i64 rn, .int .i64 rm, .string (bs rf), .string (bs rt), .string (bs rb), .string (bs ra), .string (bs ri), .int .i64 1], .agg #[.int .i64 kd, .string (bs nm), .slice A2 l.length c2, .int .i64 rn, .int .i64 rm, .string (bs rf), .string (bs rt), .string (bs rb), .string (bs ra), .string (bs ri), .int .i64 ln]] (w5.drewN n) fun e w' => e = .returned (.bool true) ∧ Below w5.heap.size w5 w' := fun n =>
          (keepRule ⟨kd, nm, l, rn, rm, rf, rt, rb, ra, ri⟩ A1 A2 c1 c2 1 ln (w5.drewN n) hlm LA LB).mono fun e w' h => ⟨h.1, ⟨h.2.os, h.2.tape, h.2.output, h.2.size, h.2.block⟩⟩
        go_wp2
        go_quiet (fail)
        have p0 := row_q0 RA; have r0 := row_q0 RB; have p1 := row_q1 RA; have r1 := row_q1 RB; have p2 := row_q2 RA; have r2 := row_q2 RB; have p3 := row_q3 RA; have r3 := row_q3 RB; have p4 := row_q4 RA; have r4 := row_q4 RB; have p5 := row_q5 RA; have r5 := row_q5 RB; have p6 := row_q6 RA; have r6 := row_q6 RB; have p7 := row_q7 RA; have r7 := row_q7 RB; have p8 := row_q8 RA; have r8 := row_q8 RB; have p9 := row_q9 RA; have r9 := row_q9 RB; have p10 := row_q10 RA; have r10 := row_q10 RB
        go_wp2_with (first
          | (go_at_call 8; refine (KR _).mono ?_; rintro e w6 ⟨rfl, hb6⟩; have z10 := row_q10 (row_below RB hb6))
          | (go_at_call 9; refine (wakes02 _).mono ?_; rintro e w9 ⟨rfl, hb9⟩))
        have hB6 := below_then HB5.out hb6 HB5.out.size
        go_ret
        exact ⟨rfl, below_then hB6 hb9 hB6.size⟩
end Go.Proofs.YtgmhgiihbgcigaaDoor
