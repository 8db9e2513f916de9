/-
  WordsJoin: words put together with blanks, however many, are these words; a comment behind them is nothing: for every list of texts, every list of integers and every text.
-/
import Derived.Test.YtoojhpgjekdlgaaLawSplit
namespace Go.Proofs.Ytoojhpgjekdlgaa
open Go.ChangeShapes Go.WideShapes Go.ChangeAt Go.RowKit

/-- two slices that hold the same words are the same -/
theorem Same_words (A B : Option Addr) (ws : List (Nat × List UInt8)) (n c d : Nat) (w : World) (hn : n = ws.length) (hs : ws.length ≤ 100000) (hc : ws.length ≤ c) (hd : ws.length ≤ d) (ha : WordsAt w A ws) (hb : WordsAt w B ws) :
    Calls Try.prog 11 #[.slice A n c, .slice B n d] w fun e w' => e = .returned (.bool true) ∧ ∃ m, w' = w.drewN m := by
  subst hn
  have HA := Lib.hid ha
  have HB := Lib.hid hb
  clear ha hb
  have hc2 : (ws.length : Int) ≤ c := by omega
  have hd2 : (ws.length : Int) ≤ d := by omega
  go_enter Try.func11, Try.ntmps11
  go_wp2
  go_loopw [5] (fun i wr => ∃ k m : Nat, k ≤ ws.length ∧ i = .int .i64 k ∧ wr = w.drewN m) (fun i _ => ws.length - (intOf i).toNat)
  case atStart => exact ⟨0, 0, Nat.zero_le _, rfl, rfl⟩
  case round =>
    obtain ⟨k, m, hk, rfl, rfl⟩ := hrel
    by_cases hlt : k < ws.length
    · obtain ⟨g2, rfl, x1, x2⟩ := HA.out k hlt
      obtain ⟨g3, rfl, y1, y2⟩ := HB.out k hlt
      generalize (bs ws[k].2) = st at *
      generalize (ws[k].1) = cl at *
      have hki : (k : Int) < ws.length := by omega
      go_wp2
      go_quiet (fail)
      go_wp2
      go_roundw
      case rel => exact ⟨k + 1, _, by omega, by go_num, rfl⟩
      case measure => simp [intOf]; omega
    · go_wp2
      go_ret
      exact ⟨rfl, _, rfl⟩

theorem toks_next (P C : List UInt8) (n : Nat) (hn : 1 ≤ n) (hC : okW C) (hne : C ≠ []) : toks (P ++ List.replicate n 32 ++ C) 1 = toks P 1 ++ [(P.length + n + 1, C)] := by
  obtain ⟨m, rfl⟩ : ∃ m, n = m + 1 := ⟨n - 1, by omega⟩
  rw [List.replicate_succ, List.append_assoc, List.cons_append, toks_append, toks_blanks, toks_one hC hne]
  congr 3; omega
theorem toks_trail (P : List UInt8) : toks (P ++ [32, 32]) 1 = toks P 1 := by
  have := toks_append P [32] 1
  rw [toks_blank, toks_nil, List.append_nil] at this; exact this
/-- what has been put together: the line so far, its words -/
def Joined (P : List UInt8) (ws : List (Nat × List UInt8)) (k : Nat) : Prop := okP P ∧ toks P 1 = ws ∧ P.length ≤ 15 * k ∧ ws.length = k
theorem Joined.start : Joined [] [] 0 := ⟨fun b hb => by simp at hb, toks_nil 1, by simp, rfl⟩
theorem Joined.next {P : List UInt8} {ws : List (Nat × List UInt8)} {k n : Nat} (h : Joined P ws k) (hn : 1 ≤ n) (hn4 : n ≤ 4) (l : List UInt8) :
    Joined (P ++ List.replicate n 32 ++ cleanL l) (ws ++ [(P.length + n + 1, cleanL l)]) (k + 1) := by
  have hl := clean_le l
  refine ⟨okP_append (okP_append h.1 (okP_blanks n)) (okW_clean l).p, ?_, ?_, ?_⟩
  · rw [toks_next P _ n hn (okW_clean l) (clean_ne l), h.2.1]
  · have := h.2.2.1; simp; omega
  · rw [List.length_append, h.2.2.2]; rfl
theorem join_below {w wr w1 w2 : World} {o : Obj} {e size n : Nat} {v : Value} {xs : List Value} (h : Below w.heap.size w wr) (h1 : Below wr.heap.size wr w1) (hown : wr.ownsRow w.heap.size e size v n xs) (hg : (w1.alloc o).grownBy w2 v.ownBlock) : Below w.heap.size w w2 := by
  have z := h.size
  have z1 := h1.size
  exact ((below_then h h1 z).alloc (by omega) o).grown hg (by simp; omega) (fun g hg => (hown.lt g hg).1)
theorem own_snoc2 {w : World} {B e : Nat} {v : Value} {out : List (Nat × List UInt8)} {a : Nat} {W : List UInt8} (h : w.ownsRow B e 2 v (out.length + 1) (wcells out ++ [.string (bs W), .int .i64 (a + 1)])) :
    w.ownsRow B e 2 v (out ++ [(a + 1, W)]).length (wcells (out ++ [(a + 1, W)])) := by
  rw [wcells_append, List.length_append]
  simpa [wcells, wcell] using h
theorem join_end {w wr w1 w2 w3 w4 : World} {m : Nat} (h : Below w.heap.size w wr) (h1 : Below wr.heap.size wr w1) (h2 : Below w1.heap.size w1 w2) (h3 : Below w2.heap.size w2 w3) (h4 : Below (w3.drewN m).heap.size (w3.drewN m) w4) : Below w.heap.size w w4 := by
  have := h.size; have := h1.size; have := h2.size; have := h3.size
  exact below_then (below_drewN (below_then (below_then (below_then h h1 (by omega)) h2 (by omega)) h3 (by omega)) m) h4 (by show _ ≤ w3.heap.size; omega)
theorem wordsAt_drewN {w : World} {A : Option Addr} {ws : List (Nat × List UInt8)} (h : WordsAt w A ws) (n : Nat) : WordsAt (w.drewN n) A ws := h
theorem join_at {w1 w2 w3 : World} {A : Option Addr} {ws : List (Nat × List UInt8)} (h : WordsAt w1 A ws) (hA : ∀ a, A = some a → a.block < w1.heap.size) (h2 : Below w1.heap.size w1 w2) (h3 : Below w2.heap.size w2 w3) : WordsAt w3 A ws :=
  (h.below h2 hA).below h3 (fun a ha => by have := hA a ha; have := h2.size; omega)
theorem join_at0 {w0 w1 w2 w3 : World} {A : Option Addr} {ws : List (Nat × List UInt8)} (h : WordsAt w0 A ws) (hA : ∀ a, A = some a → a.block < w0.heap.size) (h1 : Below w0.heap.size w0 w1) (h2 : Below w1.heap.size w1 w2) (h3 : Below w2.heap.size w2 w3) : WordsAt w3 A ws :=
  join_at (h.below h1 hA) (fun a ha => by have := hA a ha; have := h1.size; omega) h2 h3
set_option maxRecDepth 100000 in
set_option maxHeartbeats 4000000 in
theorem join_walk (w : World) (vl : Value) (ss : List ByteArray) (hss : StrsAt w vl ss) (vg : Value) (zs : List Int) (hzs : IntsAt w vg zs) (note : ByteArray) (hn : note.size ≤ 140737488351232) :
    Calls Try.prog 3 #[vl, vg, .string note] w (TrueOn w) := by
  obtain ⟨AL, capL, rfl, hl, hcl⟩ := hss
  obtain ⟨AG, capG, rfl, hg, hcg⟩ := hzs
  unfold maxLen at hl hg
  have HCL := Lib.hid hcl
  have HCG := Lib.hid hcg
  clear hcl hcg
  obtain ⟨i0, hi, hz0, hz1, hz2⟩ := info_parts Try.infoWord
  go_enter Try.func3, Try.ntmps3
  go_wp2
  go_loopw [7, 8, 9] (fun s v i wr => ∃ (k : Nat) (P : List UInt8) (ws : List (Nat × List UInt8)), k ≤ ss.length ∧ k ≤ 6 ∧ i = .int .i64 k ∧ s = .string (bs P) ∧ Joined P ws k ∧ wr.ownsRow w.heap.size 28 2 v ws.length (wcells ws) ∧ Below w.heap.size w wr) (fun _ _ i _ => 6 - (intOf i).toNat)
  case atStart => exact ⟨0, [], [], Nat.zero_le _, by omega, rfl, rfl, Joined.start, World.ownsRow_nil _ _ _ _, Below.refl _ _⟩
  case round =>
    obtain ⟨k, P, ws, hk, hk6, rfl, rfl, hJ, hown, hbw⟩ := hrel
    by_cases hgo : k < ss.length ∧ k < 6
    · obtain ⟨hlt, hlt6⟩ := hgo
      obtain ⟨b, off, rfl, hbb, hcl, hsk⟩ := HCL.out k hlt
      have hcell := (hbw.cell (p := ⟨b, off + k, none⟩) hbb).trans hcl
      have hbb2 : b < wr.heap.size := by have := hbw.size; omega
      have hCl := clean_le ss[k].data.toList
      generalize hC : cleanL ss[k].data.toList = C at *
      have HC := Lib.hid hC
      generalize hsk0 : ss[k] = sk at *
      clear hsk0
      have hki : (k : Int) < ss.length := by omega
      by_cases hkg : k < zs.length
      · obtain ⟨b2, off2, rfl, hbg, hcg, hwf⟩ := HCG.out k hkg
        have hcellg := (hbw.cell (p := ⟨b2, off2 + k, none⟩) hbg).trans hcg
        clear hcg hbg
        have hwb := within_bd zs[k] 4 (by omega)
        obtain ⟨m, hm⟩ : ∃ m : Nat, within zs[k] 4 = (m : Int) := ⟨(within zs[k] 4).toNat, by omega⟩
        have HM := Lib.hid hm
        have hm4 : m < 4 := by omega
        clear hm hwb
        generalize zs[k] = z at *
        have hkgi : (k : Int) < zs.length := by omega
        have hCs : (bs C).size ≤ 11 := hCl
        have hPs : P.length ≤ 100 := by have := hJ.2.2.1; omega
        have HJN := Lib.hid (hJ.next (n := (1 + m)) (by omega) (by omega) sk.data.toList)
        rw [hC] at HJN
        have HE : Hid ((bs (P ++ List.replicate (1 + m) 32)).size = P.length + (1 + m)) := by show _ = _; rw [size_bs]; simp
        have HF : Hid (bs (P ++ List.replicate (1 + m) 32) ++ bs C = bs (P ++ List.replicate (1 + m) 32 ++ C)) := bs_append _ _
        have hQs : (bs (P ++ List.replicate (1 + m) 32)).size ≤ 104 := by rw [HE.out]; omega
        have hJs : ws.length ≤ 6 := by have := hJ.2.2.2; omega
        clear hJ
        go_wp2_with (go_at_call 8; refine (Within_any _ _ _ hwf (by omega) (by omega)).mono ?_; rintro e w1 ⟨rfl, rfl⟩; rw [HM.out])
        go_loop [7, 11] (fun v i => ∃ j : Nat, j ≤ (1 + m) ∧ i = .int .i64 j ∧ v = .string (bs (P ++ List.replicate j 32))) (fun _ i => (1 + m) - (intOf i).toNat)
        case atStart => exact ⟨0, Nat.zero_le _, rfl, by simp⟩
        case round =>
          obtain ⟨j, hj, rfl, rfl⟩ := hrel
          have hjs : (bs (P ++ List.replicate j 32)).size ≤ 104 := by rw [size_bs]; simp; omega
          by_cases hjl : j < (1 + m)
          · have HB : Hid (bs (P ++ List.replicate j 32) ++ (⟨#[32]⟩ : ByteArray) = bs (P ++ List.replicate (j + 1) 32)) := by
              show _ = _
              rw [show (⟨#[32]⟩ : ByteArray) = bs [32] from rfl, bs_append, List.append_assoc, ← List.replicate_succ']
            go_wp2
            go_round
            case rel => exact ⟨j + 1, by omega, by go_num, by rw [HB.out]⟩
            case measure => simp [intOf]; omega
          · obtain rfl : j = (1 + m) := by omega
            clear hjl hj hjs
            generalize hq : bs (P ++ List.replicate (1 + m) 32) = QB at *
            clear hq
            have tok1 : True := trivial
            go_wp2_with (first
              | (go_at_call 9; have _t := tok1; refine (clean_any _ _ hsk).mono ?_; rintro e w1 ⟨rfl, hb1⟩; rw [HC.out]; clear tok1 _t)
              | (at_builtin; go_must (refine wpList_append_own _ rfl (.tmp 45) (.tmp 55) 24 rfl w.heap.size 28 i0 _ 2 24 Try.underlying24 hi hz0 hz1 hz2 rfl (by decide) _ _ _ rfl ((own_below hown hb1 hbw.size).alloc _) ⟨w1.heap.size, 0, none⟩ 1 1 [.string (bs C), .int .i64 (QB.size + 1)] rfl rfl (cells_new _ _ _) (by intro u hu; simp at hu; rcases hu with rfl | rfl <;> rfl) (by unfold maxLen; omega) (by omega) (by have := hbw.size; have := hb1.size; simp; omega) ?_); intro v2 w2 hown2 hg2 _; have hbw2 : Below w.heap.size w w2 := join_below hbw hb1 hown hg2; have hcell2 := (hbw2.cell (p := ⟨b, off + k, none⟩) hbb).trans hcl; clear hg2)
              | (go_at_call 9; refine (clean_any _ _ hsk).mono ?_; rintro e w3 ⟨rfl, hb3⟩; rw [HC.out]))
            go_roundw
            case rel =>
              refine ⟨k + 1, _, _, by omega, by omega, by go_num, by rw [HF.out], HJN.out, ?_, below_then hbw2 hb3 hbw2.size⟩
              rw [HE.out] at hown2
              exact own_below (own_snoc2 hown2) hb3 hbw2.size
            case measure => simp [intOf]; omega
      · have hkgi : (zs.length : Int) ≤ k := by omega
        have hCs : (bs C).size ≤ 11 := hCl
        have hPs : P.length ≤ 100 := by have := hJ.2.2.1; omega
        have HJN := Lib.hid (hJ.next (n := 1) (by omega) (by omega) sk.data.toList)
        rw [hC] at HJN
        have HE : Hid ((bs (P ++ List.replicate 1 32)).size = P.length + 1) := by show _ = _; rw [size_bs]; simp
        have HF : Hid (bs (P ++ List.replicate 1 32) ++ bs C = bs (P ++ List.replicate 1 32 ++ C)) := bs_append _ _
        have hQs : (bs (P ++ List.replicate 1 32)).size ≤ 104 := by rw [HE.out]; omega
        have hJs : ws.length ≤ 6 := by have := hJ.2.2.2; omega
        clear hJ
        go_wp2
        go_loop [7, 11] (fun v i => ∃ j : Nat, j ≤ 1 ∧ i = .int .i64 j ∧ v = .string (bs (P ++ List.replicate j 32))) (fun _ i => 1 - (intOf i).toNat)
        case atStart => exact ⟨0, Nat.zero_le _, rfl, by simp⟩
        case round =>
          obtain ⟨j, hj, rfl, rfl⟩ := hrel
          have hjs : (bs (P ++ List.replicate j 32)).size ≤ 104 := by rw [size_bs]; simp; omega
          by_cases hjl : j < 1
          · have HB : Hid (bs (P ++ List.replicate j 32) ++ (⟨#[32]⟩ : ByteArray) = bs (P ++ List.replicate (j + 1) 32)) := by
              show _ = _
              rw [show (⟨#[32]⟩ : ByteArray) = bs [32] from rfl, bs_append, List.append_assoc, ← List.replicate_succ']
            go_wp2
            go_round
            case rel => exact ⟨j + 1, by omega, by go_num, by rw [HB.out]⟩
            case measure => simp [intOf]; omega
          · obtain rfl : j = 1 := by omega
            clear hjl hj hjs
            generalize hq : bs (P ++ List.replicate 1 32) = QB at *
            clear hq
            have tok1 : True := trivial
            go_wp2_with (first
              | (go_at_call 9; have _t := tok1; refine (clean_any _ _ hsk).mono ?_; rintro e w1 ⟨rfl, hb1⟩; rw [HC.out]; clear tok1 _t)
              | (at_builtin; go_must (refine wpList_append_own _ rfl (.tmp 45) (.tmp 55) 24 rfl w.heap.size 28 i0 _ 2 24 Try.underlying24 hi hz0 hz1 hz2 rfl (by decide) _ _ _ rfl ((own_below hown hb1 hbw.size).alloc _) ⟨w1.heap.size, 0, none⟩ 1 1 [.string (bs C), .int .i64 (QB.size + 1)] rfl rfl (cells_new _ _ _) (by intro u hu; simp at hu; rcases hu with rfl | rfl <;> rfl) (by unfold maxLen; omega) (by omega) (by have := hbw.size; have := hb1.size; simp; omega) ?_); intro v2 w2 hown2 hg2 _; have hbw2 : Below w.heap.size w w2 := join_below hbw hb1 hown hg2; have hcell2 := (hbw2.cell (p := ⟨b, off + k, none⟩) hbb).trans hcl; clear hg2)
              | (go_at_call 9; refine (clean_any _ _ hsk).mono ?_; rintro e w3 ⟨rfl, hb3⟩; rw [HC.out]))
            go_roundw
            case rel =>
              refine ⟨k + 1, _, _, by omega, by omega, by go_num, by rw [HF.out], HJN.out, ?_, below_then hbw2 hb3 hbw2.size⟩
              rw [HE.out] at hown2
              exact own_below (own_snoc2 hown2) hb3 hbw2.size
            case measure => simp [intOf]; omega
    · have hgo' : ss.length ≤ k ∨ k = 6 := by omega
      have hJ1 := hJ.1
      have hJt := hJ.2.1
      have hJl := hJ.2.2.1
      have hJk : ws.length ≤ 6 := by have := hJ.2.2.2; omega
      have hn1 : bs P ++ (⟨#[32, 32, 35, 32]⟩ : ByteArray) = bs (P ++ [32, 32] ++ 35 :: [32]) := by
        rw [show (⟨#[32, 32, 35, 32]⟩ : ByteArray) = bs [32, 32, 35, 32] from rfl, bs_append]; simp
      have hn2 : bs (P ++ [32, 32] ++ 35 :: [32]) ++ note = bs (P ++ [32, 32] ++ 35 :: (32 :: note.data.toList)) := by
        rw [← bs_list note, bs_append, list_bs]; simp
      have hn3 : bs P ++ (⟨#[35]⟩ : ByteArray) = bs (P ++ 35 :: []) := bs_append P [35]
      have z0 : (bs P).size ≤ 90 := by rw [size_bs]; omega
      have z1 : (bs (P ++ [32, 32] ++ 35 :: [32])).size ≤ 94 := by rw [size_bs]; simp; omega
      have c1 := fun W => Split_whole P ws W hJ1 (by omega) hJt
      have c2 := fun W => Split_note (P ++ [32, 32]) (32 :: note.data.toList) ws W (okP_append hJ1 (okP_blanks 2)) (by simp; omega) (by rw [size_bs]; simp; unfold maxLen; omega) (by rw [toks_trail, hJt])
      have c3 := fun W => Split_note P [] ws W hJ1 (by omega) (by rw [size_bs]; simp; unfold maxLen; omega) hJt
      generalize bs (P ++ [32, 32] ++ 35 :: (32 :: note.data.toList)) = T2 at *
      generalize bs (P ++ [32, 32] ++ 35 :: [32]) = T1 at *
      generalize bs (P ++ 35 :: []) = T3 at *
      generalize bs P = T0 at *
      have C1 := Lib.hid c1; have C2 := Lib.hid c2; have C3 := Lib.hid c3
      clear c1 c2 c3 hJ1 hJt hJ
      obtain ⟨A0, cap0, rfl, hA0, hcap0, hw0⟩ := wordsAt_of hown
      have HW0 := Lib.hid hw0; have HA0 := Lib.hid hA0
      clear hown hw0 hA0
      have hsm : ws.length ≤ 100000 := by omega
      have walk : ∀ (b : Bool), decide ((k : Int) < ss.length) = b → (b = true → decide ((k : Int) < 6) = false) → True := fun _ _ _ => trivial
      clear walk
      by_cases hkl : k < ss.length
      · have hk6' : decide ((k : Int) < 6) = false := by simp; omega
        have hkl' : (k : Int) < ss.length := by omega
        clear hgo hgo'
        go_wp2_with (first
          | (go_at_call_of 10 (Value.string T0); refine (C1.out _).mono ?_; rintro e w1 ⟨v1, rfl, hown1, hb1⟩; obtain ⟨A1, cap1, rfl, hA1, hcap1, hw1⟩ := wordsAt_of hown1; have HW1 := Lib.hid hw1; have HA1 := Lib.hid hA1; clear hown1 hw1 hA1)
          | (go_at_call_of 10 (Value.string T2); refine (C2.out _).mono ?_; rintro e w2 ⟨v2, rfl, hown2, hb2⟩; obtain ⟨A2, cap2, rfl, hA2, hcap2, hw2⟩ := wordsAt_of hown2; have HW2 := Lib.hid hw2; have HA2 := Lib.hid hA2; clear hown2 hw2 hA2)
          | (go_at_call_of 10 (Value.string T3); refine (C3.out _).mono ?_; rintro e w3 ⟨v3, rfl, hown3, hb3⟩; obtain ⟨A3, cap3, rfl, hA3, hcap3, hw3⟩ := wordsAt_of hown3; have HW3 := Lib.hid hw3; have HA3 := Lib.hid hA3; clear hown3 hw3 hA3)
          | (go_at_call_of 11 (Value.slice A1 ws.length cap1); refine (Same_words A1 A0 ws _ _ _ _ rfl hsm hcap1 hcap0 (by exact join_at HW1.out HA1.out hb2 hb3) (by exact join_at0 HW0.out HA0.out hb1 hb2 hb3)).mono ?_; rintro e w4 ⟨rfl, m1, rfl⟩)
          | (go_at_call_of 11 (Value.slice A2 ws.length cap2); refine (Same_words A2 A0 ws _ _ _ _ rfl hsm hcap2 hcap0 (by exact wordsAt_drewN (HW2.out.below hb3 HA2.out) _) (by exact wordsAt_drewN (join_at0 HW0.out HA0.out hb1 hb2 hb3) _)).mono ?_; rintro e w5 ⟨rfl, m2, rfl⟩)
          | (go_at_call_of 11 (Value.slice A3 ws.length cap3); refine (Same_words A3 A0 ws _ _ _ _ rfl hsm hcap3 hcap0 (by exact wordsAt_drewN HW3.out _) (by exact wordsAt_drewN (join_at0 HW0.out HA0.out hb1 hb2 hb3) _)).mono ?_; rintro e w7 ⟨rfl, m3, rfl⟩)
          | (go_at_call 12; refine (wakes01 _).mono ?_; rintro e w6 ⟨rfl, hb6⟩))
        go_ret
        exact ⟨rfl, join_end hbw hb1 hb2 hb3 hb6⟩
      · have hkl' : decide ((k : Int) < ss.length) = false := by simp; omega
        clear hgo hgo'
        go_wp2_with (first
          | (go_at_call_of 10 (Value.string T0); refine (C1.out _).mono ?_; rintro e w1 ⟨v1, rfl, hown1, hb1⟩; obtain ⟨A1, cap1, rfl, hA1, hcap1, hw1⟩ := wordsAt_of hown1; have HW1 := Lib.hid hw1; have HA1 := Lib.hid hA1; clear hown1 hw1 hA1)
          | (go_at_call_of 10 (Value.string T2); refine (C2.out _).mono ?_; rintro e w2 ⟨v2, rfl, hown2, hb2⟩; obtain ⟨A2, cap2, rfl, hA2, hcap2, hw2⟩ := wordsAt_of hown2; have HW2 := Lib.hid hw2; have HA2 := Lib.hid hA2; clear hown2 hw2 hA2)
          | (go_at_call_of 10 (Value.string T3); refine (C3.out _).mono ?_; rintro e w3 ⟨v3, rfl, hown3, hb3⟩; obtain ⟨A3, cap3, rfl, hA3, hcap3, hw3⟩ := wordsAt_of hown3; have HW3 := Lib.hid hw3; have HA3 := Lib.hid hA3; clear hown3 hw3 hA3)
          | (go_at_call_of 11 (Value.slice A1 ws.length cap1); refine (Same_words A1 A0 ws _ _ _ _ rfl hsm hcap1 hcap0 (by exact join_at HW1.out HA1.out hb2 hb3) (by exact join_at0 HW0.out HA0.out hb1 hb2 hb3)).mono ?_; rintro e w4 ⟨rfl, m1, rfl⟩)
          | (go_at_call_of 11 (Value.slice A2 ws.length cap2); refine (Same_words A2 A0 ws _ _ _ _ rfl hsm hcap2 hcap0 (by exact wordsAt_drewN (HW2.out.below hb3 HA2.out) _) (by exact wordsAt_drewN (join_at0 HW0.out HA0.out hb1 hb2 hb3) _)).mono ?_; rintro e w5 ⟨rfl, m2, rfl⟩)
          | (go_at_call_of 11 (Value.slice A3 ws.length cap3); refine (Same_words A3 A0 ws _ _ _ _ rfl hsm hcap3 hcap0 (by exact wordsAt_drewN HW3.out _) (by exact wordsAt_drewN (join_at0 HW0.out HA0.out hb1 hb2 hb3) _)).mono ?_; rintro e w7 ⟨rfl, m3, rfl⟩)
          | (go_at_call 12; refine (wakes01 _).mono ?_; rintro e w6 ⟨rfl, hb6⟩))
        go_ret
        exact ⟨rfl, join_end hbw hb1 hb2 hb3 hb6⟩
end Go.Proofs.Ytoojhpgjekdlgaa
