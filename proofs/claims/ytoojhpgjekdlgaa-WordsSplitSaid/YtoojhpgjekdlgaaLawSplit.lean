/-
  WordsSplit: any line by words, or where it is none; which names, which numbers there are: for every two texts.
-/
import Derived.Test.YtoojhpgjekdlgaaRef01b
namespace Go.Proofs.Ytoojhpgjekdlgaa
open Go.ChangeShapes Go.WideShapes Go.ChangeAt Go.RowKit

theorem wcell_at (l : List (Nat × List UInt8)) (k : Nat) (h : k < l.length) : (wcells l)[k * 2]? = some (.string (bs l[k].2)) ∧ (wcells l)[k * 2 + 1]? = some (.int .i64 l[k].1) := by
  induction l generalizing k with
  | nil => simp at h
  | cons a l ih =>
    have e : wcells (a :: l) = .string (bs a.2) :: .int .i64 a.1 :: wcells l := rfl
    rw [e]
    cases k with
    | zero => exact ⟨rfl, rfl⟩
    | succ k =>
      have := ih k (by simpa using h)
      rw [show (k + 1) * 2 = k * 2 + 1 + 1 by omega]
      simpa using this
/-- what a slice of words holds, element by element -/
def WordsAt (w : World) (A : Option Addr) (ws : List (Nat × List UInt8)) : Prop :=
  ∀ k (h : k < ws.length), ∃ g, A = some ⟨g, 0, none⟩ ∧ w.cell? ⟨g, k * 2, none⟩ = some (.string (bs ws[k].2)) ∧ w.cell? ⟨g, k * 2 + 1, none⟩ = some (.int .i64 ws[k].1)
theorem wordsAt_of {w : World} {base e : Nat} {v : Value} {ws : List (Nat × List UInt8)} (h : w.ownsRow base e 2 v ws.length (wcells ws)) : ∃ A cap, v = .slice A ws.length cap ∧ (∀ a, A = some a → a.block < w.heap.size) ∧ ws.length ≤ cap ∧ WordsAt w A ws := by
  by_cases hn : 0 < ws.length
  · obtain ⟨g, cap, hv, _, hg2, hc, hcell⟩ := own_form h hn
    refine ⟨_, _, hv, ?_, hc, fun k hk => ⟨g, rfl, hcell _ _ (wcell_at ws k hk).1, hcell _ _ (wcell_at ws k hk).2⟩⟩
    intro a ha; injection ha with ha; subst ha; exact hg2
  · have h0 : ws.length = 0 := by omega
    rcases h.2 with ⟨hv, _⟩ | ⟨g, cap, cur, hv, _, hg, hc, _⟩
    · refine ⟨none, 0, by rw [hv, h0], by simp, by omega, fun k hk => by omega⟩
    · refine ⟨_, _, hv, ?_, by omega, fun k hk => by omega⟩
      intro a ha; injection ha with ha; subst ha; exact (Array.getElem?_eq_some_iff.1 hg).1
theorem WordsAt.below {w w' : World} {A : Option Addr} {ws : List (Nat × List UInt8)} (h : WordsAt w A ws) (hb : Below w.heap.size w w') (hA : ∀ a, A = some a → a.block < w.heap.size) : WordsAt w' A ws := by
  intro k hk
  obtain ⟨g, e, c1, c2⟩ := h k hk
  have := hA _ e
  exact ⟨g, e, (hb.cell (p := ⟨g, k * 2, none⟩) this).trans c1, (hb.cell (p := ⟨g, k * 2 + 1, none⟩) this).trans c2⟩
theorem wordsL_count (l : List UInt8) : 2 * (wordsL l).length ≤ l.length + 1 := by
  unfold wordsL
  split
  · have h1 := toks_count (partL l) 1
    have h2 := partL_le l
    omega
  · simp
set_option maxHeartbeats 2000000 in
theorem split_walk (w : World) (s : ByteArray) (hs : s.size ≤ 140737488351232) (t : ByteArray) (ht : t.size ≤ 140737488351232) :
    Calls Try.prog 5 #[.string s, .string t] w (TrueOn w) := by
  have hS : (bs (s.data.toList.take 80)).size ≤ 80 := by rw [size_bs]; exact List.length_take_le _ _
  have hT : (bs (t.data.toList.take 15)).size ≤ 15 := by rw [size_bs]; exact List.length_take_le _ _
  generalize hS0 : bs (s.data.toList.take 80) = S at *
  generalize hT0 : bs (t.data.toList.take 15) = T at *
  have HS := Lib.hid hS0
  have HT := Lib.hid hT0
  clear hS0 hT0
  have hp := partL_le S.data.toList
  rw [size_list] at hp
  have c1 := fun W => Split_any S W (by unfold maxLen; omega) (fun _ => by omega)
  have c2 := fun W => RSplit_any S W (by omega)
  have hwc := wordsL_count S.data.toList
  rw [size_list] at hwc
  generalize wordsL S.data.toList = ws at *
  generalize badL S.data.toList = bad at *
  have C1 := Lib.hid c1
  have C2 := Lib.hid c2
  clear c1 c2 hp
  go_enter Try.func5, Try.ntmps5
  go_wp2_with (first
    | (go_at_call_of 13 (Value.string s); refine (Text_any s 80 _ (by unfold maxLen; omega) (by omega)).mono ?_; rintro e w1 ⟨rfl, rfl⟩; rw [HS.out])
    | (go_at_call_of 13 (Value.string t); refine (Text_any t 15 _ (by unfold maxLen; omega) (by omega)).mono ?_; rintro e w1 ⟨rfl, rfl⟩; rw [HT.out])
    | (go_at_call 10; refine (C1.out _).mono ?_; rintro e w2 ⟨v2, rfl, hown2, hb2⟩; obtain ⟨A2, cap2, rfl, hA2, hcap2, hw2⟩ := wordsAt_of hown2; have HW2 := Lib.hid hw2; have HA2 := Lib.hid hA2; clear hown2 hw2 hA2)
    | (go_at_call 14; refine (C2.out _).mono ?_; rintro e w3 ⟨v3, rfl, hown3, hb3⟩; obtain ⟨A3, cap3, rfl, hA3, hcap3, hw3⟩ := wordsAt_of hown3; have HW3 := Lib.hid hw3; have HA3 := Lib.hid hA3; clear hown3 hw3 hA3))
  have hc2 : (ws.length : Int) ≤ cap2 := by omega
  have hc3 : (ws.length : Int) ≤ cap3 := by omega
  go_loopw [39] (fun i wr => ∃ k : Nat, k ≤ ws.length ∧ i = .int .i64 k ∧ Below w3.heap.size w3 wr) (fun i _ => ws.length - (intOf i).toNat)
  case atStart => exact ⟨0, Nat.zero_le _, rfl, Below.refl _ _⟩
  case round =>
    obtain ⟨k, hk, rfl, hbr⟩ := hrel
    by_cases hlt : k < ws.length
    · obtain ⟨g2, rfl, x1, x2⟩ := ((HW2.out.below hb3 HA2.out).below hbr (fun a ha => by have := HA2.out a ha; have := hb3.size; omega)) k hlt
      obtain ⟨g3, rfl, y1, y2⟩ := (HW3.out.below hbr HA3.out) k hlt
      generalize (bs ws[k].2) = st at *
      generalize (ws[k].1) = cl at *
      have hki : (k : Int) < ws.length := by omega
      go_wp2
      go_quiet (fail)
      go_wp2
      go_roundw
      case rel => exact ⟨k + 1, by omega, by go_num, below_drewN hbr _⟩
      case measure => simp [intOf]; omega
    · rcases bor_cases (a := isNum T.data.toList) with hn | hn
      · have HN := Lib.hid hn
        clear hn
        go_wp2_with (first
          | (go_at_call 15; refine (Number_yes _ _ _ (by unfold maxLen; omega) HN.out rfl).mono ?_; rintro e w4 ⟨rfl, rfl⟩)
          | (go_at_call 16; refine (RNumber_yes _ _ _ (by unfold maxLen; omega) HN.out rfl).mono ?_; rintro e w4 ⟨rfl, rfl⟩)
          | (go_at_call 17; refine (Name_any _ _ (by unfold maxLen; omega)).mono ?_; rintro e w4 ⟨rfl, rfl⟩)
          | (go_at_call 18; refine (RName_any _ _ (by unfold maxLen; omega)).mono ?_; rintro e w4 ⟨rfl, rfl⟩)
          | (go_at_call 12; refine (wakes01 _).mono ?_; rintro e w4 ⟨rfl, hb4⟩))
        go_ret
        exact ⟨rfl, below_then (below_then (below_then hb2 hb3 hb2.size) hbr (by have := hb2.size; have := hb3.size; omega)) hb4 (by have := hb2.size; have := hb3.size; have := hbr.size; omega)⟩
      · have HN := Lib.hid hn
        clear hn
        go_wp2_with (first
          | (go_at_call 15; refine (Number_no _ _ (by unfold maxLen; omega) HN.out).mono ?_; rintro e w4 ⟨rfl, rfl⟩)
          | (go_at_call 16; refine (RNumber_no _ _ (by unfold maxLen; omega) HN.out).mono ?_; rintro e w4 ⟨rfl, rfl⟩)
          | (go_at_call 17; refine (Name_any _ _ (by unfold maxLen; omega)).mono ?_; rintro e w4 ⟨rfl, rfl⟩)
          | (go_at_call 18; refine (RName_any _ _ (by unfold maxLen; omega)).mono ?_; rintro e w4 ⟨rfl, rfl⟩)
          | (go_at_call 12; refine (wakes01 _).mono ?_; rintro e w4 ⟨rfl, hb4⟩))
        go_ret
        exact ⟨rfl, below_then (below_then (below_then hb2 hb3 hb2.size) hbr (by have := hb2.size; have := hb3.size; omega)) hb4 (by have := hb2.size; have := hb3.size; have := hbr.size; omega)⟩
end Go.Proofs.Ytoojhpgjekdlgaa
