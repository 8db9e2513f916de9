/-
  WordsPlaces: the walk.
-/
import Derived.Test.YtoojhpgjekdlgaaLawPlaces
import Derived.Deep.DeepCutAuto
namespace Go.Proofs.Ytoojhpgjekdlgaa
open Go.ChangeShapes Go.WideShapes Go.ChangeAt Go.RowKit

theorem getQ (s : ByteArray) (k : Nat) (h : k < s.size) (b : UInt8) : s.data.toList[k]? = some b ↔ s[k] = b := by
  rw [List.getElem?_eq_getElem (by simpa using h)]
  constructor
  · intro e; exact Option.some.inj e
  · intro e; rw [← e]; rfl
set_option maxRecDepth 100000 in
set_option maxHeartbeats 4000000 in
theorem places_walk (w : World) (s : ByteArray) (hs : s.size ≤ 140737488351232) :
    Calls Try.prog 6 #[.string s] w (TrueOn w) := by
  have hS : (bs (s.data.toList.take 80)).size ≤ 80 := by rw [size_bs]; exact List.length_take_le _ _
  generalize hS0 : bs (s.data.toList.take 80) = S at *
  have HS := Lib.hid hS0
  clear hS0
  have hp := partL_le S.data.toList
  rw [size_list] at hp
  have c1 := fun W => Split_any S W (by unfold maxLen; omega) (fun _ => by omega)
  by_cases hbad : badL S.data.toList = 0
  · have hpl := placed S.data.toList hbad
    have hwc := wordsL_count S.data.toList
    rw [size_list] at hwc
    rw [hbad] at c1
    generalize wordsL S.data.toList = ws at *
    have C1 := Lib.hid c1
    have HP := Lib.hid hpl
    clear c1 hp hbad hpl
    go_enter Try.func6, Try.ntmps6
    go_wp2_with (first
      | (go_at_call 13; refine (Text_any s 80 _ (by unfold maxLen; omega) (by omega)).mono ?_; rintro e w1 ⟨rfl, rfl⟩; rw [HS.out])
      | (go_at_call 10; refine (C1.out _).mono ?_; rintro e w2 ⟨v2, rfl, hown2, hb2⟩; obtain ⟨A2, cap2, rfl, hA2, hcap2, hw2⟩ := wordsAt_of hown2; have HW2 := Lib.hid hw2; have HA2 := Lib.hid hA2; clear hown2 hw2 hA2))
    have hc2 : (ws.length : Int) ≤ cap2 := by omega
    go_loopw [5, 6, 52] (fun at_ n i wr => ∃ k a : Nat, k ≤ ws.length ∧ i = .int .i64 k ∧ n = .int .i64 k ∧ at_ = .int .i64 a ∧ a ≤ S.size ∧ Hid (PL S.data.toList a k (ws.drop k)) ∧ Below w2.heap.size w2 wr) (fun _ _ i _ => ws.length - (intOf i).toNat)
    case atStart => exact ⟨0, 0, Nat.zero_le _, rfl, rfl, rfl, Nat.zero_le _, HP, Below.refl _ _⟩
    case round =>
      obtain ⟨k, a, hk, rfl, rfl, rfl, ha, HL, hbr⟩ := hrel
      by_cases hlt : k < ws.length
      · obtain ⟨g2, rfl, x1, x2⟩ := (HW2.out.below hbr HA2.out) k hlt
        have hd := HL.out
        rw [List.drop_eq_getElem_cons hlt] at hd
        obtain ⟨p, hc, hap, hne, hpt, htk, hka, hbl, hok, hrest⟩ := hd
        have hc' : ws[k].1 = p + 1 := hc
        rw [hc'] at x2
        clear hc hc'
        have hst : (ws.get ⟨k, hlt⟩).2 = ws[k].2 := rfl
        rw [hst] at hne hpt htk hok hrest
        clear hst
        generalize ws[k].2 = tx at *
        have hcast : ((p + 1 : Nat) : Int) = (p : Int) + 1 := by omega
        rw [hcast] at x2
        have HR := Lib.hid hrest
        have HBL := Lib.hid hbl
        have HOK := Lib.hid hok
        have hx : S.extract p (p + tx.length) = bs tx := by
          rw [extract_bs, show p + tx.length - p = tx.length by omega, htk]
        have hsz : ((bs tx).size : Int) = tx.length := rfl
        have hemp : (bs tx).toList.isEmpty = false := by
          rw [Lib.toList_data, list_bs]; cases tx with
          | nil => exact absurd rfl hne
          | cons => rfl
        clear hrest hbl hok hcast htk
        have hp1 : (p : Int) + tx.length ≤ S.size := by have : S.data.toList.length = S.size := rfl; omega
        have hp2 : (a : Int) ≤ p := by omega
        have hpos : 0 < tx.length := List.length_pos_iff.2 hne
        clear hne
        have g1 : decide ((p : Int) < a) = false := by simp; omega
        have g3 : decide ((S.size : Int) < p + tx.length) = false := by simp; omega
        have g4 : IntKind.i64.wrap ((p : Int) + tx.length) = (p : Int) + tx.length := by rw [IntKind.wrap_i64]; omega
        have g5 : (0 : Int) ≤ (p : Int) + tx.length := by omega
        have g6 : ((p : Int) + tx.length).toNat = p + tx.length := by omega
        have g7 : (p : Int) ≤ (p : Int) + tx.length := by omega
        go_upto_region 10 with fail
        go_cut [112] (fun v wx => v = .bool false ∧ ∃ n, wx = wr.drewN n)
        case first =>
          by_cases hk0 : 0 < k
          · have g8 : decide ((0 : Int) < k) = true := by simp; omega
            have g9 : ((p : Int) == a) = false := by rw [beq_eq_false_iff_ne]; have := hka hk0; omega
            clear hka
            go_quiet (fail)
            go_wp2_with fail
            go_meet
            exact ⟨congrArg Value.bool (by simp; omega), _, rfl⟩
          · have g8 : decide ((0 : Int) < k) = false := by simp; omega
            clear hka
            go_quiet (fail)
            go_wp2_with fail
            go_meet
            exact ⟨congrArg Value.bool (by simp; omega), _, rfl⟩
        case rest =>
          obtain ⟨rfl, nq, rfl⟩ := hcut
          clear g1 g3 g4 g5 g6 g7 hka
          go_wp2
          go_loop [9] (fun i => ∃ j : Nat, a ≤ j ∧ j ≤ p ∧ i = .int .i64 j) (fun i => p - (intOf i).toNat)
          case atStart => exact ⟨a, Nat.le_refl _, hap, rfl⟩
          case round =>
            obtain ⟨j, hj1, hj2, rfl⟩ := hrel
            by_cases hjl : j < p
            · have hjs : j < S.size := by omega
              have hb : S[j] = 32 := (getQ S j hjs 32).1 (HBL.out j hj1 hjl)
              have hb' : ((S[j].toNat : Int) != 32) = false := by rw [hb]; rfl
              clear hb
              go_wp2
              go_round
              case rel => exact ⟨j + 1, by omega, by omega, by go_num⟩
              case measure => simp [intOf]; omega
            · go_wp2
              go_loop [10] (fun i => ∃ j : Nat, j ≤ tx.length ∧ i = .int .i64 j) (fun i => tx.length - (intOf i).toNat)
              case atStart => exact ⟨0, Nat.zero_le _, rfl⟩
              case round =>
                obtain ⟨m, hm, rfl⟩ := hrel
                by_cases hml : m < tx.length
                · have hms : m < (bs tx).size := hml
                  have hb := HOK.out (bs tx)[m] (List.getElem_mem (l := tx) hml)
                  have h1 : (((bs tx)[m].toNat : Int) == 32) = false := by rw [beq_eq_false_iff_ne]; omega
                  have h2 : (((bs tx)[m].toNat : Int) == 35) = false := by
                    rw [beq_eq_false_iff_ne]; intro e
                    exact hb.2.2 (UInt8.toNat_inj.1 (show (bs tx)[m].toNat = 35 by omega))
                  clear hb
                  go_wp2
                  go_round
                  case rel => exact ⟨m + 1, by omega, by go_num⟩
                  case measure => simp [intOf]; omega
                · go_wp2
                  go_roundw
                  case rel => exact ⟨k + 1, p + tx.length, by omega, by go_num, by go_num, by go_num, by omega, HR, below_drewN hbr _⟩
                  case measure => simp [intOf]; omega
      · have hkl : k = ws.length := by omega
        have hd := HL.out
        rw [hkl, List.drop_length] at hd
        obtain ⟨e, he1, he2, he3, he4⟩ := hd
        have he2' : e ≤ S.size := he2
        have HE3 := Lib.hid he3
        have HE4 := Lib.hid he4
        clear he3 he4 he2 hkl
        go_wp2
        go_loop [5] (fun i => ∃ j : Nat, a ≤ j ∧ j ≤ e ∧ i = .int .i64 j) (fun i => e - (intOf i).toNat)
        case atStart => exact ⟨a, Nat.le_refl _, he1, rfl⟩
        case round =>
          obtain ⟨j, hj1, hj2, rfl⟩ := hrel
          by_cases hje : j < e
          · have hjs : j < S.size := by omega
            have hb : S[j] = 32 := (getQ S j hjs 32).1 (HE3.out j hj1 hje)
            have hb' : ((S[j].toNat : Int) == 32) = true := by rw [hb]; rfl
            clear hb
            go_wp2
            go_round
            case rel => exact ⟨j + 1, by omega, by omega, by go_num⟩
            case measure => simp [intOf]; omega
          · have hj : j = e := by omega
            by_cases hes : j < S.size
            · have hb : S[j] = 35 := by
                rcases HE4.out with h | h
                · exfalso; have : S.data.toList.length = S.size := rfl; omega
                · exact (getQ S j hes 35).1 (by rw [hj]; exact h)
              have h1 : ((S[j].toNat : Int) == 32) = false := by rw [hb]; rfl
              have h2 : ((S[j].toNat : Int) == 35) = true := by rw [hb]; rfl
              have h3 : ((j : Int) == S.size) = false := by rw [beq_eq_false_iff_ne]; omega
              clear hb hj
              go_wp2_with (go_at_call 12; refine (wakes01 _).mono ?_; rintro e w4 ⟨rfl, hb4⟩)
              go_ret
              exact ⟨rfl, below_then (below_then hb2 hbr hb2.size) hb4 (by have := hb2.size; have := hbr.size; omega)⟩
            · have h3 : ((j : Int) == S.size) = true := by rw [beq_iff_eq]; omega
              clear hj
              go_wp2_with (go_at_call 12; refine (wakes01 _).mono ?_; rintro e w4 ⟨rfl, hb4⟩)
              go_ret
              exact ⟨rfl, below_then (below_then hb2 hbr hb2.size) hb4 (by have := hb2.size; have := hbr.size; omega)⟩
  · obtain ⟨k, hk, hks, hkb⟩ := bad_spot S.data.toList hbad
    have hks' : k < S.size := hks
    have hkb' : S[k].toNat < 32 ∨ 126 < S[k].toNat := hkb
    have hws : wordsL S.data.toList = [] := by unfold wordsL; rw [if_neg hbad]
    rw [hk, hws] at c1
    have hcast : ((k + 1 : Nat) : Int) = (k : Int) + 1 := by omega
    unfold SplitTo at c1
    rw [hcast] at c1
    have C1 := Lib.hid c1
    have hki : (k : Int) + 1 ≤ S.size := by omega
    have h0 : (k : Int) < S.size := by omega
    clear c1 hp hbad hk hks hkb hws hcast
    by_cases hlo : (S[k].toNat : Int) < 32
    · clear hkb'
      go_enter Try.func6, Try.ntmps6
      go_wp2_with (first
        | (go_at_call 13; refine (Text_any s 80 _ (by unfold maxLen; omega) (by omega)).mono ?_; rintro e w1 ⟨rfl, rfl⟩; rw [HS.out])
        | (go_at_call 10; refine (C1.out _).mono ?_; rintro e w2 ⟨v2, rfl, hown2, hb2⟩; obtain ⟨A2, cap2, rfl⟩ := own_slice hown2; clear hown2)
        | (go_at_call 12; refine (wakes01 _).mono ?_; rintro e w4 ⟨rfl, hb4⟩))
      go_ret
      exact ⟨rfl, below_then hb2 hb4 hb2.size⟩
    · have hhi : 126 < (S[k].toNat : Int) := by omega
      have hlo' : decide ((S[k].toNat : Int) < 32) = false := by simpa using hlo
      clear hkb' hlo
      go_enter Try.func6, Try.ntmps6
      go_wp2_with (first
        | (go_at_call 13; refine (Text_any s 80 _ (by unfold maxLen; omega) (by omega)).mono ?_; rintro e w1 ⟨rfl, rfl⟩; rw [HS.out])
        | (go_at_call 10; refine (C1.out _).mono ?_; rintro e w2 ⟨v2, rfl, hown2, hb2⟩; obtain ⟨A2, cap2, rfl⟩ := own_slice hown2; clear hown2)
        | (go_at_call 12; refine (wakes01 _).mono ?_; rintro e w4 ⟨rfl, hb4⟩))
      go_ret
      exact ⟨rfl, below_then hb2 hb4 hb2.size⟩
end Go.Proofs.Ytoojhpgjekdlgaa
