/-
  OrderLaws: the walk.
-/
import Derived.Test.YtilbbjjppcjciaaOrd6
namespace Go.Proofs.Ytilbbjjppcjciaa
set_option maxRecDepth 100000
open Go.ChangeShapes Go.WideShapes Go.ChangeAt Go.RowKit

set_option maxHeartbeats 4000000 in
theorem laws_walk (w : World) (v : Value) (zs : List Int) (hz : IntsAt w v zs) (n : Int) (hn : (Lit.int .i64 n).wf = true) :
    Calls Try.prog 6 #[v, .int .i64 n] w (TrueOn w) := by
  have hw := within_bd n 8 (by omega)
  have WI := Lib.hid (Within_any n 8 w hn (by omega) (by omega))
  obtain ⟨N, hNe⟩ : ∃ N : Nat, 1 + within n 8 = (N : Int) := ⟨(1 + within n 8).toNat, by omega⟩
  have hN1 : 1 ≤ N := by omega
  have hN8 : N ≤ 8 := by omega
  have PA := Lib.hid (Pairs_any v zs N true w hz (by omega))
  have hpl := prs_len zs N true
  have HPS := Lib.hid (prs_ok (zs := zs) (n := N))
  generalize prs zs N true = ps at *
  have hsum : IntKind.i64.wrap (1 + within n 8) = (N : Int) := by rw [IntKind.wrap_i64]; omega
  have HS := Lib.hid hNe
  have hv : ∃ A c, v = .slice A zs.length c := let ⟨A, c, e, _⟩ := hz; ⟨A, c, e⟩
  clear hz
  obtain ⟨A0, c0, rfl⟩ := hv
  generalize within n 8 = wn at *
  clear hn hNe
  go_enter Try.func6, Try.ntmps6
  go_upto_region 3 with (first
    | (go_at_call 9; refine WI.out.mono ?_; rintro e w1 ⟨rfl, rfl⟩)
    | (go_at_call 10; refine PA.out.mono ?_; rintro e w1 ⟨v1, v2, v3, rfl, o1, o2, o3, hb1⟩))
  obtain ⟨A, c, rfl⟩ := ownL_nm o1
  obtain ⟨B, d, rfl⟩ := ownP_pr o2
  have NW := Lib.hid (New_up N ps A B c d (by omega) (by omega) (listL_nm o1) (listP_pr o2) HPS.out)
  have L1 := Lib.hid (listL_nm o1)
  have P1 := Lib.hid (listP_pr o2)
  have hB1 := hb1.size
  clear o1 o2 o3 PA WI hsum HS hw
  go_upto_region 7 with (go_at_call 11; refine NW.out.mono ?_; rintro e w2 ⟨g, rfl, ho, hb2⟩)
  have HB2 := Lib.hid (below_then hb1 hb2 hB1)
  have L2 := Lib.hid (L1.out.below hb2)
  have P2 := Lib.hid (P1.out.below hb2)
  have HO := Lib.hid ho
  have RP := Lib.hid (fun p (hp : p ∈ ps) => ab_pair (N := N) hp)
  have RR := Lib.hid (ab_refl N ps)
  have RT := Lib.hid (fun i k j (hk : k < N) => ab_trans (N := N) (ps := ps) (i := i) (k := k) (j := j) hk)
  have RA := Lib.hid (fun i j => ab_anti (N := N) (ps := ps) (fun p hp => (HPS.out p hp).2.2) (i := i) (j := j))
  clear hb1 hb2 ho L1 P1 NW hB1
  generalize ab N ps = R at *
  have hdl := P2.out.1
  rw [List.length_map] at hdl
  go_loopw [42] (fun i wr => ∃ k : Nat, k ≤ ps.length ∧ i = .int .i64 k ∧ Hid (Below w2.heap.size w2 wr)) (fun i _ => ps.length - (intOf i).toNat)
  case atStart => exact ⟨0, Nat.zero_le _, rfl, Below.refl _ _⟩
  case round =>
    obtain ⟨k, hk, rfl, HB⟩ := hrel
    have hbz := HB.out.size
    by_cases hlt : k < ps.length
    · obtain ⟨gp, rfl, hgl, x1, x2⟩ := (P2.out.below HB.out).2 k (by rw [List.length_map]; exact hlt)
      rw [List.getElem_map] at x1 x2
      have hps := HPS.out ps[k] (List.getElem_mem hlt)
      have hr := RP.out ps[k] (List.getElem_mem hlt)
      generalize ps[k] = p at *
      obtain ⟨a, b⟩ := p
      simp only [pnm] at x1 x2
      simp only at hps hr
      have hbA : Below wr.heap.size wr (wr.alloc (.cells #[.string (bs (nmN a)), .string (bs (nmN b))] 36)) := (Below.refl _ _).alloc (Nat.le_refl _) _
      have HBA := Lib.hid (below_then HB.out hbA hbz)
      have ac := Above_nm (HO.out.below HBA.out) a b hps.1 hps.2.1
      rw [hr] at ac
      have AC := Lib.hid ac
      clear ac hr hps hbA
      go_wp2_with (go_at_call 13; refine AC.out.mono ?_; rintro e w3 ⟨rfl, rfl⟩)
      go_roundw
      case rel => exact ⟨k + 1, by omega, by go_num, HBA⟩
      case measure => simp [intOf]; omega
    · go_wp2
      obtain ⟨w3, rfl⟩ : ∃ w3 : World, w3 = wr := ⟨_, rfl⟩
      have HO3 := Lib.hid (HO.out.below HB.out)
      obtain ⟨gN, rfl, _, hNc, hcells⟩ := names_cells (L2.out.below HB.out) hN1
      have HC := Lib.hid hcells
      have AB := Lib.hid (fun i j (hi : i < N) (hj : j < N) => Above_nm HO3.out i j hi hj)
      have HB3 := Lib.hid (below_then HB2.out HB.out HB2.out.size)
      clear hcells HO HO3 L2 P2 HB HB2 hlt hk hbz
      go_loop [56] (fun i => ∃ k : Nat, k ≤ N ∧ i = .int .i64 k) (fun i => N - (intOf i).toNat)
      case atStart => exact ⟨0, Nat.zero_le _, rfl⟩
      case round =>
        obtain ⟨i, hi, rfl⟩ := hrel
        by_cases hil : i < N
        · have xi := HC.out i hil
          have aii := AB.out i i hil hil
          rw [RR.out i] at aii
          have AII := Lib.hid aii
          clear aii
          go_upto_region 18 with (go_at_call 13; refine AII.out.mono ?_; rintro e w4 ⟨rfl, rfl⟩)
          go_loop [67] (fun i => ∃ k : Nat, k ≤ N ∧ i = .int .i64 k) (fun i => N - (intOf i).toNat)
          case atStart => exact ⟨0, Nat.zero_le _, rfl⟩
          case round =>
            obtain ⟨j, hj, rfl⟩ := hrel
            by_cases hjl : j < N
            · have xj := HC.out j hjl
              have inner : Hid (∀ k, k < N → R i j = true → R j k = true → R i k = true) := fun k _ h1 h2 => RT.out i j k hjl h1 h2
              have key : ∃ rij rji b, R i j = rij ∧ R j i = rji ∧ ((bs (nmN i)).toList != (bs (nmN j)).toList) = b ∧ (b && rij && rji) = false := by
                refine ⟨_, _, _, rfl, rfl, rfl, ?_⟩
                by_cases e : i = j
                · subst e; simp
                · cases h : R i j
                  · simp
                  · rw [RA.out i j e h]; simp
              obtain ⟨rij, rji, b, e1, e2, e3, e4⟩ := key
              have e5 : ((bs (nmN i)).toList == (bs (nmN j)).toList) = !b := by rw [← e3]; simp [bne]
              have aij := AB.out i j hil hjl
              have aji := AB.out j i hjl hil
              rw [e1] at aij
              rw [e2] at aji
              have AIJ := Lib.hid aij
              have AJI := Lib.hid aji
              have E1 := Lib.hid e1
              clear aij aji e1 e2
              have hfin : Hid (∀ k, k < N → (R i j && R j k && !(R i k)) = false) := fun k hk => by
                cases h1 : R i j
                · simp
                · cases h2 : R j k
                  · simp
                  · rw [inner.out k hk h1 h2]; simp
              clear inner
              have e6 : (b = false ∧ rij = false) ∨ (b = false ∧ rij = true) ∨ (b = true ∧ rij = false) ∨ (b = true ∧ rij = true ∧ rji = false) := by
                revert e4
                cases b <;> cases rij <;> cases rji <;> simp
              clear e4
              rcases e6 with ⟨rfl, rfl⟩ | ⟨rfl, rfl⟩ | ⟨rfl, rfl⟩ | ⟨rfl, rfl, rfl⟩
              all_goals
                have tok1 : True := trivial
                go_upto_region 23 with (first
                  | (have _t := tok1; go_at_call 13; refine AIJ.out.mono ?_; rintro e w4 ⟨rfl, rfl⟩; clear tok1 _t)
                  | (go_at_call 13; refine AJI.out.mono ?_; rintro e w4 ⟨rfl, rfl⟩))
                go_loop [88] (fun i => ∃ k : Nat, k ≤ N ∧ i = .int .i64 k) (fun i => N - (intOf i).toNat)
                case atStart => exact ⟨0, Nat.zero_le _, rfl⟩
                case round =>
                  obtain ⟨k, hk, rfl⟩ := hrel
                  by_cases hkl : k < N
                  · have xk := HC.out k hkl
                    have ajk := AB.out j k hjl hkl
                    have aik := AB.out i k hil hkl
                    have hf := hfin.out k hkl
                    rw [E1.out] at hf
                    generalize R j k = rjk at *
                    generalize R i k = rik at *
                    have AJK := Lib.hid ajk
                    have AIK := Lib.hid aik
                    clear ajk aik
                    rcases rjk with _ | _
                    all_goals rcases rik with _ | _
                    all_goals (try (exfalso; simp at hf; done))
                    all_goals
                      clear hf
                      have tokA : True := trivial
                      have tokB : True := trivial
                      go_wp2_with (first
                        | (have _t := tokA; go_at_call 13; refine AIJ.out.mono ?_; rintro e w4 ⟨rfl, rfl⟩; clear tokA _t)
                        | (have _t := tokB; go_at_call 13; refine AJK.out.mono ?_; rintro e w4 ⟨rfl, rfl⟩; clear tokB _t)
                        | (go_at_call 13; refine AIK.out.mono ?_; rintro e w4 ⟨rfl, rfl⟩))
                      go_round
                      case rel => exact ⟨k + 1, by omega, by go_num⟩
                      case measure => simp [intOf]; omega
                  · go_wp2
                    go_round
                    case rel => exact ⟨j + 1, by omega, by go_num⟩
                    case measure => simp [intOf]; omega
            · go_wp2
              go_round
              case rel => exact ⟨i + 1, by omega, by go_num⟩
              case measure => simp [intOf]; omega
        · go_wp2_with (go_at_call 14; refine (wakes04 _).mono ?_; rintro e w9 ⟨rfl, hb9⟩)
          go_ret
          exact ⟨rfl, below_then HB3.out hb9 HB3.out.size⟩
end Go.Proofs.Ytilbbjjppcjciaa
