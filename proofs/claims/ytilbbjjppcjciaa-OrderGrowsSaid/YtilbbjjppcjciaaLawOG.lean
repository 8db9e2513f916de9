/-
  OrderGrows: the walk.
-/
import Derived.Test.YtilbbjjppcjciaaOrd6
import Derived.Test.YtilbbjjppcjciaaCopyP
namespace Go.Proofs.Ytilbbjjppcjciaa
set_option maxRecDepth 100000
open Go.ChangeShapes Go.WideShapes Go.ChangeAt Go.RowKit

/-- with a pair more -/
theorem ab_more {N : Nat} {ps : List (Nat × Nat)} (hps : ∀ p ∈ ps, p.1 < N ∧ p.2 < N) {a b : Nat} (ha : a < N) (hb : b < N) (i j : Nat) : ab N (ps ++ [(a, b)]) i j = (ab N ps i j || (ab N ps i a && ab N ps b j)) := by
  have hR : ∀ i j, (ps.any fun p => p.1 == i && p.2 == j) = true → i < N ∧ j < N := fun i j h => by
    rw [List.any_eq_true] at h
    obtain ⟨p, hp, e⟩ := h
    simp only [Bool.and_eq_true, beq_iff_eq] at e
    have := hps p hp
    omega
  have hm := way_more (R := fun i j => ps.any fun p => p.1 == i && p.2 == j) (S := fun i j => (ps ++ [(a, b)]).any fun p => p.1 == i && p.2 == j) hR ha hb (fun i j => by
    simp only [List.any_append, List.any_cons, List.any_nil, Bool.or_false, Bool.or_eq_true, Bool.and_eq_true, beq_iff_eq]
    constructor
    · rintro (h | ⟨rfl, rfl⟩)
      · exact .inl h
      · exact .inr ⟨rfl, rfl⟩
    · rintro (h | ⟨rfl, rfl⟩)
      · exact .inl h
      · exact .inr ⟨rfl, rfl⟩) (i := i) (j := j)
  rw [Bool.eq_iff_iff]
  unfold ab
  simp only [Bool.or_eq_true, Bool.and_eq_true, beq_iff_eq]
  rw [hm]
  constructor
  · rintro (h | h | h)
    · exact .inl (.inl h)
    · exact .inl (.inr h)
    · exact .inr h
  · rintro ((h | h) | h)
    · exact .inl h
    · exact .inr (.inl h)
    · exact .inr (.inr h)
theorem own_mono {w : World} {base base' e size n : Nat} {v : Value} {xs : List Value} (h : w.ownsRow base e size v n xs) (hle : base' ≤ base) : w.ownsRow base' e size v n xs :=
  ⟨h.1, h.2.elim .inl fun ⟨g, cap, cur, e, hb, r⟩ => .inr ⟨g, cap, cur, e, Nat.le_trans hle hb, r⟩⟩
theorem news_below {W w1 : World} {K : Nat} {l : List Value} (hb : Below W.heap.size W w1) (hK : K < W.heap.size) (hn : ∀ j u, l[j]? = some u → W.cell? ((⟨K, 0, none⟩ : Addr).add j) = some u) :
    ∀ j u, l[j]? = some u → w1.cell? ((⟨K, 0, none⟩ : Addr).add j) = some u := by
  intro j u hu
  have hadd : ((⟨K, 0, none⟩ : Addr).add j).block = K := by unfold Addr.add; split <;> rfl
  exact (hb.cell (by rw [hadd]; exact hK)).trans (hn j u hu)
theorem New_up2 {W : World} (N : Nat) (ps : List (Nat × Nat)) (p q : Nat) (A : Option Addr) (g c cap base : Nat) (hN : N ≤ 24) (hl : ps.length ≤ 900) (h1 : ListAt W A c (nmL N))
    (h2 : W.ownsRow base 36 2 (.slice (some ⟨g, 0, none⟩) (ps.length + 1) cap) (ps.length + 1) (pcells (ps.map pnm) ++ [.string (bs (nmN p)), .string (bs (nmN q))]))
    (hps : ∀ x ∈ ps, x.1 < N ∧ x.2 < N ∧ x.1 < x.2) (hp : p < q) (hq : q < N) :
    Calls Try.prog 11 #[.slice A N c, .slice (some ⟨g, 0, none⟩) (ps.length + 1) cap] W (NewR2 N (ps ++ [(p, q)]) W) := by
  have hlen : (ps ++ [(p, q)]).length = ps.length + 1 := by simp
  have h3 : OwnP W base (.slice (some ⟨g, 0, none⟩) (ps ++ [(p, q)]).length cap) ((ps ++ [(p, q)]).map pnm) := by
    unfold OwnP
    rw [List.length_map, hlen, List.map_append]
    show W.ownsRow _ _ _ _ _ (pcells (ps.map pnm ++ [(nmN p, nmN q)]))
    rw [pcells_snoc]; exact h2
  have := New_up N (ps ++ [(p, q)]) A (some ⟨g, 0, none⟩) c cap hN (by omega) h1 (listP_pr h3) (fun x hx => by
    rcases List.mem_append.1 hx with hx | hx
    · exact hps x hx
    · rw [List.mem_singleton.1 hx]; simp only; omega)
  rwa [hlen] at this
set_option maxHeartbeats 4000000 in
theorem grows_walk (w : World) (v : Value) (zs : List Int) (hz : IntsAt w v zs) (n : Int) (hn : (Lit.int .i64 n).wf = true) (a : Int) (hwa : (Lit.int .i64 a).wf = true) (b : Int) (hwb : (Lit.int .i64 b).wf = true) :
    Calls Try.prog 3 #[v, .int .i64 n, .int .i64 a, .int .i64 b] w (TrueOn w) := by
  have hw := within_bd n 7 (by omega)
  have WI := Lib.hid (Within_any n 7 w hn (by omega) (by omega))
  obtain ⟨N, hNe⟩ : ∃ N : Nat, 2 + within n 7 = (N : Int) := ⟨(2 + within n 7).toNat, by omega⟩
  have hN1 : 2 ≤ N := by omega
  have hN8 : N ≤ 8 := by omega
  have PA := Lib.hid (Pairs_any v zs N true w hz (by omega))
  have hpl := prs_len zs N true
  have HPS := Lib.hid (prs_ok (zs := zs) (n := N))
  generalize prs zs N true = ps at *
  have hsum : IntKind.i64.wrap (2 + within n 7) = (N : Int) := by rw [IntKind.wrap_i64]; omega
  have hv : ∃ A c, v = .slice A zs.length c := let ⟨A, c, e, _⟩ := hz; ⟨A, c, e⟩
  clear hz
  obtain ⟨A0, c0, rfl⟩ := hv
  generalize within n 7 = wn at *
  have wa := within_nat a N (by omega)
  have wb := within_nat b N (by omega)
  have ca := fun W => Within_any a N W hwa (by omega) (by omega)
  have cb := fun W => Within_any b N W hwb (by omega) (by omega)
  rw [wa.2] at ca
  rw [wb.2] at cb
  have wa1 := wa.1
  have wb1 := wb.1
  clear wa wb
  generalize (within a N).toNat = a1 at *
  generalize (within b N).toNat = b1 at *
  have CA := Lib.hid ca
  have CB := Lib.hid cb
  clear hn hNe ca cb hwa hwb
  have tokP : True := trivial
  have tokA : True := trivial
  go_enter Try.func3, Try.ntmps3
  go_upto_region 4 with (first
    | (have _t := tokP; go_at_call 9; refine WI.out.mono ?_; rintro e w1 ⟨rfl, rfl⟩; clear tokP _t)
    | (have _t := tokA; go_at_call 9; refine (CA.out _).mono ?_; rintro e w1 ⟨rfl, rfl⟩; clear tokA _t)
    | (go_at_call 9; refine (CB.out _).mono ?_; rintro e w1 ⟨rfl, rfl⟩)
    | (go_at_call 10; refine PA.out.mono ?_; rintro e w1 ⟨v1, v2, v3, rfl, o1, o2, o3, hb1⟩))
  obtain ⟨A, c, rfl⟩ := ownL_nm o1
  obtain ⟨B, d, rfl⟩ := ownP_pr o2
  have L1 := Lib.hid (listL_nm o1)
  have P1 := Lib.hid (listP_pr o2)
  have O2 := Lib.hid o2
  have HB1 := Lib.hid hb1
  clear o1 o2 o3 PA WI hsum hw hb1 CA CB
  go_upto_if 39 with fail
  go_cut [3] (fun y wx => wx = w1 ∧ ∃ q : Nat, y = .int .i64 q ∧ q < N ∧ q ≠ a1)
  case first =>
    go_wp2
    · go_meet
      refine ⟨rfl, (a1 + 1) % N, by norm_cast, Nat.mod_lt _ (by omega), ?_⟩
      by_cases h : a1 + 1 < N
      · rw [Nat.mod_eq_of_lt h]; omega
      · rw [show a1 + 1 = N by omega, Nat.mod_self]; omega
    · rename_i hne
      go_meet
      exact ⟨rfl, b1, rfl, wb1, fun e => by rw [e] at hne; simp at hne⟩
  case rest =>
    obtain ⟨hw9, b2, rfl, hb2, hne⟩ := hcut
    subst hw9
    obtain ⟨w1, rfl⟩ : ∃ w1 : World, w1 = wc := ⟨_, rfl⟩
    go_upto_if 46 with fail
    go_cut [2, 3] (fun x y wx => wx = w1 ∧ ∃ p q : Nat, x = .int .i64 p ∧ y = .int .i64 q ∧ p < q ∧ q < N)
    case first =>
      go_wp2
      · have hgt : b2 < a1 := by first | assumption | omega
        go_meet
        exact ⟨rfl, b2, a1, rfl, rfl, hgt, wa1⟩
      · have hgt : ¬ b2 < a1 := by first | assumption | omega
        go_meet
        exact ⟨rfl, a1, b2, rfl, rfl, by omega, hb2⟩
    case rest =>
      obtain ⟨hw9, p, q, rfl, rfl, hpq, hqN⟩ := hcut
      subst hw9
      obtain ⟨w1, rfl⟩ : ∃ w1 : World, w1 = wc := ⟨_, rfl⟩
      have NW := Lib.hid (New_up N ps A B c d (by omega) (by omega) L1.out P1.out HPS.out)
      have hB1 := HB1.out.size
      go_upto_region 9 with (go_at_call 11; refine NW.out.mono ?_; rintro e w2 ⟨g, rfl, ho, hb2⟩)
      rename_i K9 hK9
      have HB2 := Lib.hid (below_then HB1.out hb2 hB1)
      have L2 := Lib.hid (L1.out.below hb2)
      have RC := Lib.hid (own_below O2.out hb2 hB1)
      have HO := Lib.hid ho
      clear NW P1 O2 hb2 ho L1
      obtain ⟨gN, eA, hgl, hNc, hcells⟩ := names_cells L2.out (by omega)
      subst eA
      have y1 := hcells p (by omega)
      have y2 := hcells q hqN
      have HC := Lib.hid hcells
      clear hcells
      have CP : Hid (∀ W, Below w2.heap.size w2 W → Calls Try.prog 12 #[.slice B ps.length d] W fun e w' => ∃ v, e = .returned v ∧ w'.ownsRow w2.heap.size 36 2 v ps.length (pcells (ps.map pnm)) ∧ Below w2.heap.size w2 w' ∧ Below W.heap.size W w') := fun W hW => by
        have ho : OwnP W w.heap.size (.slice B ps.length d) (ps.map pnm) := own_below RC.out hW HB2.out.size
        obtain ⟨h1, h2⟩ := ownP_cells ho
        have h := CopyP_any (ps.map pnm) B d W h1 h2 (by rw [List.length_map]; omega)
        rw [List.length_map] at h
        refine h.mono ?_
        rintro e w' ⟨v, he, hv, hb⟩
        refine ⟨v, he, ?_, below_then hW hb hW.size, hb⟩
        have := own_mono hv hW.size
        rwa [List.length_map] at this
      have N2 : Hid (∀ W g cap, Below w2.heap.size w2 W → W.ownsRow w2.heap.size 36 2 (.slice (some ⟨g, 0, none⟩) (ps.length + 1) cap) (ps.length + 1) (pcells (ps.map pnm) ++ [.string (bs (nmN p)), .string (bs (nmN q))]) →
          Calls Try.prog 11 #[.slice (some ⟨gN, 0, none⟩) N c, .slice (some ⟨g, 0, none⟩) (ps.length + 1) cap] W (NewR2 N (ps ++ [(p, q)]) W)) := fun W g cap hW h =>
        New_up2 N ps p q _ g c cap _ (by omega) (by omega) (L2.out.below hW) h HPS.out hpq hqN
      have hpi : (p : Int) < N := by omega
      have hqi : (q : Int) < N := by omega
      have hp0 : (0 : Int) ≤ p := by omega
      have hq0 : (0 : Int) ≤ q := by omega
      clear RC
      obtain ⟨ip, pi, pz0, pz1, pz2⟩ := info_parts Try.infoPair
      generalize pcells (ps.map pnm) = PC at *
      generalize hX : nmN p = X at *
      generalize hY : nmN q = Y at *
      have HX := Lib.hid hX
      have HY := Lib.hid hY
      clear hX hY
      generalize ps.length = m at *
      go_cut [14, 15] (fun x y wx => ∃ g5 : Nat, x = .pointer (some ⟨g5, 0, none⟩) ∧ y = .nilIface ∧ Hid (OrdR wx g5 N (ab N (ps ++ [(p, q)]))) ∧ Hid (Below w2.heap.size w2 wx))
      case first =>
        go_region_held3 (fun w' => w'.cell? ⟨gN, p, none⟩ = some (.string (bs X)) ∧ w'.cell? ⟨gN, q, none⟩ = some (.string (bs Y)))
          (first | exact ⟨y1, y2⟩ | exact ⟨(rb5.cell (p := ⟨gN, p, none⟩) hgl).trans y1, (rb5.cell (p := ⟨gN, q, none⟩) hgl).trans y2⟩ | exact ⟨(rb4.cell (p := ⟨gN, p, none⟩) hgl).trans y1, (rb4.cell (p := ⟨gN, q, none⟩) hgl).trans y2⟩ | exact ⟨(rb3.cell (p := ⟨gN, p, none⟩) hgl).trans y1, (rb3.cell (p := ⟨gN, q, none⟩) hgl).trans y2⟩ | go_keep)
          (first
            | (go_at_call 12; refine (CP.out _ (by first | exact below_drew (Below.refl _ _) | exact Below.alloc (below_drew (Below.refl _ _)) (Nat.le_refl _) _)).mono ?_; rintro e w3 ⟨vc, rfl, rc, rb3, rw3⟩)
            | (refine step_append_lies _ rfl (.tmp 58) (.tmp 68) 25 rfl w2.heap.size 36 ip _ 2 32 Try.underlying25 pi pz0 pz1 pz2 rfl (by omega) vc m PC rfl (by first | exact rc | exact World.ownsRow.alloc rc _) _ 1 1 [.string (bs X), .string (bs Y)] rfl rfl
                (by first | exact cells_new _ _ _ | exact news_below rw3 (by simp) (cells_new _ _ _)) (by intro u hu; simp at hu; rcases hu with rfl | rfl <;> rfl) (by omega) (by unfold maxLen; omega) (by omega) (by first | exact rb3.size | exact (Below.alloc rb3 rb3.size _).size) _ rfl ?_; intro g4 cap4 w4 rc4 hgr4 _ _
               have rb4 : Below w2.heap.size w2 w4 := by
                 first
                   | exact rb3.grown hgr4 rb3.size (fun j e => (rc.lt j e).1)
                   | exact (Below.alloc rb3 rb3.size _).grown hgr4 (Below.alloc rb3 rb3.size _).size (fun j e => (rc.lt j e).1))
            | (go_at_call 11; refine (N2.out _ _ _ rb4 rc4).mono ?_; rintro e w5 ⟨g5, rfl, ho5, hb5⟩; have rb5 := below_then rb4 hb5 rb4.size))
        all_goals
          go_wp2
          go_meet
          exact ⟨g5, rfl, rfl, ho5, rb5⟩
      case rest =>
        refine hK9 _ _ ?_
        clear hK9 CP N2
        obtain ⟨g5, rfl, rfl, HO5, HB5⟩ := hcut
        obtain ⟨w5, rfl⟩ : ∃ w5 : World, w5 = wc := ⟨_, rfl⟩
        have MORE := Lib.hid (fun i k => ab_more (N := N) (ps := ps) (fun x hx => ⟨(HPS.out x hx).1, (HPS.out x hx).2.1⟩) (show p < N by omega) hqN i k)
        have TR := Lib.hid (fun i k j (hk : k < N) => ab_trans (N := N) (ps := ps) (i := i) (k := k) (j := j) hk)
        have RF := Lib.hid (ab_refl N ps)
        have A1 : Hid (∀ W, Below w5.heap.size w5 W → ∀ i k, i < N → k < N → Calls Try.prog 13 #[.pointer (some ⟨g, 0, none⟩), .string (bs (nmN i)), .string (bs (nmN k))] W fun e w' => e = .returned (.bool (ab N ps i k)) ∧ w' = W) := fun W hW i k hi hk =>
          (Above_nm ((HO.out.below HB5.out).below hW) i k hi hk).mono fun e w' h => ⟨h.1, h.2.symm⟩
        have A2 : Hid (∀ W, Below w5.heap.size w5 W → ∀ i k, i < N → k < N → Calls Try.prog 13 #[.pointer (some ⟨g5, 0, none⟩), .string (bs (nmN i)), .string (bs (nmN k))] W fun e w' => e = .returned (.bool (ab N ps i k || (ab N ps i p && ab N ps q k))) ∧ w' = W) := fun W hW i k hi hk => by
          have h := Above_nm (HO5.out.below hW) i k hi hk
          rw [MORE.out] at h
          exact h.mono fun e w' h => ⟨h.1, h.2.symm⟩
        have HCc : Hid (∀ W, Below w5.heap.size w5 W → ∀ j, j < N → W.cell? ⟨gN, j, none⟩ = some (.string (bs (nmN j)))) := fun W hW j hj =>
          ((HB5.out.trans (hW.mono HB5.out.size)).cell (p := ⟨gN, j, none⟩) hgl).trans (HC.out j hj)
        clear y1 y2 HC HO HO5 L2 MORE
        generalize ab N ps = R at *
        have b0 := Below.refl w5.heap.size w5
        have z1 := HCc.out w5 b0 p (by omega)
        have z2 := HCc.out w5 b0 q hqN
        have aq : ∀ m, Calls Try.prog 13 #[.pointer (some ⟨g5, 0, none⟩), .string (bs X), .string (bs Y)] (w5.drewN m) fun e w' => e = .returned (.bool true) ∧ w' = w5.drewN m := fun m => by
          have h := A2.out (w5.drewN m) (below_drewN b0 m) p q (by omega) hqN
          rw [RF.out p, RF.out q, Bool.true_and, Bool.or_true, HX.out, HY.out] at h
          exact h
        rw [HX.out] at z1
        rw [HY.out] at z2
        have AQ := Lib.hid aq
        clear aq b0
        go_upto_region 10 with fail
        go_quiet ((go_at_call 13; exact Calls.quiet_of_same (AQ.out _)))
        have HB6 : Hid (Below w5.heap.size w5 (w5.drewN nq)) := below_drewN (Below.refl _ _) nq
        clear AQ z1 z2
        generalize w5.drewN nq = w6 at *
        have z1 := HCc.out w6 HB6.out p (by omega)
        have z2 := HCc.out w6 HB6.out q hqN
        have AW : Hid (∀ m, Calls Try.prog 13 #[.pointer (some ⟨g, 0, none⟩), .string (bs (nmN p)), .string (bs (nmN q))] (w6.drewN m) fun e w' => e = .returned (.bool (R p q)) ∧ w' = w6.drewN m) := fun m => A1.out _ (below_drewN HB6.out m) p q (by omega) hqN
        rw [HX.out] at z1 AW
        rw [HY.out] at z2 AW
        generalize hwas : R p q = was at *
        have HWAS := Lib.hid hwas
        clear hwas
        go_upto_region 12 with fail
        go_quiet ((go_at_call 13; exact Calls.quiet_of_same (AW.out _)))
        have HB7 : Hid (Below w5.heap.size w5 (w6.drewN nq)) := below_drewN HB6.out nq
        clear AW z1 z2
        generalize w6.drewN nq = w7 at *
        clear HB6
        go_upto_region 14 with fail
        go_loopw [112] (fun i wr => ∃ k : Nat, k ≤ N ∧ i = .int .i64 k ∧ Hid (Below w5.heap.size w5 wr)) (fun i _ => N - (intOf i).toNat)
        case atStart => exact ⟨0, Nat.zero_le _, rfl, HB7⟩
        case round =>
          obtain ⟨i, hi, rfl, HBi⟩ := hrel
          by_cases hil : i < N
          · go_upto_region 17 with fail
            go_loopw [117] (fun i wr => ∃ k : Nat, k ≤ N ∧ i = .int .i64 k ∧ Hid (Below w5.heap.size w5 wr)) (fun i _ => N - (intOf i).toNat)
            case atStart => exact ⟨0, Nat.zero_le _, rfl, HBi⟩
            case round =>
              obtain ⟨k, hk, rfl, HBk⟩ := hrel
              by_cases hkl : k < N
              · go_upto_region 19 with fail
                obtain ⟨wx, rfl⟩ : ∃ wx : World, wx = wr := ⟨_, rfl⟩
                have ji : (0 : Int) ≤ i := by omega
                have ji2 : (i : Int) < N := by omega
                have jk : (0 : Int) ≤ k := by omega
                have jk2 : (k : Int) < N := by omega
                have xi := HCc.out wx HBk.out i hil
                have xk := HCc.out wx HBk.out k hkl
                have B1 : Hid (∀ m, Calls Try.prog 13 #[.pointer (some ⟨g, 0, none⟩), .string (bs (nmN i)), .string (bs (nmN k))] (wx.drewN m) fun e w' => e = .returned (.bool (R i k)) ∧ w' = wx.drewN m) := fun m => A1.out _ (below_drewN HBk.out m) i k hil hkl
                have B2 : Hid (∀ m, Calls Try.prog 13 #[.pointer (some ⟨g5, 0, none⟩), .string (bs (nmN i)), .string (bs (nmN k))] (wx.drewN m) fun e w' => e = .returned (.bool (R i k || (R i p && R q k))) ∧ w' = wx.drewN m) := fun m => A2.out _ (below_drewN HBk.out m) i k hil hkl
                have key : ∃ x y, R i k = x ∧ (R i k || (R i p && R q k)) = y ∧ (x = true → y = true) ∧ (was = true → x = y) ∧ (x = false → y = true → R i p = true ∧ R q k = true) := by
                  refine ⟨_, _, rfl, rfl, fun h => by rw [h]; rfl, fun h => ?_, fun h1 h2 => ?_⟩
                  · cases h2 : (R i p && R q k)
                    · simp
                    · rw [Bool.and_eq_true] at h2
                      have h3 := TR.out i p q (by omega) h2.1 (by rw [HWAS.out]; exact h)
                      rw [TR.out i q k hqN h3 h2.2]; rfl
                  · rw [h1, Bool.false_or, Bool.and_eq_true] at h2; exact h2
                obtain ⟨x, y, e1, e2, h1, h2, h3⟩ := key
                rw [e1] at B1
                rw [e2] at B2
                have C1 : Hid (∀ W, Below w5.heap.size w5 W → Calls Try.prog 13 #[.pointer (some ⟨g, 0, none⟩), .string (bs (nmN i)), .string (bs X)] W fun e w' => e = .returned (.bool (R i p)) ∧ w' = W) := fun W hW => by
                  have h := A1.out W hW i p hil (by omega)
                  rw [HX.out] at h; exact h
                have C2 : Hid (∀ W, Below w5.heap.size w5 W → Calls Try.prog 13 #[.pointer (some ⟨g, 0, none⟩), .string (bs Y), .string (bs (nmN k))] W fun e w' => e = .returned (.bool (R q k)) ∧ w' = W) := fun W hW => by
                  have h := A1.out W hW q k hqN hkl
                  rw [HY.out] at h; exact h
                clear e1 e2
                generalize R i p = rip at *
                generalize R q k = rqk at *
                go_quiet ((first
                  | (go_at_call_of 13 (Value.pointer (some ⟨g, 0, none⟩)); exact Calls.quiet_of_same (B1.out _))
                  | (go_at_call_of 13 (Value.pointer (some ⟨g5, 0, none⟩)); exact Calls.quiet_of_same (B2.out _))))
                have HBq : Hid (Below w5.heap.size w5 (wx.drewN nq)) := below_drewN HBk.out nq
                clear B1 B2 xi xk
                generalize wx.drewN nq = wy at *
                clear HBk
                have xi := HCc.out wy HBq.out i hil
                have xk := HCc.out wy HBq.out k hkl
                have xp := HCc.out wy HBq.out p (by omega)
                have xq := HCc.out wy HBq.out q hqN
                rw [HX.out] at xp
                rw [HY.out] at xq
                have key2 : (x = y) ∨ (x = false ∧ y = true ∧ was = false ∧ rip = true ∧ rqk = true) := by
                  cases x <;> cases y
                  · exact .inl rfl
                  · refine .inr ⟨rfl, rfl, ?_, h3 rfl rfl⟩
                    cases was
                    · rfl
                    · exact absurd (h2 rfl) (by simp)
                  · exact absurd (h1 rfl) (by simp)
                  · exact .inl rfl
                clear h1 h2 h3
                rcases key2 with rfl | ⟨rfl, rfl, rfl, rfl, rfl⟩
                · clear C1 C2
                  cases x
                  all_goals cases was
                  all_goals
                    go_upto_region 22 with fail
                    go_quiet (fail)
                    go_wp2
                    go_roundw
                    case rel => exact ⟨k + 1, by omega, by go_num, below_drewN HBq.out nq⟩
                    case measure => simp [intOf]; omega
                · go_upto_region 22 with fail
                  go_quiet ((first
                    | (go_at_call_of 13 (Value.string (bs X)); exact Calls.quiet_of_same (C1.out _ (below_drewN HBq.out _)))
                    | (go_at_call_of 13 (Value.string (bs Y)); exact Calls.quiet_of_same (C2.out _ (below_drewN HBq.out _)))))
                  go_wp2
                  go_roundw
                  case rel => exact ⟨k + 1, by omega, by go_num, below_drewN HBq.out nq⟩
                  case measure => simp [intOf]; omega
              · go_wp2
                go_roundw
                case rel => exact ⟨i + 1, by omega, by go_num, HBk⟩
                case measure => simp [intOf]; omega
          · go_wp2_with (go_at_call 14; refine (wakes04 _).mono ?_; rintro e w9 ⟨rfl, hb9⟩)
            go_ret
            have hbz := below_then HB2.out (HB5.out.trans (HBi.out.mono HB5.out.size)) HB2.out.size
            exact ⟨rfl, below_then hbz hb9 hbz.size⟩
end Go.Proofs.Ytilbbjjppcjciaa
