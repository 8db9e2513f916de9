/-
  OrderTells: the walk.
-/
import Derived.Test.YteplbbikjcjheaaTells1
namespace Go.Proofs.Yteplbbikjcjheaa
set_option maxRecDepth 100000
open Go.ChangeShapes Go.WideShapes Go.ChangeAt Go.RowKit

theorem nmL_two {N : Nat} : ∀ t ∈ nmL N, t.length = 2 := fun t h => by
  obtain ⟨i, _, rfl⟩ := List.mem_map.1 h; rfl
theorem set_two {l : List Tx} {j : Nat} {x : Tx} (h : ∀ t ∈ l, t.length = 2) (hx : x.length = 2) : ∀ t ∈ l.set j x, t.length = 2 := fun t ht => by
  rcases List.mem_or_eq_of_mem_set ht with h1 | h1
  · exact h t h1
  · rw [h1]; exact hx
theorem set_len (l : List Tx) (j : Nat) (x : Tx) : (l.set j x).length = l.length := List.length_set
theorem app_q {P : List Pr} (p : Pr) : pcells (P ++ [p]) = pcells P ++ [.string (bs p.1), .string (bs p.2)] := pcells_snoc P p
set_option maxHeartbeats 8000000 in
theorem tells_walk (w : World) (v : Value) (zs : List Int) (hz : IntsAt w v zs) (n : Int) (hn : (Lit.int .i64 n).wf = true) (up : Bool) (tw : Int) (_ht : (Lit.int .i64 tw).wf = true) (st : Int) (_hs : (Lit.int .i64 st).wf = true) (a : Int) (ha : (Lit.int .i64 a).wf = true) (b : Int) (hb : (Lit.int .i64 b).wf = true) (set : Nat) (hset : set < 4294967296) :
    Calls Try.prog 3 #[v, .int .i64 n, .bool up, .int .i64 tw, .int .i64 st, .int .i64 a, .int .i64 b, .int .u32 set] w (TrueOn w) := by
  obtain ⟨i0, hi, hz0, hz1, hz2⟩ := info_parts Try.infoString
  obtain ⟨ip, pi, pz0, pz1, pz2⟩ := info_parts Try.infoPair
  obtain ⟨iq, qi, qz0, qz1, qz2⟩ := info_parts Try.infoTwo
  have hw := within_bd n 26 (by omega)
  have WI := Lib.hid (Within_any n 26 w hn (by omega) (by omega))
  have HZ := Lib.hid hz
  have hv : ∃ A c, v = .slice A zs.length c := let ⟨A, c, e, _⟩ := hz; ⟨A, c, e⟩
  clear hz hn _ht _hs
  obtain ⟨A0, c0, rfl⟩ := hv
  generalize within n 26 = wn at *
  have h9 : wn.tmod 9 = wn % 9 := Int.tmod_eq_emod_of_nonneg (by omega)
  go_enter Try.func3, Try.ntmps3
  go_upto_if 32 with (go_at_call 9; refine WI.out.mono ?_; rintro e w1 ⟨rfl, rfl⟩)
  go_cut [1] (fun x wx => ∃ N : Nat, N ≤ 25 ∧ x = .int .i64 N ∧ wx = w)
  case first =>
    rcases bor_cases (a := (tw.tmod 3 == 0)) with g | g
    · have g' : (tw.tmod 3 != 0) = false := by simp only [bne, g]; rfl
      go_wp2
      go_meet
      exact ⟨wn.toNat, by omega, by rw [Int.toNat_of_nonneg hw.1], rfl⟩
    · have g' : (tw.tmod 3 != 0) = true := by simp only [bne, g]; rfl
      go_wp2
      go_meet
      exact ⟨(wn % 9).toNat, by omega, by rw [Int.toNat_of_nonneg (by omega)], rfl⟩
  case rest =>
    obtain ⟨N, hN, rfl, rfl⟩ := hcut
    clear WI h9 hw
    have PA := Lib.hid (Pairs_any (.slice A0 zs.length c0) zs N up wc HZ.out (by omega))
    have hpl := prs_len zs N up
    obtain ⟨w0, rfl⟩ : ∃ w0 : World, w0 = wc := ⟨_, rfl⟩
    generalize prs zs N up = ps at *
    go_upto_region 5 with (go_at_call 10; refine PA.out.mono ?_; rintro e w1 ⟨v1, v2, v3, rfl, o1, o2, o3, hb1⟩)
    rename_i K5 hK5
    have HT1 : Hid (TS w0 w1 v1 v2 v3 (nmL N) (ps.map pnm)) := ⟨o1, o2, o3, hb1⟩
    have hPl : (ps.map pnm).length ≤ 20 := by rw [List.length_map]; exact hpl
    have HL1 : Hid ((nmL N).length = N) := nmL_length N
    have HL2 : Hid (∀ t ∈ nmL N, t.length = 2) := nmL_two
    obtain ⟨A, c, rfl⟩ := ownL_nm o1
    clear o1 o2 o3 hb1 PA hpl HZ
    generalize hP0 : ps.map pnm = P0 at *
    clear hP0
    go_cut [49] (fun x wx => ∃ b : Bool, x = .bool b ∧ (b = true → 1 < N) ∧ wx = w1)
    case first =>
      have key : ((tw.tmod 11 == 10) = false) ∨ ((tw.tmod 11 == 10) = true ∧ decide (1 < N) = false) ∨ ((tw.tmod 11 == 10) = true ∧ 1 < N) := by
        cases h : (tw.tmod 11 == 10)
        · exact .inl rfl
        · by_cases h1 : 1 < N
          · exact .inr (.inr ⟨rfl, h1⟩)
          · exact .inr (.inl ⟨rfl, by simpa using h1⟩)
      rcases key with g | ⟨g, g2⟩ | ⟨g, g1⟩
      · go_wp2
        go_meet
        exact ⟨false, rfl, (fun h => by cases h), rfl⟩
      · go_wp2
        go_meet
        exact ⟨_, rfl, (fun h => by have := of_decide_eq_true h; omega), rfl⟩
      · go_wp2
        go_meet
        exact ⟨_, rfl, fun _ => g1, rfl⟩
    case rest =>
    obtain ⟨b1, rfl, hb1N, rfl⟩ := hcut
    obtain ⟨w1, rfl⟩ : ∃ w1 : World, w1 = wc := ⟨_, rfl⟩
    refine hK5 _ _ ?_
    clear hK5
    go_upto_if 49 with fail
    go_cut [] (fun wx => ∃ L : List Tx, Hid (L.length = N) ∧ Hid (∀ t ∈ L, t.length = 2) ∧ Hid (TS w0 wx (.slice A N c) v2 v3 L P0))
    case first =>
      cases b1
      · go_wp2
        go_meet
        exact ⟨_, HL1, HL2, HT1⟩
      · have g1 := hb1N rfl
        obtain ⟨M, hM⟩ : ∃ M, N = M + 1 := ⟨N - 1, by omega⟩
        have hMN : M < N := by omega
        have hMi : (M : Int) < N := by omega
        have hM0 : (0 : Int) ≤ M := by omega
        have n0 : (0 : Int) < N := by omega
        have n0' : 0 < N := by omega
        have e1 : (N : Int) - 1 = M := by omega
        have sN : IntKind.i64.wrap ((N : Int) - 1) = (M : Int) := by rw [e1, IntKind.wrap_i64]; omega
        have hL := listL_nm HT1.out.o1
        obtain ⟨g0, rfl, hg0, hNc, hcells⟩ := names_cells hL (by omega)
        have y0 := hcells 0 (by omega)
        have y1 := hcells M hMN
        have o1' := HT1.out.o1
        unfold OwnL at o1'
        rw [HL1.out] at o1'
        have f1 : w1.frozen? ⟨g0, M, none⟩ = false := World.ownsRow.frozenAt o1' M
        have T := HT1.out
        have hst : TS w0 (w1.setCell ⟨g0, M, none⟩ (.string (bs (nmN 0)))) (.slice (some ⟨g0, 0, none⟩) N c) v2 v3 ((nmL N).set M (nmN 0)) P0 := T.storeN HL1.out M (nmN 0)
        have HST := Lib.hid hst
        have HS1 : Hid (((nmL N).set M (nmN 0)).length = N) := by show _ = _; rw [set_len, HL1.out]
        have HS2 : Hid (∀ t ∈ (nmL N).set M (nmN 0), t.length = 2) := set_two HL2.out rfl
        clear hst T hcells hL hM o1'
        generalize (nmL N).set M (nmN 0) = L2 at *
        generalize nmN 0 = X0 at *
        generalize nmN M = XM at *
        go_wp2
        go_meet
        exact ⟨L2, HS1, HS2, HST⟩
    case rest =>
      obtain ⟨L, HLN, HL2', HT⟩ := hcut
      obtain ⟨w2, rfl⟩ : ∃ w2 : World, w2 = wc := ⟨_, rfl⟩
      clear HT1 HL1 HL2
      go_upto_if 59 with fail
      have T := HT.out
      obtain ⟨B2, d2, e2⟩ := own_slice T.o2
      obtain ⟨B3, d3, e3⟩ := own_slice T.o3
      subst e2 e3
      go_cut [18, 19] (fun p q wx => ∃ (P : List Pr) (B : Option Addr) (d : Nat) (B' : Option Addr) (d' : Nat), p = .slice B P.length d ∧ q = .slice B' P.length d' ∧ Hid (P.length ≤ 21) ∧ Hid (TS w0 wx (.slice A N c) (.slice B P.length d) (.slice B' P.length d') L P))
      case first =>
        rcases bor_cases (a := (st.tmod 11 == 10)) with g | g
        · have hbz := T.low.size
          have h2 := T.o2
          unfold OwnP at h2
          have HP0 : Hid (P0.length ≤ 20) := hPl
          have HAP := Lib.hid (fun X w4 hg => TS.appP (X := X) (w4 := w4) T hg)
          have ez : (⟨#[122, 122]⟩ : ByteArray) = bs [122, 122] := rfl
          have ea : (⟨#[97, 97]⟩ : ByteArray) = bs [97, 97] := rfl
          have hm0 : P0.length ≤ 20 := hPl
          have HAQ : Hid (∀ (Y : Obj) (w4 w6 : World) (v2' v3' : Value), (OwnL w4 w0.heap.size (.slice A N c) L ∧ OwnQ w4 w0.heap.size (.slice B3 P0.length d3) P0 ∧ Below w0.heap.size w0 w4) → w4.ownsRow w0.heap.size 31 2 v2' (P0.length + 1) (pcells P0 ++ [.string (bs [122, 122]), .string (bs [97, 97])]) → (w4.alloc Y).grownBy w6 (Value.slice B3 P0.length d3).ownBlock → w6.ownsRow w0.heap.size 32 2 v3' (P0.length + 1) (pcells P0 ++ [.string (bs [122, 122]), .string (bs [97, 97])]) → ∃ B d B' d', v2' = .slice B (P0.length + 1) d ∧ v3' = .slice B' (P0.length + 1) d' ∧ TS w0 w6 (.slice A N c) (.slice B (P0.length + 1) d) (.slice B' (P0.length + 1) d') L (P0 ++ [([122, 122], [97, 97])])) := fun Y w4 w6 v2' v3' h hp hg hq => TS.appQ h hp hg hq
          have HPE : Hid ((P0 ++ [(([122, 122] : Tx), ([97, 97] : Tx))]).length = P0.length + 1) := by show _ = _; simp
          go_upto_region 8 with fail
          go_wp2_with (first
            | (at_builtin; (refine wpList_append_own _ rfl (.tmp 60) (.tmp 62) 26 rfl w0.heap.size 31 ip _ 2 32 Try.underlying26 pi pz0 pz1 pz2 rfl (by decide) _ P0.length (pcells P0) rfl (h2.alloc _) ⟨w2.heap.size, 0, none⟩ 1 1 [.string (bs [122, 122]), .string (bs [97, 97])] rfl rfl (cells_new _ _ _) (by intro u hu; simp at hu; rcases hu with rfl | rfl <;> rfl) (by unfold maxLen; omega) (by omega) (by simp; omega) ?_; intro v2' w4 hown2 hg2 _; have K4 := HAP.out _ w4 hg2; have z4 := K4.2.2.size; have q4 := K4.2.1; unfold OwnQ at q4))
            | (at_builtin; (refine wpList_append_own _ rfl (.tmp 64) (.tmp 66) 27 rfl w0.heap.size 32 iq _ 2 32 Try.underlying27 qi qz0 qz1 qz2 rfl (by decide) _ P0.length (pcells P0) rfl (q4.alloc _) ⟨w4.heap.size, 0, none⟩ 1 1 [.string (bs [122, 122]), .string (bs [97, 97])] rfl rfl (cells_new _ _ _) (by intro u hu; simp at hu; rcases hu with rfl | rfl <;> rfl) (by unfold maxLen; omega) (by omega) (by simp; omega) ?_; intro v3' w6 hown3 hg3 _; obtain ⟨B5, d5, B6, d6, rfl, rfl, HTT⟩ := HAQ.out _ w4 w6 v2' v3' K4 hown2 hg3 hown3)))
          go_meet
          exact ⟨P0 ++ [([122, 122], [97, 97])], B5, d5, B6, d6, by rw [HPE.out], by rw [HPE.out], (by show _ ≤ _; rw [HPE.out]; have := HP0.out; omega), by rw [HPE.out]; exact HTT⟩
        · go_wp2
          go_meet
          exact ⟨P0, B2, d2, B3, d3, rfl, rfl, Nat.le_succ_of_le hPl, HT⟩
      case rest =>
        obtain ⟨P, B, d, B', d', rfl, rfl, HPL, HT9⟩ := hcut
        obtain ⟨w3, rfl⟩ : ∃ w3 : World, w3 = wc := ⟨_, rfl⟩
        clear T HT hPl
        have T := HT9.out
        have hLN := HLN.out
        have o1 := T.o1
        rw [← hLN] at o1
        have CL : Hid (Calls Try.prog 12 #[.slice A N c] w3 (CopyLTo L w3)) := by
          have h := copyOwn_any L w0.heap.size c A w3 o1 (by omega)
          rw [hLN] at h; exact h
        have hLA : ListAt w3 A c L := listAt_of o1
        have hPA : PAt w3 B d P := pAt_of T.o2
        have hQA : PAt w3 B' d' P := ⟨own_cap T.o3, fun j hj => by
          obtain ⟨g, cap', e, _, hl, _, hc⟩ := own_form T.o3 (by omega)
          have eA : B' = some ⟨g, 0, none⟩ := by injection e
          exact ⟨g, eA, hl, hc _ _ (pcells_at P j hj).1, hc _ _ (pcells_at P j hj).2⟩⟩
        have HLA := Lib.hid hLA
        have NW : Hid (∀ W A' c', Below w3.heap.size w3 W → ListAt W A' c' L → Calls Try.prog 11 #[.slice A' N c', .slice B P.length d] W (NewTo L P W)) := fun W A' c' hW h => by
          have h := New_any L P A' B c' d W h (hPA.below hW) (by omega) (by have := HPL.out; omega)
          rw [hLN] at h; exact h
        have RW : Hid (∀ W, Below w3.heap.size w3 W → Calls Try.prog 13 #[.slice A N c, .slice B' P.length d'] W (RefNewTo L P W)) := fun W hW => by
          have h := RefNew_any L P A B' c d' W (hLA.below hW) (hQA.below hW) (by omega) (by have := HPL.out; omega)
          rw [hLN] at h; exact h
        have HB3 := Lib.hid T.low
        have hNc : N ≤ c := by have := hLA.1; omega
        clear T o1 hLA hPA hQA hLN
        cases hP : newP L P with
        | bad k =>
          have hk := newP_bad hP
          have NB : Hid (∀ W A' c', Below w3.heap.size w3 W → ListAt W A' c' L → Calls Try.prog 11 #[.slice A' N c', .slice B P.length d] W fun e w' => e = .returned (.tuple #[.pointer none, .iface 40 (.int .i64 k)]) ∧ Below W.heap.size W w') := fun W A' c' hW h => (NW.out W A' c' hW h).mono fun e w' ⟨hb, hm⟩ => by
            rw [hP] at hm; exact ⟨hm, hb⟩
          have RB : Hid (∀ W, Below w3.heap.size w3 W → Calls Try.prog 13 #[.slice A N c, .slice B' P.length d'] W fun e w' => e = .returned (.tuple #[.pointer none, .int .i64 k]) ∧ Below W.heap.size W w') := fun W hW => (RW.out W hW).mono fun e w' ⟨hb, hm⟩ => by
            rw [hP] at hm; exact ⟨hm, hb⟩
          have KI := Lib.hid (fun W => keepIsO k k W hk.1 hk.2)
          have hkk : (k == k) = true := by simp
          clear NW RW hP hk
          have bz : Below w3.heap.size w3 w3 := Below.refl _ _
          go_wp2_with (first
            | (go_at_call 12; refine CL.out.mono ?_; rintro e w4 ⟨u4, rfl, o4, hb4⟩; obtain ⟨A4, c4, e4⟩ := own_slice o4; rw [HLN.out] at e4; subst e4; have l4 : ListAt w4 A4 c4 L := listAt_of (by rw [HLN.out]; exact o4))
            | (go_at_call 11; refine (NB.out _ _ _ hb4 l4).mono ?_; rintro e w5 ⟨rfl, hb5⟩; have h5 := below_then hb4 hb5 hb4.size)
            | (go_at_call 13; refine (RB.out _ h5).mono ?_; rintro e w6 ⟨rfl, hb6⟩; have h6 := below_then h5 hb6 h5.size)
            | (go_at_call 14; refine (KI.out _).mono ?_; rintro e w7 ⟨rfl, rfl⟩)
            | (go_at_call 15; refine (wakes04 _).mono ?_; rintro e w8 ⟨rfl, hb8⟩; have h8 := below_then h6 hb8 h6.size))
          go_ret
          exact ⟨rfl, below_then HB3.out h8 HB3.out.size⟩
        | ok bl =>
          obtain ⟨hfew, hnd, _, _, hbd, _⟩ := newP_all hP
          have NO : Hid (∀ W A' c', Below w3.heap.size w3 W → ListAt W A' c' L → Calls Try.prog 11 #[.slice A' N c', .slice B P.length d] W fun e w' => ∃ g, e = .returned (.tuple #[.pointer (some ⟨g, 0, none⟩), .nilIface]) ∧ OrdAt w' g L bl ∧ Below W.heap.size W w') := fun W A' c' hW h => (NW.out W A' c' hW h).mono fun e w' ⟨hb, hm⟩ => by
            rw [hP] at hm
            obtain ⟨g, he, ho⟩ := hm
            exact ⟨g, he, ho, hb⟩
          have RO : Hid (∀ W, Below w3.heap.size w3 W → Calls Try.prog 13 #[.slice A N c, .slice B' P.length d'] W fun e w' => ∃ g, e = .returned (.tuple #[.pointer (some ⟨g, 0, none⟩), .int .i64 0]) ∧ OrdD w' g L bl ∧ Below W.heap.size W w') := fun W hW => (RW.out W hW).mono fun e w' ⟨hb, hm⟩ => by
            rw [hP] at hm
            obtain ⟨g, he, ho⟩ := hm
            exact ⟨g, he, ho, hb⟩
          have HND := Lib.hid hnd
          have HBD := Lib.hid hbd
          clear NW RW hP hnd hbd
          go_upto_region 15 with (first
            | (go_at_call 12; refine CL.out.mono ?_; rintro e w4 ⟨u4, rfl, o4, hb4⟩; obtain ⟨A4, c4, e4⟩ := own_slice o4; rw [HLN.out] at e4; subst e4; have l4 : ListAt w4 A4 c4 L := listAt_of (by rw [HLN.out]; exact o4))
            | (go_at_call 11; refine (NO.out _ _ _ hb4 l4).mono ?_; rintro e w5 ⟨g, rfl, ho5, hb5⟩; have h5 := below_then hb4 hb5 hb4.size)
            | (go_at_call 13; refine (RO.out _ h5).mono ?_; rintro e w6 ⟨r, rfl, ho6, hb6⟩; have h6 := below_then h5 hb6 h5.size)
            | (go_at_call 14; refine (keepIs00 _).mono ?_; rintro e w7 ⟨rfl, rfl⟩))
          have HOA := Lib.hid (ho5.below hb6)
          have HOD := Lib.hid ho6
          have HL6 := Lib.hid (HLA.out.below h6)
          have HB6 := Lib.hid (below_then HB3.out h6 HB3.out.size)
          clear CL NO RO o4 l4 ho5 ho6 hb4 hb5 hb6 h5 h6 HB3 HLA HT9
          go_upto_if 93 with fail
          go_cut [24, 25] (fun x y wx => ∃ X Y : Tx, x = .string (bs X) ∧ y = .string (bs Y) ∧ Hid (Below w6.heap.size w6 wx))
          case first =>
            go_wp2
            · have hN1 : 1 ≤ N := by omega
              have wa := within_nat a N hN1
              have wb := within_nat b N hN1
              have ca := fun n => Within_any a N (w6.drewN n) ha (by omega) (by omega)
              have cb := fun n => Within_any b N (w6.drewN n) hb (by omega) (by omega)
              rw [wa.2] at ca
              rw [wb.2] at cb
              have hi := wa.1
              have hj := wb.1
              clear wa wb
              generalize (within a N).toNat = i at *
              generalize (within b N).toNat = j at *
              have CA : Hid (∀ n, Calls Try.prog 9 #[.int .i64 a, .int .i64 N] (w6.drewN n) fun e w' => e = .returned (.int .i64 i) ∧ w' = w6.drewN n) := fun n => (ca n).mono fun e w' h => ⟨h.1, h.2.symm⟩
              have CB : Hid (∀ n, Calls Try.prog 9 #[.int .i64 b, .int .i64 N] (w6.drewN n) fun e w' => e = .returned (.int .i64 j) ∧ w' = w6.drewN n) := fun n => (cb n).mono fun e w' h => ⟨h.1, h.2.symm⟩
              clear ca cb
              have hiL : i < L.length := by rw [HLN.out]; exact hi
              have hjL : j < L.length := by rw [HLN.out]; exact hj
              obtain ⟨gN, rfl, hgl, y1⟩ := HL6.out.2 i hiL
              obtain ⟨gN', e, _, y2⟩ := HL6.out.2 j hjL
              obtain rfl : gN = gN' := by simpa using e
              clear e
              generalize L[i] = X at *
              generalize L[j] = Y at *
              have i0 : (0 : Int) ≤ i := by omega
              have j0 : (0 : Int) ≤ j := by omega
              have iN : (i : Int) < N := by omega
              have jN : (j : Int) < N := by omega
              go_quiet ((first
                | (go_at_call_of 9 (Value.int .i64 a); exact Calls.quiet_of_same (CA.out _))
                | (go_at_call_of 9 (Value.int .i64 b); exact Calls.quiet_of_same (CB.out _))))
              go_wp2
              go_meet
              exact ⟨X, Y, rfl, rfl, below_drewN (Below.refl _ _) _⟩
            · go_meet
              exact ⟨noneT, noneT, rfl, rfl, Below.refl _ _⟩
          case rest =>
            obtain ⟨X, Y, rfl, rfl, HB7⟩ := hcut
            obtain ⟨w7, rfl⟩ : ∃ w7 : World, w7 = wc := ⟨_, rfl⟩
            go_wp2
            go_loopw [26, 108] (fun v i wr => ∃ k : Nat, k ≤ N ∧ i = .int .i64 k ∧ Hid (OwnL wr w7.heap.size v (runL L bl X k)) ∧ Hid (Below w7.heap.size w7 wr)) (fun _ i _ => N - (intOf i).toNat)
            case atStart => exact ⟨0, Nat.zero_le _, rfl, World.ownsRow_nil _ _ _ _, Below.refl _ _⟩
            case round =>
              obtain ⟨k, hk, rfl, HO, HBr⟩ := hrel
              have hbz := HBr.out.size
              have HB6r : Hid (Below w6.heap.size w6 wr) := below_then HB7.out HBr.out HB7.out.size
              by_cases hlt : k < N
              · have hlL : k < L.length := by rw [HLN.out]; exact hlt
                obtain ⟨gN, rfl, hgl, y1⟩ := (HL6.out.below HB6r.out).2 k hlL
                have ra := RAbove_any r L wr bl X L[k] (HOD.out.below HB6r.out)
                have hgd : L.getD k [] = L[k] := by simp [List.getD_eq_getElem?_getD, hlL]
                have hsn : runL L bl X (k + 1) = if aboveP L bl X L[k] = true then runL L bl X k ++ [L[k]] else runL L bl X k := by rw [runL, hgd]
                have hln := runL_len L bl X k
                clear hgd
                generalize L[k] = Z at *
                obtain ⟨A8, c8, rfl⟩ := own_slice HO.out
                cases hq : aboveP L bl X Z
                · rw [hq] at ra hsn
                  rw [if_neg (by decide)] at hsn
                  have HS : Hid (OwnL wr w7.heap.size (.slice A8 (runL L bl X k).length c8) (runL L bl X (k + 1))) := by show OwnL _ _ _ _; rw [hsn]; exact HO.out
                  have RA := Lib.hid ra
                  clear ra hsn hq
                  go_wp2_with (go_at_call 16; refine RA.out.mono ?_; rintro e w9 ⟨rfl, rfl⟩)
                  go_roundw
                  case rel => exact ⟨k + 1, by omega, by go_num, HS, HBr⟩
                  case measure => simp [intOf]; omega
                · rw [hq] at ra hsn
                  rw [if_pos rfl] at hsn
                  have hO := HO.out
                  unfold OwnL at hO
                  have HSN := Lib.hid hsn
                  have RA := Lib.hid ra
                  clear ra hsn hq
                  generalize runL L bl X k = cur at *
                  go_wp2_with (first
                    | (go_at_call 16; refine RA.out.mono ?_; rintro e w9 ⟨rfl, rfl⟩)
                    | (at_builtin; go_must (refine wpList_append_own _ rfl (.tmp 118) (.tmp 123) 25 rfl w7.heap.size 9 i0 _ 1 16 Try.underlying25 hi hz0 hz1 hz2 rfl (by decide) _ cur.length (scells cur) rfl (hO.alloc _) ⟨wr.heap.size, 0, none⟩ 1 1 [.string (bs Z)] rfl rfl (cells_new _ _ _) (by intro u hu; simp at hu; subst hu; rfl) (by unfold maxLen; omega) (by omega) (by simp; omega) ?_); intro v' w9 hown' hg' _; obtain ⟨A5, c5, rfl⟩ := own_slice hown'))
                  have HS : Hid (OwnL w9 w7.heap.size (.slice A5 (cur.length + 1) c5) (runL L bl X (k + 1))) := by
                    show World.ownsRow _ _ _ _ _ _ _
                    rw [HSN.out, List.length_append]
                    have e : scells (cur ++ [Z]) = scells cur ++ [.string (bs Z)] := by simp [scells]
                    rw [e]; exact hown'
                  have HB9 : Hid (Below w7.heap.size w7 w9) := (HBr.out.alloc HBr.out.size _).grown hg' (Nat.le_trans HBr.out.size (by simp)) (fun j e => (hO.lt j e).1)
                  go_roundw
                  case rel => exact ⟨k + 1, by omega, by go_num, HS, HB9⟩
                  case measure => simp [intOf]; omega
              · have eb : runL L bl X k = belowL L bl X := by
                  have e : k = L.length := by rw [HLN.out]; omega
                  rw [e, runL_eq HND.out]
                rw [eb] at HO
                obtain ⟨w8, rfl⟩ : ∃ w8 : World, w8 = wr := ⟨_, rfl⟩
                obtain ⟨A8, c8, rfl⟩ := own_slice HO.out
                have hO8 : ListAt w8 A8 c8 (belowL L bl X) := listAt_of HO.out
                have HL8 := Lib.hid hO8
                have hbl : (belowL L bl X).length ≤ 1000 := by
                  rw [← eb]
                  exact Nat.le_trans (runL_len _ _ _ _) (by omega)
                clear hO8 HO eb
                have bz : Below w8.heap.size w8 w8 := Below.refl _ _
                have h6f : Hid (∀ W, Below w8.heap.size w8 W → Below w6.heap.size w6 W) := fun W hW => below_then HB6r.out hW HB6r.out.size
                have NM : Hid (∀ W, Below w8.heap.size w8 W → Calls Try.prog 18 #[.pointer (some ⟨g, 0, none⟩)] W (CloneTo L W)) := fun W hW => Names_any g L bl W (HOA.out.below (h6f.out W hW))
                have SM : Hid (∀ W A' c', Below w8.heap.size w8 W → ListAt W A' c' L → Calls Try.prog 17 #[.slice A' N c', .slice A N c] W fun e w' => e = .returned (.bool true) ∧ Below W.heap.size W w') := fun W A' c' hW h => by
                  have h := Same_at L A' A c' c W (by rw [HLN.out]; omega) h (HL6.out.below (h6f.out W hW))
                  rw [HLN.out] at h; exact h
                have IX : Hid (∀ W x, Below w8.heap.size w8 W → Calls Try.prog 19 #[.pointer (some ⟨g, 0, none⟩), .string (bs x)] W fun e w' => e = .returned (.int .i64 (idxI L x)) ∧ W = w') := fun W x hW => OIndex_any g L bl W x (HOA.out.below (h6f.out W hW))
                have RX : Hid (∀ W x, Below w8.heap.size w8 W → Calls Try.prog 20 #[.pointer (some ⟨r, 0, none⟩), .string (bs x)] W fun e w' => e = .returned (.int .i64 (idxI L x)) ∧ W = w') := fun W x hW => RIdx_any r L W bl x (HOD.out.below (h6f.out W hW))
                have AB : Hid (∀ W, Below w8.heap.size w8 W → Calls Try.prog 21 #[.pointer (some ⟨g, 0, none⟩), .string (bs X), .string (bs Y)] W fun e w' => e = .returned (.bool (aboveP L bl X Y)) ∧ W = w') := fun W hW => Above_any g L bl W X Y (HOA.out.below (h6f.out W hW))
                have RAB : Hid (∀ W, Below w8.heap.size w8 W → Calls Try.prog 16 #[.pointer (some ⟨r, 0, none⟩), .string (bs X), .string (bs Y)] W fun e w' => e = .returned (.bool (aboveP L bl X Y)) ∧ W = w') := fun W hW => RAbove_any r L W bl X Y (HOD.out.below (h6f.out W hW))
                have BL : Hid (∀ W, Below w8.heap.size w8 W → Calls Try.prog 22 #[.pointer (some ⟨g, 0, none⟩), .string (bs X)] W (BelowTo L bl X W)) := fun W hW => Below_any g L bl W X (HOA.out.below (h6f.out W hW))
                have SB : Hid (∀ W A' c', Below w8.heap.size w8 W → ListAt W A' c' (belowL L bl X) → Calls Try.prog 17 #[.slice A' (belowL L bl X).length c', .slice A8 (belowL L bl X).length c8] W fun e w' => e = .returned (.bool true) ∧ Below W.heap.size W w') := fun W A' c' hW h => Same_at (belowL L bl X) A' A8 c' c8 W (by omega) h (HL8.out.below hW)
                have DN : Hid (∀ W, Below w8.heap.size w8 W → Calls Try.prog 23 #[.pointer (some ⟨g, 0, none⟩), .int .u32 set] W fun e w' => e = .returned (.int .u32 (downTo bl set L.length : Nat)) ∧ W = w') := fun W hW => Down_any g L bl W set hset (HOA.out.below (h6f.out W hW))
                have RDN : Hid (∀ W, Below w8.heap.size w8 W → Calls Try.prog 24 #[.pointer (some ⟨r, 0, none⟩), .int .u32 set] W fun e w' => e = .returned (.int .u32 (downTo bl set L.length : Nat)) ∧ W = w') := fun W hW => RDown_any r L W bl set hset (HOD.out.below (h6f.out W hW))
                have UP : Hid (∀ W, Below w8.heap.size w8 W → Calls Try.prog 25 #[.pointer (some ⟨g, 0, none⟩), .int .u32 set] W fun e w' => e = .returned (.int .u32 (upperTo bl set L.length : Nat)) ∧ W = w') := fun W hW => Up_any g L bl W set hset (HOA.out.below (h6f.out W hW))
                have RUP : Hid (∀ W, Below w8.heap.size w8 W → Calls Try.prog 26 #[.pointer (some ⟨r, 0, none⟩), .int .u32 set] W fun e w' => e = .returned (.int .u32 (upperTo bl set L.length : Nat)) ∧ W = w') := fun W hW => by
                  have h := RUp_any r L bl W set hset (HOD.out.below (h6f.out W hW))
                  rw [upsTo_upper bl set L.length (fun i j h => (HBD.out i j h).2)] at h; exact h
                have hno : noneT ∉ L := fun h => by have := HL2'.out _ h; simp [noneT] at this
                have IN : Hid (∀ W, Below w8.heap.size w8 W → Calls Try.prog 19 #[.pointer (some ⟨g, 0, none⟩), .string ⟨#[110, 111, 110, 101]⟩] W fun e w' => e = .returned (.int .i64 (-1)) ∧ W = w') := fun W hW => by
                  have h := IX.out W noneT hW
                  rw [idxI_out hno] at h; exact h
                have IXX := Lib.hid (fun W => IX.out W X)
                have RXX := Lib.hid (fun W => RX.out W X)
                have HEND : Hid (∀ W, Below w8.heap.size w8 W → Below w0.heap.size w0 W) := fun W hW => below_then HB6.out (h6f.out W hW) HB6.out.size
                clear IX RX hno h6f hset hfew
                generalize hq1 : idxI L X = q1 at *
                generalize hq2 : aboveP L bl X Y = q2 at *
                generalize hq3 : downTo bl set L.length = q3 at *
                generalize hq4 : upperTo bl set L.length = q4 at *
                clear hq1 hq2 hq3 hq4
                have e1 : (q1 == q1) = true := by simp
                have e2 : (q2 == q2) = true := by simp
                have e3 : ((q3 : Int) == (q3 : Int)) = true := by simp
                have e4 : ((q4 : Int) == (q4 : Int)) = true := by simp
                have tokI : True := trivial
                have tokS : True := trivial
                go_wp2_with (first
                  | (go_at_call 18; refine (NM.out _ bz).mono ?_; rintro e w9 ⟨u9, rfl, o9, hb9⟩; obtain ⟨A9, c9, e9⟩ := own_slice o9; rw [HLN.out] at e9; subst e9; have l9 : ListAt w9 A9 c9 L := listAt_of (by rw [HLN.out]; exact o9))
                  | (have _t := tokS; go_at_call 17; refine (SM.out _ _ _ hb9 l9).mono ?_; rintro e w10 ⟨rfl, hb10⟩; have h10 := below_then hb9 hb10 hb9.size; clear tokS _t)
                  | (have _t := tokI; go_at_call 19; refine (IXX.out _ h10).mono ?_; rintro e w11 ⟨rfl, rfl⟩; clear tokI _t)
                  | (go_at_call 20; refine (RXX.out _ h10).mono ?_; rintro e w11 ⟨rfl, rfl⟩)
                  | (go_at_call 19; refine (IN.out _ h10).mono ?_; rintro e w11 ⟨rfl, rfl⟩)
                  | (go_at_call 21; refine (AB.out _ h10).mono ?_; rintro e w11 ⟨rfl, rfl⟩)
                  | (go_at_call 16; refine (RAB.out _ h10).mono ?_; rintro e w11 ⟨rfl, rfl⟩)
                  | (go_at_call 22; refine (BL.out _ h10).mono ?_; rintro e w12 ⟨u12, rfl, o12, hb12⟩; obtain ⟨A12, c12, rfl⟩ := own_slice o12; have l12 := listAt_of o12; have h12 := below_then h10 hb12 h10.size)
                  | (go_at_call 17; refine (SB.out _ _ _ h12 l12).mono ?_; rintro e w13 ⟨rfl, hb13⟩; have h13 := below_then h12 hb13 h12.size)
                  | (go_at_call 23; refine (DN.out _ h13).mono ?_; rintro e w14 ⟨rfl, rfl⟩)
                  | (go_at_call 24; refine (RDN.out _ h13).mono ?_; rintro e w14 ⟨rfl, rfl⟩)
                  | (go_at_call 25; refine (UP.out _ h13).mono ?_; rintro e w14 ⟨rfl, rfl⟩)
                  | (go_at_call 26; refine (RUP.out _ h13).mono ?_; rintro e w14 ⟨rfl, rfl⟩)
                  | (go_at_call 15; refine (wakes04 _).mono ?_; rintro e w15 ⟨rfl, hb15⟩; have h15 := below_then h13 hb15 h13.size))
                go_ret
                exact ⟨rfl, HEND.out _ h15⟩
end Go.Proofs.Yteplbbikjcjheaa
