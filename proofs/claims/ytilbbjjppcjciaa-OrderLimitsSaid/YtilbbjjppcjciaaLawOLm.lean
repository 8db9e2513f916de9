/-
  OrderLimits: the walk.
-/
import Derived.Test.YtilbbjjppcjciaaLim0
import Derived.Deep.RegionLaw
import Derived.Deep.RegionHeld3
import Derived.Deep.AppendLies
namespace Go.Proofs.Ytilbbjjppcjciaa
set_option maxRecDepth 100000
open Go.ChangeShapes Go.WideShapes Go.ChangeAt Go.RowKit

theorem own_mono {w : World} {base base' e size n : Nat} {v : Value} {xs : List Value} (h : w.ownsRow base e size v n xs) (hle : base' ≤ base) : w.ownsRow base' e size v n xs :=
  ⟨h.1, h.2.elim .inl fun ⟨g, cap, cur, e, hb, r⟩ => .inr ⟨g, cap, cur, e, Nat.le_trans hle hb, r⟩⟩
theorem news_below {W w1 : World} {K : Nat} {l : List Value} (hb : Below W.heap.size W w1) (hK : K < W.heap.size) (hn : ∀ j u, l[j]? = some u → W.cell? ((⟨K, 0, none⟩ : Addr).add j) = some u) :
    ∀ j u, l[j]? = some u → w1.cell? ((⟨K, 0, none⟩ : Addr).add j) = some u := by
  intro j u hu
  have hadd : ((⟨K, 0, none⟩ : Addr).add j).block = K := by unfold Addr.add; split <;> rfl
  exact (hb.cell (by rw [hadd]; exact hK)).trans (hn j u hu)
theorem own_nm {w : World} {base N : Nat} {v : Value} (h : OwnL w base v (nmL N)) (hN : 1 ≤ N) : ∃ g cap, v = .slice (some ⟨g, 0, none⟩) N cap ∧ base ≤ g ∧ g < w.heap.size ∧ N ≤ cap ∧ w.cell? ⟨g, 0, none⟩ = some (.string (bs (nmN 0))) ∧ w.frozen? ⟨g, 0, none⟩ = false := by
  obtain ⟨g, cap, rfl, h1, h2, h3, h4⟩ := own_form h (by rw [nmL_length]; omega)
  have hf : w.frozen? ⟨g, 0, none⟩ = false := World.ownsRow.frozenAt h 0
  have hc := h4 0 (.string (bs (nmN 0))) (by simp [scells, nmL, show 0 < N by omega])
  rw [nmL_length] at h3 ⊢
  exact ⟨g, cap, rfl, h1, h2, h3, hc, hf⟩
theorem quest_out (N : Nat) : ([63] : Tx) ∉ nmL N := by
  intro h
  obtain ⟨i, _, e⟩ := List.mem_map.1 h
  have := congrArg List.length e
  simp [nmN] at this
theorem New_pair {W : World} (N : Nat) (x y : Tx) (A : Option Addr) (c : Nat) (k : Int) (hN : N ≤ 1000) (h1 : ListAt W A c (nmL N)) (hbad : newP (nmL N) [(x, y)] = .bad k) :
    Calls Try.prog 11 #[.slice A N c, .slice (some ⟨W.heap.size, 0, none⟩) 1 1] (W.alloc (.cells #[.string (bs x), .string (bs y)] 36)) fun e w' => e = .returned (.tuple #[.pointer none, .iface 41 (.int .i64 k)]) ∧ Below W.heap.size W w' := by
  have hbA : Below W.heap.size W (W.alloc (.cells #[.string (bs x), .string (bs y)] 36)) := (Below.refl _ _).alloc (Nat.le_refl _) _
  have R := heap_alloc_new W (.cells #[.string (bs x), .string (bs y)] 36)
  have hp : PAt (W.alloc (.cells #[.string (bs x), .string (bs y)] 36)) (some ⟨W.heap.size, 0, none⟩) 1 [(x, y)] :=
    ⟨Nat.le_refl _, fun j hj => ⟨_, rfl, by simp, by
      simp at hj
      subst hj
      exact ⟨by rw [cell_of_row _ _ _ _ _ _ R]; rfl, by rw [cell_of_row _ _ _ _ _ _ R]; rfl⟩⟩⟩
  have h := New_any (nmL N) [(x, y)] A _ c 1 _ (h1.below hbA) hp (by rw [nmL_length]; omega) (by simp)
  rw [nmL_length] at h
  refine h.mono ?_
  rintro e w' ⟨hb, hm⟩
  rw [hbad] at hm
  exact ⟨hm, below_then hbA hb hbA.size⟩
theorem way_none (n i j : Nat) : way (fun a b => ([] : List (Nat × Nat)).any fun p => p.1 == a && p.2 == b) n i j = false := by
  cases h : way (fun a b => ([] : List (Nat × Nat)).any fun p => p.1 == a && p.2 == b) n i j
  · rfl
  · exact (way_least (T := fun _ _ => False) (fun _ _ _ h _ => h) (fun i j h => by simp at h) n h).elim
theorem pAt_nil (w : World) : PAt w none 0 [] := ⟨Nat.le_refl _, fun j hj => by simp at hj⟩
set_option maxHeartbeats 4000000 in
theorem limits_walk (w : World) (n : Int) (hn : (Lit.int .i64 n).wf = true) (a : Int) (hwa : (Lit.int .i64 a).wf = true) :
    Calls Try.prog 4 #[.int .i64 n, .int .i64 a] w (TrueOn w) := by
  have hw := within_bd n 3 (by omega)
  have WI := Lib.hid (Within_any n 3 w hn (by omega) (by omega))
  obtain ⟨M, hNe⟩ : ∃ M : Nat, 23 + within n 3 = (M : Int) + 1 := ⟨(22 + within n 3).toNat, by omega⟩
  have hM1 : 22 ≤ M := by omega
  have hM2 : M ≤ 24 := by omega
  obtain ⟨N, hNM⟩ : ∃ N : Nat, N = M + 1 := ⟨_, rfl⟩
  have HNM := Lib.hid hNM
  have hN1 : 23 ≤ N := by omega
  have hN2 : N ≤ 25 := by omega
  have PA := Lib.hid (Pairs_any (.slice none 0 0) [] N true w ⟨none, 0, rfl, Nat.zero_le _, fun k h => by simp at h⟩ (by omega))
  have hsum : IntKind.i64.wrap (23 + within n 3) = (N : Int) := by rw [IntKind.wrap_i64]; omega
  have e1 : (N : Int) - 1 = (M : Int) := by omega
  generalize within n 3 = wn at *
  clear hn hNe hNM
  go_enter Try.func4, Try.ntmps4
  go_upto_region 3 with (first
    | (go_at_call 9; refine WI.out.mono ?_; rintro e w1 ⟨rfl, rfl⟩)
    | (go_at_call 10; refine PA.out.mono ?_; rintro e w1 ⟨v1, v2, v3, rfl, o1, o2, o3, hb1⟩))
  obtain ⟨A, c, rfl⟩ := ownL_nm o1
  have L1 := Lib.hid (listL_nm o1)
  have HB1 := Lib.hid hb1
  have nw := New_any (nmL N) [] A none c 0 w1 L1.out (pAt_nil w1) (by rw [nmL_length]; omega) (by simp)
  rw [nmL_length] at nw
  clear o1 o2 o3 PA WI hsum hb1 hw
  by_cases hbig : 24 < N
  · have N1 : Hid (Calls Try.prog 11 #[.slice A N c, .slice none 0 0] w1 fun e w' => e = .returned (.tuple #[.pointer none, .iface 41 (.int .i64 5)]) ∧ Below w1.heap.size w1 w') := by
      refine nw.mono ?_
      rintro e w' ⟨hb, hm⟩
      rw [new_limit (by rw [nmL_length]; exact hbig)] at hm
      exact ⟨hm, hb⟩
    have K5 := Lib.hid (fun W => keepIsO 5 5 W (by omega) (by omega))
    have hgt : decide (24 < N) = true := by simpa using hbig
    clear nw
    go_wp2_with (first
      | (go_at_call 11; refine N1.out.mono ?_; rintro e w2 ⟨rfl, hb2⟩)
      | (go_at_call 15; refine (K5.out _).mono ?_; rintro e w9 ⟨rfl, rfl⟩)
      | (go_at_call 14; refine (wakes04 _).mono ?_; rintro e w8 ⟨rfl, hb8⟩))
    go_ret
    have hz := below_then HB1.out hb2 HB1.out.size
    exact ⟨rfl, below_then hz hb8 hz.size⟩
  · have hN24 : N ≤ 24 := by omega
    have hgt : decide (24 < N) = false := by simpa using hbig
    clear hbig
    have N1 : Hid (Calls Try.prog 11 #[.slice A N c, .slice none 0 0] w1 fun e w' => ∃ g bl, e = .returned (.tuple #[.pointer (some ⟨g, 0, none⟩), .nilIface]) ∧ OrdAt w' g (nmL N) bl ∧ Below w1.heap.size w1 w') := by
      refine nw.mono ?_
      rintro e w' ⟨hb, hm⟩
      obtain ⟨bl, eq, _⟩ := new_nm hN24 (ps := []) (fun p hp => by cases hp) (fun i _ => way_none N i i)
      have eq' : newP (nmL N) [] = .ok bl := eq
      rw [eq'] at hm
      obtain ⟨g, he, ho⟩ := hm
      exact ⟨g, bl, he, ho, hb⟩
    clear nw
    obtain ⟨gN, eA, hgl, hNc, hcells⟩ := names_cells L1.out (by omega)
    subst eA
    have hMN : M < N := by have := HNM.out; omega
    have hMi : (M : Int) < N := by omega
    have hM0 : (0 : Int) ≤ M := by omega
    have HC1 : Hid (∀ W, Below w1.heap.size w1 W → ∀ j, j < N → W.cell? ⟨gN, j, none⟩ = some (.string (bs (nmN j)))) := fun W hW j hj => (hW.cell (p := ⟨gN, j, none⟩) hgl).trans (hcells j hj)
    clear hcells
    go_upto_region 6 with (go_at_call 11; refine N1.out.mono ?_; rintro e w2 ⟨g, bl, rfl, ho, hb2⟩)
    have HO := Lib.hid ho
    have HB2 := Lib.hid hb2
    have NM := Lib.hid (fun W (h : OrdAt W g (nmL N) bl) => Names_any g (nmL N) bl W h)
    have IX : Hid (∀ W, OrdAt W g (nmL N) bl → Calls Try.prog 17 #[.pointer (some ⟨g, 0, none⟩), .string (bs (nmN M))] W fun e w' => e = .returned (.int .i64 M) ∧ W = w') := fun W h => by
      have h := OIndex_any g (nmL N) bl W (nmN M) h
      rw [idxI_in (nmL_mem hMN), nmL_idx (by omega) hMN] at h
      exact h
    have hNM0 : Hid (∀ {w' : World} {base : Nat} {v : Value}, OwnL w' base v (nmL N) → ∃ A c, v = .slice A N c) := fun h => ownL_nm h
    clear N1 ho hb2
    go_upto_region 8 with (first
      | (go_at_call 16; refine (NM.out w2 HO.out).mono ?_; rintro e w3 ⟨vx, rfl, hox, hb3⟩; obtain ⟨Ax, cx, rfl⟩ := hNM0.out hox; have xM := HC1.out w3 (below_then HB2.out hb3 HB2.out.size) M hMN; have ho3 := HO.out.below hb3)
      | (go_at_call 17; refine (IX.out _ ho3).mono ?_; rintro e w4 ⟨rfl, rfl⟩))
    have wk := within_nat a M (by omega)
    have ck := fun W => Within_any a M W hwa (by omega) (by omega)
    rw [wk.2] at ck
    have hk := wk.1
    clear wk hwa
    generalize (within a M).toNat = k at *
    have CK := Lib.hid ck
    clear ck
    have HB3 := Lib.hid (below_then HB2.out hb3 HB2.out.size)
    have HO3 := Lib.hid ho3
    clear hox hb3 ho3 IX hNM0 xM
    go_upto_region 9 with (go_at_call 9; refine (CK.out _).mono ?_; rintro e w4 ⟨rfl, rfl⟩)
    rename_i K9 hK9
    have hkN : k < N := by omega
    have CL : Hid (∀ W, Below w3.heap.size w3 W → Calls Try.prog 18 #[.slice (some ⟨gN, 0, none⟩) M c] W fun e w' => ∃ v, e = .returned v ∧ w'.ownsRow w3.heap.size 9 1 v M (scells (nmL M)) ∧ Below w3.heap.size w3 w' ∧ Below W.heap.size W w') := fun W hW => by
      have hl : ListAt W (some ⟨gN, 0, none⟩) c (nmL M) := by
        have h := (L1.out.below (below_then HB3.out hW HB3.out.size)).take M
        rw [HNM.out, nmL_take] at h
        exact h
      have h := CopyL_any (nmL M) gN c W hl (by rw [nmL_length]; omega)
      rw [nmL_length] at h
      refine h.mono ?_
      rintro e w' ⟨v, he, hv, hb⟩
      refine ⟨v, he, ?_, below_then hW hb hW.size, hb⟩
      have := own_mono hv hW.size
      rwa [nmL_length] at this
    have ki : (k : Int) < N := by omega
    have k0 : (0 : Int) ≤ k := by omega
    have sN : IntKind.i64.wrap ((N : Int) - 1) = (M : Int) := by rw [e1, IntKind.wrap_i64]; omega
    have mc : (M : Int) ≤ c := by omega
    have sM : IntKind.i64.wrap (M : Int) = (M : Int) := by rw [IntKind.wrap_i64]; omega
    have hc1 : ¬ c = 0 := by omega
    have hc2 : 0 < c := by omega
    have y1 := HC1.out w3 HB3.out k hkN
    obtain ⟨i0, si, sz0, sz1, sz2⟩ := info_parts Try.infoString
    generalize hX : nmN k = X at *
    have HX := Lib.hid hX
    clear hX
    go_cut [11] (fun x wx => ∃ (g4 cap4 : Nat), x = .slice (some ⟨g4, 0, none⟩) (M + 1) cap4 ∧ Hid (wx.ownsRow w3.heap.size 9 1 (.slice (some ⟨g4, 0, none⟩) (M + 1) cap4) (M + 1) (scells (nmL M) ++ [.string (bs X)])) ∧ Hid (Below w3.heap.size w3 wx))
    case first =>
      have hSLl : (scells (nmL M)).length = M * 1 := by rw [scells_len, nmL_length]
      generalize scells (nmL M) = SL at *
      go_region_held3 (fun w' => w'.cell? ⟨gN, k, none⟩ = some (.string (bs X)))
        (first | exact y1 | exact ((below_then HB3.out rb4 HB3.out.size).cell (p := ⟨gN, k, none⟩) hgl).trans (((HB3.out).cell (p := ⟨gN, k, none⟩) hgl).symm.trans y1) | exact ((below_then HB3.out rb3 HB3.out.size).cell (p := ⟨gN, k, none⟩) hgl).trans (((HB3.out).cell (p := ⟨gN, k, none⟩) hgl).symm.trans y1) | go_keep)
        (first
          | (go_at_call 18; refine (CL.out _ (by first | exact below_drew (Below.refl _ _) | exact Below.alloc (below_drew (Below.refl _ _)) (Nat.le_refl _) _)).mono ?_; rintro e w5 ⟨vc, rfl, rc, rb3, rw3⟩)
          | (refine step_append_lies _ rfl (.tmp 77) (.tmp 82) 24 rfl w3.heap.size 9 i0 _ 1 16 Try.underlying24 si sz0 sz1 sz2 rfl (by omega) vc M SL rfl (by first | exact rc | exact World.ownsRow.alloc rc _) _ 1 1 [.string (bs X)] rfl rfl
              (by first | exact cells_new _ _ _ | exact news_below rw3 (by simp) (cells_new _ _ _)) (by intro u hu; simp at hu; subst hu; rfl) (by omega) (by unfold maxLen; omega) (by omega) (by first | exact rb3.size | exact (Below.alloc rb3 rb3.size _).size) _ rfl ?_; intro g4 cap4 w6 rc4 hgr4 _ _
             have rb4 : Below w3.heap.size w3 w6 := by
               first
                 | exact rb3.grown hgr4 rb3.size (fun j e => (rc.lt j e).1)
                 | exact (Below.alloc rb3 rb3.size _).grown hgr4 (Below.alloc rb3 rb3.size _).size (fun j e => (rc.lt j e).1)))
      all_goals
        go_wp2
        go_meet
        exact ⟨g4, cap4, rfl, rc4, rb4⟩
    case rest =>
      refine hK9 _ _ ?_
      clear hK9 CL sN sM
      obtain ⟨g4, cap4, rfl, RC4, HB4⟩ := hcut
      obtain ⟨w6, rfl⟩ : ∃ w6 : World, w6 = wc := ⟨_, rfl⟩
      have HB6 := Lib.hid (below_then HB3.out HB4.out HB3.out.size)
      have hTL : ListAt w6 (some ⟨g4, 0, none⟩) cap4 (nmL M ++ [X]) := by
        refine listAt_of (base := w3.heap.size) ?_
        have h := RC4.out
        unfold OwnL
        rw [List.length_append, nmL_length]
        show w6.ownsRow _ _ _ _ _ (scells (nmL M ++ [X]))
        have e : scells (nmL M ++ [X]) = scells (nmL M) ++ [.string (bs X)] := by simp [scells]
        rw [e]; exact h
      have hkM := hk
      have N2 : Hid (Calls Try.prog 11 #[.slice (some ⟨g4, 0, none⟩) (M + 1) cap4, .slice none 0 0] w6 fun e w' => e = .returned (.tuple #[.pointer none, .iface 41 (.int .i64 4)]) ∧ Below w6.heap.size w6 w') := by
        have h := New_any (nmL M ++ [X]) [] _ none cap4 0 w6 hTL (pAt_nil w6) (by rw [List.length_append, nmL_length]; simp; omega) (by simp)
        rw [List.length_append, nmL_length] at h
        refine h.mono ?_
        rintro e w' ⟨hb, hm⟩
        rw [← HX.out, nl_twice (by omega) hkM] at hm
        exact ⟨hm, hb⟩
      have N3 : Hid (∀ W, Below w6.heap.size w6 W → Calls Try.prog 11 #[.slice (some ⟨gN, 0, none⟩) N c, .slice (some ⟨W.heap.size, 0, none⟩) 1 1] (W.alloc (.cells #[.string (bs X), .string (bs noneT)] 36)) fun e w' => e = .returned (.tuple #[.pointer none, .iface 41 (.int .i64 3)]) ∧ Below W.heap.size W w') := fun W hW =>
        New_pair N X noneT _ c 3 (by omega) (L1.out.below (below_then HB6.out hW HB6.out.size)) (by rw [← HX.out]; exact nl_none hN24)
      have N4 : Hid (∀ W, Below w6.heap.size w6 W → Calls Try.prog 11 #[.slice (some ⟨gN, 0, none⟩) N c, .slice (some ⟨W.heap.size, 0, none⟩) 1 1] (W.alloc (.cells #[.string (bs X), .string (bs X)] 36)) fun e w' => e = .returned (.tuple #[.pointer none, .iface 41 (.int .i64 6)]) ∧ Below W.heap.size W w') := fun W hW =>
        New_pair N X X _ c 6 (by omega) (L1.out.below (below_then HB6.out hW HB6.out.size)) (by rw [← HX.out]; exact nl_self hN24 hkN)
      have HCk : Hid (∀ W, Below w6.heap.size w6 W → W.cell? ⟨gN, k, none⟩ = some (.string (bs X)) ∧ W.cell? ⟨gN, 0, none⟩ = some (.string (bs (nmN 0)))) := fun W hW => by
        have h1 := HC1.out W (below_then HB6.out hW HB6.out.size) k hkN
        rw [HX.out] at h1
        exact ⟨h1, HC1.out W (below_then HB6.out hW HB6.out.size) 0 (by omega)⟩
      have HO6 : Hid (∀ W, Below w6.heap.size w6 W → OrdAt W g (nmL N) bl) := fun W hW => HO3.out.below (below_then HB4.out hW HB4.out.size)
      have HE6 : Hid (∀ W, Below w6.heap.size w6 W → Below w.heap.size w W) := fun W hW => below_then HB1.out (below_then HB6.out hW HB6.out.size) HB1.out.size
      have eN : (⟨#[110, 111, 110, 101]⟩ : ByteArray) = bs noneT := rfl
      have tokN : True := trivial
      clear hTL RC4 HB4 HC1 HO HO3 L1 HX hkM hk
      generalize hYY : bs noneT = nn at *
      go_upto_region 12 with (first
        | (have _t := tokN; go_at_call 11; refine N2.out.mono ?_; rintro e w7 ⟨rfl, hb7⟩; have y7 := (HCk.out w7 hb7).1; clear tokN _t)
        | (go_at_call 11; refine (N3.out w7 hb7).mono ?_; rintro e w8 ⟨rfl, hb8⟩; have hb68 := below_then hb7 hb8 hb7.size; have y8 := (HCk.out w8 hb68).1))
      clear N2 N3 y7
      go_region_held3 (fun w' => w'.cell? ⟨gN, k, none⟩ = some (.string (bs X)))
        (first | exact y8 | exact (HCk.out _ hb69).1 | go_keep)
        (first | (go_at_call 11; refine (N4.out w8.drew (below_drew hb68)).mono ?_; rintro e w9 ⟨rfl, hb9⟩; have hb69 := below_then (below_drew hb68) hb9 (below_drew hb68).size))
      have HB9 := Lib.hid hb69
      clear hb7 hb8 hb68 hb9 hb69 y8 N4
      go_upto_region 15 with (go_at_call 16; refine (NM.out w9 (HO6.out w9 HB9.out)).mono ?_; rintro e w10 ⟨vx, rfl, hox, hb10⟩; obtain ⟨gx, cx, rfl, hgx, hgx2, hcx, hx0, hxf⟩ := own_nm hox (by omega))
      have hb11 : Below w9.heap.size w9 (w10.setCell ⟨gx, 0, none⟩ (.string ⟨#[63]⟩)) := Below.setCell hb10 (p := ⟨gx, 0, none⟩) hgx _
      have HB11 := Lib.hid (below_then HB9.out hb11 HB9.out.size)
      clear hb10 hb11 hox hx0 hxf HB9
      generalize w10.setCell ⟨gx, 0, none⟩ (.string ⟨#[63]⟩) = w11 at *
      have z0 := (HCk.out w11 HB11.out).2
      have hbd := below_drew HB11.out
      have HBD := Lib.hid hbd
      have ho11 := HO6.out w11.drew hbd
      have zd : w11.drew.cell? ⟨gN, 0, none⟩ = some (.string (bs (nmN 0))) := z0
      have iq := OIndex_any g (nmL N) bl w11.drew [63] ho11
      rw [idxI_out (quest_out N)] at iq
      have IQ := Lib.hid iq
      have NM11 := Lib.hid (NM.out w11.drew ho11)
      have AN : Hid (∀ W, OrdAt W g (nmL N) bl → Calls Try.prog 13 #[.pointer (some ⟨g, 0, none⟩), .string nn, .string nn] W fun e w' => e = .returned (.bool false) ∧ W = w') := fun W h => by
        have h := Above_any g (nmL N) bl W noneT noneT h
        have e : aboveP (nmL N) bl noneT noneT = false := by unfold aboveP; simp [none_out N]
        rw [e, hYY] at h
        exact h
      have BN : Hid (∀ W, OrdAt W g (nmL N) bl → Calls Try.prog 19 #[.pointer (some ⟨g, 0, none⟩), .string nn] W fun e w' => e = .returned (.slice none 0 0) ∧ W = w') := fun W h => by
        have h := Below_none g (nmL N) bl W noneT h (none_out N)
        rw [hYY] at h
        exact h
      have OW : Hid (∀ {w' : World} {base : Nat} {v : Value}, OwnL w' base v (nmL N) → ∃ g cap, v = .slice (some ⟨g, 0, none⟩) N cap ∧ base ≤ g ∧ g < w'.heap.size ∧ N ≤ cap ∧ w'.cell? ⟨g, 0, none⟩ = some (.string (bs (nmN 0))) ∧ w'.frozen? ⟨g, 0, none⟩ = false) := fun h => own_nm h (by omega)
      have n0 : (0 : Int) < N := by omega
      have HO11 := Lib.hid ho11
      clear iq ho11 NM hYY hbd
      have hN0 : 0 < N := by omega
      generalize bs (nmN 0) = Z0 at *
      go_region_with (first
        | (go_at_call 15; refine (keepIsO _ _ _ (by omega) (by omega)).mono ?_; rintro e w12 ⟨rfl, rfl⟩)
        | (go_at_call 17; refine IQ.out.mono ?_; rintro e w12 ⟨rfl, rfl⟩)
        | (go_at_call 16; refine NM11.out.mono ?_; rintro e w12 ⟨vy, rfl, hoy, hb12⟩; obtain ⟨gy, cy, rfl, hgy, hgy2, hcy, hy0, hyf⟩ := OW.out hoy; have z12 := (HCk.out w12 (below_then HBD.out hb12 HBD.out.size)).2; have ho12 := HO11.out.below hb12; have hQ := below_then HBD.out hb12 HBD.out.size; have hE := HE6.out w12 hQ)
        | (go_at_call 13; refine (AN.out _ ho12).mono ?_; rintro e w13 ⟨rfl, rfl⟩)
        | (go_at_call 19; refine (BN.out _ ho12).mono ?_; rintro e w13 ⟨rfl, rfl⟩)
        | (go_at_call 14; refine (wakes04 _).mono ?_; rintro e w14 ⟨rfl, hb14⟩; have z14 := hb14.size))
      all_goals
        go_wp2
        go_ret
        exact ⟨rfl, below_then hE hb14 hE.size⟩
end Go.Proofs.Ytilbbjjppcjciaa
