/-
  ClockNext: one by one, the first that is due is taken, till nothing is due: that is their order: the walk.
-/
import Derived.Test.YtiodjjnohbjhlaaCkD
import Derived.Test.YtiodjjnohbjhlaaCkZ
import Derived.Deep.RegionHeld3
import Derived.Deep.Upon
namespace Go.Proofs.Ytiodjjnohbjhlaa
set_option maxRecDepth 100000
open Go.ChangeShapes Go.WideShapes Go.ChangeAt Go.RowKit

theorem step_append_none {Pg : Program} {w : World} {ops : Array Oper} {o : Oper} {a : Act} {K : Act → World → Prop} {Q : Exit → Act → World → Prop} {E : Prop} (hgd : o.guard = none) (s x : Operand) (t : TypeId)
    (ho : o.op = .call { callee := .builtin .append, args := #[s, x], argTypes := #[t, t] })
    (e : TypeId) (i : TypeInfo) (ht : Pg.underlying t = some (.slice e)) (hi : Pg.info? e = some i)
    (A : Option Addr) (n c : Nat) (hs : a.eval s = .slice A n c) (hnc : n ≤ c) (B : Option Addr) (L d : Nat) (hx : a.eval x = .slice B L d) (hL : L = 0)
    (h : K (a.put o.dst (.slice A n c)) w) :
    if Region.wanted o (yielded ops a.tmps) = true then Oper.wp Pg o a w K Q else E := by
  subst hL
  have hw : Region.wanted o (yielded ops a.tmps) = true := by simp [Region.wanted, hgd]
  rw [if_pos hw]
  have src : Src Pg i.size t (.slice B 0 d) 0 [] w := by
    refine ⟨.inl ⟨e, ht⟩, fun _ => rfl, ?_, ?_, by simp, fun _ h => by cases h⟩
    · cases B with
      | none => exact run_firstCells_none w i.size 0 0 d
      | some b => exact run_firstCells_some w i.size 0 b 0 d [] (by simp) (fun j v h => by simp at h)
    · cases B with
      | none => exact run_firstCells_none w.drew i.size 0 0 d
      | some b => exact run_firstCells_some w.drew i.size 0 b 0 d [] (by simp) (fun j v h => by simp at h)
  have hrun := run_append_nothing w t t o.type e i ht hi A n c hnc _ src
  unfold Oper.wp
  simp [execOp, ho, resolve, invoke, builtin, hs, hx, hrun, Result.andThen]
  exact h
theorem dat_own {w : World} {base g c : Nat} {l : List DueT} (h : w.ownsRow base 27 3 (.slice (some ⟨g, 0, none⟩) l.length c) l.length (dcells l)) (hl : 0 < l.length) : DAt w g l := by
  obtain ⟨g', c', e', _, hlt, _, hc⟩ := own_form h hl
  injection e' with e1
  injection e1 with e1
  injection e1 with e1
  subst e1
  refine ⟨hlt, fun k hk => ⟨hc _ _ ?_, hc _ _ ?_, hc _ _ ?_⟩⟩
  · exact dcells_at l k 0 hk (by omega)
  · exact dcells_at l k 1 hk (by omega)
  · exact dcells_at l k 2 hk (by omega)
theorem dat_cellsD {w : World} {g : Nat} {l : List DueT} (h : DAt w g l) (n : Nat) (hn : n ≤ l.length) : ∀ j u, (dcells (l.drop n))[j]? = some u → w.cell? ((⟨g, n * 3, none⟩ : Addr).add j) = some u := fun j u hu => by
  have hadd : (⟨g, n * 3, none⟩ : Addr).add j = ⟨g, n * 3 + j, none⟩ := by unfold Addr.add; split <;> simp_all
  have hadd2 : (⟨g, 0, none⟩ : Addr).add (n * 3 + j) = ⟨g, n * 3 + j, none⟩ := by unfold Addr.add; split <;> simp_all
  rw [hadd, ← hadd2]
  refine dat_cells h l.length (n * 3 + j) u ?_
  rw [List.take_length]
  have e : dcells l = dcells (l.take n) ++ dcells (l.drop n) := by rw [← dcells_app, List.take_append_drop]
  have e2 : (dcells (l.take n)).length = n * 3 := by rw [dcells_len, List.length_take, Nat.min_eq_left hn]
  rw [e, List.getElem?_append_right (by omega), e2, show n * 3 + j - n * 3 = j by omega]
  exact hu
/-- what Sort answers: nothing, or a block that holds the sorted ones -/
def SAt (W : World) (A : Option Addr) (L : List DueT) : Prop := 0 < L.length → ∃ g, A = some ⟨g, 0, none⟩ ∧ DAt W g (srtD L)
theorem Sort_all (base : Nat) (L : List DueT) (v : Value) (w : World) (h : w.ownsRow base 27 3 v L.length (dcells L)) (hm : L.length ≤ 1000) :
    Calls Try.prog 8 #[v] w fun e w' => (∃ A c, e = .returned (.slice A L.length c) ∧ SAt w' A L) ∧ Below w.heap.size w w' := by
  by_cases h0 : 0 < L.length
  · obtain ⟨g, c, rfl, _⟩ := own_form h h0
    exact (Sort_any g c L w h0 hm (dat_own h h0)).mono fun e w' ⟨g', c', he, _, hd, hb⟩ => ⟨⟨_, c', he, fun _ => ⟨g', rfl, hd⟩⟩, hb⟩
  · obtain ⟨A, c, rfl⟩ := own_slice h
    have e0 : L.length = 0 := by omega
    rw [e0]
    exact (Sort_zero A c w).mono fun e w' ⟨⟨A', c', he⟩, hb⟩ => ⟨⟨A', c', he, fun h9 => absurd h9 h0⟩, hb⟩
theorem srt_len (L : List DueT) : (srtD L).length = L.length := (srtD_perm L).length_eq
theorem duesL_len (raw : Bool) (l : List DueT) : (duesL raw l).length ≤ 12 := by unfold duesL; rw [List.length_map, List.length_take]; omega
set_option maxHeartbeats 8000000 in
theorem next_walk (w : World) (v : Value) (l : List DueT) (h : DuesAt w v l) (now : Int) (hw : (Lit.int .i64 now).wf = true) :
    Calls Try.prog 3 #[v, .int .i64 now] w (TrueOn w) := by
  have DU := Lib.hid (Dues_any v l false w h)
  have WN := Lib.hid (fun W => Within_any now 5 W hw (by omega) (by omega))
  have hLn := duesL_len false l
  generalize duesL false l = L at *
  generalize within now 5 = nw at *
  clear h hw
  go_enter Try.func3, Try.ntmps3
  go_upto_region 3 with (first
    | (go_at_call 6; refine DU.out.mono ?_; rintro e w1 ⟨hb1, v1, rfl, ho1⟩; have HB1 := Lib.hid hb1; have HO1 := Lib.hid ho1; clear hb1 ho1)
    | (go_at_call 7; refine (WN.out _).mono ?_; rintro e w2 ⟨rfl, rfl⟩))
  have SO := Lib.hid (Sort_all w.heap.size L v1 w1 HO1.out (by omega))
  go_upto_region 4 with (go_at_call 8; refine SO.out.mono ?_; rintro e w3 ⟨⟨A6, c6, rfl, hs6⟩, hb3⟩; have HB3 := Lib.hid hb3; have HS6 := Lib.hid hs6; clear hb3 hs6)
  have hz1 := HB1.out.size
  have HO3 := Lib.hid (own_below HO1.out HB3.out hz1)
  have HBW := Lib.hid (below_then HB1.out HB3.out hz1)
  clear DU WN SO HO1 HB1 HB3
  go_upto_region 6 with fail
  go_wp2
  go_loopw [5, 7] (fun x i wr => ∃ (k : Nat) (m : List DueT), i = .int .i64 k ∧ k + m.length = L.length ∧ Hid ((srtD L).drop k = srtD m) ∧ Hid (wr.ownsRow w.heap.size 27 3 x m.length (dcells m)) ∧ Hid (Below w3.heap.size w3 wr)) (fun x _ _ => lenV x)
  case atStart => exact ⟨0, L, rfl, by omega, rfl, HO3, Below.refl _ _⟩
  case round =>
    clear HO3
    obtain ⟨k, m, rfl, hkm, HD, HO, HB⟩ := hrel
    obtain ⟨Ax, cx, rfl⟩ := own_slice HO.out
    have hbz := HB.out.size
    have hw3 := HBW.out.size
    have HBw := Lib.hid (below_then HBW.out HB.out HBW.out.size)
    have HKM := Lib.hid hkm
    have hm12 : m.length ≤ 12 := by omega
    clear hkm
    by_cases hm0 : m.length = 0
    · have hkL : (L.length : Int) ≤ k := by have := HKM.out; omega
      have NX := Lib.hid (Next_nil Ax cx nw wr)
      rw [hm0]
      clear HO HD HS6 hm0 hm12
      go_upto_region 7 with (go_at_call 9; refine NX.out.mono ?_; rintro e w5 ⟨rfl, hb5⟩; have HB5 := Lib.hid (below_then HBw.out hb5 HBw.out.size); clear hb5)
      have HB6 := Lib.hid (below_then HB5.out (box_b w5 (.cells #[.int .i64 0, .string ⟨#[]⟩, .int .i64 0] 27)) HB5.out.size)
      have WK := Lib.hid (wakes10 (w5.alloc (.cells #[.int .i64 0, .string ⟨#[]⟩, .int .i64 0] 27)))
      clear NX
      go_wp2_with (go_at_call 10; refine WK.out.mono ?_; rintro e w9 ⟨rfl, hb9⟩)
      go_ret
      exact ⟨rfl, below_then HB6.out hb9 HB6.out.size⟩
    have hml : 0 < m.length := by omega
    obtain ⟨gx, rfl⟩ : ∃ gx, Ax = some ⟨gx, 0, none⟩ := by
      obtain ⟨gx, cx', e', _, _, _, _⟩ := own_form HO.out hml
      injection e' with e1
      exact ⟨gx, e1⟩
    have hDx := dat_own HO.out hml
    have NX := Lib.hid (Next_any gx cx m nw wr hml (by omega) hDx)
    have hfst := minK_first m hml
    have hmem := minK_mem m hml (m.length - 1) (by omega)
    obtain ⟨gs, rfl, hDs⟩ := HS6.out (by have := HKM.out; omega)
    have hDs := hDs.below HB.out
    have hkn : k < (srtD L).length := by have := HKM.out; rw [srt_len]; omega
    have hsk : (srtD L)[k] = minK m (m.length - 1) := by
      have h9 : ((srtD L).drop k).head? = (srtD m).head? := by rw [HD.out]
      rw [hfst, List.head?_drop, List.getElem?_eq_getElem hkn] at h9
      exact Option.some.inj h9
    obtain ⟨s0, s1, s2⟩ := hDs.2 k hkn
    rw [hsk] at s0 s1 s2
    have HDX := Lib.hid hDx
    have HDS := Lib.hid hDs
    have HFST := Lib.hid hfst
    have HMEM := Lib.hid hmem
    have hsk2 := hsk
    clear hfst hmem hsk hDx hDs hm0
    generalize minK m (m.length - 1) = d at *
    have HSK := Lib.hid hsk2
    clear hsk2
    have hkl : ¬ (L.length : Int) ≤ k := by have := HKM.out; omega
    have hkl2 : (k : Int) < L.length := by have := HKM.out; omega
    have hk0 : (0 : Int) ≤ k := by omega
    by_cases hx : d.1 ≤ nw
    case neg =>
      have hnx : nw < d.1 := by omega
      have NX2 : Hid (Calls Try.prog 9 #[.slice (some ⟨gx, 0, none⟩) m.length cx, .int .i64 nw] wr fun e w' => e = .returned (.tuple #[.agg #[.int .i64 0, .string ⟨#[]⟩, .int .i64 0], .bool false]) ∧ Below wr.heap.size wr w') := NX.out.mono fun e w' ⟨hb, he⟩ => ⟨by rw [he, if_neg hx, decide_eq_false hx], hb⟩
      clear NX hx
      have hgs := HDS.out.1
      go_upto_region 7 with (go_at_call 9; refine NX2.out.mono ?_; rintro e w5 ⟨rfl, hb5⟩; have HB5 := Lib.hid hb5; clear hb5)
      have hb6 := below_then HB5.out (box_b w5 (.cells #[.int .i64 0, .string ⟨#[]⟩, .int .i64 0] 27)) HB5.out.size
      have u0 := (hb6.cell (p := ⟨gs, k * 3, none⟩) hgs).trans s0
      have HB6 := Lib.hid (below_then HBw.out hb6 HBw.out.size)
      have WK := Lib.hid (wakes10 (w5.alloc (.cells #[.int .i64 0, .string ⟨#[]⟩, .int .i64 0] 27)))
      clear hb6 NX2 s0 s1 s2
      go_wp2_with (go_at_call 10; refine WK.out.mono ?_; rintro e w9 ⟨rfl, hb9⟩)
      go_ret
      exact ⟨rfl, below_then HB6.out hb9 HB6.out.size⟩
    have NX2 : Hid (Calls Try.prog 9 #[.slice (some ⟨gx, 0, none⟩) m.length cx, .int .i64 nw] wr fun e w' => e = .returned (.tuple #[dueV d, .bool true]) ∧ Below wr.heap.size wr w') := NX.out.mono fun e w' ⟨hb, he⟩ => ⟨by rw [he, if_pos hx, decide_eq_true hx], hb⟩
    clear NX hx
    go_upto_region 9 with (go_at_call 9; refine NX2.out.mono ?_; rintro e w5 ⟨rfl, hb5⟩; have HB5 := Lib.hid hb5; clear hb5)
    have hb6 := below_then HB5.out (box_b w5 (.cells #[.int .i64 d.1, .string (bs d.2.1), .int .i64 d.2.2] 27)) HB5.out.size
    have R8 := heap_alloc_new w5 (.cells #[.int .i64 d.1, .string (bs d.2.1), .int .i64 d.2.2] 27)
    have hg5 : w5.heap.size < (w5.alloc (.cells #[.int .i64 d.1, .string (bs d.2.1), .int .i64 d.2.2] 27)).heap.size := by simp
    clear NX2 HB5
    generalize w5.heap.size = g8 at *
    generalize w5.alloc (.cells #[.int .i64 d.1, .string (bs d.2.1), .int .i64 d.2.2] 27) = w6 at *
    have e0 := cell_of_row _ _ 0 _ _ _ R8; have e1 := cell_of_row _ _ 1 _ _ _ R8; have e2 := cell_of_row _ _ 2 _ _ _ R8
    have hgs := HDS.out.1
    have u0 := (hb6.cell (p := ⟨gs, k * 3, none⟩) hgs).trans s0
    have u1 := (hb6.cell (p := ⟨gs, k * 3 + 1, none⟩) hgs).trans s1
    have u2 := (hb6.cell (p := ⟨gs, k * 3 + 2, none⟩) hgs).trans s2
    have HB6 := Lib.hid hb6
    have HR8 := Lib.hid R8
    clear s0 s1 s2 hb6 R8
    have hkN : ¬ L.length ≤ k := by have := HKM.out; omega
    have hkD : decide (L.length ≤ k) = false := decide_eq_false hkN
    go_quiet (fail)
    go_upto_region 12 with fail
    have HQ : Hid (Below w6.heap.size w6 (w6.drewN nq)) := below_drewN (Below.refl _ _) nq
    go_loopw [10] (fun kv wx => ∃ j : Nat, j ≤ m.length ∧ kv = .int .i64 j ∧ Hid (∀ i (h : i < m.length), i < j → m[i] ≠ d) ∧ Hid (Below w6.heap.size w6 wx)) (fun kv _ => m.length - (intOf kv).toNat)
    case atStart => exact ⟨0, Nat.zero_le _, rfl, fun i h h9 => absurd h9 (by omega), HQ⟩
    case round =>
      obtain ⟨j, hj, rfl, HNE, HBx⟩ := hrel
      clear e0 e1 e2 u0 u1 u2 HQ hkD hkN hkl hkl2 hk0
      obtain ⟨wl, rfl⟩ : ∃ X : World, X = wr := ⟨_, rfl⟩
      have hjm : j < m.length := by
        rcases (by omega : j < m.length ∨ j = m.length) with h | h
        · exact h
        · obtain ⟨i9, hi9, he9⟩ := List.mem_iff_getElem.1 HMEM.out
          exact absurd he9 (HNE.out i9 hi9 (by omega))
      have hji : (j : Int) < m.length := by omega
      have hb9 := below_then HB6.out HBx.out HB6.out.size
      obtain ⟨y0, y1, y2⟩ := (HDX.out.below hb9).2 j hjm
      have r8 := (HBx.out.block _ hg5).trans HR8.out
      have e0 := cell_of_row _ _ 0 _ _ _ r8; have e1 := cell_of_row _ _ 1 _ _ _ r8; have e2 := cell_of_row _ _ 2 _ _ _ r8
      by_cases heq : m[j] = d
      · rw [heq] at y0 y1 y2
        have HEQ := Lib.hid heq
        clear heq r8
        go_upto_region 12 with fail
        go_quiet (fail)
        have hjN : ¬ m.length = j := by omega
        have hjE : ¬ (j : Int) = m.length := by omega
        go_upto_region 16 with fail
        have hbq := below_drewN (below_then HB.out hb9 hbz) nq
        have HBQ := Lib.hid hbq
        have hD9 := (HDX.out.below hb9).below (below_drewN (Below.refl _ _) nq)
        have HO9 := Lib.hid (own_below (own_below HO.out hb9 (by omega)) (below_drewN (Below.refl _ _) nq) (by have := hb9.size; omega))
        generalize wl.drewN nq = w9 at *
        have CP := Lib.hid (fun W (hW : Below w9.heap.size w9 W) => CopyD_any gx cx j m W (by omega) (by omega) (hD9.below hW))
        clear e0 e1 e2 y0 y1 y2 hbq
        have hcap := own_cap HO9.out
        have hjc : (j : Int) ≤ cx := by omega
        have hj1 : (j : Int) + 1 ≤ m.length := by omega
        have hmc : (m.length : Int) ≤ cx := by omega
        have hj0 : (0 : Int) ≤ j := by omega
        have ej : IntKind.i64.wrap ((j : Int) + 1) = j + 1 := by rw [IntKind.wrap_i64]; omega
        have ejn : ((j : Int) + 1).toNat = j + 1 := by omega
        by_cases hlast : j + 1 < m.length
        · have hj2 : (0 : Int) ≤ (j : Int) + 1 := by omega
          have hcne : ¬ cx = j + 1 := by omega
          have hone := Lib.hid (dcells_one (m.drop (j + 1)))
          have hlen : Hid ((dcells (m.drop (j + 1))).length = (m.length - (j + 1)) * 3) := by show _ = _; rw [dcells_len, List.length_drop]
          have HD9 := Lib.hid hD9
          obtain ⟨i0, hi, hz0, hz1, hz2⟩ := info_parts Try.infoDue
          go_region_law (first
            | (go_simp; go_at_call 11; refine (CP.out _ (by first | exact Below.refl _ _ | exact below_drew (Below.refl _ _))).mono ?_; rintro e w7 ⟨v7, rfl, ho7', hb7'⟩; have hb7 : Below w9.heap.size w9 w7 := (by first | exact hb7' | exact below_then (below_drew (Below.refl _ _)) hb7' (Nat.le_refl _)); have ho7 : w7.ownsRow w9.heap.size 27 3 v7 j (dcells (m.take j)) := ho7')
            | (refine step_append_lies _ rfl (.tmp 76) (.tmp 80) 22 rfl w9.heap.size 27 i0 _ 3 32 Try.underlying22 hi hz0 hz1 hz2 rfl (by decide) v7 j (dcells (m.take j)) (by first | rfl | simp [Act.eval]) ho7 ⟨gx, (j + 1) * 3, none⟩ (m.length - (j + 1)) (cx - (j + 1)) (dcells (m.drop (j + 1))) (by first | rfl | simp [Act.eval]) hlen.out (dat_cellsD (HD9.out.below hb7) (j + 1) (by omega)) hone.out (by omega) (by unfold maxLen; omega) (by omega) hb7.size _ rfl ?_; intro g1 cp1 X1 hown1 hg1 hat1 hlt1))
          all_goals
            have HTL : Hid ((srtD L).drop (k + 1) = srtD (m.take j ++ m.drop (j + 1))) := by
              show _ = _
              have h1 : srtD m = d :: (srtD L).drop (k + 1) := by rw [← HD.out, List.drop_eq_getElem_cons hkn, HSK.out]
              have h2 : m = m.take j ++ d :: m.drop (j + 1) := by
                rw [← HEQ.out, ← List.drop_eq_getElem_cons hjm, List.take_append_drop]
              exact (srt_tail h1 h2).symm
            have hbX := hb7.grown hg1 hb7.size (fun g e => (World.ownsRow.lt ho7 g e).1)
            have HBX := Lib.hid (below_then HBQ.out hbX HBQ.out.size)
            have hbase : w.heap.size ≤ w9.heap.size := by have := HBQ.out.size; omega
            have hllen : (m.take j ++ m.drop (j + 1)).length = j + (m.length - (j + 1)) := by rw [List.length_append, List.length_take, List.length_drop, Nat.min_eq_left (by omega)]
            have HOX : Hid (X1.ownsRow w.heap.size 27 3 (.slice (some ⟨g1, 0, none⟩) (j + (m.length - (j + 1))) cp1) (m.take j ++ m.drop (j + 1)).length (dcells (m.take j ++ m.drop (j + 1)))) := by
              show World.ownsRow _ _ _ _ _ _ _
              rw [hllen, dcells_app]
              exact World.ownsRow.mono hown1 hbase
            have HLL := Lib.hid hllen
            have HKM2 : Hid (k + 1 + (m.take j ++ m.drop (j + 1)).length = L.length) := by show _ = _; have := HKM.out; rw [hllen]; omega
            clear hllen hbX hown1 hg1 hat1 hlt1
            have hk12 : k ≤ 12 := by have := HKM.out; omega
            have hms : j + (m.length - (j + 1)) < m.length := by omega
            go_wp2
            go_roundw
            case rel => exact ⟨k + 1, _, by go_num, HKM2.out, HTL, HOX, HBX⟩
            case measure => first | exact hms | (simp only [lenV]; exact hms) | (simp [lenV]; omega)
        · have hj2 : (0 : Int) ≤ (j : Int) + 1 := by omega
          have hml0 : m.length - (j + 1) = 0 := by omega
          have hdr : m.drop (j + 1) = [] := List.drop_eq_nil_of_le (by omega)
          have HDR := Lib.hid hdr
          have HML0 := Lib.hid hml0
          clear hdr hml0
          have hk12 : k ≤ 12 := by have := HKM.out; omega
          obtain ⟨i0, hi, hz0, hz1, hz2⟩ := info_parts Try.infoDue
          have hcx : cx = j + 1 ∨ ¬ cx = j + 1 := by omega
          rcases hcx with rfl | hcc
          all_goals
            have hjj : (j : Int) ≤ (j : Int) + 1 := by omega
            go_region_law (first
              | (go_simp; go_at_call 11; refine (CP.out _ (by first | exact Below.refl _ _ | exact below_drew (Below.refl _ _))).mono ?_; rintro e w7 ⟨v7, rfl, ho7', hb7'⟩; have hb7 : Below w9.heap.size w9 w7 := (by first | exact hb7' | exact below_then (below_drew (Below.refl _ _)) hb7' (Nat.le_refl _)); have ho7 : w7.ownsRow w9.heap.size 27 3 v7 j (dcells (m.take j)) := ho7'; clear ho7' hb7'; obtain ⟨A7, c7, rfl⟩ := own_slice ho7; have hc7 := own_cap ho7)
              | (refine step_append_none rfl (.tmp 76) (.tmp 80) 22 rfl 27 i0 Try.underlying22 hi A7 j c7 (by first | rfl | simp [Act.eval]) hc7 _ _ _ (by first | rfl | simp [Act.eval]) (by first | exact HML0.out | rfl) ?_))
            all_goals
              have HTL : Hid ((srtD L).drop (k + 1) = srtD (m.take j)) := by
                show _ = _
                have h1 : srtD m = d :: (srtD L).drop (k + 1) := by rw [← HD.out, List.drop_eq_getElem_cons hkn, HSK.out]
                have h2 : m = m.take j ++ d :: [] := by
                  rw [← HDR.out, ← HEQ.out, ← List.drop_eq_getElem_cons hjm, List.take_append_drop]
                have h3 := srt_tail h1 h2
                rw [List.append_nil] at h3
                exact h3.symm
              have HBX := Lib.hid (below_then HBQ.out hb7 HBQ.out.size)
              have hbase : w.heap.size ≤ w9.heap.size := by have := HBQ.out.size; omega
              have hllen : (m.take j).length = j := by rw [List.length_take, Nat.min_eq_left (by omega)]
              have HOX : Hid (w7.ownsRow w.heap.size 27 3 (.slice A7 j c7) (m.take j).length (dcells (m.take j))) := by
                show World.ownsRow _ _ _ _ _ _ _
                rw [hllen]
                exact World.ownsRow.mono ho7 hbase
              have HKM2 : Hid (k + 1 + (m.take j).length = L.length) := by show _ = _; have := HKM.out; rw [hllen]; omega
              have hms : j < m.length := hjm
              clear hllen ho7
              go_wp2
              go_roundw
              case rel => exact ⟨k + 1, _, by go_num, HKM2.out, HTL, HOX, HBX⟩
              case measure => first | exact hms | (simp only [lenV]; exact hms) | (simp [lenV]; omega)
      · have HNQ := Lib.hid heq
        clear r8
        generalize hmj : m[j] = y at *
        have HMJ := Lib.hid hmj
        clear hmj
        obtain ⟨t1, d1, i1⟩ := y
        obtain ⟨t2, d2, i2⟩ := d
        simp only at y0 y1 y2 e0 e1 e2
        have hne : ¬ (t1 = t2 ∧ d1 = d2 ∧ i1 = i2) := fun h9 => HNQ.out (by rw [h9.1, h9.2.1, h9.2.2])
        have l1 := bsL d1
        have l2 := bsL d2
        have HNE2 : Hid (∀ i (h : i < m.length), i < j + 1 → m[i] ≠ (t2, d2, i2)) := fun i hi hij => by
          rcases (by omega : i < j ∨ i = j) with h9 | rfl
          · exact HNE.out i hi h9
          · rw [HMJ.out]; exact HNQ.out
        by_cases ht : t1 = t2
        · by_cases hd : d1 = d2
          · have hi12 : (i1 == i2) = false := by simpa using fun h9 => hne ⟨ht, hd, h9⟩
            have hi13 : ¬ i1 = i2 := fun h9 => hne ⟨ht, hd, h9⟩
            have g2 : ((bs d1).toList == (bs d2).toList) = true := by rw [l1, l2, hd]; simp
            subst ht
            clear hd l1 l2 hne
            go_upto_region 12 with fail
            go_quiet (fail)
            go_wp2
            go_roundw
            case rel => exact ⟨j + 1, by omega, by go_num, HNE2, below_then HBx.out (below_drewN (Below.refl _ _) nq) HBx.out.size⟩
            case measure => simp [intOf]; omega
          · have g2 : ((bs d1).toList == (bs d2).toList) = false := by rw [l1, l2]; simpa using hd
            have g3 : ¬ (bs d1).toList = (bs d2).toList := by rw [l1, l2]; exact hd
            subst ht
            clear hd l1 l2 hne
            go_upto_region 12 with fail
            go_quiet (fail)
            go_wp2
            go_roundw
            case rel => exact ⟨j + 1, by omega, by go_num, HNE2, below_then HBx.out (below_drewN (Below.refl _ _) nq) HBx.out.size⟩
            case measure => simp [intOf]; omega
        · have ht2 : (t1 == t2) = false := by simpa using ht
          clear l1 l2 hne
          go_upto_region 12 with fail
          go_quiet (fail)
          go_wp2
          go_roundw
          case rel => exact ⟨j + 1, by omega, by go_num, HNE2, below_then HBx.out (below_drewN (Below.refl _ _) nq) HBx.out.size⟩
          case measure => simp [intOf]; omega
end Go.Proofs.Ytiodjjnohbjhlaa
