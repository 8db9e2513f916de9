/-
  The document's Sort of Dues: the walk.
-/
import Derived.Test.YtiodjjnohbjhlaaCkS
namespace Go.Proofs.Ytiodjjnohbjhlaa
set_option maxRecDepth 100000
open Go.ChangeShapes Go.WideShapes Go.ChangeAt Go.RowKit

theorem step_append_nil {Pg : Program} {w : World} {ops : Array Oper} {o : Oper} {a : Act} {K : Act → World → Prop} {Q : Exit → Act → World → Prop} {E : Prop} (hgd : o.guard = none) (s x : Operand) (t : TypeId)
    (ho : o.op = .call { callee := .builtin .append, args := #[s, x], argTypes := #[t, t] })
    (e : TypeId) (i : TypeInfo) (ht : Pg.underlying t = some (.slice e)) (hi : Pg.info? e = some i)
    (A : Option Addr) (n c : Nat) (hs : a.eval s = .slice A n c) (hnc : n ≤ c) (B : Option Addr) (L d : Nat) (hx : a.eval x = .slice B L d) (hL : L = 0)
    (h : K (a.put o.dst (.slice A n c)) w) :
    if Region.wanted o (yielded ops a.tmps) = true then Oper.wp Pg o a w K Q else E := by
  subst hL
  have hw : Region.wanted o (yielded ops a.tmps) = true := by simp [Region.wanted, hgd]
  rw [if_pos hw]
  have src : Src Pg i.size t (.slice B 0 d) 0 [] w := by
    refine ⟨.inl ⟨e, ht⟩, fun _ => rfl, ?_, ?_, by simp, fun _ h => by cases h⟩
    · cases B with
      | none => exact run_firstCells_none w i.size 0 0 d
      | some b => exact run_firstCells_some w i.size 0 b 0 d [] (by simp) (fun j v h => by simp at h)
    · cases B with
      | none => exact run_firstCells_none w.drew i.size 0 0 d
      | some b => exact run_firstCells_some w.drew i.size 0 b 0 d [] (by simp) (fun j v h => by simp at h)
  have hrun := run_append_nothing w t t o.type e i ht hi A n c hnc _ src
  unfold Oper.wp
  simp [execOp, ho, resolve, invoke, builtin, hs, hx, hrun, Result.andThen]
  exact h
theorem dat_grown {w w' : World} {g b : Nat} {l : List DueT} (h : DAt w g l) (hg : w.grownBy w' (some b)) (hne : g ≠ b) : DAt w' g l := by
  have e := hg.block g h.1 (by simpa using hne)
  refine ⟨Nat.lt_of_lt_of_le h.1 hg.size, fun k hk => ?_⟩
  obtain ⟨a0, a1, a2⟩ := h.2 k hk
  exact ⟨(World.cell?_of_block (a := ⟨g, k * 3, none⟩) e).trans a0, (World.cell?_of_block (a := ⟨g, k * 3 + 1, none⟩) e).trans a1, (World.cell?_of_block (a := ⟨g, k * 3 + 2, none⟩) e).trans a2⟩
theorem own_add {w : World} {base e size n g c : Nat} {xs : List Value} (h : w.ownsRow base e size (.slice (some ⟨g, 0, none⟩) n c) n xs) (hn : 0 < n) : ∀ j u, xs[j]? = some u → w.cell? ((⟨g, 0, none⟩ : Addr).add j) = some u := fun j u hu => by
  obtain ⟨g', c', e', _, _, _, hc⟩ := own_form h hn
  injection e' with e1
  injection e1 with e1
  injection e1 with e1
  subst e1
  have hadd : (⟨g, 0, none⟩ : Addr).add j = ⟨g, j, none⟩ := by unfold Addr.add; split <;> simp_all
  rw [hadd]; exact hc j u hu
theorem dat_drop {w : World} {g : Nat} {l : List DueT} (h : DAt w g l) (n : Nat) (hn : n ≤ l.length) : ∀ j u, (dcells (l.drop n))[j]? = some u → w.cell? ((⟨g, n * 3, none⟩ : Addr).add j) = some u := fun j u hu => by
  have hadd : (⟨g, n * 3, none⟩ : Addr).add j = ⟨g, n * 3 + j, none⟩ := by unfold Addr.add; split <;> simp_all
  have hadd2 : (⟨g, 0, none⟩ : Addr).add (n * 3 + j) = ⟨g, n * 3 + j, none⟩ := by unfold Addr.add; split <;> simp_all
  rw [hadd, ← hadd2]
  refine dat_cells h l.length (n * 3 + j) u ?_
  rw [List.take_length]
  have e : dcells l = dcells (l.take n) ++ dcells (l.drop n) := by rw [← dcells_app, List.take_append_drop]
  have e2 : (dcells (l.take n)).length = n * 3 := by rw [dcells_len, List.length_take, Nat.min_eq_left hn]
  rw [e, List.getElem?_append_right (by omega), e2, show n * 3 + j - n * 3 = j by omega]
  exact hu
theorem rboxk (w : World) (o : Obj) : Below w.heap.size w (w.alloc o) := (Below.refl _ _).alloc (Nat.le_refl _) _
def RsTo (l : List DueT) (w : World) (e : Ending) (w' : World) : Prop := ∃ v, e = .returned v ∧ w'.ownsRow w.heap.size 34 3 v l.length (dcells (srtD l)) ∧ Below w.heap.size w w'
theorem rsTo_mk {l m : List DueT} {v : Value} {n : Nat} {w w' : World} (hm : m = srtD l) (hn : n = l.length) (ho : w'.ownsRow w.heap.size 34 3 v n (dcells m)) (hb : Below w.heap.size w w') : RsTo l w (.returned v) w' := by
  subst hm; subst hn; exact ⟨v, rfl, ho, hb⟩
set_option maxHeartbeats 8000000 in
theorem RSort_any (l : List DueT) (A : Option Addr) (c base : Nat) (w : World) (h : w.ownsRow base 34 3 (.slice A l.length c) l.length (dcells l)) (hl : l.length ≤ 100) :
    Calls Try.prog 12 #[.slice A l.length c] w (RsTo l w) := by
  have HL : Hid (0 < l.length → ∃ g, A = some ⟨g, 0, none⟩ ∧ DAt w g l) := fun h0 => by
    obtain ⟨g, c', e', _⟩ := own_form h h0
    injection e' with e1
    subst e1
    exact ⟨g, rfl, dat_ownE h h0⟩
  clear h
  obtain ⟨i0, hi, hz0, hz1, hz2⟩ := info_parts Try.infoDueR
  go_enter Try.func12, Try.ntmps12
  go_upto_region 3 with fail
  go_loopw [3, 9] (fun v i wr => ∃ k : Nat, k ≤ l.length ∧ i = .int .i64 k ∧ Hid (wr.ownsRow w.heap.size 34 3 v k (dcells (srtD (l.take k)))) ∧ Hid (k = 0 → v = .slice none 0 0) ∧ Below w.heap.size w wr) (fun _ i _ => l.length - (intOf i).toNat)
  case atStart => exact ⟨0, Nat.zero_le _, rfl, World.ownsRow_nil _ _ _ _, fun _ => rfl, Below.refl _ _⟩
  case round =>
    obtain ⟨k, hk, rfl, HO, HZ, hbw⟩ := hrel
    have hbz := hbw.size
    obtain ⟨AO, cO, rfl⟩ := own_slice HO.out
    by_cases hlt : k < l.length
    · have hli : (k : Int) < l.length := by omega
      obtain ⟨g, rfl, hD⟩ := HL.out (by omega)
      obtain ⟨x0, x1, x2⟩ := (hD.below hbw).2 k hlt
      have hol : (srtD (l.take k)).length = k := by rw [(srtD_perm _).length_eq, List.length_take]; omega
      have HINS : Hid (∀ j, j ≤ (srtD (l.take k)).length → (∀ i (h : i < (srtD (l.take k)).length), j ≤ i → ltB l[k] (srtD (l.take k))[i] = true) → (j = 0 ∨ ∃ h : j - 1 < (srtD (l.take k)).length, ltB l[k] (srtD (l.take k))[j - 1] = false) → (srtD (l.take k)).take j ++ l[k] :: (srtD (l.take k)).drop j = srtD (l.take (k + 1))) := fun j hj h1 h2 => ins_is hlt hj h1 h2
      have HOL := Lib.hid hol
      clear hol hD
      generalize l[k] = x at *
      generalize srtD (l.take k) = out at *
      obtain ⟨nw, HNWE⟩ : ∃ n, Hid (srtD (l.take (k + 1)) = n) := ⟨_, rfl⟩
      rw [HNWE.out] at HINS
      have HOD : Hid (0 < k → ∃ go, AO = some ⟨go, 0, none⟩ ∧ DAt wr go out) := fun h0 => by
        have hO := HO.out
        rw [← HOL.out] at hO h0
        obtain ⟨g9, c9, e9, _⟩ := own_form hO h0
        injection e9 with e1
        subst e1
        exact ⟨g9, rfl, dat_ownE hO h0⟩
      go_upto_region 5 with fail
      have hb1 := rboxk wr (.cells #[.int .i64 x.1, .string (bs x.2.1), .int .i64 x.2.2] 34)
      have R1 := heap_alloc_new wr (.cells #[.int .i64 x.1, .string (bs x.2.1), .int .i64 x.2.2] 34)
      have HO1 := Lib.hid (own_below HO.out hb1 hbz)
      have HOD1 : Hid (0 < k → ∃ go, AO = some ⟨go, 0, none⟩ ∧ DAt (wr.alloc (.cells #[.int .i64 x.1, .string (bs x.2.1), .int .i64 x.2.2] 34)) go out) := fun h0 => let ⟨go, e, hd⟩ := HOD.out h0; ⟨go, e, hd.below hb1⟩
      have HB1 := Lib.hid (below_then hbw hb1 hbz)
      have hgl : wr.heap.size < (wr.alloc (.cells #[.int .i64 x.1, .string (bs x.2.1), .int .i64 x.2.2] 34)).heap.size := by simp
      clear x0 x1 x2 HO HOD hb1 hbw hbz
      generalize wr.alloc (.cells #[.int .i64 x.1, .string (bs x.2.1), .int .i64 x.2.2] 34) = w1 at *
      generalize wr.heap.size = gx at *
      have HR1 := Lib.hid R1
      clear R1
      go_upto_region 6 with fail
      go_loopw [6] (fun v wx => ∃ j : Nat, j ≤ k ∧ v = .int .i64 j ∧ Hid (∀ i (h : i < out.length), j ≤ i → ltB x out[i] = true) ∧ Below w1.heap.size w1 wx) (fun v _ => (intOf v).toNat)
      case atStart => exact ⟨k, Nat.le_refl _, rfl, (fun i h h2 => by have := HOL.out; omega), Below.refl _ _⟩
      case round =>
        obtain ⟨j, hj, rfl, HG, hbw⟩ := hrel
        have hbz := hbw.size
        have r1 := (hbw.block gx hgl).trans HR1.out
        have e0 := cell_of_row _ _ 0 _ _ _ r1; have e1 := cell_of_row _ _ 1 _ _ _ r1; have e2 := cell_of_row _ _ 2 _ _ _ r1
        by_cases hj0 : j = 0
        · subst hj0
          by_cases hk0 : k = 0
          · subst hk0
            have hz9 := HZ.out rfl
            injection hz9 with za zb zc
            subst za; subst zc
            have hon : out = [] := List.eq_nil_of_length_eq_zero HOL.out
            have HNW : Hid (nw = [x]) := by
              have := HINS.out 0 (Nat.zero_le _) HG.out (.inl rfl)
              rw [hon] at this
              exact this.symm
            go_upto_region 6 with fail
            go_quiet (fail)
            go_upto_region 8 with fail
            have f0 : (wr.drewN nq).cell? ⟨gx, 0, none⟩ = some (.int .i64 x.1) := e0
            have f1 : (wr.drewN nq).cell? ⟨gx, 1, none⟩ = some (.string (bs x.2.1)) := e1
            have f2 : (wr.drewN nq).cell? ⟨gx, 2, none⟩ = some (.int .i64 x.2.2) := e2
            have HBN := Lib.hid (below_then HB1.out (below_drewN hbw nq) HB1.out.size)
            have HBQ := Lib.hid (below_drewN hbw nq)
            clear e0 e1 e2 r1 hbw hbz
            generalize wr.drewN nq = w2 at *
            have hsN := HBN.out.size
            have hc1 := cells_new w2 (dcells [x]) 34
            have hwa := rboxk w2 (.cells #[.int .i64 x.1, .string (bs x.2.1), .int .i64 x.2.2] 34)
            have hdr : Below (w2.alloc (.cells #[.int .i64 x.1, .string (bs x.2.1), .int .i64 x.2.2] 34)).heap.size (w2.alloc (.cells #[.int .i64 x.1, .string (bs x.2.1), .int .i64 x.2.2] 34)) (w2.alloc (.cells #[.int .i64 x.1, .string (bs x.2.1), .int .i64 x.2.2] 34)).drew := below_drew (Below.refl _ _)
            go_region_law (first
              | (refine step_append_nil rfl (.tmp 33) (.tmp 36) 33 rfl 34 i0 Try.underlying33 hi _ _ _ (by first | rfl | simp [Act.eval]) (Nat.le_refl _) _ _ _ (by first | rfl | simp [Act.eval]) (by first | rfl | simp | omega) ?_)
              | (refine step_append_grows rfl (.tmp 31) (.tmp 37) 33 rfl 34 i0 _ 3 32 Try.underlying33 hi hz0 hz1 hz2 rfl (by decide) none 0 0 [] (by first | rfl | simp [Act.eval]) (fun _ => ⟨rfl, rfl⟩) rfl (fun b e => by cases e) ⟨w2.heap.size, 0, none⟩ 1 1 (dcells [x]) (by first | rfl | simp [Act.eval]) rfl hc1 (dcells_one _) (by omega) (by unfold maxLen; omega) (by omega) ?_; intro v9 w9 hown9 hg9; obtain ⟨A9, c9, rfl⟩ := own_slice hown9))
            all_goals
              have HB9 : Hid (Below w.heap.size w w9) := by
                exact (below_drew (below_then HBN.out hwa hsN)).grown hg9 (by simp; omega) (fun j e => by cases e)
              have HOW : Hid (w9.ownsRow w.heap.size 34 3 (.slice A9 (0 + 1) c9) (0 + 1) (dcells (srtD (l.take (0 + 1))))) := by
                rw [HNWE.out]
                have h := World.ownsRow.mono hown9 (base' := w.heap.size) (by simp; omega)
                rw [HNW.out]; exact h
              clear hown9 hg9
              go_wp2
              go_roundw
              case rel => exact ⟨0 + 1, by omega, by go_num, HOW, (fun h => absurd h (by omega)), HB9.out⟩
              case measure => simp [intOf]; omega

          · have hk0 : 0 < k := by omega
            have HNW : Hid (out.take 0 ++ x :: out.drop 0 = nw) := HINS.out 0 (Nat.zero_le _) HG.out (.inl rfl)
            go_upto_region 6 with fail
            go_quiet (fail)
            obtain ⟨j, hjz⟩ : ∃ j : Nat, j = 0 := ⟨0, rfl⟩
            go_upto_region 8 with fail
            have f0 : (wr.drewN nq).cell? ⟨gx, 0, none⟩ = some (.int .i64 x.1) := e0
            have f1 : (wr.drewN nq).cell? ⟨gx, 1, none⟩ = some (.string (bs x.2.1)) := e1
            have f2 : (wr.drewN nq).cell? ⟨gx, 2, none⟩ = some (.int .i64 x.2.2) := e2
            have HBN := Lib.hid (below_then HB1.out (below_drewN hbw nq) HB1.out.size)
            have HBQ := Lib.hid (below_drewN hbw nq)
            clear e0 e1 e2 r1 hbw hbz
            generalize wr.drewN nq = w2 at *
            obtain ⟨go, rfl, hDO⟩ := HOD1.out hk0
            have hDQ := hDO.below HBQ.out
            have hgo2 : go < w2.heap.size := hDQ.1
            have hDW : DAt (w2.alloc (.cells #[.int .i64 x.1, .string (bs x.2.1), .int .i64 x.2.2] 34)).drew go out := (hDQ.below (rboxk w2 _)).below (below_drew (Below.refl _ _))
            have hox : (w2.alloc (.cells #[.int .i64 x.1, .string (bs x.2.1), .int .i64 x.2.2] 34)).drew.ownsRow w2.heap.size 34 3 (.slice (some ⟨w2.heap.size, 0, none⟩) 1 1) 1 (dcells [x]) := World.ownsRow_lit w2 #[.int .i64 x.1, .string (bs x.2.1), .int .i64 x.2.2] 1 (Nat.le_refl _) (by unfold maxLen; omega) (by simp)
            have hdl : Hid ((dcells (out.drop 0)).length = (k - 0) * 3) := by show _ = _; rw [dcells_len, List.length_drop, HOL.out]
            have hdc := dat_drop hDW 0 (by have := HOL.out; omega)
            have htl : Hid ((dcells (out.take 0)).length = 0 * 3) := by show _ = _; rw [dcells_len, List.length_take, HOL.out, Nat.min_eq_left (Nat.zero_le _)]
            have hnl : Hid ((dcells [x] ++ dcells (out.drop 0)).length = (1 + (k - 0)) * 3) := by show _ = _; rw [List.length_append, dcells_len, hdl.out]; simp; omega
            have hn1 : ∀ u ∈ dcells [x] ++ dcells (out.drop 0), u.oneCell' = true := fun u hu => (List.mem_append.1 hu).elim (dcells_one _ u) (dcells_one _ u)
            have hcap := own_cap HO1.out
            have hkc : (k : Int) ≤ cO := by omega
            have hcne : ¬ cO = 0 := by omega
            have hcne2 : ¬ (cO : Int) = 0 := by omega
            have hsN := HBN.out.size
            have hc1 := cells_new w2 (dcells [x]) 34
            have hwa := rboxk w2 (.cells #[.int .i64 x.1, .string (bs x.2.1), .int .i64 x.2.2] 34)
            have hdr : Below (w2.alloc (.cells #[.int .i64 x.1, .string (bs x.2.1), .int .i64 x.2.2] 34)).heap.size (w2.alloc (.cells #[.int .i64 x.1, .string (bs x.2.1), .int .i64 x.2.2] 34)) (w2.alloc (.cells #[.int .i64 x.1, .string (bs x.2.1), .int .i64 x.2.2] 34)).drew := below_drew (Below.refl _ _)
            go_region_law (first
              | (refine step_append_lies _ rfl (.tmp 33) (.tmp 36) 33 rfl w2.heap.size 34 i0 _ 3 32 Try.underlying33 hi hz0 hz1 hz2 rfl (by decide) (.slice (some ⟨w2.heap.size, 0, none⟩) 1 1) 1 (dcells [x]) (by first | rfl | simp [Act.eval]) hox ⟨go, 0 * 3, none⟩ (k - 0) (cO - 0) (dcells (out.drop 0)) (by first | rfl | simp [Act.eval]) hdl.out hdc (dcells_one _) (by omega) (by unfold maxLen; omega) (by omega) (by simp) _ rfl ?_; intro g1 cp1 W1 hown1 hg1 hat1 hlt1; have hD1 := dat_grown hDW hg1 (Nat.ne_of_lt hgo2); have hc9 := own_add hown1 (by omega))
              | (refine step_append_grows rfl (.tmp 31) (.tmp 37) 33 rfl 34 i0 _ 3 32 Try.underlying33 hi hz0 hz1 hz2 rfl (by decide) (some ⟨go, 0, none⟩) 0 0 (dcells (out.take 0)) (by first | rfl | simp [Act.eval]) (fun e => by cases e) htl.out (fun b e => by cases e; exact dat_cells hD1 0) ⟨g1, 0, none⟩ (1 + (k - 0)) cp1 (dcells [x] ++ dcells (out.drop 0)) (by first | rfl | simp [Act.eval]) hnl.out hc9 hn1 (by omega) (by unfold maxLen; omega) (by omega) ?_; intro v9 w9 hown9 hg9; obtain ⟨A9, c9, rfl⟩ := own_slice hown9))
            all_goals
              have HB9 : Hid (Below w.heap.size w w9) := by
                exact ((below_drew (below_then HBN.out hwa hsN)).grown hg1 (by simp; omega) (fun j e => by simp [Value.ownBlock] at e; omega)).grown hg9 (by have := hg1.size; simp at this; omega) (fun j e => by cases e)
              have HOW : Hid (w9.ownsRow w.heap.size 34 3 (.slice A9 (1 + k) c9) (k + 1) (dcells (srtD (l.take (k + 1))))) := by
                rw [HNWE.out]
                have h := World.ownsRow.mono hown9 (base' := w.heap.size) (by have := hg1.size; simp at this; omega)
                have e1 : dcells nw = dcells (out.take 0) ++ (dcells [x] ++ dcells (out.drop 0)) := by rw [← HNW.out, dcells_app]; rfl
                have e2 : 0 + (1 + (k - 0)) = k + 1 := by omega
                have e3 : 1 + k = k + 1 := by omega
                rw [e1, e3]
                rw [e2] at h
                exact h
              clear hown9 hg9
              go_wp2
              go_roundw
              case rel => exact ⟨k + 1, by omega, by go_num, HOW, (fun h => absurd h (by omega)), HB9.out⟩
              case measure => simp [intOf]; omega

        · have hjp : 0 < j := by omega
          have hk0 : 0 < k := by omega
          have hjo : j - 1 < out.length := by have := HOL.out; omega
          have hjlt : (0 : Int) < j := by omega
          obtain ⟨go, hgo, hDO⟩ := HOD1.out hk0
          have hDw := hDO.below hbw
          obtain ⟨o0, o1, o2⟩ := hDw.2 (j - 1) hjo
          have hjm : IntKind.i64.wrap ((j : Int) - 1) = ((j - 1 : Nat) : Int) := by rw [IntKind.wrap_i64]; omega
          have hjm0 : (0 : Int) ≤ ((j - 1 : Nat) : Int) := by omega
          have hjm2 : ((j - 1 : Nat) : Int) < k := by omega
          obtain ⟨o, ho⟩ : ∃ o, o = out[j - 1] := ⟨_, rfl⟩
          have LS := Lib.hid (fun wq => lessR_any x o wq)
          rw [← ho] at o0 o1 o2
          have hbo : Hid (ltB x out[j - 1] = ltB x o) := by show _ = _; rw [ho]
          generalize hz : ltB x o = z at *
          subst hgo
          have HZZ := Lib.hid hz
          clear hz ho
          cases z
          · by_cases hjk0 : j < k
            · have HNW : Hid (out.take j ++ x :: out.drop j = nw) := HINS.out j (by have := HOL.out; omega) HG.out (.inr ⟨hjo, hbo.out⟩)
              go_upto_region 6 with fail
              go_region_with (go_at_call 18; refine (LS.out _).mono ?_; rintro e w2 ⟨rfl, hb3⟩; have HB3 : Hid (Below w1.heap.size w1 w2) := by first | exact below_then hbw hb3 hbz | exact below_then (below_drew hbw) hb3 hbz)
              all_goals
                clear hjm hjm0 hjm2 o0 o1 o2 hDw hDO
                go_upto_region 8 with fail
                have r2 := (HB3.out.block gx hgl).trans HR1.out
                have f0 := cell_of_row _ _ 0 _ _ _ r2; have f1 := cell_of_row _ _ 1 _ _ _ r2; have f2 := cell_of_row _ _ 2 _ _ _ r2
                have HBN := Lib.hid (below_then HB1.out HB3.out HB1.out.size)
                have HBQ := HB3
                clear e0 e1 e2 r1 r2 hbw hbz
                have HOD1 : Hid (0 < k → ∃ g', (some ⟨go, 0, none⟩ : Option Addr) = some ⟨g', 0, none⟩ ∧ DAt w1 g' out) := HOD1
                obtain ⟨go9, e9, hDO⟩ := HOD1.out hk0; injection e9 with e9; injection e9 with e9; subst e9
                have hDQ := hDO.below HBQ.out
                have hgo2 : go < w2.heap.size := hDQ.1
                have hDW : DAt (w2.alloc (.cells #[.int .i64 x.1, .string (bs x.2.1), .int .i64 x.2.2] 34)).drew go out := (hDQ.below (rboxk w2 _)).below (below_drew (Below.refl _ _))
                have hox : (w2.alloc (.cells #[.int .i64 x.1, .string (bs x.2.1), .int .i64 x.2.2] 34)).drew.ownsRow w2.heap.size 34 3 (.slice (some ⟨w2.heap.size, 0, none⟩) 1 1) 1 (dcells [x]) := World.ownsRow_lit w2 #[.int .i64 x.1, .string (bs x.2.1), .int .i64 x.2.2] 1 (Nat.le_refl _) (by unfold maxLen; omega) (by simp)
                have hdl : Hid ((dcells (out.drop j)).length = (k - j) * 3) := by show _ = _; rw [dcells_len, List.length_drop, HOL.out]
                have hdc := dat_drop hDW j (by have := HOL.out; omega)
                have htl : Hid ((dcells (out.take j)).length = j * 3) := by show _ = _; rw [dcells_len, List.length_take, HOL.out, Nat.min_eq_left hj]
                have hnl : Hid ((dcells [x] ++ dcells (out.drop j)).length = (1 + (k - j)) * 3) := by show _ = _; rw [List.length_append, dcells_len, hdl.out]; simp; omega
                have hn1 : ∀ u ∈ dcells [x] ++ dcells (out.drop j), u.oneCell' = true := fun u hu => (List.mem_append.1 hu).elim (dcells_one _ u) (dcells_one _ u)
                have hcap := own_cap HO1.out
                have hjc : (j : Int) ≤ cO := by omega
                have hjk : (j : Int) ≤ k := by omega
                have hkc : (k : Int) ≤ cO := by omega
                have hj0i : (0 : Int) ≤ j := by omega
                have hcne : ¬ cO = j := by omega
                have hcne2 : ¬ (cO : Int) = j := by omega
                have hsN := HBN.out.size
                have hc1 := cells_new w2 (dcells [x]) 34
                have hwa := rboxk w2 (.cells #[.int .i64 x.1, .string (bs x.2.1), .int .i64 x.2.2] 34)
                have hdr : Below (w2.alloc (.cells #[.int .i64 x.1, .string (bs x.2.1), .int .i64 x.2.2] 34)).heap.size (w2.alloc (.cells #[.int .i64 x.1, .string (bs x.2.1), .int .i64 x.2.2] 34)) (w2.alloc (.cells #[.int .i64 x.1, .string (bs x.2.1), .int .i64 x.2.2] 34)).drew := below_drew (Below.refl _ _)
                go_region_law (first
                  | (refine step_append_lies _ rfl (.tmp 33) (.tmp 36) 33 rfl w2.heap.size 34 i0 _ 3 32 Try.underlying33 hi hz0 hz1 hz2 rfl (by decide) (.slice (some ⟨w2.heap.size, 0, none⟩) 1 1) 1 (dcells [x]) (by first | rfl | simp [Act.eval]) hox ⟨go, j * 3, none⟩ (k - j) (cO - j) (dcells (out.drop j)) (by first | rfl | simp [Act.eval]) hdl.out hdc (dcells_one _) (by omega) (by unfold maxLen; omega) (by omega) (by simp) _ rfl ?_; intro g1 cp1 W1 hown1 hg1 hat1 hlt1; have hD1 := dat_grown hDW hg1 (Nat.ne_of_lt hgo2); have hc9 := own_add hown1 (by omega))
                  | (refine step_append_grows rfl (.tmp 31) (.tmp 37) 33 rfl 34 i0 _ 3 32 Try.underlying33 hi hz0 hz1 hz2 rfl (by decide) (some ⟨go, 0, none⟩) j j (dcells (out.take j)) (by first | rfl | simp [Act.eval]) (fun e => by cases e) htl.out (fun b e => by cases e; exact dat_cells hD1 j) ⟨g1, 0, none⟩ (1 + (k - j)) cp1 (dcells [x] ++ dcells (out.drop j)) (by first | rfl | simp [Act.eval]) hnl.out hc9 hn1 (by omega) (by unfold maxLen; omega) (by omega) ?_; intro v9 w9 hown9 hg9; obtain ⟨A9, c9, rfl⟩ := own_slice hown9))
                all_goals
                  have HB9 : Hid (Below w.heap.size w w9) := by
                    exact ((below_drew (below_then HBN.out hwa hsN)).grown hg1 (by simp; omega) (fun j e => by simp [Value.ownBlock] at e; omega)).grown hg9 (by have := hg1.size; simp at this; omega) (fun j e => by cases e)
                  have HOW : Hid (w9.ownsRow w.heap.size 34 3 (.slice A9 (j + (1 + (k - j))) c9) (k + 1) (dcells (srtD (l.take (k + 1))))) := by
                    rw [HNWE.out]
                    have h := World.ownsRow.mono hown9 (base' := w.heap.size) (by have := hg1.size; simp at this; omega)
                    have e1 : dcells nw = dcells (out.take j) ++ (dcells [x] ++ dcells (out.drop j)) := by rw [← HNW.out, dcells_app]; rfl
                    have e2 : j + (1 + (k - j)) = k + 1 := by omega
                    rw [e1]
                    rw [e2] at h
                    rw [e2]
                    exact h
                  clear hown9 hg9
                  go_wp2
                  go_roundw
                  case rel => exact ⟨k + 1, by omega, by go_num, HOW, (fun h => absurd h (by omega)), HB9.out⟩
                  case measure => simp [intOf]; omega

            · have hjk1 : j = k := by omega
              have HNW : Hid (out ++ [x] = nw) := by
                have h := HINS.out j (by have := HOL.out; omega) HG.out (.inr ⟨hjo, hbo.out⟩)
                have hok : out.length = j := by rw [HOL.out, hjk1]
                rw [← hok, List.take_length, List.drop_length] at h
                exact h
              subst hjk1
              go_upto_region 6 with fail
              go_region_with (go_at_call 18; refine (LS.out _).mono ?_; rintro e w2 ⟨rfl, hb3⟩; have HB3 : Hid (Below w1.heap.size w1 w2) := by first | exact below_then hbw hb3 hbz | exact below_then (below_drew hbw) hb3 hbz)
              all_goals
                clear hjm hjm0 hjm2 o0 o1 o2 hDw hDO
                go_upto_region 8 with fail
                have r2 := (HB3.out.block gx hgl).trans HR1.out
                have f0 := cell_of_row _ _ 0 _ _ _ r2; have f1 := cell_of_row _ _ 1 _ _ _ r2; have f2 := cell_of_row _ _ 2 _ _ _ r2
                have HBN := Lib.hid (below_then HB1.out HB3.out HB1.out.size)
                have HBQ := HB3
                clear e0 e1 e2 r1 r2 hbw hbz
                have HOD1 : Hid (0 < j → ∃ g', (some ⟨go, 0, none⟩ : Option Addr) = some ⟨g', 0, none⟩ ∧ DAt w1 g' out) := HOD1
                obtain ⟨go9, e9, hDO⟩ := HOD1.out hk0; injection e9 with e9; injection e9 with e9; subst e9
                have hDQ := hDO.below HBQ.out
                have hoc : ∀ j u, (dcells out)[j]? = some u → (w2.alloc (.cells #[.int .i64 x.1, .string (bs x.2.1), .int .i64 x.2.2] 34)).drew.cell? ((⟨go, 0, none⟩ : Addr).add j) = some u := fun j u hu => by
                  have h := dat_cells ((hDQ.below (rboxk w2 (.cells #[.int .i64 x.1, .string (bs x.2.1), .int .i64 x.2.2] 34))).below (below_drew (Below.refl _ _))) out.length j u
                  rw [List.take_length] at h
                  exact h hu
                have hol3 : Hid ((dcells out).length = j * 3) := by show _ = _; rw [dcells_len, HOL.out]
                have hcap := own_cap HO1.out
                have hkc : (j : Int) ≤ cO := by omega
                have hki0 : (0 : Int) ≤ j := by omega
                have hkk : (j : Int) ≤ j := Int.le_refl _
                have hsN := HBN.out.size
                have hc1 := cells_new w2 (dcells [x]) 34
                have hwa := rboxk w2 (.cells #[.int .i64 x.1, .string (bs x.2.1), .int .i64 x.2.2] 34)
                have hdr : Below (w2.alloc (.cells #[.int .i64 x.1, .string (bs x.2.1), .int .i64 x.2.2] 34)).heap.size (w2.alloc (.cells #[.int .i64 x.1, .string (bs x.2.1), .int .i64 x.2.2] 34)) (w2.alloc (.cells #[.int .i64 x.1, .string (bs x.2.1), .int .i64 x.2.2] 34)).drew := below_drew (Below.refl _ _)
                go_region_law (first
                  | (refine step_append_nil rfl (.tmp 33) (.tmp 36) 33 rfl 34 i0 Try.underlying33 hi _ _ _ (by first | rfl | simp [Act.eval]) (Nat.le_refl _) _ _ _ (by first | rfl | simp [Act.eval]) (by first | rfl | simp | omega) ?_)
                  | (refine step_append_grows rfl (.tmp 31) (.tmp 37) 33 rfl 34 i0 _ 3 32 Try.underlying33 hi hz0 hz1 hz2 rfl (by decide) (some ⟨go, 0, none⟩) j j (dcells out) (by first | rfl | simp [Act.eval]) (fun e => by cases e) hol3.out (fun b e => by cases e; exact hoc) ⟨w2.heap.size, 0, none⟩ 1 1 (dcells [x]) (by first | rfl | simp [Act.eval]) rfl hc1 (dcells_one _) (by omega) (by unfold maxLen; omega) (by omega) ?_; intro v9 w9 hown9 hg9; obtain ⟨A9, c9, rfl⟩ := own_slice hown9))
                all_goals
                  have HB9 : Hid (Below w.heap.size w w9) := by
                    exact (below_drew (below_then HBN.out hwa hsN)).grown hg9 (by simp; omega) (fun j e => by cases e)
                  have HOW : Hid (w9.ownsRow w.heap.size 34 3 (.slice A9 (j + 1) c9) (j + 1) (dcells (srtD (l.take (j + 1))))) := by
                    rw [HNWE.out]
                    have h := World.ownsRow.mono hown9 (base' := w.heap.size) (by simp; omega)
                    have e1 : dcells nw = dcells out ++ dcells [x] := by rw [← HNW.out, dcells_app]
                    rw [e1]
                    exact h
                  clear hown9 hg9
                  go_wp2
                  go_roundw
                  case rel => exact ⟨j + 1, by omega, by go_num, HOW, (fun h => absurd h (by omega)), HB9.out⟩
                  case measure => simp [intOf]; omega

          · have HGJ : Hid (∀ i (h : i < out.length), j - 1 ≤ i → ltB x out[i] = true) := fun i h hi2 => by
              by_cases hij : i = j - 1
              · subst hij; exact hbo.out
              · exact HG.out i h (by omega)
            go_upto_region 6 with fail
            go_region_with (go_at_call 18; refine (LS.out _).mono ?_; rintro e w2 ⟨rfl, hb3⟩; have HB3 : Hid (Below w1.heap.size w1 w2) := by first | exact below_then hbw hb3 hbz | exact below_then (below_drew hbw) hb3 hbz)
            all_goals
              go_wp2
              go_roundw
              case rel => exact ⟨j - 1, by omega, by go_num, HGJ, HB3.out⟩
              case measure => simp [intOf]; omega
    · have hle : k = l.length := by omega
      have HE : Hid (srtD (l.take k) = srtD l) := by show _ = _; rw [hle, List.take_length]
      have hli : ¬ (k : Int) < l.length := by omega
      have HKL := Lib.hid hle
      clear hle
      go_wp2
      go_ret
      exact rsTo_mk HE.out HKL.out HO.out hbw
end Go.Proofs.Ytiodjjnohbjhlaa
