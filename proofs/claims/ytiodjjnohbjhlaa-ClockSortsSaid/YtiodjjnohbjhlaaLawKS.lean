/-
  ClockSorts: Sort is the document's order, and Next its first: the walk.
-/
import Derived.Test.YtiodjjnohbjhlaaCkU
import Derived.Test.YtiodjjnohbjhlaaLawKN
namespace Go.Proofs.Ytiodjjnohbjhlaa
set_option maxRecDepth 100000
open Go.ChangeShapes Go.WideShapes Go.ChangeAt Go.RowKit

theorem dat_of_own {w : World} {base c : Nat} {A : Option Addr} {l : List DueT} (h : w.ownsRow base 27 3 (.slice A l.length c) l.length (dcells l)) (h0 : 0 < l.length) : ∃ g, A = some ⟨g, 0, none⟩ ∧ DAt w g l := by
  obtain ⟨g, c', e', _⟩ := own_form h h0
  injection e' with e1
  subst e1
  exact ⟨g, rfl, dat_own h h0⟩
set_option maxHeartbeats 8000000 in
theorem sorts_walk (w : World) (v : Value) (l : List DueT) (h : DuesAt w v l) (raw : Bool) (now : Int) (hw : (Lit.int .i64 now).wf = true) :
    Calls Try.prog 4 #[v, .bool raw, .int .i64 now] w (TrueOn w) := by
  have DU := Lib.hid (Dues_any v l raw w h)
  have DU2 := Lib.hid (fun W (hb : Below w.heap.size w W) => Dues_any v l raw W (h.below hb))
  have WN := Lib.hid (fun W => Within_any now 5 W hw (by omega) (by omega))
  have hLn := duesL_len raw l
  generalize duesL raw l = L at *
  clear h hw
  obtain ⟨i0, hi, hz0, hz1, hz2⟩ := info_parts Try.infoDueR
  go_enter Try.func4, Try.ntmps4
  go_upto_region 4 with (go_at_call 6; refine DU.out.mono ?_; rintro e w1 ⟨hb1, v1, rfl, ho1⟩; have HB1 := Lib.hid hb1; obtain ⟨A1, c1, rfl⟩ := own_slice ho1; have HO1 := Lib.hid ho1; clear hb1 ho1)
  have HD1 : Hid (0 < L.length → ∃ g, A1 = some ⟨g, 0, none⟩ ∧ DAt w1 g L) := fun h0 => by
    obtain ⟨g, c', e', _⟩ := own_form HO1.out h0
    injection e' with e1
    subst e1
    exact ⟨g, rfl, dat_own HO1.out h0⟩
  have hw1 := HB1.out.size
  go_loopw [8, 21] (fun z i wr => ∃ k : Nat, k ≤ L.length ∧ i = .int .i64 k ∧ Hid (wr.ownsRow w1.heap.size 34 3 z k (dcells (L.take k))) ∧ Hid (Below w1.heap.size w1 wr)) (fun _ i _ => L.length - (intOf i).toNat)
  case atStart => exact ⟨0, Nat.zero_le _, rfl, World.ownsRow_nil _ _ _ _, Below.refl _ _⟩
  case round =>
    obtain ⟨k, hk, rfl, HO, HB⟩ := hrel
    have hbz := HB.out.size
    by_cases hlt : k < L.length
    · have hlti : (k : Int) < L.length := by omega
      obtain ⟨g, rfl, hD⟩ := HD1.out (by omega)
      obtain ⟨x0, x1, x2⟩ := (hD.below HB.out).2 k hlt
      have HSN : Hid (L.take (k + 1) = L.take k ++ [L[k]]) := List.take_succ_eq_append_getElem hlt
      generalize L[k] = z at *
      obtain ⟨Ao, co, rfl⟩ := own_slice HO.out
      go_wp2_with (at_builtin; go_must (refine wpList_append_own _ rfl (.tmp 24) (.tmp 29) 33 rfl w1.heap.size 34 i0 _ 3 32 Try.underlying33 hi hz0 hz1 hz2 rfl (by decide) _ _ _ rfl (World.ownsRow.alloc HO.out _) ⟨wr.heap.size, 0, none⟩ 1 1 (encD z) rfl rfl (cells_new _ _ _) (dcell_one _ _ _) (by unfold maxLen; omega) (by omega) (by simp; omega) ?_); intro v' w6 hown' hg' _)
      have hg2 := (World.grownBy_alloc wr (.cells (encD z).toArray 34) _).andThen hg' (fun j e => .inr e)
      have HB6 := Lib.hid (HB.out.grown hg2 hbz (fun j e => by have := (World.ownsRow.lt HO.out j e).1; omega))
      have HN : Hid (w6.ownsRow w1.heap.size 34 3 v' (k + 1) (dcells (L.take (k + 1)))) := by
        show World.ownsRow _ _ _ _ _ _ _
        rw [HSN.out, dcells_app]
        have e1 : dcells [z] = encD z := by simp [dcells]
        rw [e1]
        exact hown'
      go_roundw
      case rel => exact ⟨k + 1, by omega, by go_num, HN, HB6⟩
      case measure => simp [intOf]; omega
    · have hkl : k = L.length := by omega
      have HOZ : Hid (wr.ownsRow w1.heap.size 34 3 u8 L.length (dcells L)) := by
        have h := HO.out
        rw [hkl, List.take_length] at h
        exact h
      clear HO
      obtain ⟨Az, cz, rfl⟩ := own_slice HOZ.out
      have hlti : ¬ (k : Int) < L.length := by omega
      clear hkl
      have SO := Lib.hid (Sort_all w.heap.size L _ wr (own_below HO1.out HB.out hw1) (by omega))
      go_upto_region 9 with (first
        | (go_at_call 8; refine SO.out.mono ?_; rintro e w3 ⟨⟨A6, c6, rfl, hs6⟩, hb3⟩; have HB3 := Lib.hid hb3; have HS6 := Lib.hid hs6; clear hs6 hb3; have RS := Lib.hid (RSort_any L Az cz w1.heap.size w3 (own_below HOZ.out HB3.out hbz) (by omega)))
        | (go_at_call 12; refine RS.out.mono ?_; rintro e w4 ⟨v7, rfl, ho7, hb4⟩; obtain ⟨A7, c7, rfl⟩ := own_slice ho7; have HB4 := Lib.hid hb4; have HO7 := Lib.hid ho7; clear hb4 ho7))
      have HS7 : Hid (0 < L.length → ∃ g, A7 = some ⟨g, 0, none⟩ ∧ DAt w4 g (srtD L)) := fun h0 => by
        have h := HO7.out
        rw [← srt_len L] at h h0
        obtain ⟨g, c', e', _⟩ := own_form h h0
        injection e' with e1
        subst e1
        exact ⟨g, rfl, dat_ownE h h0⟩
      have HS8 : Hid (SAt w4 A6 L) := fun h0 => let ⟨g, e, hd⟩ := HS6.out h0; ⟨g, e, hd.below HB4.out⟩
      have HB14 := Lib.hid (below_then (below_then HB.out HB3.out hbz) HB4.out (Nat.le_trans hbz HB3.out.size))
      clear HO7 HS6 RS SO HOZ
      go_upto_region 12 with fail
      go_loopw [43] (fun i wx => ∃ j : Nat, j ≤ L.length ∧ i = .int .i64 j ∧ Hid (Below w4.heap.size w4 wx)) (fun i _ => L.length - (intOf i).toNat)
      case atStart => exact ⟨0, Nat.zero_le _, rfl, Below.refl _ _⟩
      case round =>
        obtain ⟨j, hj, rfl, HBx⟩ := hrel
        by_cases hjl : j < L.length
        · have hjli : (j : Int) < L.length := by omega
          obtain ⟨g6, rfl, hd6⟩ := HS8.out (by omega)
          obtain ⟨g7, rfl, hd7⟩ := HS7.out (by omega)
          have hjs : j < (srtD L).length := by rw [srt_len]; exact hjl
          obtain ⟨a0, a1, a2⟩ := (hd6.below HBx.out).2 j hjs
          obtain ⟨b0, b1, b2⟩ := (hd7.below HBx.out).2 j hjs
          generalize (srtD L)[j] = x at *
          obtain ⟨xt, xd, xi⟩ := x
          simp only at a0 a1 a2 b0 b1 b2
          generalize bs xd = X at *
          have hb1 : (X.toList != X.toList) = false := by simp
          clear hd6 hd7
          go_wp2
          go_quiet (fail)
          go_wp2
          go_roundw
          case rel => exact ⟨j + 1, by omega, by go_num, below_drewN HBx.out _⟩
          case measure => simp [intOf]; omega
        · have hjli : ¬ (j : Int) < L.length := by omega
          go_upto_if 57 with fail
          go_cut [2] (fun nv wx => (∃ nw : Int, nv = .int .i64 nw) ∧ Hid (Below w4.heap.size w4 wx))
          case first =>
            cases raw
            · go_wp2_with (go_at_call 7; refine (WN.out _).mono ?_; rintro e w2 ⟨rfl, rfl⟩)
              go_meet
              exact ⟨⟨_, rfl⟩, HBx.out⟩
            · go_wp2
              go_meet
              exact ⟨⟨_, rfl⟩, HBx.out⟩
          case rest =>
            obtain ⟨⟨nw, rfl⟩, HBc⟩ := hcut
            rename_i K9 hK9
            refine hK9 _ _ ?_
            clear hK9 WN
            obtain ⟨wx, rfl⟩ : ∃ X : World, X = wc := ⟨_, rfl⟩
            have HBW := Lib.hid (below_then (below_then HB1.out HB14.out hw1) HBc.out (Nat.le_trans hw1 HB14.out.size))
            by_cases h0 : L.length = 0
            · have NX2 := Lib.hid (Next_nil A1 c1 nw wx)
              obtain rfl : L = [] := List.eq_nil_of_length_eq_zero h0
              clear h0 hk hj hjli hlti hlt hjl hLn HS7 HS8
              simp only [List.length_nil]
              go_upto_region 20 with (go_at_call 9; refine NX2.out.mono ?_; rintro e w5 ⟨rfl, hb5⟩; have HBX5 := Lib.hid (below_then HBc.out hb5 HBc.out.size); have HB5 := Lib.hid (below_then HBW.out hb5 HBW.out.size); clear hb5)
              clear NX2
              have hb6 := below_then HB5.out (box_b w5 (.cells #[.int .i64 0, .string ⟨#[]⟩, .int .i64 0] 27)) HB5.out.size
              have R6 := heap_alloc_new w5 (.cells #[.int .i64 0, .string ⟨#[]⟩, .int .i64 0] 27)
              have hbx6 := below_then HBX5.out (box_b w5 (.cells #[.int .i64 0, .string ⟨#[]⟩, .int .i64 0] 27)) HBX5.out.size
              have hg5 : w5.heap.size < (w5.alloc (.cells #[.int .i64 0, .string ⟨#[]⟩, .int .i64 0] 27)).heap.size := by simp
              generalize w5.alloc (.cells #[.int .i64 0, .string ⟨#[]⟩, .int .i64 0] 27) = w6 at *
              generalize w5.heap.size = g5 at *
              have HB6 := Lib.hid hb6
              have HD6 : Hid (0 < ([] : List DueT).length → ∃ g, A1 = some ⟨g, 0, none⟩ ∧ DAt w6 g ([] : List DueT)) := fun h0 => let ⟨g, e, hd⟩ := HD1.out h0; ⟨g, e, hd.below (below_then HB14.out hbx6 HB14.out.size)⟩
              have e0 := cell_of_row _ _ 0 _ _ _ R6; have e1 := cell_of_row _ _ 1 _ _ _ R6; have e2 := cell_of_row _ _ 2 _ _ _ R6
              clear R6 hb6 hbx6
              go_upto_region 21 with fail
              refine wp_region_held_drew (S := fun w' => w'.cell? ⟨g5, 0, none⟩ = some (.int .i64 0) ∧ w'.cell? ⟨g5, 1, none⟩ = some (.string ⟨#[]⟩) ∧ w'.cell? ⟨g5, 2, none⟩ = some (.int .i64 0)) (by kernel_rfl) ⟨e0, e1, e2⟩ (fun hHeld => ?_)
              refine wpAnyH_take (i := 0) (oi := { dst := some 77, op := Op.move (Operand.tmp 14), type := 4, pos := "law.go:81", after := #[], guard := none }) (v := ?_) rfl (by kernel_rfl) (by kernel_rfl) (by kernel_rfl) (fun _ _ _ h => h) (Or.inl ⟨by rfl, ?_⟩) hHeld ?_
              rotate_left
              · intro w' hSw
                try dsimp only at hSw
                go_simp
                try with_reducible rfl
              try simp only [Act.put, List.setIfInBounds_toArray, List.set_cons_zero, List.set_cons_succ]
              refine wpAnyH_take (i := 1) (oi := { dst := some 78, op := Op.move (Operand.tmp 15), type := 4, pos := "law.go:81", after := #[], guard := none }) (v := ?_) rfl (by kernel_rfl) (by kernel_rfl) (by kernel_rfl) (fun _ _ _ h => h) (Or.inl ⟨by rfl, ?_⟩) hHeld ?_
              rotate_left
              · intro w' hSw
                try dsimp only at hSw
                go_simp
                try with_reducible rfl
              try simp only [Act.put, List.setIfInBounds_toArray, List.set_cons_zero, List.set_cons_succ]
              refine wpAnyH_take (i := 2) (oi := { dst := some 79, op := Op.binOp BinOp.eql 4 (Operand.tmp 77) (Operand.tmp 78) 4, type := 4, pos := "law.go:81", after := #[{ on := 0, ground := Ground.data }, { on := 1, ground := Ground.data }], guard := none }) (v := ?_) rfl (by kernel_rfl) (by kernel_rfl) (by kernel_rfl) (fun _ _ _ h => h) (Or.inl ⟨by rfl, ?_⟩) hHeld ?_
              rotate_left
              · intro w' hSw
                try dsimp only at hSw
                go_simp
                try with_reducible rfl
              try simp only [Act.put, List.setIfInBounds_toArray, List.set_cons_zero, List.set_cons_succ]
              refine wpAnyH_take (i := 3) (oi := { dst := some 80, op := Op.move (Operand.tmp 79), type := 4, pos := "law.go:81", after := #[{ on := 2, ground := Ground.data }], guard := none }) (v := ?_) rfl (by kernel_rfl) (by kernel_rfl) (by kernel_rfl) (fun _ _ _ h => h) (Or.inl ⟨by rfl, ?_⟩) hHeld ?_
              rotate_left
              · intro w' hSw
                try dsimp only at hSw
                go_simp
                try with_reducible rfl
              try simp only [Act.put, List.setIfInBounds_toArray, List.set_cons_zero, List.set_cons_succ]
              refine wpAnyH_take (i := 4) (oi := { dst := some 81, op := Op.move (Operand.tmp 14), type := 4, pos := "law.go:81", after := #[{ on := 3, ground := Ground.guard }], guard := some (3, true) }) (v := ?_) rfl (by kernel_rfl) (by kernel_rfl) (by kernel_rfl) (fun _ _ _ h => h) (Or.inl ⟨by rfl, ?_⟩) hHeld ?_
              rotate_left
              · intro w' hSw
                try dsimp only at hSw
                go_simp
                try with_reducible rfl
              try simp only [Act.put, List.setIfInBounds_toArray, List.set_cons_zero, List.set_cons_succ]
              refine wpAnyH_take (i := 5) (oi := { dst := some 82, op := Op.unOp UnOp.not 4 (Operand.tmp 81), type := 4, pos := "law.go:81", after := #[{ on := 4, ground := Ground.data }, { on := 3, ground := Ground.guard }], guard := some (3, true) }) (v := ?_) rfl (by kernel_rfl) (by kernel_rfl) (by kernel_rfl) (fun _ _ _ h => h) (Or.inl ⟨by rfl, ?_⟩) hHeld ?_
              rotate_left
              · intro w' hSw
                try dsimp only at hSw
                go_simp
                try with_reducible rfl
              try simp only [Act.put, List.setIfInBounds_toArray, List.set_cons_zero, List.set_cons_succ]
              refine wpAnyH_take (i := 6) (oi := { dst := some 83, op := Op.move (Operand.tmp 82), type := 4, pos := "law.go:81", after := #[{ on := 5, ground := Ground.data }, { on := 3, ground := Ground.chain }, { on := 3, ground := Ground.guard }], guard := some (3, true) }) (v := ?_) rfl (by kernel_rfl) (by kernel_rfl) (by kernel_rfl) (fun _ _ _ h => h) (Or.inl ⟨by rfl, ?_⟩) hHeld ?_
              rotate_left
              · intro w' hSw
                try dsimp only at hSw
                go_simp
                try with_reducible rfl
              try simp only [Act.put, List.setIfInBounds_toArray, List.set_cons_zero, List.set_cons_succ]
              refine wpAnyH_take (i := 7) (oi := { dst := some 84, op := Op.load 27 (Operand.tmp 13), type := 27, pos := "law.go:81", after := #[{ on := 6, ground := Ground.guard }], guard := some (6, false) }) (v := undef) rfl (by kernel_rfl) (by kernel_rfl) (by kernel_rfl) (fun _ _ _ h => h) (Or.inr ⟨by rfl, rfl⟩) hHeld ?_
              try simp only [Act.put, List.setIfInBounds_toArray, List.set_cons_zero, List.set_cons_succ]
              refine wpAnyH_take (i := 8) (oi := { dst := some 85, op := Op.move (Operand.tmp 10), type := 22, pos := "law.go:81", after := #[{ on := 6, ground := Ground.guard }], guard := some (6, false) }) (v := undef) rfl (by kernel_rfl) (by kernel_rfl) (by kernel_rfl) (fun _ _ _ h => h) (Or.inr ⟨by rfl, rfl⟩) hHeld ?_
              try simp only [Act.put, List.setIfInBounds_toArray, List.set_cons_zero, List.set_cons_succ]
              refine wpAnyH_take (i := 9) (oi := { dst := some 86, op := Op.indexAddr 22 (Operand.tmp 85) (Operand.const (Value.int IntKind.i64 0)), type := 0, pos := "law.go:81", after := #[{ on := 8, ground := Ground.data }, { on := 6, ground := Ground.guard }], guard := some (6, false) }) (v := undef) rfl (by kernel_rfl) (by kernel_rfl) (by kernel_rfl) (fun _ _ _ h => h) (Or.inr ⟨by rfl, rfl⟩) hHeld ?_
              try simp only [Act.put, List.setIfInBounds_toArray, List.set_cons_zero, List.set_cons_succ]
              refine wpAnyH_take (i := 10) (oi := { dst := some 87, op := Op.load 27 (Operand.tmp 86), type := 27, pos := "law.go:81", after := #[{ on := 9, ground := Ground.data }, { on := 6, ground := Ground.guard }], guard := some (6, false) }) (v := undef) rfl (by kernel_rfl) (by kernel_rfl) (by kernel_rfl) (fun _ _ _ h => h) (Or.inr ⟨by rfl, rfl⟩) hHeld ?_
              try simp only [Act.put, List.setIfInBounds_toArray, List.set_cons_zero, List.set_cons_succ]
              refine wpAnyH_take (i := 11) (oi := { dst := some 88, op := Op.binOp BinOp.eql 27 (Operand.tmp 84) (Operand.tmp 87) 27, type := 4, pos := "law.go:81", after := #[{ on := 7, ground := Ground.data }, { on := 10, ground := Ground.data }, { on := 6, ground := Ground.guard }], guard := some (6, false) }) (v := undef) rfl (by kernel_rfl) (by kernel_rfl) (by kernel_rfl) (fun _ _ _ h => h) (Or.inr ⟨by rfl, rfl⟩) hHeld ?_
              try simp only [Act.put, List.setIfInBounds_toArray, List.set_cons_zero, List.set_cons_succ]
              refine wpAnyH_take (i := 12) (oi := { dst := some 89, op := Op.pick (Operand.tmp 83) (Operand.const (Value.bool true)) (Operand.tmp 88), type := 4, pos := "law.go:81", after := #[{ on := 6, ground := Ground.data }, { on := 11, ground := Ground.data }, { on := 3, ground := Ground.guard }], guard := some (3, true) }) (v := ?_) rfl (by kernel_rfl) (by kernel_rfl) (by kernel_rfl) (fun _ _ _ h => h) (Or.inl ⟨by rfl, ?_⟩) hHeld ?_
              rotate_left
              · intro w' hSw
                try dsimp only at hSw
                go_simp
                try with_reducible rfl
              try simp only [Act.put, List.setIfInBounds_toArray, List.set_cons_zero, List.set_cons_succ]
              refine wpAnyH_take (i := 13) (oi := { dst := some 90, op := Op.pick (Operand.tmp 80) (Operand.tmp 89) (Operand.const (Value.bool false)), type := 4, pos := "law.go:81", after := #[{ on := 3, ground := Ground.data }, { on := 12, ground := Ground.data }], guard := none }) (v := ?_) rfl (by kernel_rfl) (by kernel_rfl) (by kernel_rfl) (fun _ _ _ h => h) (Or.inl ⟨by rfl, ?_⟩) hHeld ?_
              rotate_left
              · intro w' hSw
                try dsimp only at hSw
                go_simp
                try with_reducible rfl
              try simp only [Act.put, List.setIfInBounds_toArray, List.set_cons_zero, List.set_cons_succ]
              refine wpAnyH_take (i := 14) (oi := { dst := some 91, op := Op.move (Operand.tmp 90), type := 4, pos := "law.go:81", after := #[{ on := 13, ground := Ground.data }, { on := 6, ground := Ground.chain }], guard := none }) (v := ?_) rfl (by kernel_rfl) (by kernel_rfl) (by kernel_rfl) (fun _ _ _ h => h) (Or.inl ⟨by rfl, ?_⟩) hHeld ?_
              rotate_left
              · intro w' hSw
                try dsimp only at hSw
                go_simp
                try with_reducible rfl
              try simp only [Act.put, List.setIfInBounds_toArray, List.set_cons_zero, List.set_cons_succ]
              refine wpAnyH_take (i := 15) (oi := { dst := some 92, op := Op.move (Operand.tmp 14), type := 4, pos := "law.go:81", after := #[{ on := 14, ground := Ground.guard }], guard := some (14, true) }) (v := ?_) rfl (by kernel_rfl) (by kernel_rfl) (by kernel_rfl) (fun _ _ _ h => h) (Or.inl ⟨by rfl, ?_⟩) hHeld ?_
              rotate_left
              · intro w' hSw
                try dsimp only at hSw
                go_simp
                try with_reducible rfl
              try simp only [Act.put, List.setIfInBounds_toArray, List.set_cons_zero, List.set_cons_succ]
              refine wpAnyH_take (i := 16) (oi := { dst := some 93, op := Op.move (Operand.tmp 92), type := 4, pos := "law.go:81", after := #[{ on := 15, ground := Ground.data }, { on := 14, ground := Ground.chain }, { on := 14, ground := Ground.guard }], guard := some (14, true) }) (v := ?_) rfl (by kernel_rfl) (by kernel_rfl) (by kernel_rfl) (fun _ _ _ h => h) (Or.inl ⟨by rfl, ?_⟩) hHeld ?_
              rotate_left
              · intro w' hSw
                try dsimp only at hSw
                go_simp
                try with_reducible rfl
              try simp only [Act.put, List.setIfInBounds_toArray, List.set_cons_zero, List.set_cons_succ]
              refine wpAnyH_take (i := 17) (oi := { dst := some 94, op := Op.load 27 (Operand.tmp 13), type := 27, pos := "law.go:81", after := #[{ on := 16, ground := Ground.guard }], guard := some (16, false) }) (v := ?_) rfl (by kernel_rfl) (by kernel_rfl) (by kernel_rfl) (fun _ _ _ h => h) (Or.inl ⟨by rfl, ?_⟩) hHeld ?_
              rotate_left
              · intro w' hSw
                try dsimp only at hSw
                go_simp
                try with_reducible rfl
              try simp only [Act.put, List.setIfInBounds_toArray, List.set_cons_zero, List.set_cons_succ]
              refine wpAnyH_take (i := 18) (oi := { dst := some 95, op := Op.build 27 #[], type := 27, pos := "law.go:81", after := #[{ on := 16, ground := Ground.guard }], guard := some (16, false) }) (v := ?_) rfl (by kernel_rfl) (by kernel_rfl) (by kernel_rfl) (fun _ _ _ h => h) (Or.inl ⟨by rfl, ?_⟩) hHeld ?_
              rotate_left
              · intro w' hSw
                try dsimp only at hSw
                go_simp
                try with_reducible rfl
              try simp only [Act.put, List.setIfInBounds_toArray, List.set_cons_zero, List.set_cons_succ]
              refine wpAnyH_take (i := 19) (oi := { dst := some 96, op := Op.binOp BinOp.eql 27 (Operand.tmp 94) (Operand.tmp 95) 27, type := 4, pos := "law.go:81", after := #[{ on := 17, ground := Ground.data }, { on := 18, ground := Ground.data }, { on := 16, ground := Ground.guard }], guard := some (16, false) }) (v := ?_) rfl (by kernel_rfl) (by kernel_rfl) (by kernel_rfl) (fun _ _ _ h => h) (Or.inl ⟨by rfl, ?_⟩) hHeld ?_
              rotate_left
              · intro w' hSw
                try dsimp only at hSw
                go_simp
                try with_reducible rfl
              try simp only [Act.put, List.setIfInBounds_toArray, List.set_cons_zero, List.set_cons_succ]
              refine wpAnyH_take (i := 20) (oi := { dst := some 97, op := Op.pick (Operand.tmp 93) (Operand.const (Value.bool true)) (Operand.tmp 96), type := 4, pos := "law.go:81", after := #[{ on := 16, ground := Ground.data }, { on := 19, ground := Ground.data }, { on := 14, ground := Ground.guard }], guard := some (14, true) }) (v := ?_) rfl (by kernel_rfl) (by kernel_rfl) (by kernel_rfl) (fun _ _ _ h => h) (Or.inl ⟨by rfl, ?_⟩) hHeld ?_
              rotate_left
              · intro w' hSw
                try dsimp only at hSw
                go_simp
                try with_reducible rfl
              try simp only [Act.put, List.setIfInBounds_toArray, List.set_cons_zero, List.set_cons_succ]
              refine wpAnyH_take (i := 21) (oi := { dst := some 98, op := Op.pick (Operand.tmp 91) (Operand.tmp 97) (Operand.const (Value.bool false)), type := 4, pos := "law.go:81", after := #[{ on := 14, ground := Ground.data }, { on := 20, ground := Ground.data }], guard := none }) (v := ?_) rfl (by kernel_rfl) (by kernel_rfl) (by kernel_rfl) (fun _ _ _ h => h) (Or.inl ⟨by rfl, ?_⟩) hHeld ?_
              rotate_left
              · intro w' hSw
                try dsimp only at hSw
                go_simp
                try with_reducible rfl
              try simp only [Act.put, List.setIfInBounds_toArray, List.set_cons_zero, List.set_cons_succ]
              refine wpAnyH_take (i := 22) (oi := { dst := some 99, op := Op.move (Operand.tmp 98), type := 4, pos := "law.go:81", after := #[{ on := 21, ground := Ground.data }, { on := 16, ground := Ground.chain }], guard := none }) (v := ?_) rfl (by kernel_rfl) (by kernel_rfl) (by kernel_rfl) (fun _ _ _ h => h) (Or.inl ⟨by rfl, ?_⟩) hHeld ?_
              rotate_left
              · intro w' hSw
                try dsimp only at hSw
                go_simp
                try with_reducible rfl
              try simp only [Act.put, List.setIfInBounds_toArray, List.set_cons_zero, List.set_cons_succ]
              refine wpAnyH_take (i := 23) (oi := { dst := some 100, op := Op.move (Operand.tmp 7), type := 22, pos := "law.go:81", after := #[{ on := 22, ground := Ground.guard }], guard := some (22, true) }) (v := ?_) rfl (by kernel_rfl) (by kernel_rfl) (by kernel_rfl) (fun _ _ _ h => h) (Or.inl ⟨by rfl, ?_⟩) hHeld ?_
              rotate_left
              · intro w' hSw
                try dsimp only at hSw
                go_simp
                try with_reducible rfl
              try simp only [Act.put, List.setIfInBounds_toArray, List.set_cons_zero, List.set_cons_succ]
              refine wpAnyH_take (i := 24) (oi := { dst := some 101, op := Op.move (Operand.tmp 0), type := 22, pos := "law.go:81", after := #[{ on := 22, ground := Ground.guard }], guard := some (22, true) }) (v := ?_) rfl (by kernel_rfl) (by kernel_rfl) (by kernel_rfl) (fun _ _ _ h => h) (Or.inl ⟨by rfl, ?_⟩) hHeld ?_
              rotate_left
              · intro w' hSw
                try dsimp only at hSw
                go_simp
                try with_reducible rfl
              try simp only [Act.put, List.setIfInBounds_toArray, List.set_cons_zero, List.set_cons_succ]
              refine wpAnyH_take (i := 25) (oi := { dst := some 102, op := Op.move (Operand.tmp 1), type := 4, pos := "law.go:81", after := #[{ on := 22, ground := Ground.guard }], guard := some (22, true) }) (v := ?_) rfl (by kernel_rfl) (by kernel_rfl) (by kernel_rfl) (fun _ _ _ h => h) (Or.inl ⟨by rfl, ?_⟩) hHeld ?_
              rotate_left
              · intro w' hSw
                try dsimp only at hSw
                go_simp
                try with_reducible rfl
              try simp only [Act.put, List.setIfInBounds_toArray, List.set_cons_zero, List.set_cons_succ]
              refine wpAnyH_ready (rs := [26]) (by kernel_rfl) (by simp) ?_
              refine AllReadyH.cons (o := { dst := some 103, op := Op.call { callee := Callee.value (Operand.func 6), args := #[Operand.tmp 101, Operand.tmp 102], argTypes := #[22, 4] }, type := 22, pos := "law.go:81", after := #[{ on := 24, ground := Ground.data }, { on := 25, ground := Ground.data }, { on := 22, ground := Ground.chain }, { on := 22, ground := Ground.guard }], guard := some (22, true) }) rfl (fun K hK => ?_) AllReadyH.nil
              rw [if_pos (by rfl)]
              go_simp
              go_at_call 6
              refine (DU2.out _ (below_drew HB6.out)).mono ?_
              rintro e w7 ⟨hb7, v7, rfl, ho7⟩
              obtain ⟨A9, c9, rfl⟩ := own_slice ho7
              have hb7w : Below w6.heap.size w6 w7 := below_then (below_drew (Below.refl _ _)) hb7 (Nat.le_refl _)
              have SD := Lib.hid (SameD_any [] A1 A9 c1 c9 w7 (by simp) (fun h0 => let ⟨g, e, hd⟩ := HD6.out h0; ⟨g, e, hd.below hb7w⟩) (dat_of_own ho7))
              refine hK.out _ _ ⟨(hb7w.cell (p := ⟨g5, 0, none⟩) hg5).trans e0, (hb7w.cell (p := ⟨g5, 1, none⟩) hg5).trans e1, (hb7w.cell (p := ⟨g5, 2, none⟩) hg5).trans e2⟩ (fun hHeld7 => ?_)
              clear hK K
              try simp only [Act.put, List.setIfInBounds_toArray, List.set_cons_zero, List.set_cons_succ]
              refine wpAnyH_ready (rs := [27]) (by kernel_rfl) (by simp) ?_
              refine AllReadyH.cons (o := { dst := some 104, op := Op.call { callee := Callee.value (Operand.func 13), args := #[Operand.tmp 100, Operand.tmp 103], argTypes := #[22, 22] }, type := 4, pos := "law.go:81", after := #[{ on := 23, ground := Ground.data }, { on := 26, ground := Ground.data }, { on := 26, ground := Ground.chain }, { on := 22, ground := Ground.guard }], guard := some (22, true) }) rfl (fun K hK => ?_) AllReadyH.nil
              rw [if_pos (by rfl)]
              go_simp
              go_at_call 13
              refine SD.out.mono ?_
              rintro e w8 ⟨rfl, hb8⟩
              have hb8w : Below w6.heap.size w6 w8 := below_then hb7w hb8 hb7w.size
              refine hK.out _ _ ⟨(hb8w.cell (p := ⟨g5, 0, none⟩) hg5).trans e0, (hb8w.cell (p := ⟨g5, 1, none⟩) hg5).trans e1, (hb8w.cell (p := ⟨g5, 2, none⟩) hg5).trans e2⟩ (fun hHeld8 => ?_)
              clear hK K
              try simp only [Act.put, List.setIfInBounds_toArray, List.set_cons_zero, List.set_cons_succ]
              refine wpAnyH_take (i := 28) (oi := { dst := some 105, op := Op.pick (Operand.tmp 99) (Operand.tmp 104) (Operand.const (Value.bool false)), type := 4, pos := "law.go:81", after := #[{ on := 22, ground := Ground.data }, { on := 27, ground := Ground.data }], guard := none }) (v := ?_) rfl (by kernel_rfl) (by kernel_rfl) (by kernel_rfl) (fun _ _ _ h => h) (Or.inl ⟨by rfl, ?_⟩) hHeld8 ?_
              rotate_left
              · intro w' hSw
                try dsimp only at hSw
                go_simp
                try with_reducible rfl
              try simp only [Act.put, List.setIfInBounds_toArray, List.set_cons_zero, List.set_cons_succ]
              refine wpAnyH_take (i := 29) (oi := { dst := some 106, op := Op.move (Operand.tmp 105), type := 4, pos := "law.go:81", after := #[{ on := 28, ground := Ground.data }, { on := 27, ground := Ground.chain }], guard := none }) (v := ?_) rfl (by kernel_rfl) (by kernel_rfl) (by kernel_rfl) (fun _ _ _ h => h) (Or.inl ⟨by rfl, ?_⟩) hHeld8 ?_
              rotate_left
              · intro w' hSw
                try dsimp only at hSw
                go_simp
                try with_reducible rfl
              try simp only [Act.put, List.setIfInBounds_toArray, List.set_cons_zero, List.set_cons_succ]
              refine wpAnyH_ready (rs := [30]) (by kernel_rfl) (by simp) ?_
              refine AllReadyH.cons (o := { dst := some 107, op := Op.call { callee := Callee.value (Operand.func 10), args := #[], argTypes := #[] }, type := 4, pos := "law.go:81", after := #[{ on := 29, ground := Ground.chain }, { on := 29, ground := Ground.guard }], guard := some (29, true) }) rfl (fun K hK => ?_) AllReadyH.nil
              rw [if_pos (by rfl)]
              go_simp
              go_at_call 10
              refine (wakes10 _).mono ?_
              rintro e w9 ⟨rfl, hb9⟩
              have hb9w : Below w6.heap.size w6 w9 := below_then hb8w hb9 hb8w.size
              refine hK.out _ _ ⟨(hb9w.cell (p := ⟨g5, 0, none⟩) hg5).trans e0, (hb9w.cell (p := ⟨g5, 1, none⟩) hg5).trans e1, (hb9w.cell (p := ⟨g5, 2, none⟩) hg5).trans e2⟩ (fun hHeld9 => ?_)
              clear hK K
              try simp only [Act.put, List.setIfInBounds_toArray, List.set_cons_zero, List.set_cons_succ]
              refine wpAnyH_take (i := 31) (oi := { dst := some 108, op := Op.pick (Operand.tmp 106) (Operand.tmp 107) (Operand.const (Value.bool false)), type := 4, pos := "law.go:81", after := #[{ on := 29, ground := Ground.data }, { on := 30, ground := Ground.data }], guard := none }) (v := ?_) rfl (by kernel_rfl) (by kernel_rfl) (by kernel_rfl) (fun _ _ _ h => h) (Or.inl ⟨by rfl, ?_⟩) hHeld9 ?_
              rotate_left
              · intro w' hSw
                try dsimp only at hSw
                go_simp
                try with_reducible rfl
              try simp only [Act.put, List.setIfInBounds_toArray, List.set_cons_zero, List.set_cons_succ]
              refine wpAnyH_take (i := 32) (oi := { dst := some 6, op := Op.assign (Operand.tmp 108), type := 4, pos := "law.go:81", after := #[{ on := 31, ground := Ground.data }, { on := 30, ground := Ground.chain }, { on := 0, ground := Ground.phase }, { on := 1, ground := Ground.phase }, { on := 2, ground := Ground.phase }, { on := 3, ground := Ground.phase }, { on := 4, ground := Ground.phase }, { on := 5, ground := Ground.phase }, { on := 6, ground := Ground.phase }, { on := 7, ground := Ground.phase }, { on := 8, ground := Ground.phase }, { on := 9, ground := Ground.phase }, { on := 10, ground := Ground.phase }, { on := 11, ground := Ground.phase }, { on := 12, ground := Ground.phase }, { on := 13, ground := Ground.phase }, { on := 14, ground := Ground.phase }, { on := 15, ground := Ground.phase }, { on := 16, ground := Ground.phase }, { on := 17, ground := Ground.phase }, { on := 18, ground := Ground.phase }, { on := 19, ground := Ground.phase }, { on := 20, ground := Ground.phase }, { on := 21, ground := Ground.phase }, { on := 22, ground := Ground.phase }, { on := 23, ground := Ground.phase }, { on := 24, ground := Ground.phase }, { on := 25, ground := Ground.phase }, { on := 26, ground := Ground.phase }, { on := 27, ground := Ground.phase }, { on := 28, ground := Ground.phase }, { on := 29, ground := Ground.phase }, { on := 30, ground := Ground.phase }, { on := 31, ground := Ground.phase }], guard := none }) (v := ?_) rfl (by kernel_rfl) (by kernel_rfl) (by kernel_rfl) (fun _ _ _ h => h) (Or.inl ⟨by rfl, ?_⟩) hHeld9 ?_
              rotate_left
              · intro w' hSw
                try dsimp only at hSw
                go_simp
                try with_reducible rfl
              try simp only [Act.put, List.setIfInBounds_toArray, List.set_cons_zero, List.set_cons_succ]
              refine wpAnyH_done (by kernel_rfl) ?_ _
              go_wp2
              go_ret
              exact ⟨rfl, below_then HB6.out hb9w HB6.out.size⟩

            · have hlp : 0 < L.length := by omega
              obtain ⟨g1, rfl, hd1⟩ := HD1.out hlp
              obtain ⟨g6, rfl, hd6w⟩ := HS8.out hlp
              obtain ⟨g7, rfl, hd7w⟩ := HS7.out hlp


              have NX := Lib.hid (Next_any g1 c1 L nw wx hlp (by omega) (hd1.below (below_then HB14.out HBc.out HB14.out.size)))
              have hns : 0 < (srtD L).length := by rw [srt_len]; exact hlp
              have hm : (srtD L)[0] = minK L (L.length - 1) := by
                have h9 := minK_first L hlp
                rw [List.head?_eq_getElem?, List.getElem?_eq_getElem hns] at h9
                exact Option.some.inj h9
              generalize minK L (L.length - 1) = m at *
              have hlpi : (0 : Int) < L.length := by omega
              have hl0i : ¬ ((L.length : Int) = 0) := by omega
              clear hd1
              by_cases hx : m.1 ≤ nw
              · have NX2 : Hid (Calls Try.prog 9 #[.slice (some ⟨g1, 0, none⟩) L.length c1, .int .i64 nw] wx fun e w' => e = .returned (.tuple #[dueV m, .bool true]) ∧ Below wx.heap.size wx w') := NX.out.mono fun e w' ⟨hb, he⟩ => ⟨by rw [he, if_pos hx, decide_eq_true hx], hb⟩
                clear NX
                go_upto_region 20 with (go_at_call 9; refine NX2.out.mono ?_; rintro e w5 ⟨rfl, hb5⟩; have HBX5 := Lib.hid (below_then HBc.out hb5 HBc.out.size); have HB5 := Lib.hid (below_then HBW.out hb5 HBW.out.size); clear hb5)
                clear NX2
                have hb6 := below_then HB5.out (box_b w5 (.cells #[.int .i64 m.1, .string (bs m.2.1), .int .i64 m.2.2] 27)) HB5.out.size
                have R6 := heap_alloc_new w5 (.cells #[.int .i64 m.1, .string (bs m.2.1), .int .i64 m.2.2] 27)
                have hbx6 := below_then HBX5.out (box_b w5 (.cells #[.int .i64 m.1, .string (bs m.2.1), .int .i64 m.2.2] 27)) HBX5.out.size
                have hg5 : w5.heap.size < (w5.alloc (.cells #[.int .i64 m.1, .string (bs m.2.1), .int .i64 m.2.2] 27)).heap.size := by simp
                generalize w5.alloc (.cells #[.int .i64 m.1, .string (bs m.2.1), .int .i64 m.2.2] 27) = w6 at *
                generalize w5.heap.size = g5 at *
                have HB6 := Lib.hid hb6
                have HD6 : Hid (0 < L.length → ∃ g, (some ⟨g1, 0, none⟩ : Option Addr) = some ⟨g, 0, none⟩ ∧ DAt w6 g L) := fun h0 => let ⟨g, e, hd⟩ := HD1.out h0; ⟨g, e, hd.below (below_then HB14.out hbx6 HB14.out.size)⟩
                have hd7 := hd7w.below hbx6
                obtain ⟨s0, s1, s2⟩ := hd7.2 0 hns
                rw [hm] at s0 s1 s2
                simp only [Nat.zero_mul, Nat.zero_add] at s0 s1 s2
                have HR6 := Lib.hid R6
                have hd6 := hd6w.below hbx6
                have hg6 := hd6.1
                obtain ⟨q0, q1, q2⟩ := hd6.2 0 hns
                rw [hm] at q0 q1 q2
                simp only [Nat.zero_mul, Nat.zero_add] at q0 q1 q2
                have e0 := cell_of_row _ _ 0 _ _ _ R6; have e1 := cell_of_row _ _ 1 _ _ _ R6; have e2 := cell_of_row _ _ 2 _ _ _ R6
                clear R6 hb6 hbx6
                go_upto_region 21 with fail
                refine wp_region_held_drew (S := fun w' => w'.cell? ⟨g5, 0, none⟩ = some (.int .i64 m.1) ∧ w'.cell? ⟨g5, 1, none⟩ = some (.string (bs m.2.1)) ∧ w'.cell? ⟨g5, 2, none⟩ = some (.int .i64 m.2.2) ∧ w'.cell? ⟨g6, 0, none⟩ = some (.int .i64 m.1) ∧ w'.cell? ⟨g6, 1, none⟩ = some (.string (bs m.2.1)) ∧ w'.cell? ⟨g6, 2, none⟩ = some (.int .i64 m.2.2)) (by kernel_rfl) ⟨e0, e1, e2, q0, q1, q2⟩ (fun hHeld => ?_)
                refine wpAnyH_take (i := 0) (oi := { dst := some 77, op := Op.move (Operand.tmp 14), type := 4, pos := "law.go:81", after := #[], guard := none }) (v := ?_) rfl (by kernel_rfl) (by kernel_rfl) (by kernel_rfl) (fun _ _ _ h => h) (Or.inl ⟨by rfl, ?_⟩) hHeld ?_
                rotate_left
                · intro w' hSw
                  try dsimp only at hSw
                  go_simp
                  try with_reducible rfl
                try simp only [Act.put, List.setIfInBounds_toArray, List.set_cons_zero, List.set_cons_succ]
                refine wpAnyH_take (i := 1) (oi := { dst := some 78, op := Op.move (Operand.tmp 15), type := 4, pos := "law.go:81", after := #[], guard := none }) (v := ?_) rfl (by kernel_rfl) (by kernel_rfl) (by kernel_rfl) (fun _ _ _ h => h) (Or.inl ⟨by rfl, ?_⟩) hHeld ?_
                rotate_left
                · intro w' hSw
                  try dsimp only at hSw
                  go_simp
                  try with_reducible rfl
                try simp only [Act.put, List.setIfInBounds_toArray, List.set_cons_zero, List.set_cons_succ]
                refine wpAnyH_take (i := 2) (oi := { dst := some 79, op := Op.binOp BinOp.eql 4 (Operand.tmp 77) (Operand.tmp 78) 4, type := 4, pos := "law.go:81", after := #[{ on := 0, ground := Ground.data }, { on := 1, ground := Ground.data }], guard := none }) (v := ?_) rfl (by kernel_rfl) (by kernel_rfl) (by kernel_rfl) (fun _ _ _ h => h) (Or.inl ⟨by rfl, ?_⟩) hHeld ?_
                rotate_left
                · intro w' hSw
                  try dsimp only at hSw
                  go_simp
                  try with_reducible rfl
                try simp only [Act.put, List.setIfInBounds_toArray, List.set_cons_zero, List.set_cons_succ]
                refine wpAnyH_take (i := 3) (oi := { dst := some 80, op := Op.move (Operand.tmp 79), type := 4, pos := "law.go:81", after := #[{ on := 2, ground := Ground.data }], guard := none }) (v := ?_) rfl (by kernel_rfl) (by kernel_rfl) (by kernel_rfl) (fun _ _ _ h => h) (Or.inl ⟨by rfl, ?_⟩) hHeld ?_
                rotate_left
                · intro w' hSw
                  try dsimp only at hSw
                  go_simp
                  try with_reducible rfl
                try simp only [Act.put, List.setIfInBounds_toArray, List.set_cons_zero, List.set_cons_succ]
                refine wpAnyH_take (i := 4) (oi := { dst := some 81, op := Op.move (Operand.tmp 14), type := 4, pos := "law.go:81", after := #[{ on := 3, ground := Ground.guard }], guard := some (3, true) }) (v := ?_) rfl (by kernel_rfl) (by kernel_rfl) (by kernel_rfl) (fun _ _ _ h => h) (Or.inl ⟨by rfl, ?_⟩) hHeld ?_
                rotate_left
                · intro w' hSw
                  try dsimp only at hSw
                  go_simp
                  try with_reducible rfl
                try simp only [Act.put, List.setIfInBounds_toArray, List.set_cons_zero, List.set_cons_succ]
                refine wpAnyH_take (i := 5) (oi := { dst := some 82, op := Op.unOp UnOp.not 4 (Operand.tmp 81), type := 4, pos := "law.go:81", after := #[{ on := 4, ground := Ground.data }, { on := 3, ground := Ground.guard }], guard := some (3, true) }) (v := ?_) rfl (by kernel_rfl) (by kernel_rfl) (by kernel_rfl) (fun _ _ _ h => h) (Or.inl ⟨by rfl, ?_⟩) hHeld ?_
                rotate_left
                · intro w' hSw
                  try dsimp only at hSw
                  go_simp
                  try with_reducible rfl
                try simp only [Act.put, List.setIfInBounds_toArray, List.set_cons_zero, List.set_cons_succ]
                refine wpAnyH_take (i := 6) (oi := { dst := some 83, op := Op.move (Operand.tmp 82), type := 4, pos := "law.go:81", after := #[{ on := 5, ground := Ground.data }, { on := 3, ground := Ground.chain }, { on := 3, ground := Ground.guard }], guard := some (3, true) }) (v := ?_) rfl (by kernel_rfl) (by kernel_rfl) (by kernel_rfl) (fun _ _ _ h => h) (Or.inl ⟨by rfl, ?_⟩) hHeld ?_
                rotate_left
                · intro w' hSw
                  try dsimp only at hSw
                  go_simp
                  try with_reducible rfl
                try simp only [Act.put, List.setIfInBounds_toArray, List.set_cons_zero, List.set_cons_succ]
                refine wpAnyH_take (i := 7) (oi := { dst := some 84, op := Op.load 27 (Operand.tmp 13), type := 27, pos := "law.go:81", after := #[{ on := 6, ground := Ground.guard }], guard := some (6, false) }) (v := ?_) rfl (by kernel_rfl) (by kernel_rfl) (by kernel_rfl) (fun _ _ _ h => h) (Or.inl ⟨by rfl, ?_⟩) hHeld ?_
                rotate_left
                · intro w' hSw
                  try dsimp only at hSw
                  go_simp
                  try with_reducible rfl
                try simp only [Act.put, List.setIfInBounds_toArray, List.set_cons_zero, List.set_cons_succ]
                refine wpAnyH_take (i := 8) (oi := { dst := some 85, op := Op.move (Operand.tmp 10), type := 22, pos := "law.go:81", after := #[{ on := 6, ground := Ground.guard }], guard := some (6, false) }) (v := ?_) rfl (by kernel_rfl) (by kernel_rfl) (by kernel_rfl) (fun _ _ _ h => h) (Or.inl ⟨by rfl, ?_⟩) hHeld ?_
                rotate_left
                · intro w' hSw
                  try dsimp only at hSw
                  go_simp
                  try with_reducible rfl
                try simp only [Act.put, List.setIfInBounds_toArray, List.set_cons_zero, List.set_cons_succ]
                refine wpAnyH_take (i := 9) (oi := { dst := some 86, op := Op.indexAddr 22 (Operand.tmp 85) (Operand.const (Value.int IntKind.i64 0)), type := 0, pos := "law.go:81", after := #[{ on := 8, ground := Ground.data }, { on := 6, ground := Ground.guard }], guard := some (6, false) }) (v := ?_) rfl (by kernel_rfl) (by kernel_rfl) (by kernel_rfl) (fun _ _ _ h => h) (Or.inl ⟨by rfl, ?_⟩) hHeld ?_
                rotate_left
                · intro w' hSw
                  try dsimp only at hSw
                  go_simp
                  try with_reducible rfl
                try simp only [Act.put, List.setIfInBounds_toArray, List.set_cons_zero, List.set_cons_succ]
                refine wpAnyH_take (i := 10) (oi := { dst := some 87, op := Op.load 27 (Operand.tmp 86), type := 27, pos := "law.go:81", after := #[{ on := 9, ground := Ground.data }, { on := 6, ground := Ground.guard }], guard := some (6, false) }) (v := ?_) rfl (by kernel_rfl) (by kernel_rfl) (by kernel_rfl) (fun _ _ _ h => h) (Or.inl ⟨by rfl, ?_⟩) hHeld ?_
                rotate_left
                · intro w' hSw
                  try dsimp only at hSw
                  go_simp
                  try with_reducible rfl
                try simp only [Act.put, List.setIfInBounds_toArray, List.set_cons_zero, List.set_cons_succ]
                refine wpAnyH_take (i := 11) (oi := { dst := some 88, op := Op.binOp BinOp.eql 27 (Operand.tmp 84) (Operand.tmp 87) 27, type := 4, pos := "law.go:81", after := #[{ on := 7, ground := Ground.data }, { on := 10, ground := Ground.data }, { on := 6, ground := Ground.guard }], guard := some (6, false) }) (v := ?_) rfl (by kernel_rfl) (by kernel_rfl) (by kernel_rfl) (fun _ _ _ h => h) (Or.inl ⟨by rfl, ?_⟩) hHeld ?_
                rotate_left
                · intro w' hSw
                  try dsimp only at hSw
                  go_simp
                  try with_reducible rfl
                try simp only [Act.put, List.setIfInBounds_toArray, List.set_cons_zero, List.set_cons_succ]
                refine wpAnyH_take (i := 12) (oi := { dst := some 89, op := Op.pick (Operand.tmp 83) (Operand.const (Value.bool true)) (Operand.tmp 88), type := 4, pos := "law.go:81", after := #[{ on := 6, ground := Ground.data }, { on := 11, ground := Ground.data }, { on := 3, ground := Ground.guard }], guard := some (3, true) }) (v := ?_) rfl (by kernel_rfl) (by kernel_rfl) (by kernel_rfl) (fun _ _ _ h => h) (Or.inl ⟨by rfl, ?_⟩) hHeld ?_
                rotate_left
                · intro w' hSw
                  try dsimp only at hSw
                  go_simp
                  try with_reducible rfl
                try simp only [Act.put, List.setIfInBounds_toArray, List.set_cons_zero, List.set_cons_succ]
                refine wpAnyH_take (i := 13) (oi := { dst := some 90, op := Op.pick (Operand.tmp 80) (Operand.tmp 89) (Operand.const (Value.bool false)), type := 4, pos := "law.go:81", after := #[{ on := 3, ground := Ground.data }, { on := 12, ground := Ground.data }], guard := none }) (v := ?_) rfl (by kernel_rfl) (by kernel_rfl) (by kernel_rfl) (fun _ _ _ h => h) (Or.inl ⟨by rfl, ?_⟩) hHeld ?_
                rotate_left
                · intro w' hSw
                  try dsimp only at hSw
                  go_simp
                  try with_reducible rfl
                try simp only [Act.put, List.setIfInBounds_toArray, List.set_cons_zero, List.set_cons_succ]
                refine wpAnyH_take (i := 14) (oi := { dst := some 91, op := Op.move (Operand.tmp 90), type := 4, pos := "law.go:81", after := #[{ on := 13, ground := Ground.data }, { on := 6, ground := Ground.chain }], guard := none }) (v := ?_) rfl (by kernel_rfl) (by kernel_rfl) (by kernel_rfl) (fun _ _ _ h => h) (Or.inl ⟨by rfl, ?_⟩) hHeld ?_
                rotate_left
                · intro w' hSw
                  try dsimp only at hSw
                  go_simp
                  try with_reducible rfl
                try simp only [Act.put, List.setIfInBounds_toArray, List.set_cons_zero, List.set_cons_succ]
                refine wpAnyH_take (i := 15) (oi := { dst := some 92, op := Op.move (Operand.tmp 14), type := 4, pos := "law.go:81", after := #[{ on := 14, ground := Ground.guard }], guard := some (14, true) }) (v := ?_) rfl (by kernel_rfl) (by kernel_rfl) (by kernel_rfl) (fun _ _ _ h => h) (Or.inl ⟨by rfl, ?_⟩) hHeld ?_
                rotate_left
                · intro w' hSw
                  try dsimp only at hSw
                  go_simp
                  try with_reducible rfl
                try simp only [Act.put, List.setIfInBounds_toArray, List.set_cons_zero, List.set_cons_succ]
                refine wpAnyH_take (i := 16) (oi := { dst := some 93, op := Op.move (Operand.tmp 92), type := 4, pos := "law.go:81", after := #[{ on := 15, ground := Ground.data }, { on := 14, ground := Ground.chain }, { on := 14, ground := Ground.guard }], guard := some (14, true) }) (v := ?_) rfl (by kernel_rfl) (by kernel_rfl) (by kernel_rfl) (fun _ _ _ h => h) (Or.inl ⟨by rfl, ?_⟩) hHeld ?_
                rotate_left
                · intro w' hSw
                  try dsimp only at hSw
                  go_simp
                  try with_reducible rfl
                try simp only [Act.put, List.setIfInBounds_toArray, List.set_cons_zero, List.set_cons_succ]
                refine wpAnyH_take (i := 17) (oi := { dst := some 94, op := Op.load 27 (Operand.tmp 13), type := 27, pos := "law.go:81", after := #[{ on := 16, ground := Ground.guard }], guard := some (16, false) }) (v := undef) rfl (by kernel_rfl) (by kernel_rfl) (by kernel_rfl) (fun _ _ _ h => h) (Or.inr ⟨by rfl, rfl⟩) hHeld ?_
                try simp only [Act.put, List.setIfInBounds_toArray, List.set_cons_zero, List.set_cons_succ]
                refine wpAnyH_take (i := 18) (oi := { dst := some 95, op := Op.build 27 #[], type := 27, pos := "law.go:81", after := #[{ on := 16, ground := Ground.guard }], guard := some (16, false) }) (v := undef) rfl (by kernel_rfl) (by kernel_rfl) (by kernel_rfl) (fun _ _ _ h => h) (Or.inr ⟨by rfl, rfl⟩) hHeld ?_
                try simp only [Act.put, List.setIfInBounds_toArray, List.set_cons_zero, List.set_cons_succ]
                refine wpAnyH_take (i := 19) (oi := { dst := some 96, op := Op.binOp BinOp.eql 27 (Operand.tmp 94) (Operand.tmp 95) 27, type := 4, pos := "law.go:81", after := #[{ on := 17, ground := Ground.data }, { on := 18, ground := Ground.data }, { on := 16, ground := Ground.guard }], guard := some (16, false) }) (v := undef) rfl (by kernel_rfl) (by kernel_rfl) (by kernel_rfl) (fun _ _ _ h => h) (Or.inr ⟨by rfl, rfl⟩) hHeld ?_
                try simp only [Act.put, List.setIfInBounds_toArray, List.set_cons_zero, List.set_cons_succ]
                refine wpAnyH_take (i := 20) (oi := { dst := some 97, op := Op.pick (Operand.tmp 93) (Operand.const (Value.bool true)) (Operand.tmp 96), type := 4, pos := "law.go:81", after := #[{ on := 16, ground := Ground.data }, { on := 19, ground := Ground.data }, { on := 14, ground := Ground.guard }], guard := some (14, true) }) (v := ?_) rfl (by kernel_rfl) (by kernel_rfl) (by kernel_rfl) (fun _ _ _ h => h) (Or.inl ⟨by rfl, ?_⟩) hHeld ?_
                rotate_left
                · intro w' hSw
                  try dsimp only at hSw
                  go_simp
                  try with_reducible rfl
                try simp only [Act.put, List.setIfInBounds_toArray, List.set_cons_zero, List.set_cons_succ]
                refine wpAnyH_take (i := 21) (oi := { dst := some 98, op := Op.pick (Operand.tmp 91) (Operand.tmp 97) (Operand.const (Value.bool false)), type := 4, pos := "law.go:81", after := #[{ on := 14, ground := Ground.data }, { on := 20, ground := Ground.data }], guard := none }) (v := ?_) rfl (by kernel_rfl) (by kernel_rfl) (by kernel_rfl) (fun _ _ _ h => h) (Or.inl ⟨by rfl, ?_⟩) hHeld ?_
                rotate_left
                · intro w' hSw
                  try dsimp only at hSw
                  go_simp
                  try with_reducible rfl
                try simp only [Act.put, List.setIfInBounds_toArray, List.set_cons_zero, List.set_cons_succ]
                refine wpAnyH_take (i := 22) (oi := { dst := some 99, op := Op.move (Operand.tmp 98), type := 4, pos := "law.go:81", after := #[{ on := 21, ground := Ground.data }, { on := 16, ground := Ground.chain }], guard := none }) (v := ?_) rfl (by kernel_rfl) (by kernel_rfl) (by kernel_rfl) (fun _ _ _ h => h) (Or.inl ⟨by rfl, ?_⟩) hHeld ?_
                rotate_left
                · intro w' hSw
                  try dsimp only at hSw
                  go_simp
                  try with_reducible rfl
                try simp only [Act.put, List.setIfInBounds_toArray, List.set_cons_zero, List.set_cons_succ]
                refine wpAnyH_take (i := 23) (oi := { dst := some 100, op := Op.move (Operand.tmp 7), type := 22, pos := "law.go:81", after := #[{ on := 22, ground := Ground.guard }], guard := some (22, true) }) (v := ?_) rfl (by kernel_rfl) (by kernel_rfl) (by kernel_rfl) (fun _ _ _ h => h) (Or.inl ⟨by rfl, ?_⟩) hHeld ?_
                rotate_left
                · intro w' hSw
                  try dsimp only at hSw
                  go_simp
                  try with_reducible rfl
                try simp only [Act.put, List.setIfInBounds_toArray, List.set_cons_zero, List.set_cons_succ]
                refine wpAnyH_take (i := 24) (oi := { dst := some 101, op := Op.move (Operand.tmp 0), type := 22, pos := "law.go:81", after := #[{ on := 22, ground := Ground.guard }], guard := some (22, true) }) (v := ?_) rfl (by kernel_rfl) (by kernel_rfl) (by kernel_rfl) (fun _ _ _ h => h) (Or.inl ⟨by rfl, ?_⟩) hHeld ?_
                rotate_left
                · intro w' hSw
                  try dsimp only at hSw
                  go_simp
                  try with_reducible rfl
                try simp only [Act.put, List.setIfInBounds_toArray, List.set_cons_zero, List.set_cons_succ]
                refine wpAnyH_take (i := 25) (oi := { dst := some 102, op := Op.move (Operand.tmp 1), type := 4, pos := "law.go:81", after := #[{ on := 22, ground := Ground.guard }], guard := some (22, true) }) (v := ?_) rfl (by kernel_rfl) (by kernel_rfl) (by kernel_rfl) (fun _ _ _ h => h) (Or.inl ⟨by rfl, ?_⟩) hHeld ?_
                rotate_left
                · intro w' hSw
                  try dsimp only at hSw
                  go_simp
                  try with_reducible rfl
                try simp only [Act.put, List.setIfInBounds_toArray, List.set_cons_zero, List.set_cons_succ]
                refine wpAnyH_ready (rs := [26]) (by kernel_rfl) (by simp) ?_
                refine AllReadyH.cons (o := { dst := some 103, op := Op.call { callee := Callee.value (Operand.func 6), args := #[Operand.tmp 101, Operand.tmp 102], argTypes := #[22, 4] }, type := 22, pos := "law.go:81", after := #[{ on := 24, ground := Ground.data }, { on := 25, ground := Ground.data }, { on := 22, ground := Ground.chain }, { on := 22, ground := Ground.guard }], guard := some (22, true) }) rfl (fun K hK => ?_) AllReadyH.nil
                rw [if_pos (by rfl)]
                go_simp
                go_at_call 6
                refine (DU2.out _ (below_drew HB6.out)).mono ?_
                rintro e w7 ⟨hb7, v7, rfl, ho7⟩
                obtain ⟨A9, c9, rfl⟩ := own_slice ho7
                have hb7w : Below w6.heap.size w6 w7 := below_then (below_drew (Below.refl _ _)) hb7 (Nat.le_refl _)
                have SD := Lib.hid (SameD_any L (some ⟨g1, 0, none⟩) A9 c1 c9 w7 (by omega) (fun h0 => let ⟨g, e, hd⟩ := HD6.out h0; ⟨g, e, hd.below hb7w⟩) (dat_of_own ho7))
                refine hK.out _ _ ⟨(hb7w.cell (p := ⟨g5, 0, none⟩) hg5).trans e0, (hb7w.cell (p := ⟨g5, 1, none⟩) hg5).trans e1, (hb7w.cell (p := ⟨g5, 2, none⟩) hg5).trans e2, (hb7w.cell (p := ⟨g6, 0, none⟩) hg6).trans q0, (hb7w.cell (p := ⟨g6, 1, none⟩) hg6).trans q1, (hb7w.cell (p := ⟨g6, 2, none⟩) hg6).trans q2⟩ (fun hHeld7 => ?_)
                clear hK K
                try simp only [Act.put, List.setIfInBounds_toArray, List.set_cons_zero, List.set_cons_succ]
                refine wpAnyH_ready (rs := [27]) (by kernel_rfl) (by simp) ?_
                refine AllReadyH.cons (o := { dst := some 104, op := Op.call { callee := Callee.value (Operand.func 13), args := #[Operand.tmp 100, Operand.tmp 103], argTypes := #[22, 22] }, type := 4, pos := "law.go:81", after := #[{ on := 23, ground := Ground.data }, { on := 26, ground := Ground.data }, { on := 26, ground := Ground.chain }, { on := 22, ground := Ground.guard }], guard := some (22, true) }) rfl (fun K hK => ?_) AllReadyH.nil
                rw [if_pos (by rfl)]
                go_simp
                go_at_call 13
                refine SD.out.mono ?_
                rintro e w8 ⟨rfl, hb8⟩
                have hb8w : Below w6.heap.size w6 w8 := below_then hb7w hb8 hb7w.size
                refine hK.out _ _ ⟨(hb8w.cell (p := ⟨g5, 0, none⟩) hg5).trans e0, (hb8w.cell (p := ⟨g5, 1, none⟩) hg5).trans e1, (hb8w.cell (p := ⟨g5, 2, none⟩) hg5).trans e2, (hb8w.cell (p := ⟨g6, 0, none⟩) hg6).trans q0, (hb8w.cell (p := ⟨g6, 1, none⟩) hg6).trans q1, (hb8w.cell (p := ⟨g6, 2, none⟩) hg6).trans q2⟩ (fun hHeld8 => ?_)
                clear hK K
                try simp only [Act.put, List.setIfInBounds_toArray, List.set_cons_zero, List.set_cons_succ]
                refine wpAnyH_take (i := 28) (oi := { dst := some 105, op := Op.pick (Operand.tmp 99) (Operand.tmp 104) (Operand.const (Value.bool false)), type := 4, pos := "law.go:81", after := #[{ on := 22, ground := Ground.data }, { on := 27, ground := Ground.data }], guard := none }) (v := ?_) rfl (by kernel_rfl) (by kernel_rfl) (by kernel_rfl) (fun _ _ _ h => h) (Or.inl ⟨by rfl, ?_⟩) hHeld8 ?_
                rotate_left
                · intro w' hSw
                  try dsimp only at hSw
                  go_simp
                  try with_reducible rfl
                try simp only [Act.put, List.setIfInBounds_toArray, List.set_cons_zero, List.set_cons_succ]
                refine wpAnyH_take (i := 29) (oi := { dst := some 106, op := Op.move (Operand.tmp 105), type := 4, pos := "law.go:81", after := #[{ on := 28, ground := Ground.data }, { on := 27, ground := Ground.chain }], guard := none }) (v := ?_) rfl (by kernel_rfl) (by kernel_rfl) (by kernel_rfl) (fun _ _ _ h => h) (Or.inl ⟨by rfl, ?_⟩) hHeld8 ?_
                rotate_left
                · intro w' hSw
                  try dsimp only at hSw
                  go_simp
                  try with_reducible rfl
                try simp only [Act.put, List.setIfInBounds_toArray, List.set_cons_zero, List.set_cons_succ]
                refine wpAnyH_ready (rs := [30]) (by kernel_rfl) (by simp) ?_
                refine AllReadyH.cons (o := { dst := some 107, op := Op.call { callee := Callee.value (Operand.func 10), args := #[], argTypes := #[] }, type := 4, pos := "law.go:81", after := #[{ on := 29, ground := Ground.chain }, { on := 29, ground := Ground.guard }], guard := some (29, true) }) rfl (fun K hK => ?_) AllReadyH.nil
                rw [if_pos (by rfl)]
                go_simp
                go_at_call 10
                refine (wakes10 _).mono ?_
                rintro e w9 ⟨rfl, hb9⟩
                have hb9w : Below w6.heap.size w6 w9 := below_then hb8w hb9 hb8w.size
                refine hK.out _ _ ⟨(hb9w.cell (p := ⟨g5, 0, none⟩) hg5).trans e0, (hb9w.cell (p := ⟨g5, 1, none⟩) hg5).trans e1, (hb9w.cell (p := ⟨g5, 2, none⟩) hg5).trans e2, (hb9w.cell (p := ⟨g6, 0, none⟩) hg6).trans q0, (hb9w.cell (p := ⟨g6, 1, none⟩) hg6).trans q1, (hb9w.cell (p := ⟨g6, 2, none⟩) hg6).trans q2⟩ (fun hHeld9 => ?_)
                clear hK K
                try simp only [Act.put, List.setIfInBounds_toArray, List.set_cons_zero, List.set_cons_succ]
                refine wpAnyH_take (i := 31) (oi := { dst := some 108, op := Op.pick (Operand.tmp 106) (Operand.tmp 107) (Operand.const (Value.bool false)), type := 4, pos := "law.go:81", after := #[{ on := 29, ground := Ground.data }, { on := 30, ground := Ground.data }], guard := none }) (v := ?_) rfl (by kernel_rfl) (by kernel_rfl) (by kernel_rfl) (fun _ _ _ h => h) (Or.inl ⟨by rfl, ?_⟩) hHeld9 ?_
                rotate_left
                · intro w' hSw
                  try dsimp only at hSw
                  go_simp
                  try with_reducible rfl
                try simp only [Act.put, List.setIfInBounds_toArray, List.set_cons_zero, List.set_cons_succ]
                refine wpAnyH_take (i := 32) (oi := { dst := some 6, op := Op.assign (Operand.tmp 108), type := 4, pos := "law.go:81", after := #[{ on := 31, ground := Ground.data }, { on := 30, ground := Ground.chain }, { on := 0, ground := Ground.phase }, { on := 1, ground := Ground.phase }, { on := 2, ground := Ground.phase }, { on := 3, ground := Ground.phase }, { on := 4, ground := Ground.phase }, { on := 5, ground := Ground.phase }, { on := 6, ground := Ground.phase }, { on := 7, ground := Ground.phase }, { on := 8, ground := Ground.phase }, { on := 9, ground := Ground.phase }, { on := 10, ground := Ground.phase }, { on := 11, ground := Ground.phase }, { on := 12, ground := Ground.phase }, { on := 13, ground := Ground.phase }, { on := 14, ground := Ground.phase }, { on := 15, ground := Ground.phase }, { on := 16, ground := Ground.phase }, { on := 17, ground := Ground.phase }, { on := 18, ground := Ground.phase }, { on := 19, ground := Ground.phase }, { on := 20, ground := Ground.phase }, { on := 21, ground := Ground.phase }, { on := 22, ground := Ground.phase }, { on := 23, ground := Ground.phase }, { on := 24, ground := Ground.phase }, { on := 25, ground := Ground.phase }, { on := 26, ground := Ground.phase }, { on := 27, ground := Ground.phase }, { on := 28, ground := Ground.phase }, { on := 29, ground := Ground.phase }, { on := 30, ground := Ground.phase }, { on := 31, ground := Ground.phase }], guard := none }) (v := ?_) rfl (by kernel_rfl) (by kernel_rfl) (by kernel_rfl) (fun _ _ _ h => h) (Or.inl ⟨by rfl, ?_⟩) hHeld9 ?_
                rotate_left
                · intro w' hSw
                  try dsimp only at hSw
                  go_simp
                  try with_reducible rfl
                try simp only [Act.put, List.setIfInBounds_toArray, List.set_cons_zero, List.set_cons_succ]
                refine wpAnyH_done (by kernel_rfl) ?_ _
                go_wp2
                go_ret
                exact ⟨rfl, below_then HB6.out hb9w HB6.out.size⟩

              · have NX2 : Hid (Calls Try.prog 9 #[.slice (some ⟨g1, 0, none⟩) L.length c1, .int .i64 nw] wx fun e w' => e = .returned (.tuple #[.agg #[.int .i64 0, .string ⟨#[]⟩, .int .i64 0], .bool false]) ∧ Below wx.heap.size wx w') := NX.out.mono fun e w' ⟨hb, he⟩ => ⟨by rw [he, if_neg hx, decide_eq_false hx], hb⟩
                clear NX
                have hxn : nw < m.1 := by omega
                go_upto_region 20 with (go_at_call 9; refine NX2.out.mono ?_; rintro e w5 ⟨rfl, hb5⟩; have HBX5 := Lib.hid (below_then HBc.out hb5 HBc.out.size); have HB5 := Lib.hid (below_then HBW.out hb5 HBW.out.size); clear hb5)
                clear NX2
                have hb6 := below_then HB5.out (box_b w5 (.cells #[.int .i64 0, .string ⟨#[]⟩, .int .i64 0] 27)) HB5.out.size
                have R6 := heap_alloc_new w5 (.cells #[.int .i64 0, .string ⟨#[]⟩, .int .i64 0] 27)
                have hbx6 := below_then HBX5.out (box_b w5 (.cells #[.int .i64 0, .string ⟨#[]⟩, .int .i64 0] 27)) HBX5.out.size
                have hg5 : w5.heap.size < (w5.alloc (.cells #[.int .i64 0, .string ⟨#[]⟩, .int .i64 0] 27)).heap.size := by simp
                generalize w5.alloc (.cells #[.int .i64 0, .string ⟨#[]⟩, .int .i64 0] 27) = w6 at *
                generalize w5.heap.size = g5 at *
                have HB6 := Lib.hid hb6
                have HD6 : Hid (0 < L.length → ∃ g, (some ⟨g1, 0, none⟩ : Option Addr) = some ⟨g, 0, none⟩ ∧ DAt w6 g L) := fun h0 => let ⟨g, e, hd⟩ := HD1.out h0; ⟨g, e, hd.below (below_then HB14.out hbx6 HB14.out.size)⟩
                have hd7 := hd7w.below hbx6
                obtain ⟨s0, s1, s2⟩ := hd7.2 0 hns
                rw [hm] at s0 s1 s2
                simp only [Nat.zero_mul, Nat.zero_add] at s0 s1 s2
                have HR6 := Lib.hid R6
                have e0 := cell_of_row _ _ 0 _ _ _ R6; have e1 := cell_of_row _ _ 1 _ _ _ R6; have e2 := cell_of_row _ _ 2 _ _ _ R6
                clear R6 hb6 hbx6
                go_upto_region 21 with fail
                rw [show decide (m.1 ≤ nw) = false from decide_eq_false (by omega)]
                refine wp_region_held_drew (S := fun w' => w'.cell? ⟨g5, 0, none⟩ = some (.int .i64 0) ∧ w'.cell? ⟨g5, 1, none⟩ = some (.string ⟨#[]⟩) ∧ w'.cell? ⟨g5, 2, none⟩ = some (.int .i64 0)) (by kernel_rfl) ⟨e0, e1, e2⟩ (fun hHeld => ?_)
                refine wpAnyH_take (i := 0) (oi := { dst := some 77, op := Op.move (Operand.tmp 14), type := 4, pos := "law.go:81", after := #[], guard := none }) (v := ?_) rfl (by kernel_rfl) (by kernel_rfl) (by kernel_rfl) (fun _ _ _ h => h) (Or.inl ⟨by rfl, ?_⟩) hHeld ?_
                rotate_left
                · intro w' hSw
                  try dsimp only at hSw
                  go_simp
                  try with_reducible rfl
                try simp only [Act.put, List.setIfInBounds_toArray, List.set_cons_zero, List.set_cons_succ]
                refine wpAnyH_take (i := 1) (oi := { dst := some 78, op := Op.move (Operand.tmp 15), type := 4, pos := "law.go:81", after := #[], guard := none }) (v := ?_) rfl (by kernel_rfl) (by kernel_rfl) (by kernel_rfl) (fun _ _ _ h => h) (Or.inl ⟨by rfl, ?_⟩) hHeld ?_
                rotate_left
                · intro w' hSw
                  try dsimp only at hSw
                  go_simp
                  try with_reducible rfl
                try simp only [Act.put, List.setIfInBounds_toArray, List.set_cons_zero, List.set_cons_succ]
                refine wpAnyH_take (i := 2) (oi := { dst := some 79, op := Op.binOp BinOp.eql 4 (Operand.tmp 77) (Operand.tmp 78) 4, type := 4, pos := "law.go:81", after := #[{ on := 0, ground := Ground.data }, { on := 1, ground := Ground.data }], guard := none }) (v := ?_) rfl (by kernel_rfl) (by kernel_rfl) (by kernel_rfl) (fun _ _ _ h => h) (Or.inl ⟨by rfl, ?_⟩) hHeld ?_
                rotate_left
                · intro w' hSw
                  try dsimp only at hSw
                  go_simp
                  try with_reducible rfl
                try simp only [Act.put, List.setIfInBounds_toArray, List.set_cons_zero, List.set_cons_succ]
                refine wpAnyH_take (i := 3) (oi := { dst := some 80, op := Op.move (Operand.tmp 79), type := 4, pos := "law.go:81", after := #[{ on := 2, ground := Ground.data }], guard := none }) (v := ?_) rfl (by kernel_rfl) (by kernel_rfl) (by kernel_rfl) (fun _ _ _ h => h) (Or.inl ⟨by rfl, ?_⟩) hHeld ?_
                rotate_left
                · intro w' hSw
                  try dsimp only at hSw
                  go_simp
                  try with_reducible rfl
                try simp only [Act.put, List.setIfInBounds_toArray, List.set_cons_zero, List.set_cons_succ]
                refine wpAnyH_take (i := 4) (oi := { dst := some 81, op := Op.move (Operand.tmp 14), type := 4, pos := "law.go:81", after := #[{ on := 3, ground := Ground.guard }], guard := some (3, true) }) (v := ?_) rfl (by kernel_rfl) (by kernel_rfl) (by kernel_rfl) (fun _ _ _ h => h) (Or.inl ⟨by rfl, ?_⟩) hHeld ?_
                rotate_left
                · intro w' hSw
                  try dsimp only at hSw
                  go_simp
                  try with_reducible rfl
                try simp only [Act.put, List.setIfInBounds_toArray, List.set_cons_zero, List.set_cons_succ]
                refine wpAnyH_take (i := 5) (oi := { dst := some 82, op := Op.unOp UnOp.not 4 (Operand.tmp 81), type := 4, pos := "law.go:81", after := #[{ on := 4, ground := Ground.data }, { on := 3, ground := Ground.guard }], guard := some (3, true) }) (v := ?_) rfl (by kernel_rfl) (by kernel_rfl) (by kernel_rfl) (fun _ _ _ h => h) (Or.inl ⟨by rfl, ?_⟩) hHeld ?_
                rotate_left
                · intro w' hSw
                  try dsimp only at hSw
                  go_simp
                  try with_reducible rfl
                try simp only [Act.put, List.setIfInBounds_toArray, List.set_cons_zero, List.set_cons_succ]
                refine wpAnyH_take (i := 6) (oi := { dst := some 83, op := Op.move (Operand.tmp 82), type := 4, pos := "law.go:81", after := #[{ on := 5, ground := Ground.data }, { on := 3, ground := Ground.chain }, { on := 3, ground := Ground.guard }], guard := some (3, true) }) (v := ?_) rfl (by kernel_rfl) (by kernel_rfl) (by kernel_rfl) (fun _ _ _ h => h) (Or.inl ⟨by rfl, ?_⟩) hHeld ?_
                rotate_left
                · intro w' hSw
                  try dsimp only at hSw
                  go_simp
                  try with_reducible rfl
                try simp only [Act.put, List.setIfInBounds_toArray, List.set_cons_zero, List.set_cons_succ]
                refine wpAnyH_take (i := 7) (oi := { dst := some 84, op := Op.load 27 (Operand.tmp 13), type := 27, pos := "law.go:81", after := #[{ on := 6, ground := Ground.guard }], guard := some (6, false) }) (v := undef) rfl (by kernel_rfl) (by kernel_rfl) (by kernel_rfl) (fun _ _ _ h => h) (Or.inr ⟨by rfl, rfl⟩) hHeld ?_
                try simp only [Act.put, List.setIfInBounds_toArray, List.set_cons_zero, List.set_cons_succ]
                refine wpAnyH_take (i := 8) (oi := { dst := some 85, op := Op.move (Operand.tmp 10), type := 22, pos := "law.go:81", after := #[{ on := 6, ground := Ground.guard }], guard := some (6, false) }) (v := undef) rfl (by kernel_rfl) (by kernel_rfl) (by kernel_rfl) (fun _ _ _ h => h) (Or.inr ⟨by rfl, rfl⟩) hHeld ?_
                try simp only [Act.put, List.setIfInBounds_toArray, List.set_cons_zero, List.set_cons_succ]
                refine wpAnyH_take (i := 9) (oi := { dst := some 86, op := Op.indexAddr 22 (Operand.tmp 85) (Operand.const (Value.int IntKind.i64 0)), type := 0, pos := "law.go:81", after := #[{ on := 8, ground := Ground.data }, { on := 6, ground := Ground.guard }], guard := some (6, false) }) (v := undef) rfl (by kernel_rfl) (by kernel_rfl) (by kernel_rfl) (fun _ _ _ h => h) (Or.inr ⟨by rfl, rfl⟩) hHeld ?_
                try simp only [Act.put, List.setIfInBounds_toArray, List.set_cons_zero, List.set_cons_succ]
                refine wpAnyH_take (i := 10) (oi := { dst := some 87, op := Op.load 27 (Operand.tmp 86), type := 27, pos := "law.go:81", after := #[{ on := 9, ground := Ground.data }, { on := 6, ground := Ground.guard }], guard := some (6, false) }) (v := undef) rfl (by kernel_rfl) (by kernel_rfl) (by kernel_rfl) (fun _ _ _ h => h) (Or.inr ⟨by rfl, rfl⟩) hHeld ?_
                try simp only [Act.put, List.setIfInBounds_toArray, List.set_cons_zero, List.set_cons_succ]
                refine wpAnyH_take (i := 11) (oi := { dst := some 88, op := Op.binOp BinOp.eql 27 (Operand.tmp 84) (Operand.tmp 87) 27, type := 4, pos := "law.go:81", after := #[{ on := 7, ground := Ground.data }, { on := 10, ground := Ground.data }, { on := 6, ground := Ground.guard }], guard := some (6, false) }) (v := undef) rfl (by kernel_rfl) (by kernel_rfl) (by kernel_rfl) (fun _ _ _ h => h) (Or.inr ⟨by rfl, rfl⟩) hHeld ?_
                try simp only [Act.put, List.setIfInBounds_toArray, List.set_cons_zero, List.set_cons_succ]
                refine wpAnyH_take (i := 12) (oi := { dst := some 89, op := Op.pick (Operand.tmp 83) (Operand.const (Value.bool true)) (Operand.tmp 88), type := 4, pos := "law.go:81", after := #[{ on := 6, ground := Ground.data }, { on := 11, ground := Ground.data }, { on := 3, ground := Ground.guard }], guard := some (3, true) }) (v := ?_) rfl (by kernel_rfl) (by kernel_rfl) (by kernel_rfl) (fun _ _ _ h => h) (Or.inl ⟨by rfl, ?_⟩) hHeld ?_
                rotate_left
                · intro w' hSw
                  try dsimp only at hSw
                  go_simp
                  try with_reducible rfl
                try simp only [Act.put, List.setIfInBounds_toArray, List.set_cons_zero, List.set_cons_succ]
                refine wpAnyH_take (i := 13) (oi := { dst := some 90, op := Op.pick (Operand.tmp 80) (Operand.tmp 89) (Operand.const (Value.bool false)), type := 4, pos := "law.go:81", after := #[{ on := 3, ground := Ground.data }, { on := 12, ground := Ground.data }], guard := none }) (v := ?_) rfl (by kernel_rfl) (by kernel_rfl) (by kernel_rfl) (fun _ _ _ h => h) (Or.inl ⟨by rfl, ?_⟩) hHeld ?_
                rotate_left
                · intro w' hSw
                  try dsimp only at hSw
                  go_simp
                  try with_reducible rfl
                try simp only [Act.put, List.setIfInBounds_toArray, List.set_cons_zero, List.set_cons_succ]
                refine wpAnyH_take (i := 14) (oi := { dst := some 91, op := Op.move (Operand.tmp 90), type := 4, pos := "law.go:81", after := #[{ on := 13, ground := Ground.data }, { on := 6, ground := Ground.chain }], guard := none }) (v := ?_) rfl (by kernel_rfl) (by kernel_rfl) (by kernel_rfl) (fun _ _ _ h => h) (Or.inl ⟨by rfl, ?_⟩) hHeld ?_
                rotate_left
                · intro w' hSw
                  try dsimp only at hSw
                  go_simp
                  try with_reducible rfl
                try simp only [Act.put, List.setIfInBounds_toArray, List.set_cons_zero, List.set_cons_succ]
                refine wpAnyH_take (i := 15) (oi := { dst := some 92, op := Op.move (Operand.tmp 14), type := 4, pos := "law.go:81", after := #[{ on := 14, ground := Ground.guard }], guard := some (14, true) }) (v := ?_) rfl (by kernel_rfl) (by kernel_rfl) (by kernel_rfl) (fun _ _ _ h => h) (Or.inl ⟨by rfl, ?_⟩) hHeld ?_
                rotate_left
                · intro w' hSw
                  try dsimp only at hSw
                  go_simp
                  try with_reducible rfl
                try simp only [Act.put, List.setIfInBounds_toArray, List.set_cons_zero, List.set_cons_succ]
                refine wpAnyH_take (i := 16) (oi := { dst := some 93, op := Op.move (Operand.tmp 92), type := 4, pos := "law.go:81", after := #[{ on := 15, ground := Ground.data }, { on := 14, ground := Ground.chain }, { on := 14, ground := Ground.guard }], guard := some (14, true) }) (v := ?_) rfl (by kernel_rfl) (by kernel_rfl) (by kernel_rfl) (fun _ _ _ h => h) (Or.inl ⟨by rfl, ?_⟩) hHeld ?_
                rotate_left
                · intro w' hSw
                  try dsimp only at hSw
                  go_simp
                  try with_reducible rfl
                try simp only [Act.put, List.setIfInBounds_toArray, List.set_cons_zero, List.set_cons_succ]
                refine wpAnyH_take (i := 17) (oi := { dst := some 94, op := Op.load 27 (Operand.tmp 13), type := 27, pos := "law.go:81", after := #[{ on := 16, ground := Ground.guard }], guard := some (16, false) }) (v := ?_) rfl (by kernel_rfl) (by kernel_rfl) (by kernel_rfl) (fun _ _ _ h => h) (Or.inl ⟨by rfl, ?_⟩) hHeld ?_
                rotate_left
                · intro w' hSw
                  try dsimp only at hSw
                  go_simp
                  try with_reducible rfl
                try simp only [Act.put, List.setIfInBounds_toArray, List.set_cons_zero, List.set_cons_succ]
                refine wpAnyH_take (i := 18) (oi := { dst := some 95, op := Op.build 27 #[], type := 27, pos := "law.go:81", after := #[{ on := 16, ground := Ground.guard }], guard := some (16, false) }) (v := ?_) rfl (by kernel_rfl) (by kernel_rfl) (by kernel_rfl) (fun _ _ _ h => h) (Or.inl ⟨by rfl, ?_⟩) hHeld ?_
                rotate_left
                · intro w' hSw
                  try dsimp only at hSw
                  go_simp
                  try with_reducible rfl
                try simp only [Act.put, List.setIfInBounds_toArray, List.set_cons_zero, List.set_cons_succ]
                refine wpAnyH_take (i := 19) (oi := { dst := some 96, op := Op.binOp BinOp.eql 27 (Operand.tmp 94) (Operand.tmp 95) 27, type := 4, pos := "law.go:81", after := #[{ on := 17, ground := Ground.data }, { on := 18, ground := Ground.data }, { on := 16, ground := Ground.guard }], guard := some (16, false) }) (v := ?_) rfl (by kernel_rfl) (by kernel_rfl) (by kernel_rfl) (fun _ _ _ h => h) (Or.inl ⟨by rfl, ?_⟩) hHeld ?_
                rotate_left
                · intro w' hSw
                  try dsimp only at hSw
                  go_simp
                  try with_reducible rfl
                try simp only [Act.put, List.setIfInBounds_toArray, List.set_cons_zero, List.set_cons_succ]
                refine wpAnyH_take (i := 20) (oi := { dst := some 97, op := Op.pick (Operand.tmp 93) (Operand.const (Value.bool true)) (Operand.tmp 96), type := 4, pos := "law.go:81", after := #[{ on := 16, ground := Ground.data }, { on := 19, ground := Ground.data }, { on := 14, ground := Ground.guard }], guard := some (14, true) }) (v := ?_) rfl (by kernel_rfl) (by kernel_rfl) (by kernel_rfl) (fun _ _ _ h => h) (Or.inl ⟨by rfl, ?_⟩) hHeld ?_
                rotate_left
                · intro w' hSw
                  try dsimp only at hSw
                  go_simp
                  try with_reducible rfl
                try simp only [Act.put, List.setIfInBounds_toArray, List.set_cons_zero, List.set_cons_succ]
                refine wpAnyH_take (i := 21) (oi := { dst := some 98, op := Op.pick (Operand.tmp 91) (Operand.tmp 97) (Operand.const (Value.bool false)), type := 4, pos := "law.go:81", after := #[{ on := 14, ground := Ground.data }, { on := 20, ground := Ground.data }], guard := none }) (v := ?_) rfl (by kernel_rfl) (by kernel_rfl) (by kernel_rfl) (fun _ _ _ h => h) (Or.inl ⟨by rfl, ?_⟩) hHeld ?_
                rotate_left
                · intro w' hSw
                  try dsimp only at hSw
                  go_simp
                  try with_reducible rfl
                try simp only [Act.put, List.setIfInBounds_toArray, List.set_cons_zero, List.set_cons_succ]
                refine wpAnyH_take (i := 22) (oi := { dst := some 99, op := Op.move (Operand.tmp 98), type := 4, pos := "law.go:81", after := #[{ on := 21, ground := Ground.data }, { on := 16, ground := Ground.chain }], guard := none }) (v := ?_) rfl (by kernel_rfl) (by kernel_rfl) (by kernel_rfl) (fun _ _ _ h => h) (Or.inl ⟨by rfl, ?_⟩) hHeld ?_
                rotate_left
                · intro w' hSw
                  try dsimp only at hSw
                  go_simp
                  try with_reducible rfl
                try simp only [Act.put, List.setIfInBounds_toArray, List.set_cons_zero, List.set_cons_succ]
                refine wpAnyH_take (i := 23) (oi := { dst := some 100, op := Op.move (Operand.tmp 7), type := 22, pos := "law.go:81", after := #[{ on := 22, ground := Ground.guard }], guard := some (22, true) }) (v := ?_) rfl (by kernel_rfl) (by kernel_rfl) (by kernel_rfl) (fun _ _ _ h => h) (Or.inl ⟨by rfl, ?_⟩) hHeld ?_
                rotate_left
                · intro w' hSw
                  try dsimp only at hSw
                  go_simp
                  try with_reducible rfl
                try simp only [Act.put, List.setIfInBounds_toArray, List.set_cons_zero, List.set_cons_succ]
                refine wpAnyH_take (i := 24) (oi := { dst := some 101, op := Op.move (Operand.tmp 0), type := 22, pos := "law.go:81", after := #[{ on := 22, ground := Ground.guard }], guard := some (22, true) }) (v := ?_) rfl (by kernel_rfl) (by kernel_rfl) (by kernel_rfl) (fun _ _ _ h => h) (Or.inl ⟨by rfl, ?_⟩) hHeld ?_
                rotate_left
                · intro w' hSw
                  try dsimp only at hSw
                  go_simp
                  try with_reducible rfl
                try simp only [Act.put, List.setIfInBounds_toArray, List.set_cons_zero, List.set_cons_succ]
                refine wpAnyH_take (i := 25) (oi := { dst := some 102, op := Op.move (Operand.tmp 1), type := 4, pos := "law.go:81", after := #[{ on := 22, ground := Ground.guard }], guard := some (22, true) }) (v := ?_) rfl (by kernel_rfl) (by kernel_rfl) (by kernel_rfl) (fun _ _ _ h => h) (Or.inl ⟨by rfl, ?_⟩) hHeld ?_
                rotate_left
                · intro w' hSw
                  try dsimp only at hSw
                  go_simp
                  try with_reducible rfl
                try simp only [Act.put, List.setIfInBounds_toArray, List.set_cons_zero, List.set_cons_succ]
                refine wpAnyH_ready (rs := [26]) (by kernel_rfl) (by simp) ?_
                refine AllReadyH.cons (o := { dst := some 103, op := Op.call { callee := Callee.value (Operand.func 6), args := #[Operand.tmp 101, Operand.tmp 102], argTypes := #[22, 4] }, type := 22, pos := "law.go:81", after := #[{ on := 24, ground := Ground.data }, { on := 25, ground := Ground.data }, { on := 22, ground := Ground.chain }, { on := 22, ground := Ground.guard }], guard := some (22, true) }) rfl (fun K hK => ?_) AllReadyH.nil
                rw [if_pos (by rfl)]
                go_simp
                go_at_call 6
                refine (DU2.out _ (below_drew HB6.out)).mono ?_
                rintro e w7 ⟨hb7, v7, rfl, ho7⟩
                obtain ⟨A9, c9, rfl⟩ := own_slice ho7
                have hb7w : Below w6.heap.size w6 w7 := below_then (below_drew (Below.refl _ _)) hb7 (Nat.le_refl _)
                have SD := Lib.hid (SameD_any L (some ⟨g1, 0, none⟩) A9 c1 c9 w7 (by omega) (fun h0 => let ⟨g, e, hd⟩ := HD6.out h0; ⟨g, e, hd.below hb7w⟩) (dat_of_own ho7))
                refine hK.out _ _ ⟨(hb7w.cell (p := ⟨g5, 0, none⟩) hg5).trans e0, (hb7w.cell (p := ⟨g5, 1, none⟩) hg5).trans e1, (hb7w.cell (p := ⟨g5, 2, none⟩) hg5).trans e2⟩ (fun hHeld7 => ?_)
                clear hK K
                try simp only [Act.put, List.setIfInBounds_toArray, List.set_cons_zero, List.set_cons_succ]
                refine wpAnyH_ready (rs := [27]) (by kernel_rfl) (by simp) ?_
                refine AllReadyH.cons (o := { dst := some 104, op := Op.call { callee := Callee.value (Operand.func 13), args := #[Operand.tmp 100, Operand.tmp 103], argTypes := #[22, 22] }, type := 4, pos := "law.go:81", after := #[{ on := 23, ground := Ground.data }, { on := 26, ground := Ground.data }, { on := 26, ground := Ground.chain }, { on := 22, ground := Ground.guard }], guard := some (22, true) }) rfl (fun K hK => ?_) AllReadyH.nil
                rw [if_pos (by rfl)]
                go_simp
                go_at_call 13
                refine SD.out.mono ?_
                rintro e w8 ⟨rfl, hb8⟩
                have hb8w : Below w6.heap.size w6 w8 := below_then hb7w hb8 hb7w.size
                refine hK.out _ _ ⟨(hb8w.cell (p := ⟨g5, 0, none⟩) hg5).trans e0, (hb8w.cell (p := ⟨g5, 1, none⟩) hg5).trans e1, (hb8w.cell (p := ⟨g5, 2, none⟩) hg5).trans e2⟩ (fun hHeld8 => ?_)
                clear hK K
                try simp only [Act.put, List.setIfInBounds_toArray, List.set_cons_zero, List.set_cons_succ]
                refine wpAnyH_take (i := 28) (oi := { dst := some 105, op := Op.pick (Operand.tmp 99) (Operand.tmp 104) (Operand.const (Value.bool false)), type := 4, pos := "law.go:81", after := #[{ on := 22, ground := Ground.data }, { on := 27, ground := Ground.data }], guard := none }) (v := ?_) rfl (by kernel_rfl) (by kernel_rfl) (by kernel_rfl) (fun _ _ _ h => h) (Or.inl ⟨by rfl, ?_⟩) hHeld8 ?_
                rotate_left
                · intro w' hSw
                  try dsimp only at hSw
                  go_simp
                  try with_reducible rfl
                try simp only [Act.put, List.setIfInBounds_toArray, List.set_cons_zero, List.set_cons_succ]
                refine wpAnyH_take (i := 29) (oi := { dst := some 106, op := Op.move (Operand.tmp 105), type := 4, pos := "law.go:81", after := #[{ on := 28, ground := Ground.data }, { on := 27, ground := Ground.chain }], guard := none }) (v := ?_) rfl (by kernel_rfl) (by kernel_rfl) (by kernel_rfl) (fun _ _ _ h => h) (Or.inl ⟨by rfl, ?_⟩) hHeld8 ?_
                rotate_left
                · intro w' hSw
                  try dsimp only at hSw
                  go_simp
                  try with_reducible rfl
                try simp only [Act.put, List.setIfInBounds_toArray, List.set_cons_zero, List.set_cons_succ]
                refine wpAnyH_ready (rs := [30]) (by kernel_rfl) (by simp) ?_
                refine AllReadyH.cons (o := { dst := some 107, op := Op.call { callee := Callee.value (Operand.func 10), args := #[], argTypes := #[] }, type := 4, pos := "law.go:81", after := #[{ on := 29, ground := Ground.chain }, { on := 29, ground := Ground.guard }], guard := some (29, true) }) rfl (fun K hK => ?_) AllReadyH.nil
                rw [if_pos (by rfl)]
                go_simp
                go_at_call 10
                refine (wakes10 _).mono ?_
                rintro e w9 ⟨rfl, hb9⟩
                have hb9w : Below w6.heap.size w6 w9 := below_then hb8w hb9 hb8w.size
                refine hK.out _ _ ⟨(hb9w.cell (p := ⟨g5, 0, none⟩) hg5).trans e0, (hb9w.cell (p := ⟨g5, 1, none⟩) hg5).trans e1, (hb9w.cell (p := ⟨g5, 2, none⟩) hg5).trans e2⟩ (fun hHeld9 => ?_)
                clear hK K
                try simp only [Act.put, List.setIfInBounds_toArray, List.set_cons_zero, List.set_cons_succ]
                refine wpAnyH_take (i := 31) (oi := { dst := some 108, op := Op.pick (Operand.tmp 106) (Operand.tmp 107) (Operand.const (Value.bool false)), type := 4, pos := "law.go:81", after := #[{ on := 29, ground := Ground.data }, { on := 30, ground := Ground.data }], guard := none }) (v := ?_) rfl (by kernel_rfl) (by kernel_rfl) (by kernel_rfl) (fun _ _ _ h => h) (Or.inl ⟨by rfl, ?_⟩) hHeld9 ?_
                rotate_left
                · intro w' hSw
                  try dsimp only at hSw
                  go_simp
                  try with_reducible rfl
                try simp only [Act.put, List.setIfInBounds_toArray, List.set_cons_zero, List.set_cons_succ]
                refine wpAnyH_take (i := 32) (oi := { dst := some 6, op := Op.assign (Operand.tmp 108), type := 4, pos := "law.go:81", after := #[{ on := 31, ground := Ground.data }, { on := 30, ground := Ground.chain }, { on := 0, ground := Ground.phase }, { on := 1, ground := Ground.phase }, { on := 2, ground := Ground.phase }, { on := 3, ground := Ground.phase }, { on := 4, ground := Ground.phase }, { on := 5, ground := Ground.phase }, { on := 6, ground := Ground.phase }, { on := 7, ground := Ground.phase }, { on := 8, ground := Ground.phase }, { on := 9, ground := Ground.phase }, { on := 10, ground := Ground.phase }, { on := 11, ground := Ground.phase }, { on := 12, ground := Ground.phase }, { on := 13, ground := Ground.phase }, { on := 14, ground := Ground.phase }, { on := 15, ground := Ground.phase }, { on := 16, ground := Ground.phase }, { on := 17, ground := Ground.phase }, { on := 18, ground := Ground.phase }, { on := 19, ground := Ground.phase }, { on := 20, ground := Ground.phase }, { on := 21, ground := Ground.phase }, { on := 22, ground := Ground.phase }, { on := 23, ground := Ground.phase }, { on := 24, ground := Ground.phase }, { on := 25, ground := Ground.phase }, { on := 26, ground := Ground.phase }, { on := 27, ground := Ground.phase }, { on := 28, ground := Ground.phase }, { on := 29, ground := Ground.phase }, { on := 30, ground := Ground.phase }, { on := 31, ground := Ground.phase }], guard := none }) (v := ?_) rfl (by kernel_rfl) (by kernel_rfl) (by kernel_rfl) (fun _ _ _ h => h) (Or.inl ⟨by rfl, ?_⟩) hHeld9 ?_
                rotate_left
                · intro w' hSw
                  try dsimp only at hSw
                  go_simp
                  try with_reducible rfl
                try simp only [Act.put, List.setIfInBounds_toArray, List.set_cons_zero, List.set_cons_succ]
                refine wpAnyH_done (by kernel_rfl) ?_ _
                go_wp2
                go_ret
                exact ⟨rfl, below_then HB6.out hb9w HB6.out.size⟩
end Go.Proofs.Ytiodjjnohbjhlaa
