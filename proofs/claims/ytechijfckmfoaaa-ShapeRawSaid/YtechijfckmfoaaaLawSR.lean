/-
  ShapeRaw: the walk.
-/
import Derived.Test.YtechijfckmfoaaaSh7
import Derived.Test.YtechijfckmfoaaaSh8
import Derived.Test.YtechijfckmfoaaaWth
namespace Go.Proofs.Ytechijfckmfoaaa
set_option maxRecDepth 100000
open Go.ChangeShapes Go.WideShapes Go.ChangeAt Go.RowKit

theorem ints_take {w : World} {A : Option Addr} {n m c : Nat} {l : List Int} (h : IntsAt w (.slice A n c) l) (hm : m ≤ n) : IntsAt w (.slice A m c) (l.take m) := by
  obtain ⟨A', c', e, hl, hc⟩ := h
  injection e with e1 e2 e3
  subst e1; subst e2; subst e3
  refine ⟨A, c, by rw [List.length_take, Nat.min_eq_left hm], by rw [List.length_take]; omega, fun k hk => ?_⟩
  have hk' : k < l.length := by rw [List.length_take] at hk; omega
  have := hc k hk'
  simpa using this
theorem okI_set {l : List Int} (h : okI l) (k : Nat) {x : Int} (hx : (Lit.int .i64 x).wf = true) : okI (l.set k x) := fun y hy => by
  rcases List.mem_or_eq_of_mem_set hy with h1 | h1
  · exact h _ h1
  · rw [h1]; exact hx
theorem wf_small {x : Int} (h1 : -1000000 ≤ x) (h2 : x ≤ 1000000) : (Lit.int .i64 x).wf = true := by
  have : IntKind.i64.wrap x = x := by rw [IntKind.wrap_i64]; omega
  simp only [Lit.wf, this]
  simp
  have e : IntKind.i64.min = -9223372036854775808 := by kernel_rfl
  rw [e]; omega
theorem icells_set (l : List Int) (k : Nat) (x : Int) : icells (l.set k x) = (icells l).set k (.int .i64 x) := by simp [icells, List.map_set]
/-- a list of the call's own, of n integers -/
def OwnN (w : World) (base : Nat) (v : Value) (n : Nat) : Prop := ∃ l, l.length = n ∧ okI l ∧ OwnI w base v l
theorem OwnN.ints {w : World} {base n c : Nat} {A : Option Addr} (h : OwnN w base (.slice A n c) n) (hn : n ≤ 1000) : ∃ l, l.length = n ∧ IntsAt w (.slice A n c) l := by
  obtain ⟨l, hl, hok, ho⟩ := h
  subst hl
  exact ⟨l, rfl, ints_of_own ho hok hn⟩
theorem OwnN.cell {w : World} {base n c k : Nat} {A : Option Addr} (h : OwnN w base (.slice A n c) n) (hk : k < n) : ∃ g x, A = some ⟨g, 0, none⟩ ∧ base ≤ g ∧ g < w.heap.size ∧ w.cell? ⟨g, k, none⟩ = some (.int .i64 x) ∧ (Lit.int .i64 x).wf = true ∧ w.frozen? ⟨g, k, none⟩ = false := by
  obtain ⟨l, hl, hok, ho⟩ := h
  subst hl
  obtain ⟨g, cap', e, hb, hg, _, hc⟩ := own_form ho (by omega)
  have eA : A = some ⟨g, 0, none⟩ := by injection e
  subst eA
  exact ⟨g, l[k], rfl, hb, hg, hc _ _ (icells_at l k hk), hok _ (List.getElem_mem hk), World.ownsRow.frozenAt ho k⟩
theorem OwnN.store {w : World} {base n c g : Nat} (h : OwnN w base (.slice (some ⟨g, 0, none⟩) n c) n) (k : Nat) {x : Int} (hx : (Lit.int .i64 x).wf = true) : OwnN (w.setCell ⟨g, k, none⟩ (.int .i64 x)) base (.slice (some ⟨g, 0, none⟩) n c) n := by
  obtain ⟨l, hl, hok, ho⟩ := h
  subst hl
  refine ⟨l.set k x, by simp, okI_set hok k hx, ?_⟩
  have := (World.ownsRow.stored ho k (.int .i64 x)).1
  unfold OwnI
  rw [List.length_set, icells_set]
  exact this
theorem OwnN.kept {w : World} {base n g k : Nat} {v u : Value} (h : OwnN w base v n) (hne : ∀ b, v.ownBlock = some b → b ≠ g) : OwnN (w.setCell ⟨g, k, none⟩ u) base v n := by
  obtain ⟨l, hl, hok, ho⟩ := h
  refine ⟨l, hl, hok, ?_⟩
  refine World.ownsRow.kept ho (grown_setCell w g k u) ?_
  cases e : v.ownBlock with
  | none => exact .inl rfl
  | some b => exact .inr fun h => hne b e (by injection h)
theorem set_below {B : Nat} {a w : World} {g k : Nat} {u : Value} (h : Below B a w) (hB : B ≤ w.heap.size) (hg : B ≤ g) : Below B a (w.setCell ⟨g, k, none⟩ u) :=
  h.grown (grown_setCell w g k u) hB (fun j e => by injection e with e; omega)
theorem own_n {w : World} {base : Nat} {v : Value} {l : List Int} (h : OwnI w base v l) (ho : okI l) : OwnN w base v l.length := ⟨l, rfl, ho, h⟩
theorem OwnN.below {w w' : World} {base n : Nat} {v : Value} (h : OwnN w base v n) (hb : Below w.heap.size w w') (hB : base ≤ w.heap.size) : OwnN w' base v n :=
  let ⟨l, hl, ho, h⟩ := h
  ⟨l, hl, ho, own_below h hb hB⟩
set_option maxHeartbeats 4000000 in
theorem raw_walk (w : World) (v1 : Value) (l1 : List Int) (h1 : IntsC w v1 l1) (v2 : Value) (l2 : List Int) (h2 : IntsC w v2 l2) (fix : Int) (hf : (Lit.int .i64 fix).wf = true) :
    Calls Try.prog 5 #[v1, v2, .int .i64 fix] w (TrueOn w) := by
  have ho1 := okI_take (okI_of h1.1) 8
  have ho2 := okI_take (okI_of h2.1) 8
  have C1 := Lib.hid (Cut_any l1 v1 8 w h1 (by omega))
  have C2 := Lib.hid (fun W (hW : Below w.heap.size w W) => Cut_any l2 v2 8 W (h2.below hW) (by omega))
  have hl1 : (l1.take 8).length ≤ 8 := List.length_take_le _ _
  have hl2 : (l2.take 8).length ≤ 8 := List.length_take_le _ _
  obtain ⟨_, A0, c0, rfl, _⟩ := h1
  obtain ⟨_, B0, d0, rfl, _⟩ := h2
  generalize l1.take 8 = K at *
  generalize l2.take 8 = P at *
  go_enter Try.func5, Try.ntmps5
  have tok1 : True := trivial
  go_upto_region 2 with (first
    | (have _t := tok1; go_at_call 11; refine C1.out.mono ?_; rintro e w1 ⟨v1, rfl, o1, hb1⟩; obtain ⟨A, c, rfl⟩ := own_slice o1; clear tok1 _t)
    | (go_at_call 11; refine (C2.out _ hb1).mono ?_; rintro e w2 ⟨v2, rfl, o2, hb2⟩; obtain ⟨B, d, rfl⟩ := own_slice o2))
  have hB2 : Below w.heap.size w w2 := below_then hb1 hb2 hb1.size
  have n1 := (own_n o1 ho1).below hb2 hb1.size
  have n2 := own_n o2 ho2
  have HA : Hid (∀ b, (Value.slice A K.length c).ownBlock = some b → b < w1.heap.size) := fun b e => (World.ownsRow.lt o1 b e).2
  have hs1 := hb2.size
  have hs0 := hb1.size
  have HB := Lib.hid hB2
  have N1 := Lib.hid n1
  have N2 := Lib.hid n2
  clear o1 o2 hb1 hb2 hB2 n1 n2 C1 C2 ho1 ho2
  generalize K.length = n at *
  generalize P.length = m at *
  by_cases h3 : fix.tmod 4 = 3
  · obtain ⟨ks, e1, S1⟩ := N1.out.ints (by omega)
    obtain ⟨ps, e2, S2⟩ := N2.out.ints (by omega)
    have VA := Lib.hid (fun W (hW : Below w2.heap.size w2 W) => Valid_any ks ps A B n c m d W ⟨S1.below hW, S2.below hW⟩ e1.symm e2.symm (by omega) (by omega))
    have RV := Lib.hid (fun W (hW : Below w2.heap.size w2 W) => RValid_any ks ps A B n c m d W ⟨S1.below hW, S2.below hW⟩ e1.symm e2.symm (by omega) (by omega))
    have h00 : Below w2.heap.size w2 w2 := Below.refl _ _
    clear S1 S2 e1 e2 N1 N2 HA
    generalize valB ks ps = b at *
    have hbb : (b == b) = true := by simp
    go_wp2_with (first
      | (go_at_call 8; refine (VA.out _ h00).mono ?_; rintro e w3 ⟨rfl, hb3⟩)
      | (go_at_call 14; refine (RV.out _ hb3).mono ?_; rintro e w4 ⟨rfl, hb4⟩; have h4 := below_then hb3 hb4 hb3.size)
      | (go_at_call 9; refine (wakes06 _).mono ?_; rintro e w5 ⟨rfl, hb5⟩))
    go_ret
    exact ⟨rfl, below_then HB.out (below_then h4 hb5 h4.size) HB.out.size⟩
  · have h3' : (fix.tmod 4 != 3) = true := by simpa using h3
    go_upto_region 4 with (fail)
    go_loopw [19] (fun i wr => ∃ k : Nat, k ≤ n ∧ i = .int .i64 k ∧ Hid (OwnN wr w.heap.size (.slice A n c) n) ∧ Hid (OwnN wr w1.heap.size (.slice B m d) m) ∧ Hid (Below w.heap.size w wr) ∧ Hid (w1.heap.size ≤ wr.heap.size)) (fun i _ => n - (intOf i).toNat)
    case atStart => exact ⟨0, Nat.zero_le _, rfl, N1, N2, HB, hs1⟩
    case round =>
      obtain ⟨k, hk, rfl, M1, M2, HW, HS⟩ := hrel
      clear N1 N2 HB
      by_cases hlk : k < n
      · obtain ⟨g, x, rfl, hg0, hg, hx, hxw, hfz⟩ := M1.out.cell hlk
        have hWI := Within_any x 4 wr hxw (by omega) (by omega)
        have hbd := within_bd x 4 (by omega)
        have hki : (k : Int) < n := by omega
        generalize within x 4 = z at *
        have WI := Lib.hid hWI
        have hwz : IntKind.i64.wrap (1 + z) = 1 + z := by rw [IntKind.wrap_i64]; omega
        have hst := M1.out.store k (x := 1 + z) (wf_small (by omega) (by omega))
        have hkp := M2.out.kept (g := g) (k := k) (u := .int .i64 (1 + z)) (fun b e => by
          obtain ⟨l, _, _, ho⟩ := M2.out
          have := (World.ownsRow.lt ho b e).1
          have := HA.out g rfl
          omega)
        have hbl := set_below (k := k) (u := .int .i64 (1 + z)) HW.out HW.out.size hg0
        have ST := Lib.hid hst
        have KP := Lib.hid hkp
        have BL := Lib.hid hbl
        clear hst hkp hbl hWI
        go_wp2_with (go_at_call 7; refine WI.out.mono ?_; rintro e w4 ⟨rfl, rfl⟩)
        go_roundw
        case rel => exact ⟨k + 1, by omega, by go_num, ST, KP, BL, by show _ ≤ _; have := HS.out; simpa using this⟩
        case measure => simp [intOf]; omega
      · have hs4 := HS.out
        have M1' := M1
        obtain ⟨w4, rfl⟩ : ∃ w4 : World, w4 = wr := ⟨_, rfl⟩
        clear HS
        go_upto_region 9 with (fail)
        go_loopw [34] (fun i wr => ∃ k : Nat, k ≤ m ∧ i = .int .i64 k ∧ Hid (OwnN wr w.heap.size (.slice A n c) n) ∧ Hid (OwnN wr w1.heap.size (.slice B m d) m) ∧ Hid (Below w.heap.size w wr) ∧ Hid (w1.heap.size ≤ wr.heap.size)) (fun i _ => m - (intOf i).toNat)
        case atStart => exact ⟨0, Nat.zero_le _, rfl, M1, M2, HW, hs4⟩
        case round =>
          obtain ⟨j, hj, rfl, L1, L2, HX, HT⟩ := hrel
          clear M1 M2 HW M1' hs4
          by_cases hlj : j < m
          · obtain ⟨g, x, rfl, hg0, hg, hx, hxw, hfz⟩ := L2.out.cell hlj
            have hWI := Within_any x ((j : Int) + 1) wr hxw (by omega) (by omega)
            have hbd := within_bd x ((j : Int) + 1) (by omega)
            have hji : (j : Int) < m := by omega
            generalize within x ((j : Int) + 1) = z at *
            have WI := Lib.hid hWI
            have hwz : IntKind.i64.wrap (z - 1) = z - 1 := by rw [IntKind.wrap_i64]; omega
            have hwj : IntKind.i64.wrap ((j : Int) + 1) = (j : Int) + 1 := by rw [IntKind.wrap_i64]; omega
            have hst := L2.out.store j (x := z - 1) (wf_small (by omega) (by omega))
            have hkp := L1.out.kept (g := g) (k := j) (u := .int .i64 (z - 1)) (fun b e => by
              have := HA.out b e
              omega)
            have hbl := set_below (k := j) (u := .int .i64 (z - 1)) HX.out HX.out.size (Nat.le_trans hs0 hg0)
            have ST := Lib.hid hst
            have KP := Lib.hid hkp
            have BL := Lib.hid hbl
            clear hst hkp hbl hWI
            go_wp2_with (go_at_call 7; refine WI.out.mono ?_; rintro e w4 ⟨rfl, rfl⟩)
            go_roundw
            case rel => exact ⟨j + 1, by omega, by go_num, KP, ST, BL, by show _ ≤ _; have := HT.out; simpa using this⟩
            case measure => simp [intOf]; omega
          · obtain ⟨ks, e1, S1⟩ := L1.out.ints (by omega)
            obtain ⟨ps, e2, S2⟩ := L2.out.ints (by omega)
            have hc1 : n ≤ c := by obtain ⟨l, hl, _, ho⟩ := L1.out; subst hl; exact own_cap ho
            have hc2 : m ≤ d := by obtain ⟨l, hl, _, ho⟩ := L2.out; subst hl; exact own_cap ho
            have h00 : Below wr.heap.size wr wr := Below.refl _ _
            by_cases hmn : m < n
            · have VA := Lib.hid (fun W (hW : Below wr.heap.size wr W) => Valid_any (ks.take m) (ps.take m) A B m c m d W ⟨(ints_take S1 (by omega)).below hW, (ints_take S2 (by omega)).below hW⟩ (by rw [List.length_take]; omega) (by rw [List.length_take]; omega) (by omega) (by omega))
              have RV := Lib.hid (fun W (hW : Below wr.heap.size wr W) => RValid_any (ks.take m) (ps.take m) A B m c m d W ⟨(ints_take S1 (by omega)).below hW, (ints_take S2 (by omega)).below hW⟩ (by rw [List.length_take]; omega) (by rw [List.length_take]; omega) (by omega) (by omega))
              have q1 : (m : Int) ≤ c := by omega
              have q2 : (m : Int) ≤ d := by omega
              have q3 : m ≤ c := by omega
              have q4 : m ≤ d := by omega
              clear S1 S2 e1 e2 L1 L2 HA
              generalize valB (ks.take m) (ps.take m) = b at *
              have hbb : (b == b) = true := by simp
              go_upto_region 14 with (fail)
              go_quiet (fail)
              have hdr : Below wr.heap.size wr (wr.drewN nq) := below_drewN h00 nq
              go_wp2_with (first
                | (go_at_call 8; refine (VA.out _ hdr).mono ?_; rintro e w5 ⟨rfl, hb5⟩; have h5 := below_then hdr hb5 hdr.size)
                | (go_at_call 14; refine (RV.out _ h5).mono ?_; rintro e w6 ⟨rfl, hb6⟩; have h6 := below_then h5 hb6 h5.size)
                | (go_at_call 9; refine (wakes06 _).mono ?_; rintro e w7 ⟨rfl, hb7⟩))
              go_ret
              exact ⟨rfl, below_then HX.out (below_then h6 hb7 h6.size) HX.out.size⟩
            · have VA := Lib.hid (fun W (hW : Below wr.heap.size wr W) => Valid_any (ks.take n) (ps.take n) A B n c n d W ⟨(ints_take S1 (by omega)).below hW, (ints_take S2 (by omega)).below hW⟩ (by rw [List.length_take]; omega) (by rw [List.length_take]; omega) (by omega) (by omega))
              have RV := Lib.hid (fun W (hW : Below wr.heap.size wr W) => RValid_any (ks.take n) (ps.take n) A B n c n d W ⟨(ints_take S1 (by omega)).below hW, (ints_take S2 (by omega)).below hW⟩ (by rw [List.length_take]; omega) (by rw [List.length_take]; omega) (by omega) (by omega))
              have q1 : (n : Int) ≤ c := by omega
              have q2 : (n : Int) ≤ d := by omega
              have q3 : n ≤ c := by omega
              have q4 : n ≤ d := by omega
              clear S1 S2 e1 e2 L1 L2 HA
              generalize valB (ks.take n) (ps.take n) = b at *
              have hbb : (b == b) = true := by simp
              go_upto_region 14 with (fail)
              go_quiet (fail)
              have hdr : Below wr.heap.size wr (wr.drewN nq) := below_drewN h00 nq
              go_wp2_with (first
                | (go_at_call 8; refine (VA.out _ hdr).mono ?_; rintro e w5 ⟨rfl, hb5⟩; have h5 := below_then hdr hb5 hdr.size)
                | (go_at_call 14; refine (RV.out _ h5).mono ?_; rintro e w6 ⟨rfl, hb6⟩; have h6 := below_then h5 hb6 h5.size)
                | (go_at_call 9; refine (wakes06 _).mono ?_; rintro e w7 ⟨rfl, hb7⟩))
              go_ret
              exact ⟨rfl, below_then HX.out (below_then h6 hb7 h6.size) HX.out.size⟩
end Go.Proofs.Ytechijfckmfoaaa
