/-
  A rule that comes in, opened; Name, of however many; where the walk of the statements' rule of raw parts stands.
-/
import Derived.Test.YtnnmjmjbfeoggaaGreatDoorLwAny
import Derived.Test.YtnnmjmjbfeoggaaGreatDoorPlain06
import Derived.Deep.Fields
import Derived.Test.YtnnmjmjbfeoggaaGreatDoorDigits
import Derived.Test.YtnnmjmjbfeoggaaGreatDoorRd4
import Derived.Test.YtnnmjmjbfeoggaaGreatDoorParse
import Derived.Test.YtnnmjmjbfeoggaaGreatDoorRuleEq
namespace Go.Proofs.YtnnmjmjbfeoggaaGreatDoor
set_option maxRecDepth 100000
open Go.ChangeShapes Go.WideShapes Go.ChangeAt Go.RowKit Go.Deep

/-- how much texts hold -/
def sumL : List Tx → Nat
  | [] => 0
  | t :: r => t.length + 1 + sumL r
def totR (r : Ru) : Nat := r.name.length + sumL r.list + r.from_.length + r.to_.length + r.by_.length + r.task.length + r.in_.length
theorem sum_len (l : List Tx) : l.length ≤ sumL l := by
  induction l with
  | nil => exact Nat.le_refl _
  | cons t r ih => simp only [sumL, List.length_cons]; omega
theorem sum_app (l m : List Tx) : sumL (l ++ m) = sumL l + sumL m := by
  induction l with
  | nil => simp [sumL]
  | cons t r ih => simp only [List.cons_append, sumL, ih]; omega
theorem join_sum (l : List Tx) : (joinP l).length ≤ sumL l := by
  induction l with
  | nil => simp [joinP, Lib.join, sumL]
  | cons a r ih =>
    cases r with
    | nil => rw [join_one]; simp only [sumL]; omega
    | cons b r => rw [join_cons2]; simp only [sumL, List.length_append, List.length_cons] at ih ⊢; omega
theorem nDig_le (u : Nat) : ∀ k : Nat, u < 10 ^ (k + 1) → (Lib.decDigits u).length ≤ k + 1 := by
  intro k
  induction k generalizing u with
  | zero => intro h; rw [Lib.decDigits, dif_pos (by omega)]; simp
  | succ k ih =>
    intro h
    rw [Lib.decDigits]
    split
    · simp
    · have := ih (u / 10) (by rw [Nat.pow_succ] at h; omega)
      simp; omega
theorem itoa_le {n : Int} (h0 : -9223372036854775808 ≤ n) (h1 : n ≤ 9223372036854775807) : (Lib.itoa n).length ≤ 20 := by
  have hp : (10 : Nat) ^ (18 + 1) = 10000000000000000000 := by decide
  unfold Lib.itoa
  split
  · have := nDig_le n.natAbs 18 (by rw [hp]; omega)
    simp; omega
  · have := nDig_le n.toNat 18 (by rw [hp]; omega)
    omega
theorem kindT_le : ∀ t ∈ kindT, t.length ≤ 9 := by decide +kernel
theorem stateT_le : ∀ t ∈ stateT, t.length ≤ 9 := by decide +kernel
theorem wordP_le {tbl : List Tx} (h : ∀ t ∈ tbl, t.length ≤ 9) (k : Int) : (wordP tbl k).length ≤ 9 := by
  unfold wordP
  split
  · simp
  · cases hh : tbl[k.toNat]? with
    | none => simp
    | some t => exact h t (List.mem_of_getElem? hh)
theorem sum_opt (x y : Tx) (hx : x.length ≤ 4) : sumL (optP x y) ≤ y.length + 6 := by
  unfold optP
  split
  · simp [sumL]
  · simp only [sumL]; omega
theorem line_sum (r : Ru) (hn0 : -9223372036854775808 ≤ r.n) (hn1 : r.n ≤ 9223372036854775807) (hm0 : -9223372036854775808 ≤ r.m) (hm1 : r.m ≤ 9223372036854775807) : sumL (lineP r) ≤ totR r + 60 := by
  have i1 := itoa_le hn0 hn1
  have i2 := itoa_le hm0 hm1
  have w1 := wordP_le kindT_le r.kind
  have w2 := wordP_le stateT_le r.n
  have o1 := sum_opt [105, 110] r.in_ (by decide)
  have o2 := sum_opt [98, 121] r.by_ (by decide)
  have o3 := sum_opt [116, 97, 115, 107] r.task (by decide)
  unfold lineP totR
  simp only [sumL]
  split
  · split
    · rename_i e; simp only [sumL, e]; omega
    · simp only [sumL, List.length_cons, List.length_nil]; omega
  split
  · simp only [sumL]; omega
  split
  · simp only [sumL]; omega
  split
  · omega
  split
  · simp only [sumL]; omega
  split
  · simp only [sum_app, sumL]; omega
  split
  · simp only [sum_app, sumL, List.length_cons, List.length_nil]; omega
  split
  · simp only [sumL, List.length_cons, List.length_nil]; omega
  split
  · simp only [sumL, List.length_cons, List.length_nil]; omega
  · simp only [sumL]; omega
theorem wf64 {n : Int} (h : (Lit.int .i64 n).wf = true) : -9223372036854775808 ≤ n ∧ n ≤ 9223372036854775807 := by
  have e : IntKind.i64.min = -9223372036854775808 := by decide
  have h2 : IntKind.i64.min ≤ n ∧ n ≤ 9223372036854775807 := by simpa [Lit.wf] using h
  omega
section
variable {H : Type} {enc : TypeId × Value → H}
theorem bulk_strs (ss : List ByteArray) : Rows.uptoBulkAll (H := H) (strs ss) = sumL (ss.map (·.data.toList)) := by
  induction ss with
  | nil => simp [strs, Rows.uptoBulkAll, sumL]
  | cons s r ih =>
    have : strs (H := H) (s :: r) = .lit (.string s.data.toList) :: strs r := rfl
    rw [this]
    simp only [Rows.uptoBulkAll, ih, List.map_cons, sumL, Rows.uptoBulk]
/-- a list of texts that comes in -/
theorem arg_list {t : TypeId} {fuel : Nat} {v : Value} {x : DataW H × List MemPlace} {W : World} (ht : Tryz.prog.underlying t = some (.slice 9)) (hc : Tryz.prog.cellsOf 9 = 1)
    (h : DataW.trod enc Tryz.prog W 0 (fun _ => true) true fuel t [v] = some x) : ∃ A c l, v = .slice A l.length c ∧ LIn W A c l ∧ sumL l + 1 ≤ Rows.uptoBulk x.1 := by
  rcases open_strings ht Tryz.underlying9 hc h with ⟨hcs, rfl⟩ | ⟨a, len, cap, ss, hcs, _, hl, hm, hn, rfl, hcell, hsz⟩
  · obtain rfl : v = .slice none 0 0 := by simpa using hcs
    exact ⟨none, 0, [], rfl, .inl ⟨rfl, fun _ => rfl⟩, by simp [sumL, Rows.uptoBulk]⟩
  · obtain rfl : v = .slice (some a) len cap := by simpa using hcs
    rw [if_pos rfl] at hn
    have hlen : ((ss.take len).map (·.data.toList)).length = len := by simp; omega
    obtain ⟨b, off, spot⟩ := a
    refine ⟨some ⟨b, off, spot⟩, cap, (ss.take len).map (·.data.toList), by rw [hlen], ?_, ?_⟩
    · by_cases h0 : 0 < ss.length
      · have hsp : spot = none := by
          have h0 := hcell 0 h0
          simpa [Addr.add] using World.cell?_spot h0
        subst hsp
        have hb : b < W.heap.size := by
          have h0 := hcell 0 h0
          rw [Go.WideShapes.add_plain] at h0
          exact World.block_lt_of_cell? W _ h0
        refine .inr ⟨b, off, rfl, hb, by rw [hlen]; exact hl, fun j hj => ?_⟩
        rw [hlen] at hj
        have hj2 : j < ss.length := by omega
        have hk' := hcell j hj2
        rw [Go.WideShapes.add_plain] at hk'
        rw [hk']
        simp [List.getD_eq_getElem?_getD, List.getElem?_eq_getElem hj2, bs]
      · refine .inl ⟨?_, fun e => by cases e⟩
        have : ss = [] := List.eq_nil_of_length_eq_zero (by omega)
        rw [this]; simp
    · have h1 := bulk_strs (H := H) (ss.take len)
      simp only [Rows.uptoBulk, h1]
      omega
/-- a struct of eleven fields of one cell each, opened -/
theorem open_agg11 {P : Program} {w : World} {base b0 : Nat} {spare : Nat → Bool} {held : Bool} {r : Reach} {t : TypeId} {f0 f1 f2 f3 f4 f5 f6 f7 f8 f9 f10 : Field} {v : Value} {d : DataW H} {p : List MemPlace} (hs : P.underlying t = some (.struct #[f0, f1, f2, f3, f4, f5, f6, f7, f8, f9, f10])) (hone : oneCellFields P #[f0, f1, f2, f3, f4, f5, f6, f7, f8, f9, f10] = true) (hC : P.cellsOf t = 11)
    (hv : Value.okWide P w r b0 t v) (h : DataW.Trod enc P w base spare held t v d p) :
    ∃ (v0 v1 v2 v3 v4 v5 v6 v7 v8 v9 v10 : Value) (y0 y1 y2 y3 y4 y5 y6 y7 y8 y9 y10 : DataW H × List MemPlace) (n : Nat), v = .agg #[v0, v1, v2, v3, v4, v5, v6, v7, v8, v9, v10] ∧ d = .agg [y0.1, y1.1, y2.1, y3.1, y4.1, y5.1, y6.1, y7.1, y8.1, y9.1, y10.1] ∧
      DataW.trod enc P w base spare held n f0.type [v0] = some y0 ∧ DataW.trod enc P w base spare held n f1.type [v1] = some y1 ∧ DataW.trod enc P w base spare held n f2.type [v2] = some y2 ∧ DataW.trod enc P w base spare held n f3.type [v3] = some y3 ∧ DataW.trod enc P w base spare held n f4.type [v4] = some y4 ∧ DataW.trod enc P w base spare held n f5.type [v5] = some y5 ∧ DataW.trod enc P w base spare held n f6.type [v6] = some y6 ∧ DataW.trod enc P w base spare held n f7.type [v7] = some y7 ∧ DataW.trod enc P w base spare held n f8.type [v8] = some y8 ∧ DataW.trod enc P w base spare held n f9.type [v9] = some y9 ∧ DataW.trod enc P w base spare held n f10.type [v10] = some y10 := by
  obtain ⟨cs, rfl, hsz⟩ := okWide_struct hs hv
  have hsz2 := hsz.trans hC
  obtain ⟨l⟩ := cs
  obtain ⟨v0, v1, v2, v3, v4, v5, v6, v7, v8, v9, v10, rfl⟩ : ∃ v0 v1 v2 v3 v4 v5 v6 v7 v8 v9 v10, l = [v0, v1, v2, v3, v4, v5, v6, v7, v8, v9, v10] := by
    match l, hsz2 with
    | [v0, v1, v2, v3, v4, v5, v6, v7, v8, v9, v10], _ => exact ⟨v0, v1, v2, v3, v4, v5, v6, v7, v8, v9, v10, rfl⟩
  obtain ⟨fuel, hf⟩ := h
  obtain ⟨xs, n, _, hx, _, hlen, hg⟩ := DataW.trod_struct hs hf
  obtain ⟨y0, y1, y2, y3, y4, y5, y6, y7, y8, y9, y10, rfl⟩ : ∃ y0 y1 y2 y3 y4 y5 y6 y7 y8 y9 y10, xs = [y0, y1, y2, y3, y4, y5, y6, y7, y8, y9, y10] := by
    match xs, hlen with
    | [y0, y1, y2, y3, y4, y5, y6, y7, y8, y9, y10], _ => exact ⟨y0, y1, y2, y3, y4, y5, y6, y7, y8, y9, y10, rfl⟩
  simp only [Prod.mk.injEq, List.map_cons, List.map_nil] at hx
  have g0 : DataW.trod enc P w base spare held n f0.type [v0] = some y0 := by
    obtain ⟨o0, k0⟩ := hone_of hone 0 f0 rfl
    have := hg 0 f0 rfl
    rw [o0, k0] at this
    exact this
  have g1 : DataW.trod enc P w base spare held n f1.type [v1] = some y1 := by
    obtain ⟨o1, k1⟩ := hone_of hone 1 f1 rfl
    have := hg 1 f1 rfl
    rw [o1, k1] at this
    exact this
  have g2 : DataW.trod enc P w base spare held n f2.type [v2] = some y2 := by
    obtain ⟨o2, k2⟩ := hone_of hone 2 f2 rfl
    have := hg 2 f2 rfl
    rw [o2, k2] at this
    exact this
  have g3 : DataW.trod enc P w base spare held n f3.type [v3] = some y3 := by
    obtain ⟨o3, k3⟩ := hone_of hone 3 f3 rfl
    have := hg 3 f3 rfl
    rw [o3, k3] at this
    exact this
  have g4 : DataW.trod enc P w base spare held n f4.type [v4] = some y4 := by
    obtain ⟨o4, k4⟩ := hone_of hone 4 f4 rfl
    have := hg 4 f4 rfl
    rw [o4, k4] at this
    exact this
  have g5 : DataW.trod enc P w base spare held n f5.type [v5] = some y5 := by
    obtain ⟨o5, k5⟩ := hone_of hone 5 f5 rfl
    have := hg 5 f5 rfl
    rw [o5, k5] at this
    exact this
  have g6 : DataW.trod enc P w base spare held n f6.type [v6] = some y6 := by
    obtain ⟨o6, k6⟩ := hone_of hone 6 f6 rfl
    have := hg 6 f6 rfl
    rw [o6, k6] at this
    exact this
  have g7 : DataW.trod enc P w base spare held n f7.type [v7] = some y7 := by
    obtain ⟨o7, k7⟩ := hone_of hone 7 f7 rfl
    have := hg 7 f7 rfl
    rw [o7, k7] at this
    exact this
  have g8 : DataW.trod enc P w base spare held n f8.type [v8] = some y8 := by
    obtain ⟨o8, k8⟩ := hone_of hone 8 f8 rfl
    have := hg 8 f8 rfl
    rw [o8, k8] at this
    exact this
  have g9 : DataW.trod enc P w base spare held n f9.type [v9] = some y9 := by
    obtain ⟨o9, k9⟩ := hone_of hone 9 f9 rfl
    have := hg 9 f9 rfl
    rw [o9, k9] at this
    exact this
  have g10 : DataW.trod enc P w base spare held n f10.type [v10] = some y10 := by
    obtain ⟨o10, k10⟩ := hone_of hone 10 f10 rfl
    have := hg 10 f10 rfl
    rw [o10, k10] at this
    exact this
  exact ⟨v0, v1, v2, v3, v4, v5, v6, v7, v8, v9, v10, y0, y1, y2, y3, y4, y5, y6, y7, y8, y9, y10, n, rfl, hx.1, g0, g1, g2, g3, g4, g5, g6, g7, g8, g9, g10⟩
/-- a rule that comes in -/
theorem arg_rule {d : DataW H} {W : World} {base : Nat} {v : Value} {p : List MemPlace} (hv : Value.okWide Tryz.prog W .any base 28 v) (h : DataW.Trod enc Tryz.prog W 0 (fun _ => true) true 28 v d p) :
    ∃ (r : Ru) (A : Option Addr) (ca : Nat) (ln : Int), v = ruV r (.slice A r.list.length ca) ln ∧ LIn W A ca r.list ∧ (-9223372036854775808 ≤ r.n ∧ r.n ≤ 9223372036854775807) ∧ (-9223372036854775808 ≤ r.m ∧ r.m ≤ 9223372036854775807) ∧ totR r ≤ Rows.uptoBulk d := by
  obtain ⟨v0, v1, v2, v3, v4, v5, v6, v7, v8, v9, v10, y0, y1, y2, y3, y4, y5, y6, y7, y8, y9, y10, n, rfl, rfl, g0, g1, g2, g3, g4, g5, g6, g7, g8, g9, g10⟩ := open_agg11 Tryz.underlying28 (by kernel_rfl) (by kernel_rfl) hv h
  obtain ⟨k, e0, rfl, _⟩ := DataW.trod_int Tryz.underlying3 g0
  obtain ⟨nm, e1, rfl, _⟩ := DataW.trod_string Tryz.underlying9 g1
  obtain ⟨A, ca, l, e2, hL, hs⟩ := arg_list Tryz.underlying26 (by kernel_rfl) g2
  obtain ⟨rn, e3, rfl, wn⟩ := DataW.trod_int Tryz.underlying3 g3
  obtain ⟨rm, e4, rfl, wm⟩ := DataW.trod_int Tryz.underlying3 g4
  obtain ⟨rf, e5, rfl, _⟩ := DataW.trod_string Tryz.underlying9 g5
  obtain ⟨rt, e6, rfl, _⟩ := DataW.trod_string Tryz.underlying9 g6
  obtain ⟨rb, e7, rfl, _⟩ := DataW.trod_string Tryz.underlying9 g7
  obtain ⟨ra, e8, rfl, _⟩ := DataW.trod_string Tryz.underlying9 g8
  obtain ⟨ri, e9, rfl, _⟩ := DataW.trod_string Tryz.underlying9 g9
  obtain ⟨ln, e10, rfl, _⟩ := DataW.trod_int Tryz.underlying3 g10
  simp only [List.cons.injEq, and_true] at e0 e1 e3 e4 e5 e6 e7 e8 e9 e10
  subst e0; subst e1; subst e2; subst e3; subst e4; subst e5; subst e6; subst e7; subst e8; subst e9; subst e10
  refine ⟨⟨k, nm.data.toList, l, rn, rm, rf.data.toList, rt.data.toList, rb.data.toList, ra.data.toList, ri.data.toList⟩, A, ca, ln, ?_, hL, wf64 wn, wf64 wm, ?_⟩
  · simp [ruV, bs]
  · simp only [totR, Rows.uptoBulk, Rows.uptoBulkAll]
    omega
end
end Go.Proofs.YtnnmjmjbfeoggaaGreatDoor
namespace Go.Proofs.YtnnmjmjbfeoggaaGreatDoor
set_option maxRecDepth 100000
open Go.ChangeShapes Go.WideShapes Go.ChangeAt Go.RowKit

/-- a short text -/
def ShortT (n : Nat) (w : World) (e : Ending) (w' : World) : Prop := ∃ T : Tx, e = .returned (.string (bs T)) ∧ T.length ≤ n ∧ Below w.heap.size w w'
theorem shortT_mk {n : Nat} {w w' : World} {s : ByteArray} (h : s.size ≤ n) (hb : Below w.heap.size w w') : ShortT n w (.returned (.string s)) w' :=
  ⟨s.data.toList, by simp [bs], by rw [size_list]; exact h, hb⟩
theorem keepNameK (h : ByteArray) (n k : Int) (w : World) (hv : (Lit.int .i64 n).wf = true) (hk : 1 ≤ k) (hk2 : k ≤ 26) (hs : h.size ≤ 10) :
    Calls Tryz.prog 38 #[.string h, .int .i64 n, .int .i64 k] w (ShortT 11 w) := by
  have hb := within_bd n k (by omega)
  generalize hm : within n k = m at *
  have HM := Lib.hid hm
  clear hm
  have hw : (97 + m) % 256 = 97 + m := by omega
  have cv := fun W b cap => conv_one W b cap (97 + m) (by omega) (by omega)
  have hz : (bs [byteOf (97 + m).toNat]).size = 1 := rfl
  generalize bs [byteOf (97 + m).toNat] = T at *
  go_enter Tryz.func38, Tryz.ntmps38
  go_wp2_with (go_at_call 16; refine (Within_any _ _ _ hv (by omega) (by omega)).mono ?_; rintro e w' ⟨rfl, rfl⟩; rw [HM.out])
  go_ret
  exact shortT_mk (by rw [ByteArray.size_append]; omega) ((Below.refl _ _).alloc (Nat.le_refl _) _)
end Go.Proofs.YtnnmjmjbfeoggaaGreatDoor
namespace Go.Proofs.YtnnmjmjbfeoggaaGreatDoor
set_option maxRecDepth 100000
open Go.ChangeShapes Go.WideShapes Go.ChangeAt Go.RowKit

/-- W0 at the beginning, W now: what came in (rc) in the block W0.heap.size, the answer's cells behind it, the rule that is made behind that -/
structure XS (W0 W : World) (rc : Array Value) (k : Int) (nm : Tx) (v : Value) (l : List Tx) (n m : Int) (f t b a i : Tx) : Prop where
  r0 : W.heap[W0.heap.size]? = some (.cells rc 28 (0, 0))
  t0 : W.heap[W0.heap.size + 1]? = some (.cells zero11 28 (0, 0))
  x0 : W.heap[W0.heap.size + 1 + 1]? = some (.cells #[.int .i64 k, .string (bs nm), v, .int .i64 n, .int .i64 m, .string (bs f), .string (bs t), .string (bs b), .string (bs a), .string (bs i), .int .i64 0] 28 (0, 0))
  own : OwnL W (W0.heap.size + 3) v l
  low : Below W0.heap.size W0 W
section
variable {W0 W W' : World} {rc : Array Value} {k : Int} {nm : Tx} {v : Value} {l : List Tx} {n m : Int} {f t b a i : Tx}
theorem XS.size (h : XS W0 W rc k nm v l n m f t b a i) : W0.heap.size + 1 + 1 < W.heap.size := (Array.getElem?_eq_some_iff.1 h.x0).1
theorem XS.below (h : XS W0 W rc k nm v l n m f t b a i) (hb : Below W.heap.size W W') : XS W0 W' rc k nm v l n m f t b a i :=
  have := h.size
  ⟨(hb.block _ (by omega)).trans h.r0, (hb.block _ (by omega)).trans h.t0, (hb.block _ (by omega)).trans h.x0, own_below h.own hb (by omega), h.low.trans (hb.mono (by omega))⟩
theorem XS.grown {v' : Value} {l' : List Tx} {row : Option Nat} (h : XS W0 W rc k nm v l n m f t b a i) (hg : W.grownBy W' row) (hr : ∀ j, row = some j → W0.heap.size + 3 ≤ j) (ho : OwnL W' (W0.heap.size + 3) v' l') : W'.heap[W0.heap.size]? = some (.cells rc 28 (0, 0)) ∧ W'.heap[W0.heap.size + 1]? = some (.cells zero11 28 (0, 0)) ∧ W'.heap[W0.heap.size + 1 + 1]? = some (.cells #[.int .i64 k, .string (bs nm), v, .int .i64 n, .int .i64 m, .string (bs f), .string (bs t), .string (bs b), .string (bs a), .string (bs i), .int .i64 0] 28 (0, 0)) ∧ OwnL W' (W0.heap.size + 3) v' l' ∧ Below W0.heap.size W0 W' :=
  have hs := h.size
  ⟨(hg.block _ (by omega) (fun e => by have := hr _ e.symm; omega)).trans h.r0, (hg.block _ (by omega) (fun e => by have := hr _ e.symm; omega)).trans h.t0, (hg.block _ (by omega) (fun e => by have := hr _ e.symm; omega)).trans h.x0, ho, h.low.grown hg h.low.size (fun j e => by have := hr _ e; omega)⟩
theorem far_row {W : World} {p j : Nat} {o : Obj} {c : Value} {t : Nat} (h : W.heap[p]? = some o) (hne : t ≠ p) : (W.setCell ⟨t, j, none⟩ c).heap[p]? = some o := by
  have hg := grown_setCell W t j c
  rw [hg.block p (Array.getElem?_eq_some_iff.1 h).1 (by simp; omega)]; exact h
theorem own_set {W : World} {base t j : Nat} {v c : Value} {l : List Tx} (h : OwnL W base v l) (ht : t < base) : OwnL (W.setCell ⟨t, j, none⟩ c) base v l :=
  World.ownsRow.kept h (grown_setCell W t j c) (.inr (fun e => by have := (h.lt t e).1; omega))
theorem XS.drew (h : XS W0 W rc k nm v l n m f t b a i) : XS W0 W.drew rc k nm v l n m f t b a i := ⟨h.r0, h.t0, h.x0, h.own, h.low.drew⟩
theorem XS.low_set (h : XS W0 W rc k nm v l n m f t b a i) (j : Nat) (c : Value) : Below W0.heap.size W0 (W.setCell ⟨W0.heap.size + 1 + 1, j, none⟩ c) :=
  h.low.grown (grown_setCell W _ j c) h.low.size (fun q e => by simp at e; omega)

theorem XS.set0 (k' : Int) (h : XS W0 W rc k nm v l n m f t b a i) : XS W0 (W.setCell ⟨W0.heap.size + 1 + 1, 0, none⟩ (.int .i64 k')) rc k' nm v l n m f t b a i :=
  ⟨far_row h.r0 (by omega), far_row h.t0 (by omega), heap_set h.x0 _, own_set h.own (by omega), h.low_set _ _⟩
theorem XS.set1 (nm' : Tx) (h : XS W0 W rc k nm v l n m f t b a i) : XS W0 (W.setCell ⟨W0.heap.size + 1 + 1, 1, none⟩ (.string (bs nm'))) rc k nm' v l n m f t b a i :=
  ⟨far_row h.r0 (by omega), far_row h.t0 (by omega), heap_set h.x0 _, own_set h.own (by omega), h.low_set _ _⟩
theorem XS.set2 {v' : Value} {l' : List Tx} (h : XS W0 W rc k nm v l n m f t b a i) (ho : OwnL W (W0.heap.size + 3) v' l') : XS W0 (W.setCell ⟨W0.heap.size + 1 + 1, 2, none⟩ v') rc k nm v' l' n m f t b a i :=
  ⟨far_row h.r0 (by omega), far_row h.t0 (by omega), heap_set h.x0 _, own_set ho (by omega), h.low_set _ _⟩
theorem XS.set3 (n' : Int) (h : XS W0 W rc k nm v l n m f t b a i) : XS W0 (W.setCell ⟨W0.heap.size + 1 + 1, 3, none⟩ (.int .i64 n')) rc k nm v l n' m f t b a i :=
  ⟨far_row h.r0 (by omega), far_row h.t0 (by omega), heap_set h.x0 _, own_set h.own (by omega), h.low_set _ _⟩
theorem XS.set4 (m' : Int) (h : XS W0 W rc k nm v l n m f t b a i) : XS W0 (W.setCell ⟨W0.heap.size + 1 + 1, 4, none⟩ (.int .i64 m')) rc k nm v l n m' f t b a i :=
  ⟨far_row h.r0 (by omega), far_row h.t0 (by omega), heap_set h.x0 _, own_set h.own (by omega), h.low_set _ _⟩
theorem XS.set5 (f' : Tx) (h : XS W0 W rc k nm v l n m f t b a i) : XS W0 (W.setCell ⟨W0.heap.size + 1 + 1, 5, none⟩ (.string (bs f'))) rc k nm v l n m f' t b a i :=
  ⟨far_row h.r0 (by omega), far_row h.t0 (by omega), heap_set h.x0 _, own_set h.own (by omega), h.low_set _ _⟩
theorem XS.set6 (t' : Tx) (h : XS W0 W rc k nm v l n m f t b a i) : XS W0 (W.setCell ⟨W0.heap.size + 1 + 1, 6, none⟩ (.string (bs t'))) rc k nm v l n m f t' b a i :=
  ⟨far_row h.r0 (by omega), far_row h.t0 (by omega), heap_set h.x0 _, own_set h.own (by omega), h.low_set _ _⟩
theorem XS.set7 (b' : Tx) (h : XS W0 W rc k nm v l n m f t b a i) : XS W0 (W.setCell ⟨W0.heap.size + 1 + 1, 7, none⟩ (.string (bs b'))) rc k nm v l n m f t b' a i :=
  ⟨far_row h.r0 (by omega), far_row h.t0 (by omega), heap_set h.x0 _, own_set h.own (by omega), h.low_set _ _⟩
theorem XS.set8 (a' : Tx) (h : XS W0 W rc k nm v l n m f t b a i) : XS W0 (W.setCell ⟨W0.heap.size + 1 + 1, 8, none⟩ (.string (bs a'))) rc k nm v l n m f t b a' i :=
  ⟨far_row h.r0 (by omega), far_row h.t0 (by omega), heap_set h.x0 _, own_set h.own (by omega), h.low_set _ _⟩
theorem XS.set9 (i' : Tx) (h : XS W0 W rc k nm v l n m f t b a i) : XS W0 (W.setCell ⟨W0.heap.size + 1 + 1, 9, none⟩ (.string (bs i'))) rc k nm v l n m f t b a i' :=
  ⟨far_row h.r0 (by omega), far_row h.t0 (by omega), heap_set h.x0 _, own_set h.own (by omega), h.low_set _ _⟩
/-- the same, where the list in hand (v', l') is not yet stored -/
structure XG (W0 W : World) (rc : Array Value) (v' : Value) (l' : List Tx) (k : Int) (nm : Tx) (v : Value) (n m : Int) (f t b a i : Tx) : Prop where
  r0 : W.heap[W0.heap.size]? = some (.cells rc 28 (0, 0))
  t0 : W.heap[W0.heap.size + 1]? = some (.cells zero11 28 (0, 0))
  x0 : W.heap[W0.heap.size + 1 + 1]? = some (.cells #[.int .i64 k, .string (bs nm), v, .int .i64 n, .int .i64 m, .string (bs f), .string (bs t), .string (bs b), .string (bs a), .string (bs i), .int .i64 0] 28 (0, 0))
  own : OwnL W (W0.heap.size + 3) v' l'
  low : Below W0.heap.size W0 W
theorem XS.app {W1 W2 : World} {v' : Value} {ts : List Tx} (h : XS W0 W rc k nm v l n m f t b a i) (hg0 : W.grownBy W1 none) (hg : W1.grownBy W2 v.ownBlock) (ho : W2.ownsRow (W0.heap.size + 3) 9 1 v' (l.length + ts.length) (scells l ++ scells ts)) : XG W0 W2 rc v' (l ++ ts) k nm v n m f t b a i := by
  have hr : ∀ j, v.ownBlock = some j → W0.heap.size + 3 ≤ j := fun j e => by have := (h.own.lt j e).1; omega
  have hs := h.size
  have hb : ∀ p, p < W0.heap.size + 3 → W2.heap[p]? = W.heap[p]? := fun p hp => by
    rw [hg.block _ (Nat.lt_of_lt_of_le (by omega) hg0.size) (fun e => by have := hr _ e.symm; omega), hg0.block _ (by omega) (by simp)]
  refine ⟨(hb _ (by omega)).trans h.r0, (hb _ (by omega)).trans h.t0, (hb _ (by omega)).trans h.x0, ?_, (h.low.grown hg0 h.low.size (fun j e => by cases e)).grown hg (Nat.le_trans h.low.size hg0.size) (fun j e => by have := hr _ e; omega)⟩
  unfold OwnL scells
  rw [List.length_append, List.map_append]
  exact ho
theorem XG.store {v' : Value} {l' : List Tx} (h : XG W0 W rc v' l' k nm v n m f t b a i) : XS W0 (W.setCell ⟨W0.heap.size + 1 + 1, 2, none⟩ v') rc k nm v' l' n m f t b a i :=
  ⟨far_row h.r0 (by omega), far_row h.t0 (by omega), heap_set h.x0 _, own_set h.own (by omega), h.low.grown (grown_setCell W _ 2 v') h.low.size (fun q e => by simp at e; omega)⟩
theorem XG.fz {v' : Value} {l' : List Tx} (h : XG W0 W rc v' l' k nm v n m f t b a i) (j : Nat) : W.frozen? ⟨W0.heap.size + 1 + 1, j, none⟩ = false := by simp [World.frozen?, h.x0]
theorem XS.q0 (h : XS W0 W rc k nm v l n m f t b a i) : W.cell? ⟨W0.heap.size + 1 + 1, 0, none⟩ = some (.int .i64 k) := row_q0 h.x0
theorem XS.q1 (h : XS W0 W rc k nm v l n m f t b a i) : W.cell? ⟨W0.heap.size + 1 + 1, 1, none⟩ = some (.string (bs nm)) := row_q1 h.x0
theorem XS.q2 (h : XS W0 W rc k nm v l n m f t b a i) : W.cell? ⟨W0.heap.size + 1 + 1, 2, none⟩ = some (v) := row_q2 h.x0
theorem XS.q3 (h : XS W0 W rc k nm v l n m f t b a i) : W.cell? ⟨W0.heap.size + 1 + 1, 3, none⟩ = some (.int .i64 n) := row_q3 h.x0
theorem XS.q4 (h : XS W0 W rc k nm v l n m f t b a i) : W.cell? ⟨W0.heap.size + 1 + 1, 4, none⟩ = some (.int .i64 m) := row_q4 h.x0
theorem XS.q5 (h : XS W0 W rc k nm v l n m f t b a i) : W.cell? ⟨W0.heap.size + 1 + 1, 5, none⟩ = some (.string (bs f)) := row_q5 h.x0
theorem XS.q6 (h : XS W0 W rc k nm v l n m f t b a i) : W.cell? ⟨W0.heap.size + 1 + 1, 6, none⟩ = some (.string (bs t)) := row_q6 h.x0
theorem XS.q7 (h : XS W0 W rc k nm v l n m f t b a i) : W.cell? ⟨W0.heap.size + 1 + 1, 7, none⟩ = some (.string (bs b)) := row_q7 h.x0
theorem XS.q8 (h : XS W0 W rc k nm v l n m f t b a i) : W.cell? ⟨W0.heap.size + 1 + 1, 8, none⟩ = some (.string (bs a)) := row_q8 h.x0
theorem XS.q9 (h : XS W0 W rc k nm v l n m f t b a i) : W.cell? ⟨W0.heap.size + 1 + 1, 9, none⟩ = some (.string (bs i)) := row_q9 h.x0
theorem XS.q10 (h : XS W0 W rc k nm v l n m f t b a i) : W.cell? ⟨W0.heap.size + 1 + 1, 10, none⟩ = some (.int .i64 0) := row_q10 h.x0
theorem XS.fz (h : XS W0 W rc k nm v l n m f t b a i) (j : Nat) : W.frozen? ⟨W0.heap.size + 1 + 1, j, none⟩ = false := by simp [World.frozen?, h.x0]
theorem XS.fzt (h : XS W0 W rc k nm v l n m f t b a i) (j : Nat) : W.frozen? ⟨W0.heap.size + 1, j, none⟩ = false := by simp [World.frozen?, h.t0]
theorem heldS {X : World} {a0 a1 a2 a3 a4 a5 a6 a7 a8 a9 a10 u : Value} {g o : Nat} (r0 : X.heap[W0.heap.size]? = some (.cells #[a0, a1, a2, a3, a4, a5, a6, a7, a8, a9, a10] 28 (0, 0))) (low : Below W0.heap.size W0 X) (hg : g < W0.heap.size) (hel : W0.cell? ⟨g, o, none⟩ = some u) : X.cell? ⟨W0.heap.size, 2, none⟩ = some a2 ∧ X.cell? ⟨g, o, none⟩ = some u := ⟨row_q2 r0, (low.cell hg).trans hel⟩
/-- some rule that is small -/
def XAny (W0 W : World) (rc : Array Value) (k : Int) : Prop := ∃ nm v l n m f t b a i, XS W0 W rc k nm v l n m f t b a i ∧ (l.length ≤ 4 ∧ sumL l ≤ 100) ∧ (nm.length ≤ 20 ∧ f.length ≤ 20 ∧ t.length ≤ 20 ∧ b.length ≤ 20 ∧ a.length ≤ 20 ∧ i.length ≤ 20) ∧ (0 ≤ n ∧ n ≤ 1000) ∧ (0 ≤ m ∧ m ≤ 1000)
end
/-- what the statements' rule of raw parts answers: some rule -/
def RuleOut (w : World) (e : Ending) (w' : World) : Prop := ∃ (r : Ru) (A : Option Addr) (ca : Nat) (ln : Int), e = .returned (ruV r (.slice A r.list.length ca) ln) ∧ LIn w' A ca r.list ∧ (-9223372036854775808 ≤ r.n ∧ r.n ≤ 9223372036854775807) ∧ (-9223372036854775808 ≤ r.m ∧ r.m ≤ 9223372036854775807) ∧ totR r ≤ 1048576 ∧ Below w.heap.size w w'
theorem own_LIn {w : World} {base c : Nat} {A : Option Addr} {l : List Tx} (h : OwnL w base (.slice A l.length c) l) : LIn w A c l := by
  obtain ⟨h1, h2⟩ := strSl_of h
  by_cases h0 : 0 < l.length
  · obtain ⟨g, rfl, _, hg, _⟩ := h2 0 h0
    refine .inr ⟨g, 0, rfl, hg, h1, fun j hj => ?_⟩
    obtain ⟨g', e, _, _, hc⟩ := h2 j hj
    cases e; rw [Nat.zero_add]; exact hc
  · have e : l = [] := List.eq_nil_of_length_eq_zero (by omega)
    subst e
    refine .inl ⟨rfl, fun e => ?_⟩
    subst e
    rcases h.2 with ⟨hv, _⟩ | ⟨g, cap, cur, hv, _⟩
    · cases hv; rfl
    · cases hv
/-- the rule that is answered stands in the third block; what it is -/
def XEnd (W0 W : World) : Prop := ∃ (r : Ru) (A : Option Addr) (ca : Nat) (ln : Int), W.heap[W0.heap.size + 1 + 1]? = some (.cells #[.int .i64 r.kind, .string (bs r.name), .slice A r.list.length ca, .int .i64 r.n, .int .i64 r.m, .string (bs r.from_), .string (bs r.to_), .string (bs r.by_), .string (bs r.task), .string (bs r.in_), .int .i64 ln] 28 (0, 0)) ∧ W.heap[W0.heap.size + 1]? = some (.cells zero11 28 (0, 0)) ∧ LIn W A ca r.list ∧ (-9223372036854775808 ≤ r.n ∧ r.n ≤ 9223372036854775807) ∧ (-9223372036854775808 ≤ r.m ∧ r.m ≤ 9223372036854775807) ∧ totR r ≤ 1048576 ∧ Below W0.heap.size W0 W ∧ (∀ g off, A = some ⟨g, off, none⟩ → r.list ≠ [] → g ≠ W0.heap.size + 1)
theorem LIn.grown {w w' : World} {A : Option Addr} {c p : Nat} {l : List Tx} (h : LIn w A c l) (hg : w.grownBy w' (some p)) (hB : ∀ g off, A = some ⟨g, off, none⟩ → l ≠ [] → g ≠ p) : LIn w' A c l := by
  by_cases h0 : l = []
  · rcases h with h | ⟨g, off, e, hgl, hl, hc⟩
    · exact .inl h
    · exact .inr ⟨g, off, e, Nat.lt_of_lt_of_le hgl hg.size, hl, fun j hj => by subst h0; simp at hj⟩
  rcases h with h | ⟨g, off, e, hgl, hl, hc⟩
  · exact .inl h
  · refine .inr ⟨g, off, e, Nat.lt_of_lt_of_le hgl hg.size, hl, fun j hj => ?_⟩
    rw [← hc j hj]
    unfold World.cell?
    simp only
    rw [hg.block g hgl (by have := hB g off e h0; simp; omega)]
theorem xend_came {W0 W X : World} {rc : Array Value} {k kd : Int} {nm' nm : Tx} {v : Value} {l' l : List Tx} {n m rn rm ln : Int} {f t b a i rf rt rb ra ri : Tx} {A : Option Addr} {ca : Nat} (h : XS W0 W rc k nm' v l' n m f t b a i) (hL : LIn W0 A ca l) (hn : -9223372036854775808 ≤ rn ∧ rn ≤ 9223372036854775807) (hm : -9223372036854775808 ≤ rm ∧ rm ≤ 9223372036854775807) (hs : totR ⟨kd, nm, l, rn, rm, rf, rt, rb, ra, ri⟩ ≤ 1048576)
    (h1 : X.heap[W0.heap.size + 1 + 1]? = some (.cells #[.int .i64 kd, .string (bs nm), .slice A l.length ca, .int .i64 rn, .int .i64 rm, .string (bs rf), .string (bs rt), .string (bs rb), .string (bs ra), .string (bs ri), .int .i64 ln] 28 (0, 0))) (hg : W.grownBy X (some (W0.heap.size + 1 + 1))) : XEnd W0 X := by
  have hb : Below W0.heap.size W0 X := h.low.grown hg h.low.size (fun q e => by simp at e; omega)
  exact ⟨⟨kd, nm, l, rn, rm, rf, rt, rb, ra, ri⟩, A, ca, ln, h1, (hg.block _ (Array.getElem?_eq_some_iff.1 h.t0).1 (by simp)).trans h.t0, hL.below hb, hn, hm, hs, hb, fun g off e h0 => by
    rcases hL with ⟨hl, _⟩ | ⟨g', off', e', hg', _⟩
    · exact absurd hl h0
    · rw [e] at e'; cases e'; omega⟩
theorem xend_made {W0 W : World} {rc : Array Value} {k : Int} {nm : Tx} {v : Value} {l : List Tx} {n m : Int} {f t b a i : Tx} (h : XS W0 W rc k nm v l n m f t b a i) (_hl : l.length ≤ 4) (hs : sumL l ≤ 100) (hN : nm.length ≤ 20 ∧ f.length ≤ 20 ∧ t.length ≤ 20 ∧ b.length ≤ 20 ∧ a.length ≤ 20 ∧ i.length ≤ 20) (hn : 0 ≤ n ∧ n ≤ 1000) (hm : 0 ≤ m ∧ m ≤ 1000) : XEnd W0 W := by
  obtain ⟨A, ca, rfl⟩ := own_slice h.own
  exact ⟨⟨k, nm, l, n, m, f, t, b, a, i⟩, A, ca, 0, h.x0, h.t0, own_LIn h.own, by simp only; omega, by simp only; omega, by simp only [totR]; omega, h.low, fun g off e h0 => by
    have := (h.own.lt g (by rw [e]; rfl)).1; omega⟩
theorem ruleOut_mk {W0 W X : World} {k : Int} {nm : Tx} {l : List Tx} {n m ln : Int} {f t b a i : Tx} {A : Option Addr} {ca : Nat} (hL : LIn W A ca l) (hn : -9223372036854775808 ≤ n ∧ n ≤ 9223372036854775807) (hm : -9223372036854775808 ≤ m ∧ m ≤ 9223372036854775807) (hs : totR ⟨k, nm, l, n, m, f, t, b, a, i⟩ ≤ 1048576) (hb : Below W0.heap.size W0 W) (hA : ∀ g off, A = some ⟨g, off, none⟩ → l ≠ [] → g ≠ W0.heap.size + 1) (hg : W.grownBy X (some (W0.heap.size + 1))) :
    RuleOut W0 (.returned (.agg #[.int .i64 k, .string (bs nm), .slice A l.length ca, .int .i64 n, .int .i64 m, .string (bs f), .string (bs t), .string (bs b), .string (bs a), .string (bs i), .int .i64 ln])) X :=
  ⟨⟨k, nm, l, n, m, f, t, b, a, i⟩, A, ca, ln, rfl, hL.grown hg hA, hn, hm, hs, hb.grown hg hb.size (fun q e => by simp at e; omega)⟩
end Go.Proofs.YtnnmjmjbfeoggaaGreatDoor
