/-
  Lists of integers and shapes that are written out in one statement: sums, lengths, a list of shapes.
-/
import Derived.Test.YtechijfckmfoaaaShR
namespace Go.Proofs.Ytechijfckmfoaaa
set_option maxRecDepth 100000
open Go.ChangeShapes Go.WideShapes Go.ChangeAt Go.RowKit

section
variable {o : Oper} {a : Act} {w : World}
theorem st_add (X : Operand) (x y : Int) (hop : o.op = .binOp .add 3 X (.const (.int .i64 y)) 3) (hx : a.eval X = .int .i64 x) (hs : IntKind.i64.wrap (x + y) = x + y) : Made Try.prog o a w (.int (x + y)) := by
  refine ⟨.int .i64 (x + y), w, ?_, rfl, Below.refl _ _⟩
  have hc : a.eval (.const (.int .i64 y)) = .int .i64 y := rfl
  simp [execOp, hop, hx, hc]
  rw [← hs]
  rfl
theorem st_neg (X : Operand) (x : Int) (hop : o.op = .unOp .neg 3 X) (hx : a.eval X = .int .i64 x) (hs : IntKind.i64.wrap (0 - x) = -x) : Made Try.prog o a w (.int (-x)) := by
  have h : (Op.unary .neg (.int .i64 x)).run Try.prog w = .ok (.int .i64 (IntKind.i64.wrap (0 - x))) w := rfl
  rw [hs] at h
  exact ⟨.int .i64 (-x), w, by simp [execOp, hop, hx, h, Result.andThen], rfl, Below.refl _ _⟩
theorem st_len (X : Operand) {L : List (List Int × List Int)} {v : Value} (hop : o.op = .call { callee := .builtin .len, args := #[X], argTypes := #[26] }) (hx : a.eval X = v) (h : spSem (.all L) v w) : Made Try.prog o a w (.int L.length) := by
  obtain ⟨g, rfl, _⟩ := h
  refine ⟨.int .i64 L.length, w, ?_, rfl, Below.refl _ _⟩
  simp [execOp, hop, hx, resolve, invoke, builtin]
  rfl
theorem run_all (A0 B0 : Option Addr) (n0 c0 m0 d0 : Nat) (A1 B1 : Option Addr) (n1 c1 m1 d1 : Nat) (A2 B2 : Option Addr) (n2 c2 m2 d2 : Nat) (A3 B3 : Option Addr) (n3 c3 m3 d3 : Nat) (A4 B4 : Option Addr) (n4 c4 m4 d4 : Nat) (A5 B5 : Option Addr) (n5 c5 m5 d5 : Nat) (A6 B6 : Option Addr) (n6 c6 m6 d6 : Nat) (A7 B7 : Option Addr) (n7 c7 m7 d7 : Nat) (A8 B8 : Option Addr) (n8 c8 m8 d8 : Nat) (A9 B9 : Option Addr) (n9 c9 m9 d9 : Nat) (A10 B10 : Option Addr) (n10 c10 m10 d10 : Nat) (A11 B11 : Option Addr) (n11 c11 m11 d11 : Nat) (w : World) : (Instr.buildSlice 26 12 #[(0, .agg #[.slice A0 n0 c0, .slice B0 m0 d0]), (1, .agg #[.slice A1 n1 c1, .slice B1 m1 d1]), (2, .agg #[.slice A2 n2 c2, .slice B2 m2 d2]), (3, .agg #[.slice A3 n3 c3, .slice B3 m3 d3]), (4, .agg #[.slice A4 n4 c4, .slice B4 m4 d4]), (5, .agg #[.slice A5 n5 c5, .slice B5 m5 d5]), (6, .agg #[.slice A6 n6 c6, .slice B6 m6 d6]), (7, .agg #[.slice A7 n7 c7, .slice B7 m7 d7]), (8, .agg #[.slice A8 n8 c8, .slice B8 m8 d8]), (9, .agg #[.slice A9 n9 c9, .slice B9 m9 d9]), (10, .agg #[.slice A10 n10 c10, .slice B10 m10 d10]), (11, .agg #[.slice A11 n11 c11, .slice B11 m11 d11])]).run Try.prog w = .ok (.slice (some ⟨w.heap.size, 0, none⟩) 12 12) (w.alloc (.cells #[.slice A0 n0 c0, .slice B0 m0 d0, .slice A1 n1 c1, .slice B1 m1 d1, .slice A2 n2 c2, .slice B2 m2 d2, .slice A3 n3 c3, .slice B3 m3 d3, .slice A4 n4 c4, .slice B4 m4 d4, .slice A5 n5 c5, .slice B5 m5 d5, .slice A6 n6 c6, .slice B6 m6 d6, .slice A7 n7 c7, .slice B7 m7 d7, .slice A8 n8 c8, .slice B8 m8 d8, .slice A9 n9 c9, .slice B9 m9 d9, .slice A10 n10 c10, .slice B10 m10 d10, .slice A11 n11 c11, .slice B11 m11 d11] 25)) := by kernel_rfl
set_option maxHeartbeats 1000000 in
theorem st_all (hop : o.op = .buildSlice 26 12 #[(0, .tmp 11), (1, .tmp 13), (2, .tmp 16), (3, .tmp 21), (4, .tmp 24), (5, .tmp 27), (6, .tmp 30), (7, .tmp 33), (8, .tmp 36), (9, .tmp 39), (10, .tmp 44), (11, .tmp 47)]) {v0 : Value} {k0 p0 : List Int} (e0 : a.eval (.tmp 11) = v0) (h0 : spSem (.shp k0 p0) v0 w) {v1 : Value} {k1 p1 : List Int} (e1 : a.eval (.tmp 13) = v1) (h1 : spSem (.shp k1 p1) v1 w) {v2 : Value} {k2 p2 : List Int} (e2 : a.eval (.tmp 16) = v2) (h2 : spSem (.shp k2 p2) v2 w) {v3 : Value} {k3 p3 : List Int} (e3 : a.eval (.tmp 21) = v3) (h3 : spSem (.shp k3 p3) v3 w) {v4 : Value} {k4 p4 : List Int} (e4 : a.eval (.tmp 24) = v4) (h4 : spSem (.shp k4 p4) v4 w) {v5 : Value} {k5 p5 : List Int} (e5 : a.eval (.tmp 27) = v5) (h5 : spSem (.shp k5 p5) v5 w) {v6 : Value} {k6 p6 : List Int} (e6 : a.eval (.tmp 30) = v6) (h6 : spSem (.shp k6 p6) v6 w) {v7 : Value} {k7 p7 : List Int} (e7 : a.eval (.tmp 33) = v7) (h7 : spSem (.shp k7 p7) v7 w) {v8 : Value} {k8 p8 : List Int} (e8 : a.eval (.tmp 36) = v8) (h8 : spSem (.shp k8 p8) v8 w) {v9 : Value} {k9 p9 : List Int} (e9 : a.eval (.tmp 39) = v9) (h9 : spSem (.shp k9 p9) v9 w) {v10 : Value} {k10 p10 : List Int} (e10 : a.eval (.tmp 44) = v10) (h10 : spSem (.shp k10 p10) v10 w) {v11 : Value} {k11 p11 : List Int} (e11 : a.eval (.tmp 47) = v11) (h11 : spSem (.shp k11 p11) v11 w) :
    Made Try.prog o a w (.all [(k0, p0), (k1, p1), (k2, p2), (k3, p3), (k4, p4), (k5, p5), (k6, p6), (k7, p7), (k8, p8), (k9, p9), (k10, p10), (k11, p11)]) := by
  obtain ⟨_, _, rfl, A0, c0, B0, d0, rfl, rfl, i0, j0⟩ := h0
  obtain ⟨_, _, rfl, A1, c1, B1, d1, rfl, rfl, i1, j1⟩ := h1
  obtain ⟨_, _, rfl, A2, c2, B2, d2, rfl, rfl, i2, j2⟩ := h2
  obtain ⟨_, _, rfl, A3, c3, B3, d3, rfl, rfl, i3, j3⟩ := h3
  obtain ⟨_, _, rfl, A4, c4, B4, d4, rfl, rfl, i4, j4⟩ := h4
  obtain ⟨_, _, rfl, A5, c5, B5, d5, rfl, rfl, i5, j5⟩ := h5
  obtain ⟨_, _, rfl, A6, c6, B6, d6, rfl, rfl, i6, j6⟩ := h6
  obtain ⟨_, _, rfl, A7, c7, B7, d7, rfl, rfl, i7, j7⟩ := h7
  obtain ⟨_, _, rfl, A8, c8, B8, d8, rfl, rfl, i8, j8⟩ := h8
  obtain ⟨_, _, rfl, A9, c9, B9, d9, rfl, rfl, i9, j9⟩ := h9
  obtain ⟨_, _, rfl, A10, c10, B10, d10, rfl, rfl, i10, j10⟩ := h10
  obtain ⟨_, _, rfl, A11, c11, B11, d11, rfl, rfl, i11, j11⟩ := h11
  refine ⟨_, _, by simp [execOp, hop, e0, e1, e2, e3, e4, e5, e6, e7, e8, e9, e10, e11, run_all, Result.andThen] <;> rfl, ⟨w.heap.size, rfl, by simp, fun j hj => ?_⟩, box_b w _⟩
  have R := heap_alloc_new w (.cells #[.slice A0 k0.length c0, .slice B0 p0.length d0, .slice A1 k1.length c1, .slice B1 p1.length d1, .slice A2 k2.length c2, .slice B2 p2.length d2, .slice A3 k3.length c3, .slice B3 p3.length d3, .slice A4 k4.length c4, .slice B4 p4.length d4, .slice A5 k5.length c5, .slice B5 p5.length d5, .slice A6 k6.length c6, .slice B6 p6.length d6, .slice A7 k7.length c7, .slice B7 p7.length d7, .slice A8 k8.length c8, .slice B8 p8.length d8, .slice A9 k9.length c9, .slice B9 p9.length d9, .slice A10 k10.length c10, .slice B10 p10.length d10, .slice A11 k11.length c11, .slice B11 p11.length d11] 25)
  match j, hj with
  | 0, _ => exact ⟨_, _, by rw [cell_of_row _ _ _ _ _ _ R]; rfl, by rw [cell_of_row _ _ _ _ _ _ R]; rfl, A0, c0, B0, d0, rfl, rfl, i0.below (box_b w _), j0.below (box_b w _)⟩
  | 1, _ => exact ⟨_, _, by rw [cell_of_row _ _ _ _ _ _ R]; rfl, by rw [cell_of_row _ _ _ _ _ _ R]; rfl, A1, c1, B1, d1, rfl, rfl, i1.below (box_b w _), j1.below (box_b w _)⟩
  | 2, _ => exact ⟨_, _, by rw [cell_of_row _ _ _ _ _ _ R]; rfl, by rw [cell_of_row _ _ _ _ _ _ R]; rfl, A2, c2, B2, d2, rfl, rfl, i2.below (box_b w _), j2.below (box_b w _)⟩
  | 3, _ => exact ⟨_, _, by rw [cell_of_row _ _ _ _ _ _ R]; rfl, by rw [cell_of_row _ _ _ _ _ _ R]; rfl, A3, c3, B3, d3, rfl, rfl, i3.below (box_b w _), j3.below (box_b w _)⟩
  | 4, _ => exact ⟨_, _, by rw [cell_of_row _ _ _ _ _ _ R]; rfl, by rw [cell_of_row _ _ _ _ _ _ R]; rfl, A4, c4, B4, d4, rfl, rfl, i4.below (box_b w _), j4.below (box_b w _)⟩
  | 5, _ => exact ⟨_, _, by rw [cell_of_row _ _ _ _ _ _ R]; rfl, by rw [cell_of_row _ _ _ _ _ _ R]; rfl, A5, c5, B5, d5, rfl, rfl, i5.below (box_b w _), j5.below (box_b w _)⟩
  | 6, _ => exact ⟨_, _, by rw [cell_of_row _ _ _ _ _ _ R]; rfl, by rw [cell_of_row _ _ _ _ _ _ R]; rfl, A6, c6, B6, d6, rfl, rfl, i6.below (box_b w _), j6.below (box_b w _)⟩
  | 7, _ => exact ⟨_, _, by rw [cell_of_row _ _ _ _ _ _ R]; rfl, by rw [cell_of_row _ _ _ _ _ _ R]; rfl, A7, c7, B7, d7, rfl, rfl, i7.below (box_b w _), j7.below (box_b w _)⟩
  | 8, _ => exact ⟨_, _, by rw [cell_of_row _ _ _ _ _ _ R]; rfl, by rw [cell_of_row _ _ _ _ _ _ R]; rfl, A8, c8, B8, d8, rfl, rfl, i8.below (box_b w _), j8.below (box_b w _)⟩
  | 9, _ => exact ⟨_, _, by rw [cell_of_row _ _ _ _ _ _ R]; rfl, by rw [cell_of_row _ _ _ _ _ _ R]; rfl, A9, c9, B9, d9, rfl, rfl, i9.below (box_b w _), j9.below (box_b w _)⟩
  | 10, _ => exact ⟨_, _, by rw [cell_of_row _ _ _ _ _ _ R]; rfl, by rw [cell_of_row _ _ _ _ _ _ R]; rfl, A10, c10, B10, d10, rfl, rfl, i10.below (box_b w _), j10.below (box_b w _)⟩
  | 11, _ => exact ⟨_, _, by rw [cell_of_row _ _ _ _ _ _ R]; rfl, by rw [cell_of_row _ _ _ _ _ _ R]; rfl, A11, c11, B11, d11, rfl, rfl, i11.below (box_b w _), j11.below (box_b w _)⟩
  | j + 12, hj => exact absurd hj (by simp)
end
end Go.Proofs.Ytechijfckmfoaaa
