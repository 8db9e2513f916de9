/-
  RightsForms: the texts, and what they are compiled to: plain.
-/
import Derived.Test.YtiodjjnohbjhlaaGreatDoorRt0
import Derived.Test.YtiodjjnohbjhlaaGreatDoorPolS
import Derived.Test.YtiodjjnohbjhlaaGreatDoorRtP
import Derived.Test.YtiodjjnohbjhlaaGreatDoorRt5
import Derived.Test.YtiodjjnohbjhlaaGreatDoorDT0
namespace Go.Proofs.YtiodjjnohbjhlaaGreatDoor
set_option maxRecDepth 100000

def nmR (i : Nat) : Tx := [120, byteOf (97 + i)]
/-- each text, the line, the error -/
def rformT (k : Tx) : List (Tx × Int × Int) := [
  ([114, 111, 108, 101, 32, 97, 32, 62, 32] ++ k ++ [10, 114, 111, 108, 101, 32] ++ k ++ [10], -1, 0),
  ([114, 111, 108, 101, 32] ++ k ++ [10, 114, 111, 108, 101, 32] ++ k ++ [10], 2, 4),
  ([114, 111, 108, 101, 32, 97, 32, 62, 32] ++ k ++ [10], 1, 3),
  ([114, 111, 108, 101, 32, 97, 10, 114, 111, 108, 101, 32, 98, 32, 62, 32, 99, 10, 114, 111, 108, 101, 32, 99, 32, 62, 32, 98, 10], 2, 6),
  ([117, 115, 101, 114, 32, 117, 10, 117, 115, 101, 114, 32] ++ k ++ [10, 117, 115, 101, 114, 32, 117, 10], 3, 4),
  ([117, 115, 101, 114, 32, 117, 32] ++ k ++ [10], 1, 3),
  ([112, 101, 114, 109, 32, 112, 10, 112, 101, 114, 109, 32, 112, 10], 2, 4),
  ([114, 111, 108, 101, 32, 97, 10, 112, 101, 114, 109, 32, 112, 32, 97, 32] ++ k ++ [10], 2, 3),
  ([114, 111, 108, 101, 32, 97, 10, 115, 115, 100, 32, 50, 32, 97, 32] ++ k ++ [10], 2, 3),
  ([108, 101, 110, 100, 32] ++ k ++ [32, 49, 32, 49, 10], 1, 3),
  ([114, 111, 108, 101, 32, 97, 10, 108, 101, 110, 100, 32, 97, 32, 49, 32, 49, 10, 108, 101, 110, 100, 32, 97, 32, 50, 32, 50, 10], 3, 4),
  ([114, 111, 108, 101, 32, 97, 10, 114, 111, 108, 101, 32, 98, 10, 117, 115, 101, 114, 32, 117, 32, 97, 32, 98, 10, 115, 115, 100, 32, 50, 32, 97, 32, 98, 10], 3, 7),
  ([114, 111, 108, 101, 32, 97, 32, 62, 32, 98, 10, 114, 111, 108, 101, 32, 98, 10, 117, 115, 101, 114, 32, 118, 32, 98, 10, 117, 115, 101, 114, 32, 117, 32, 97, 10, 115, 115, 100, 32, 50, 32, 97, 32, 98, 10], 4, 7),
  ([114, 111, 108, 101, 32, 97, 10, 114, 111, 108, 101, 32, 98, 10, 117, 115, 101, 114, 32, 117, 32, 97, 32, 98, 10, 100, 115, 100, 32, 50, 32, 97, 32, 98, 10], -1, 0),
  ([117, 115, 101, 114, 32, 117, 32, 122, 10, 114, 111, 108, 101, 32, 97, 32, 62, 32, 121, 10], 2, 3),
  ([101, 120, 99, 108, 117, 115, 105, 118, 101, 32, 116, 32, 117, 10], -1, 0)]
theorem rform_len (k : Tx) : (rformT k).length = 16 := rfl
def rformB {α : Type} (p : Rs α) (line e : Int) : Bool := match p with
  | .ok _ => decide (line = -1) && decide (e = 0)
  | .bad l c => decide ((l : Int) = line) && decide (1 ≤ l) && decide (c = e) && decide (1 ≤ e) && decide (e ≤ 14)
theorem rform_all : ((List.range 9).all fun i => (rformT (nmR i)).all fun x => rformB (rtL (polT x.1).l) x.2.1 x.2.2) = true := by decide +kernel
theorem rform_at {i : Nat} (h : i < 9) {x : Tx × Int × Int} (hx : x ∈ rformT (nmR i)) : rformB (rtL (polT x.1).l) x.2.1 x.2.2 = true :=
  List.all_eq_true.1 (List.all_eq_true.1 rform_all i (List.mem_range.2 h)) x hx
end Go.Proofs.YtiodjjnohbjhlaaGreatDoor
/-
  RightsForms: the table in memory; helps of the statements (printed by gen_rf1.py).
-/
namespace Go.Proofs.YtiodjjnohbjhlaaGreatDoor
set_option maxRecDepth 100000
open Go.ChangeShapes Go.WideShapes Go.ChangeAt Go.RowKit

theorem nmR_bs {i : Nat} {z : Int} (h : z = i) : (⟨#[120]⟩ : ByteArray) ++ bs [byteOf (97 + z).toNat] = bs (nmR i) := by
  subst h
  rw [show (⟨#[120]⟩ : ByteArray) = bs [120] from rfl, bs_append, show (97 + (i : Int)).toNat = 97 + i by omega]
  rfl
/-- the table as the walk lays it -/
def rformV (k : Tx) : List Value := [
  .string (⟨#[114, 111, 108, 101, 32, 97, 32, 62, 32]⟩ ++ bs k ++ ⟨#[10, 114, 111, 108, 101, 32]⟩ ++ bs k ++ ⟨#[10]⟩), .int .i64 (-1), .int .i64 0,
  .string (⟨#[114, 111, 108, 101, 32]⟩ ++ bs k ++ ⟨#[10, 114, 111, 108, 101, 32]⟩ ++ bs k ++ ⟨#[10]⟩), .int .i64 (2), .int .i64 4,
  .string (⟨#[114, 111, 108, 101, 32, 97, 32, 62, 32]⟩ ++ bs k ++ ⟨#[10]⟩), .int .i64 (1), .int .i64 3,
  .string ⟨#[114, 111, 108, 101, 32, 97, 10, 114, 111, 108, 101, 32, 98, 32, 62, 32, 99, 10, 114, 111, 108, 101, 32, 99, 32, 62, 32, 98, 10]⟩, .int .i64 (2), .int .i64 6,
  .string (⟨#[117, 115, 101, 114, 32, 117, 10, 117, 115, 101, 114, 32]⟩ ++ bs k ++ ⟨#[10, 117, 115, 101, 114, 32, 117, 10]⟩), .int .i64 (3), .int .i64 4,
  .string (⟨#[117, 115, 101, 114, 32, 117, 32]⟩ ++ bs k ++ ⟨#[10]⟩), .int .i64 (1), .int .i64 3,
  .string ⟨#[112, 101, 114, 109, 32, 112, 10, 112, 101, 114, 109, 32, 112, 10]⟩, .int .i64 (2), .int .i64 4,
  .string (⟨#[114, 111, 108, 101, 32, 97, 10, 112, 101, 114, 109, 32, 112, 32, 97, 32]⟩ ++ bs k ++ ⟨#[10]⟩), .int .i64 (2), .int .i64 3,
  .string (⟨#[114, 111, 108, 101, 32, 97, 10, 115, 115, 100, 32, 50, 32, 97, 32]⟩ ++ bs k ++ ⟨#[10]⟩), .int .i64 (2), .int .i64 3,
  .string (⟨#[108, 101, 110, 100, 32]⟩ ++ bs k ++ ⟨#[32, 49, 32, 49, 10]⟩), .int .i64 (1), .int .i64 3,
  .string ⟨#[114, 111, 108, 101, 32, 97, 10, 108, 101, 110, 100, 32, 97, 32, 49, 32, 49, 10, 108, 101, 110, 100, 32, 97, 32, 50, 32, 50, 10]⟩, .int .i64 (3), .int .i64 4,
  .string ⟨#[114, 111, 108, 101, 32, 97, 10, 114, 111, 108, 101, 32, 98, 10, 117, 115, 101, 114, 32, 117, 32, 97, 32, 98, 10, 115, 115, 100, 32, 50, 32, 97, 32, 98, 10]⟩, .int .i64 (3), .int .i64 7,
  .string ⟨#[114, 111, 108, 101, 32, 97, 32, 62, 32, 98, 10, 114, 111, 108, 101, 32, 98, 10, 117, 115, 101, 114, 32, 118, 32, 98, 10, 117, 115, 101, 114, 32, 117, 32, 97, 10, 115, 115, 100, 32, 50, 32, 97, 32, 98, 10]⟩, .int .i64 (4), .int .i64 7,
  .string ⟨#[114, 111, 108, 101, 32, 97, 10, 114, 111, 108, 101, 32, 98, 10, 117, 115, 101, 114, 32, 117, 32, 97, 32, 98, 10, 100, 115, 100, 32, 50, 32, 97, 32, 98, 10]⟩, .int .i64 (-1), .int .i64 0,
  .string ⟨#[117, 115, 101, 114, 32, 117, 32, 122, 10, 114, 111, 108, 101, 32, 97, 32, 62, 32, 121, 10]⟩, .int .i64 (2), .int .i64 3,
  .string ⟨#[101, 120, 99, 108, 117, 115, 105, 118, 101, 32, 116, 32, 117, 10]⟩, .int .i64 (-1), .int .i64 0]
def rformC (x : Tx × Int × Int) : List Value := [.string (bs x.1), .int .i64 x.2.1, .int .i64 x.2.2]
theorem rformV_eq (k : Tx) : rformV k = (rformT k).flatMap rformC := by
  have e : ∀ l : Tx, (⟨l.toArray⟩ : ByteArray) = bs l := fun _ => rfl
  simp only [rformV, rformT, List.flatMap_cons, List.flatMap_nil, rformC, ← bs_append]
  rfl
def TabR (w : World) (b : Nat) (k : Tx) : Prop := b < w.heap.size ∧ ∀ j, j < 16 → ∃ x ∈ rformT k, w.cell? ⟨b, j * 3, none⟩ = some (.string (bs x.1)) ∧ w.cell? ⟨b, j * 3 + 1, none⟩ = some (.int .i64 x.2.1) ∧ w.cell? ⟨b, j * 3 + 2, none⟩ = some (.int .i64 x.2.2)
theorem TabR.below {w w' : World} {b : Nat} {k : Tx} (h : TabR w b k) (hb : Below w.heap.size w w') : TabR w' b k :=
  ⟨Nat.lt_of_lt_of_le h.1 hb.size, fun j hj => let ⟨x, hx, a0, a1, a2⟩ := h.2 j hj; ⟨x, hx, (hb.cell (p := ⟨b, j * 3, none⟩) h.1).trans a0, (hb.cell (p := ⟨b, j * 3 + 1, none⟩) h.1).trans a1, (hb.cell (p := ⟨b, j * 3 + 2, none⟩) h.1).trans a2⟩⟩
theorem rform_tab (w : World) (k : Tx) (e : TypeId) : TabR (w.alloc (.cells (rformV k).toArray e)) w.heap.size k := by
  refine ⟨by simp, ?_⟩
  rw [rformV_eq]
  have h := cells_new w ((rformT k).flatMap rformC) e
  intro j hj
  match j, hj with
  | 0, _ => exact ⟨_, List.getElem_mem (l := rformT k) (n := 0) (by rw [rform_len]; omega), h 0 _ rfl, h 1 _ rfl, h 2 _ rfl⟩
  | 1, _ => exact ⟨_, List.getElem_mem (l := rformT k) (n := 1) (by rw [rform_len]; omega), h 3 _ rfl, h 4 _ rfl, h 5 _ rfl⟩
  | 2, _ => exact ⟨_, List.getElem_mem (l := rformT k) (n := 2) (by rw [rform_len]; omega), h 6 _ rfl, h 7 _ rfl, h 8 _ rfl⟩
  | 3, _ => exact ⟨_, List.getElem_mem (l := rformT k) (n := 3) (by rw [rform_len]; omega), h 9 _ rfl, h 10 _ rfl, h 11 _ rfl⟩
  | 4, _ => exact ⟨_, List.getElem_mem (l := rformT k) (n := 4) (by rw [rform_len]; omega), h 12 _ rfl, h 13 _ rfl, h 14 _ rfl⟩
  | 5, _ => exact ⟨_, List.getElem_mem (l := rformT k) (n := 5) (by rw [rform_len]; omega), h 15 _ rfl, h 16 _ rfl, h 17 _ rfl⟩
  | 6, _ => exact ⟨_, List.getElem_mem (l := rformT k) (n := 6) (by rw [rform_len]; omega), h 18 _ rfl, h 19 _ rfl, h 20 _ rfl⟩
  | 7, _ => exact ⟨_, List.getElem_mem (l := rformT k) (n := 7) (by rw [rform_len]; omega), h 21 _ rfl, h 22 _ rfl, h 23 _ rfl⟩
  | 8, _ => exact ⟨_, List.getElem_mem (l := rformT k) (n := 8) (by rw [rform_len]; omega), h 24 _ rfl, h 25 _ rfl, h 26 _ rfl⟩
  | 9, _ => exact ⟨_, List.getElem_mem (l := rformT k) (n := 9) (by rw [rform_len]; omega), h 27 _ rfl, h 28 _ rfl, h 29 _ rfl⟩
  | 10, _ => exact ⟨_, List.getElem_mem (l := rformT k) (n := 10) (by rw [rform_len]; omega), h 30 _ rfl, h 31 _ rfl, h 32 _ rfl⟩
  | 11, _ => exact ⟨_, List.getElem_mem (l := rformT k) (n := 11) (by rw [rform_len]; omega), h 33 _ rfl, h 34 _ rfl, h 35 _ rfl⟩
  | 12, _ => exact ⟨_, List.getElem_mem (l := rformT k) (n := 12) (by rw [rform_len]; omega), h 36 _ rfl, h 37 _ rfl, h 38 _ rfl⟩
  | 13, _ => exact ⟨_, List.getElem_mem (l := rformT k) (n := 13) (by rw [rform_len]; omega), h 39 _ rfl, h 40 _ rfl, h 41 _ rfl⟩
  | 14, _ => exact ⟨_, List.getElem_mem (l := rformT k) (n := 14) (by rw [rform_len]; omega), h 42 _ rfl, h 43 _ rfl, h 44 _ rfl⟩
  | 15, _ => exact ⟨_, List.getElem_mem (l := rformT k) (n := 15) (by rw [rform_len]; omega), h 45 _ rfl, h 46 _ rfl, h 47 _ rfl⟩
  | n + 16, hj => exact absurd hj (by omega)
end Go.Proofs.YtiodjjnohbjhlaaGreatDoor
