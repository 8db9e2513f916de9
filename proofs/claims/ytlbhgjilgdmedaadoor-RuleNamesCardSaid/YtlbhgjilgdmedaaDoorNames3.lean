/-
  The table of RuleNames: its rows.
-/
import Derived.Test.YtlbhgjilgdmedaaDoorNames2
namespace Go.Proofs.YtlbhgjilgdmedaaDoor
set_option maxRecDepth 100000
open Go.ChangeShapes Go.WideShapes Go.ChangeAt Go.RowKit

structure Ent (W : World) (b k : Nat) (s : Tx) (r : Ru) (A : Option Addr) (ca : Nat) : Prop where
  c0 : W.cell? ⟨b, k * 12, none⟩ = some (.string (bs s))
  c1 : W.cell? ⟨b, k * 12 + 1, none⟩ = some (.int .i64 r.kind)
  c2 : W.cell? ⟨b, k * 12 + 2, none⟩ = some (.string (bs r.name))
  c3 : W.cell? ⟨b, k * 12 + 3, none⟩ = some (.slice A r.list.length ca)
  c4 : W.cell? ⟨b, k * 12 + 4, none⟩ = some (.int .i64 r.n)
  c5 : W.cell? ⟨b, k * 12 + 5, none⟩ = some (.int .i64 r.m)
  c6 : W.cell? ⟨b, k * 12 + 6, none⟩ = some (.string (bs r.from_))
  c7 : W.cell? ⟨b, k * 12 + 7, none⟩ = some (.string (bs r.to_))
  c8 : W.cell? ⟨b, k * 12 + 8, none⟩ = some (.string (bs r.by_))
  c9 : W.cell? ⟨b, k * 12 + 9, none⟩ = some (.string (bs r.task))
  c10 : W.cell? ⟨b, k * 12 + 10, none⟩ = some (.string (bs r.in_))
  c11 : W.cell? ⟨b, k * 12 + 11, none⟩ = some (.int .i64 0)
  la : LAt W A ca r.list
  l0 : ∀ g off, A = some ⟨g, off, none⟩ → off = 0
  sz : s.length ≤ 200
  ls : r.list.length ≤ 3
  hp : parseL s = .ok r
  pr : ∀ X, Below W.heap.size W X → Calls Tryd.prog 13 #[.agg #[.int .i64 r.kind, .string (bs r.name), .slice A r.list.length ca, .int .i64 r.n, .int .i64 r.m, .string (bs r.from_), .string (bs r.to_), .string (bs r.by_), .string (bs r.task), .string (bs r.in_), .int .i64 0]] X fun e w' => e = .returned (.tuple #[.string (bs s), .nilIface]) ∧ Below X.heap.size X w'
theorem lAt_alloc (X : World) (l : List Tx) (hl : l.length ≤ 1000) (n : Nat) (hn : n = X.heap.size) : LAt (X.alloc (.cells (scells l).toArray 9)) (some ⟨n, 0, none⟩) l.length l := by
  subst hn
  refine ⟨Nat.le_refl _, by omega, fun j hj => ⟨X.heap.size, 0, rfl, by simp, ?_⟩⟩
  rw [Nat.zero_add, new_cell]
  simp [scells, hj]

def tabCells (w1 : World) (x y z d : Tx) (v : Int) : Array Value := #[.string ((⟨#[114, 111, 108, 101, 32]⟩ : ByteArray) ++ bs x ++ (⟨#[32, 62, 32]⟩ : ByteArray) ++ bs y ++ (⟨#[32]⟩ : ByteArray) ++ bs z), .int .i64 1, .string (bs x), .slice (some ⟨w1.heap.size, 0, none⟩) 2 2, .int .i64 0, .int .i64 0, .string (⟨#[]⟩ : ByteArray), .string (⟨#[]⟩ : ByteArray), .string (⟨#[]⟩ : ByteArray), .string (⟨#[]⟩ : ByteArray), .string (⟨#[]⟩ : ByteArray), .int .i64 0, .string ((⟨#[117, 115, 101, 114, 32]⟩ : ByteArray) ++ bs x ++ (⟨#[32]⟩ : ByteArray) ++ bs y), .int .i64 2, .string (bs x), .slice (some ⟨w1.heap.size + 1, 0, none⟩) 1 1, .int .i64 0, .int .i64 0, .string (⟨#[]⟩ : ByteArray), .string (⟨#[]⟩ : ByteArray), .string (⟨#[]⟩ : ByteArray), .string (⟨#[]⟩ : ByteArray), .string (⟨#[]⟩ : ByteArray), .int .i64 0, .string ((⟨#[112, 101, 114, 109, 32]⟩ : ByteArray) ++ bs x), .int .i64 3, .string (bs x), .slice none 0 0, .int .i64 0, .int .i64 0, .string (⟨#[]⟩ : ByteArray), .string (⟨#[]⟩ : ByteArray), .string (⟨#[]⟩ : ByteArray), .string (⟨#[]⟩ : ByteArray), .string (⟨#[]⟩ : ByteArray), .int .i64 0, .string ((⟨#[115, 115, 100, 32, 50, 32]⟩ : ByteArray) ++ bs x ++ (⟨#[32]⟩ : ByteArray) ++ bs y), .int .i64 4, .string (⟨#[]⟩ : ByteArray), .slice (some ⟨w1.heap.size + 1 + 1, 0, none⟩) 2 2, .int .i64 2, .int .i64 0, .string (⟨#[]⟩ : ByteArray), .string (⟨#[]⟩ : ByteArray), .string (⟨#[]⟩ : ByteArray), .string (⟨#[]⟩ : ByteArray), .string (⟨#[]⟩ : ByteArray), .int .i64 0, .string ((⟨#[100, 115, 100, 32, 50, 32]⟩ : ByteArray) ++ bs x ++ (⟨#[32]⟩ : ByteArray) ++ bs y ++ (⟨#[32]⟩ : ByteArray) ++ bs z), .int .i64 5, .string (⟨#[]⟩ : ByteArray), .slice (some ⟨w1.heap.size + 1 + 1 + 1, 0, none⟩) 3 3, .int .i64 2, .int .i64 0, .string (⟨#[]⟩ : ByteArray), .string (⟨#[]⟩ : ByteArray), .string (⟨#[]⟩ : ByteArray), .string (⟨#[]⟩ : ByteArray), .string (⟨#[]⟩ : ByteArray), .int .i64 0, .string ((⟨#[101, 120, 99, 108, 117, 115, 105, 118, 101, 32]⟩ : ByteArray) ++ bs x ++ (⟨#[32]⟩ : ByteArray) ++ bs y), .int .i64 6, .string (⟨#[]⟩ : ByteArray), .slice (some ⟨w1.heap.size + 1 + 1 + 1 + 1, 0, none⟩) 2 2, .int .i64 0, .int .i64 0, .string (⟨#[]⟩ : ByteArray), .string (⟨#[]⟩ : ByteArray), .string (⟨#[]⟩ : ByteArray), .string (⟨#[]⟩ : ByteArray), .string (⟨#[]⟩ : ByteArray), .int .i64 0, .string ((⟨#[108, 101, 110, 100, 32]⟩ : ByteArray) ++ bs x ++ (⟨#[32]⟩ : ByteArray) ++ bs d ++ (⟨#[32, 55, 55]⟩ : ByteArray)), .int .i64 7, .string (bs x), .slice none 0 0, .int .i64 v, .int .i64 77, .string (⟨#[]⟩ : ByteArray), .string (⟨#[]⟩ : ByteArray), .string (⟨#[]⟩ : ByteArray), .string (⟨#[]⟩ : ByteArray), .string (⟨#[]⟩ : ByteArray), .int .i64 0, .string ((⟨#[115, 116, 97, 116, 101, 32]⟩ : ByteArray) ++ bs x ++ (⟨#[32, 112, 97, 115, 116, 32, 105, 110, 32]⟩ : ByteArray) ++ bs y), .int .i64 8, .string (bs x), .slice none 0 0, .int .i64 3, .int .i64 0, .string (⟨#[]⟩ : ByteArray), .string (⟨#[]⟩ : ByteArray), .string (⟨#[]⟩ : ByteArray), .string (⟨#[]⟩ : ByteArray), .string (bs y), .int .i64 0, .string ((⟨#[111, 110, 32]⟩ : ByteArray) ++ bs x ++ (⟨#[32, 102, 114, 111, 109, 32]⟩ : ByteArray) ++ bs y ++ (⟨#[32, 116, 111, 32]⟩ : ByteArray) ++ bs z ++ (⟨#[32, 98, 121, 32]⟩ : ByteArray) ++ bs x ++ (⟨#[32, 116, 97, 115, 107, 32]⟩ : ByteArray) ++ bs y), .int .i64 9, .string (bs x), .slice none 0 0, .int .i64 0, .int .i64 0, .string (bs y), .string (bs z), .string (bs x), .string (bs y), .string (⟨#[]⟩ : ByteArray), .int .i64 0, .string ((⟨#[97, 117, 116, 111, 32, 102, 114, 111, 109, 32]⟩ : ByteArray) ++ bs x ++ (⟨#[32, 116, 111, 32]⟩ : ByteArray) ++ bs y), .int .i64 10, .string (⟨#[]⟩ : ByteArray), .slice none 0 0, .int .i64 0, .int .i64 0, .string (bs x), .string (bs y), .string (⟨#[]⟩ : ByteArray), .string (⟨#[]⟩ : ByteArray), .string (⟨#[]⟩ : ByteArray), .int .i64 0, .string ((⟨#[97, 102, 116, 101, 114, 32]⟩ : ByteArray) ++ bs d ++ (⟨#[32, 102, 114, 111, 109, 32]⟩ : ByteArray) ++ bs x ++ (⟨#[32, 116, 111, 32]⟩ : ByteArray) ++ bs y), .int .i64 11, .string (⟨#[]⟩ : ByteArray), .slice none 0 0, .int .i64 v, .int .i64 0, .string (bs x), .string (bs y), .string (⟨#[]⟩ : ByteArray), .string (⟨#[]⟩ : ByteArray), .string (⟨#[]⟩ : ByteArray), .int .i64 0]
def tabW (w1 : World) (x y z d : Tx) (v : Int) : World := (((((w1.alloc (.cells #[.string (bs y), .string (bs z)] 9)).alloc (.cells #[.string (bs y)] 9)).alloc (.cells #[.string (bs x), .string (bs y)] 9)).alloc (.cells #[.string (bs x), .string (bs y), .string (bs z)] 9)).alloc (.cells #[.string (bs x), .string (bs y)] 9)).alloc (.cells #[.string ((⟨#[114, 111, 108, 101, 32]⟩ : ByteArray) ++ bs x ++ (⟨#[32, 62, 32]⟩ : ByteArray) ++ bs y ++ (⟨#[32]⟩ : ByteArray) ++ bs z), .int .i64 1, .string (bs x), .slice (some ⟨w1.heap.size, 0, none⟩) 2 2, .int .i64 0, .int .i64 0, .string (⟨#[]⟩ : ByteArray), .string (⟨#[]⟩ : ByteArray), .string (⟨#[]⟩ : ByteArray), .string (⟨#[]⟩ : ByteArray), .string (⟨#[]⟩ : ByteArray), .int .i64 0, .string ((⟨#[117, 115, 101, 114, 32]⟩ : ByteArray) ++ bs x ++ (⟨#[32]⟩ : ByteArray) ++ bs y), .int .i64 2, .string (bs x), .slice (some ⟨w1.heap.size + 1, 0, none⟩) 1 1, .int .i64 0, .int .i64 0, .string (⟨#[]⟩ : ByteArray), .string (⟨#[]⟩ : ByteArray), .string (⟨#[]⟩ : ByteArray), .string (⟨#[]⟩ : ByteArray), .string (⟨#[]⟩ : ByteArray), .int .i64 0, .string ((⟨#[112, 101, 114, 109, 32]⟩ : ByteArray) ++ bs x), .int .i64 3, .string (bs x), .slice none 0 0, .int .i64 0, .int .i64 0, .string (⟨#[]⟩ : ByteArray), .string (⟨#[]⟩ : ByteArray), .string (⟨#[]⟩ : ByteArray), .string (⟨#[]⟩ : ByteArray), .string (⟨#[]⟩ : ByteArray), .int .i64 0, .string ((⟨#[115, 115, 100, 32, 50, 32]⟩ : ByteArray) ++ bs x ++ (⟨#[32]⟩ : ByteArray) ++ bs y), .int .i64 4, .string (⟨#[]⟩ : ByteArray), .slice (some ⟨w1.heap.size + 1 + 1, 0, none⟩) 2 2, .int .i64 2, .int .i64 0, .string (⟨#[]⟩ : ByteArray), .string (⟨#[]⟩ : ByteArray), .string (⟨#[]⟩ : ByteArray), .string (⟨#[]⟩ : ByteArray), .string (⟨#[]⟩ : ByteArray), .int .i64 0, .string ((⟨#[100, 115, 100, 32, 50, 32]⟩ : ByteArray) ++ bs x ++ (⟨#[32]⟩ : ByteArray) ++ bs y ++ (⟨#[32]⟩ : ByteArray) ++ bs z), .int .i64 5, .string (⟨#[]⟩ : ByteArray), .slice (some ⟨w1.heap.size + 1 + 1 + 1, 0, none⟩) 3 3, .int .i64 2, .int .i64 0, .string (⟨#[]⟩ : ByteArray), .string (⟨#[]⟩ : ByteArray), .string (⟨#[]⟩ : ByteArray), .string (⟨#[]⟩ : ByteArray), .string (⟨#[]⟩ : ByteArray), .int .i64 0, .string ((⟨#[101, 120, 99, 108, 117, 115, 105, 118, 101, 32]⟩ : ByteArray) ++ bs x ++ (⟨#[32]⟩ : ByteArray) ++ bs y), .int .i64 6, .string (⟨#[]⟩ : ByteArray), .slice (some ⟨w1.heap.size + 1 + 1 + 1 + 1, 0, none⟩) 2 2, .int .i64 0, .int .i64 0, .string (⟨#[]⟩ : ByteArray), .string (⟨#[]⟩ : ByteArray), .string (⟨#[]⟩ : ByteArray), .string (⟨#[]⟩ : ByteArray), .string (⟨#[]⟩ : ByteArray), .int .i64 0, .string ((⟨#[108, 101, 110, 100, 32]⟩ : ByteArray) ++ bs x ++ (⟨#[32]⟩ : ByteArray) ++ bs d ++ (⟨#[32, 55, 55]⟩ : ByteArray)), .int .i64 7, .string (bs x), .slice none 0 0, .int .i64 v, .int .i64 77, .string (⟨#[]⟩ : ByteArray), .string (⟨#[]⟩ : ByteArray), .string (⟨#[]⟩ : ByteArray), .string (⟨#[]⟩ : ByteArray), .string (⟨#[]⟩ : ByteArray), .int .i64 0, .string ((⟨#[115, 116, 97, 116, 101, 32]⟩ : ByteArray) ++ bs x ++ (⟨#[32, 112, 97, 115, 116, 32, 105, 110, 32]⟩ : ByteArray) ++ bs y), .int .i64 8, .string (bs x), .slice none 0 0, .int .i64 3, .int .i64 0, .string (⟨#[]⟩ : ByteArray), .string (⟨#[]⟩ : ByteArray), .string (⟨#[]⟩ : ByteArray), .string (⟨#[]⟩ : ByteArray), .string (bs y), .int .i64 0, .string ((⟨#[111, 110, 32]⟩ : ByteArray) ++ bs x ++ (⟨#[32, 102, 114, 111, 109, 32]⟩ : ByteArray) ++ bs y ++ (⟨#[32, 116, 111, 32]⟩ : ByteArray) ++ bs z ++ (⟨#[32, 98, 121, 32]⟩ : ByteArray) ++ bs x ++ (⟨#[32, 116, 97, 115, 107, 32]⟩ : ByteArray) ++ bs y), .int .i64 9, .string (bs x), .slice none 0 0, .int .i64 0, .int .i64 0, .string (bs y), .string (bs z), .string (bs x), .string (bs y), .string (⟨#[]⟩ : ByteArray), .int .i64 0, .string ((⟨#[97, 117, 116, 111, 32, 102, 114, 111, 109, 32]⟩ : ByteArray) ++ bs x ++ (⟨#[32, 116, 111, 32]⟩ : ByteArray) ++ bs y), .int .i64 10, .string (⟨#[]⟩ : ByteArray), .slice none 0 0, .int .i64 0, .int .i64 0, .string (bs x), .string (bs y), .string (⟨#[]⟩ : ByteArray), .string (⟨#[]⟩ : ByteArray), .string (⟨#[]⟩ : ByteArray), .int .i64 0, .string ((⟨#[97, 102, 116, 101, 114, 32]⟩ : ByteArray) ++ bs d ++ (⟨#[32, 102, 114, 111, 109, 32]⟩ : ByteArray) ++ bs x ++ (⟨#[32, 116, 111, 32]⟩ : ByteArray) ++ bs y), .int .i64 11, .string (⟨#[]⟩ : ByteArray), .slice none 0 0, .int .i64 v, .int .i64 0, .string (bs x), .string (bs y), .string (⟨#[]⟩ : ByteArray), .string (⟨#[]⟩ : ByteArray), .string (⟨#[]⟩ : ByteArray), .int .i64 0] 40)
theorem st_role (x y z d : Tx) : (⟨#[114, 111, 108, 101, 32]⟩ : ByteArray) ++ bs x ++ (⟨#[32, 62, 32]⟩ : ByteArray) ++ bs y ++ (⟨#[32]⟩ : ByteArray) ++ bs z = bs (joinP [[114, 111, 108, 101], x, [62], y, z]) := by
  apply ext_bs
  simp [bs, join_cons2, join_one]

theorem st_user (x y z d : Tx) : (⟨#[117, 115, 101, 114, 32]⟩ : ByteArray) ++ bs x ++ (⟨#[32]⟩ : ByteArray) ++ bs y = bs (joinP [[117, 115, 101, 114], x, y]) := by
  apply ext_bs
  simp [bs, join_cons2, join_one]

theorem st_perm (x y z d : Tx) : (⟨#[112, 101, 114, 109, 32]⟩ : ByteArray) ++ bs x = bs (joinP [[112, 101, 114, 109], x]) := by
  apply ext_bs
  simp [bs, join_cons2, join_one]

theorem st_ssd (x y z d : Tx) : (⟨#[115, 115, 100, 32, 50, 32]⟩ : ByteArray) ++ bs x ++ (⟨#[32]⟩ : ByteArray) ++ bs y = bs (joinP [[115, 115, 100], [50], x, y]) := by
  apply ext_bs
  simp [bs, join_cons2, join_one]

theorem st_dsd (x y z d : Tx) : (⟨#[100, 115, 100, 32, 50, 32]⟩ : ByteArray) ++ bs x ++ (⟨#[32]⟩ : ByteArray) ++ bs y ++ (⟨#[32]⟩ : ByteArray) ++ bs z = bs (joinP [[100, 115, 100], [50], x, y, z]) := by
  apply ext_bs
  simp [bs, join_cons2, join_one]

theorem st_excl (x y z d : Tx) : (⟨#[101, 120, 99, 108, 117, 115, 105, 118, 101, 32]⟩ : ByteArray) ++ bs x ++ (⟨#[32]⟩ : ByteArray) ++ bs y = bs (joinP [[101, 120, 99, 108, 117, 115, 105, 118, 101], x, y]) := by
  apply ext_bs
  simp [bs, join_cons2, join_one]

theorem st_lend (x y z d : Tx) : (⟨#[108, 101, 110, 100, 32]⟩ : ByteArray) ++ bs x ++ (⟨#[32]⟩ : ByteArray) ++ bs d ++ (⟨#[32, 55, 55]⟩ : ByteArray) = bs (joinP [[108, 101, 110, 100], x, d, [55, 55]]) := by
  apply ext_bs
  simp [bs, join_cons2, join_one]

theorem st_state (x y z d : Tx) : (⟨#[115, 116, 97, 116, 101, 32]⟩ : ByteArray) ++ bs x ++ (⟨#[32, 112, 97, 115, 116, 32, 105, 110, 32]⟩ : ByteArray) ++ bs y = bs (joinP [[115, 116, 97, 116, 101], x, [112, 97, 115, 116], [105, 110], y]) := by
  apply ext_bs
  simp [bs, join_cons2, join_one]

theorem st_on (x y z d : Tx) : (⟨#[111, 110, 32]⟩ : ByteArray) ++ bs x ++ (⟨#[32, 102, 114, 111, 109, 32]⟩ : ByteArray) ++ bs y ++ (⟨#[32, 116, 111, 32]⟩ : ByteArray) ++ bs z ++ (⟨#[32, 98, 121, 32]⟩ : ByteArray) ++ bs x ++ (⟨#[32, 116, 97, 115, 107, 32]⟩ : ByteArray) ++ bs y = bs (joinP [[111, 110], x, [102, 114, 111, 109], y, [116, 111], z, [98, 121], x, [116, 97, 115, 107], y]) := by
  apply ext_bs
  simp [bs, join_cons2, join_one]

theorem st_auto (x y z d : Tx) : (⟨#[97, 117, 116, 111, 32, 102, 114, 111, 109, 32]⟩ : ByteArray) ++ bs x ++ (⟨#[32, 116, 111, 32]⟩ : ByteArray) ++ bs y = bs (joinP [[97, 117, 116, 111], [102, 114, 111, 109], x, [116, 111], y]) := by
  apply ext_bs
  simp [bs, join_cons2, join_one]

theorem st_after (x y z d : Tx) : (⟨#[97, 102, 116, 101, 114, 32]⟩ : ByteArray) ++ bs d ++ (⟨#[32, 102, 114, 111, 109, 32]⟩ : ByteArray) ++ bs x ++ (⟨#[32, 116, 111, 32]⟩ : ByteArray) ++ bs y = bs (joinP [[97, 102, 116, 101, 114], d, [102, 114, 111, 109], x, [116, 111], y]) := by
  apply ext_bs
  simp [bs, join_cons2, join_one]

theorem ent_role (w1 : World) {x y z d : Tx} {v : Int} (h : NamesH x y z d v) (hdd : Lib.decDigits v.toNat = d) (b : Nat) (hb : b = w1.heap.size + 5) : ∃ s r A ca, Ent (tabW w1 x y z d v) b 0 s r A ca := by
  have H : ∀ j u, (tabCells w1 x y z d v)[0 * 12 + j]? = some u → (tabW w1 x y z d v).cell? ⟨b, 0 * 12 + j, none⟩ = some u := by
    intro j u hu
    subst hb
    unfold tabW
    rw [show w1.heap.size + 5 = ((((((w1.alloc (.cells #[.string (bs y), .string (bs z)] 9)).alloc (.cells #[.string (bs y)] 9)).alloc (.cells #[.string (bs x), .string (bs y)] 9)).alloc (.cells #[.string (bs x), .string (bs y), .string (bs z)] 9)).alloc (.cells #[.string (bs x), .string (bs y)] 9))).heap.size by simp, new_cell]
    exact hu
  have la : LAt (tabW w1 x y z d v) (some ⟨w1.heap.size, 0, none⟩) 2 [y, z] := (lAt_alloc w1 [y, z] (by simp) (w1.heap.size) (by simp)).below (by unfold tabW; exact (((((Below.refl _ _).alloc (by simp) _).alloc (by simp) _).alloc (by simp) _).alloc (by simp) _).alloc (by simp) _)
  have hp := rp_role h
  have lx := nameL_le h.nx; have ly := nameL_le h.ny; have lz := nameL_le h.nz; have ld := num_le h.nd
  exact ⟨joinP [[114, 111, 108, 101], x, [62], y, z], { kind := 1, name := x, list := [y, z] }, (some ⟨w1.heap.size, 0, none⟩), 2, ⟨(H 0 _ rfl).trans (congrArg some (congrArg Value.string (st_role x y z d))), H 1 _ rfl, H 2 _ rfl, H 3 _ rfl, H 4 _ rfl, H 5 _ rfl, H 6 _ rfl, H 7 _ rfl, H 8 _ rfl, H 9 _ rfl, H 10 _ rfl, H 11 _ rfl, la, by intro g off e; cases e <;> rfl, by simp [join_cons2, join_one]; omega, by simp, hp, fun X hX => pr_role h (some ⟨w1.heap.size, 0, none⟩) 2 X (la.below hX)⟩⟩

theorem ent_user (w1 : World) {x y z d : Tx} {v : Int} (h : NamesH x y z d v) (hdd : Lib.decDigits v.toNat = d) (b : Nat) (hb : b = w1.heap.size + 5) : ∃ s r A ca, Ent (tabW w1 x y z d v) b 1 s r A ca := by
  have H : ∀ j u, (tabCells w1 x y z d v)[1 * 12 + j]? = some u → (tabW w1 x y z d v).cell? ⟨b, 1 * 12 + j, none⟩ = some u := by
    intro j u hu
    subst hb
    unfold tabW
    rw [show w1.heap.size + 5 = ((((((w1.alloc (.cells #[.string (bs y), .string (bs z)] 9)).alloc (.cells #[.string (bs y)] 9)).alloc (.cells #[.string (bs x), .string (bs y)] 9)).alloc (.cells #[.string (bs x), .string (bs y), .string (bs z)] 9)).alloc (.cells #[.string (bs x), .string (bs y)] 9))).heap.size by simp, new_cell]
    exact hu
  have la : LAt (tabW w1 x y z d v) (some ⟨w1.heap.size + 1, 0, none⟩) 1 [y] := (lAt_alloc (w1.alloc (.cells #[.string (bs y), .string (bs z)] 9)) [y] (by simp) (w1.heap.size + 1) (by simp)).below (by unfold tabW; exact ((((Below.refl _ _).alloc (by simp) _).alloc (by simp) _).alloc (by simp) _).alloc (by simp) _)
  have hp := rp_user h
  have lx := nameL_le h.nx; have ly := nameL_le h.ny; have lz := nameL_le h.nz; have ld := num_le h.nd
  exact ⟨joinP [[117, 115, 101, 114], x, y], { kind := 2, name := x, list := [y] }, (some ⟨w1.heap.size + 1, 0, none⟩), 1, ⟨(H 0 _ rfl).trans (congrArg some (congrArg Value.string (st_user x y z d))), H 1 _ rfl, H 2 _ rfl, H 3 _ rfl, H 4 _ rfl, H 5 _ rfl, H 6 _ rfl, H 7 _ rfl, H 8 _ rfl, H 9 _ rfl, H 10 _ rfl, H 11 _ rfl, la, by intro g off e; cases e <;> rfl, by simp [join_cons2, join_one]; omega, by simp, hp, fun X hX => pr_user h (some ⟨w1.heap.size + 1, 0, none⟩) 1 X (la.below hX)⟩⟩

theorem ent_perm (w1 : World) {x y z d : Tx} {v : Int} (h : NamesH x y z d v) (hdd : Lib.decDigits v.toNat = d) (b : Nat) (hb : b = w1.heap.size + 5) : ∃ s r A ca, Ent (tabW w1 x y z d v) b 2 s r A ca := by
  have H : ∀ j u, (tabCells w1 x y z d v)[2 * 12 + j]? = some u → (tabW w1 x y z d v).cell? ⟨b, 2 * 12 + j, none⟩ = some u := by
    intro j u hu
    subst hb
    unfold tabW
    rw [show w1.heap.size + 5 = ((((((w1.alloc (.cells #[.string (bs y), .string (bs z)] 9)).alloc (.cells #[.string (bs y)] 9)).alloc (.cells #[.string (bs x), .string (bs y)] 9)).alloc (.cells #[.string (bs x), .string (bs y), .string (bs z)] 9)).alloc (.cells #[.string (bs x), .string (bs y)] 9))).heap.size by simp, new_cell]
    exact hu
  have la : LAt (tabW w1 x y z d v) none 0 [] := ⟨Nat.le_refl _, by simp, fun j hj => by simp at hj⟩
  have hp := rp_perm h
  have lx := nameL_le h.nx; have ly := nameL_le h.ny; have lz := nameL_le h.nz; have ld := num_le h.nd
  exact ⟨joinP [[112, 101, 114, 109], x], { kind := 3, name := x }, none, 0, ⟨(H 0 _ rfl).trans (congrArg some (congrArg Value.string (st_perm x y z d))), H 1 _ rfl, H 2 _ rfl, H 3 _ rfl, H 4 _ rfl, H 5 _ rfl, H 6 _ rfl, H 7 _ rfl, H 8 _ rfl, H 9 _ rfl, H 10 _ rfl, H 11 _ rfl, la, by intro g off e; cases e <;> rfl, by simp [join_cons2, join_one]; omega, by simp, hp, fun X hX => pr_perm h X⟩⟩

theorem ent_ssd (w1 : World) {x y z d : Tx} {v : Int} (h : NamesH x y z d v) (hdd : Lib.decDigits v.toNat = d) (b : Nat) (hb : b = w1.heap.size + 5) : ∃ s r A ca, Ent (tabW w1 x y z d v) b 3 s r A ca := by
  have H : ∀ j u, (tabCells w1 x y z d v)[3 * 12 + j]? = some u → (tabW w1 x y z d v).cell? ⟨b, 3 * 12 + j, none⟩ = some u := by
    intro j u hu
    subst hb
    unfold tabW
    rw [show w1.heap.size + 5 = ((((((w1.alloc (.cells #[.string (bs y), .string (bs z)] 9)).alloc (.cells #[.string (bs y)] 9)).alloc (.cells #[.string (bs x), .string (bs y)] 9)).alloc (.cells #[.string (bs x), .string (bs y), .string (bs z)] 9)).alloc (.cells #[.string (bs x), .string (bs y)] 9))).heap.size by simp, new_cell]
    exact hu
  have la : LAt (tabW w1 x y z d v) (some ⟨w1.heap.size + 1 + 1, 0, none⟩) 2 [x, y] := (lAt_alloc ((w1.alloc (.cells #[.string (bs y), .string (bs z)] 9)).alloc (.cells #[.string (bs y)] 9)) [x, y] (by simp) (w1.heap.size + 1 + 1) (by simp)).below (by unfold tabW; exact (((Below.refl _ _).alloc (by simp) _).alloc (by simp) _).alloc (by simp) _)
  have hp := rp_ssd h
  have lx := nameL_le h.nx; have ly := nameL_le h.ny; have lz := nameL_le h.nz; have ld := num_le h.nd
  exact ⟨joinP [[115, 115, 100], [50], x, y], { kind := 4, n := 2, list := [x, y] }, (some ⟨w1.heap.size + 1 + 1, 0, none⟩), 2, ⟨(H 0 _ rfl).trans (congrArg some (congrArg Value.string (st_ssd x y z d))), H 1 _ rfl, H 2 _ rfl, H 3 _ rfl, H 4 _ rfl, H 5 _ rfl, H 6 _ rfl, H 7 _ rfl, H 8 _ rfl, H 9 _ rfl, H 10 _ rfl, H 11 _ rfl, la, by intro g off e; cases e <;> rfl, by simp [join_cons2, join_one]; omega, by simp, hp, fun X hX => pr_ssd h (some ⟨w1.heap.size + 1 + 1, 0, none⟩) 2 X (la.below hX)⟩⟩

theorem ent_dsd (w1 : World) {x y z d : Tx} {v : Int} (h : NamesH x y z d v) (hdd : Lib.decDigits v.toNat = d) (b : Nat) (hb : b = w1.heap.size + 5) : ∃ s r A ca, Ent (tabW w1 x y z d v) b 4 s r A ca := by
  have H : ∀ j u, (tabCells w1 x y z d v)[4 * 12 + j]? = some u → (tabW w1 x y z d v).cell? ⟨b, 4 * 12 + j, none⟩ = some u := by
    intro j u hu
    subst hb
    unfold tabW
    rw [show w1.heap.size + 5 = ((((((w1.alloc (.cells #[.string (bs y), .string (bs z)] 9)).alloc (.cells #[.string (bs y)] 9)).alloc (.cells #[.string (bs x), .string (bs y)] 9)).alloc (.cells #[.string (bs x), .string (bs y), .string (bs z)] 9)).alloc (.cells #[.string (bs x), .string (bs y)] 9))).heap.size by simp, new_cell]
    exact hu
  have la : LAt (tabW w1 x y z d v) (some ⟨w1.heap.size + 1 + 1 + 1, 0, none⟩) 3 [x, y, z] := (lAt_alloc (((w1.alloc (.cells #[.string (bs y), .string (bs z)] 9)).alloc (.cells #[.string (bs y)] 9)).alloc (.cells #[.string (bs x), .string (bs y)] 9)) [x, y, z] (by simp) (w1.heap.size + 1 + 1 + 1) (by simp)).below (by unfold tabW; exact ((Below.refl _ _).alloc (by simp) _).alloc (by simp) _)
  have hp := rp_dsd h
  have lx := nameL_le h.nx; have ly := nameL_le h.ny; have lz := nameL_le h.nz; have ld := num_le h.nd
  exact ⟨joinP [[100, 115, 100], [50], x, y, z], { kind := 5, n := 2, list := [x, y, z] }, (some ⟨w1.heap.size + 1 + 1 + 1, 0, none⟩), 3, ⟨(H 0 _ rfl).trans (congrArg some (congrArg Value.string (st_dsd x y z d))), H 1 _ rfl, H 2 _ rfl, H 3 _ rfl, H 4 _ rfl, H 5 _ rfl, H 6 _ rfl, H 7 _ rfl, H 8 _ rfl, H 9 _ rfl, H 10 _ rfl, H 11 _ rfl, la, by intro g off e; cases e <;> rfl, by simp [join_cons2, join_one]; omega, by simp, hp, fun X hX => pr_dsd h (some ⟨w1.heap.size + 1 + 1 + 1, 0, none⟩) 3 X (la.below hX)⟩⟩

theorem ent_excl (w1 : World) {x y z d : Tx} {v : Int} (h : NamesH x y z d v) (hdd : Lib.decDigits v.toNat = d) (b : Nat) (hb : b = w1.heap.size + 5) : ∃ s r A ca, Ent (tabW w1 x y z d v) b 5 s r A ca := by
  have H : ∀ j u, (tabCells w1 x y z d v)[5 * 12 + j]? = some u → (tabW w1 x y z d v).cell? ⟨b, 5 * 12 + j, none⟩ = some u := by
    intro j u hu
    subst hb
    unfold tabW
    rw [show w1.heap.size + 5 = ((((((w1.alloc (.cells #[.string (bs y), .string (bs z)] 9)).alloc (.cells #[.string (bs y)] 9)).alloc (.cells #[.string (bs x), .string (bs y)] 9)).alloc (.cells #[.string (bs x), .string (bs y), .string (bs z)] 9)).alloc (.cells #[.string (bs x), .string (bs y)] 9))).heap.size by simp, new_cell]
    exact hu
  have la : LAt (tabW w1 x y z d v) (some ⟨w1.heap.size + 1 + 1 + 1 + 1, 0, none⟩) 2 [x, y] := (lAt_alloc ((((w1.alloc (.cells #[.string (bs y), .string (bs z)] 9)).alloc (.cells #[.string (bs y)] 9)).alloc (.cells #[.string (bs x), .string (bs y)] 9)).alloc (.cells #[.string (bs x), .string (bs y), .string (bs z)] 9)) [x, y] (by simp) (w1.heap.size + 1 + 1 + 1 + 1) (by simp)).below (by unfold tabW; exact (Below.refl _ _).alloc (by simp) _)
  have hp := rp_excl h
  have lx := nameL_le h.nx; have ly := nameL_le h.ny; have lz := nameL_le h.nz; have ld := num_le h.nd
  exact ⟨joinP [[101, 120, 99, 108, 117, 115, 105, 118, 101], x, y], { kind := 6, list := [x, y] }, (some ⟨w1.heap.size + 1 + 1 + 1 + 1, 0, none⟩), 2, ⟨(H 0 _ rfl).trans (congrArg some (congrArg Value.string (st_excl x y z d))), H 1 _ rfl, H 2 _ rfl, H 3 _ rfl, H 4 _ rfl, H 5 _ rfl, H 6 _ rfl, H 7 _ rfl, H 8 _ rfl, H 9 _ rfl, H 10 _ rfl, H 11 _ rfl, la, by intro g off e; cases e <;> rfl, by simp [join_cons2, join_one]; omega, by simp, hp, fun X hX => pr_excl h (some ⟨w1.heap.size + 1 + 1 + 1 + 1, 0, none⟩) 2 X (la.below hX)⟩⟩

theorem ent_lend (w1 : World) {x y z d : Tx} {v : Int} (h : NamesH x y z d v) (hdd : Lib.decDigits v.toNat = d) (b : Nat) (hb : b = w1.heap.size + 5) : ∃ s r A ca, Ent (tabW w1 x y z d v) b 6 s r A ca := by
  have H : ∀ j u, (tabCells w1 x y z d v)[6 * 12 + j]? = some u → (tabW w1 x y z d v).cell? ⟨b, 6 * 12 + j, none⟩ = some u := by
    intro j u hu
    subst hb
    unfold tabW
    rw [show w1.heap.size + 5 = ((((((w1.alloc (.cells #[.string (bs y), .string (bs z)] 9)).alloc (.cells #[.string (bs y)] 9)).alloc (.cells #[.string (bs x), .string (bs y)] 9)).alloc (.cells #[.string (bs x), .string (bs y), .string (bs z)] 9)).alloc (.cells #[.string (bs x), .string (bs y)] 9))).heap.size by simp, new_cell]
    exact hu
  have la : LAt (tabW w1 x y z d v) none 0 [] := ⟨Nat.le_refl _, by simp, fun j hj => by simp at hj⟩
  have hp := rp_lend h
  have lx := nameL_le h.nx; have ly := nameL_le h.ny; have lz := nameL_le h.nz; have ld := num_le h.nd
  exact ⟨joinP [[108, 101, 110, 100], x, d, [55, 55]], { kind := 7, name := x, n := v, m := 77 }, none, 0, ⟨(H 0 _ rfl).trans (congrArg some (congrArg Value.string (st_lend x y z d))), H 1 _ rfl, H 2 _ rfl, H 3 _ rfl, H 4 _ rfl, H 5 _ rfl, H 6 _ rfl, H 7 _ rfl, H 8 _ rfl, H 9 _ rfl, H 10 _ rfl, H 11 _ rfl, la, by intro g off e; cases e <;> rfl, by simp [join_cons2, join_one]; omega, by simp, hp, fun X hX => pr_lend h hdd X⟩⟩

theorem ent_state (w1 : World) {x y z d : Tx} {v : Int} (h : NamesH x y z d v) (hdd : Lib.decDigits v.toNat = d) (b : Nat) (hb : b = w1.heap.size + 5) : ∃ s r A ca, Ent (tabW w1 x y z d v) b 7 s r A ca := by
  have H : ∀ j u, (tabCells w1 x y z d v)[7 * 12 + j]? = some u → (tabW w1 x y z d v).cell? ⟨b, 7 * 12 + j, none⟩ = some u := by
    intro j u hu
    subst hb
    unfold tabW
    rw [show w1.heap.size + 5 = ((((((w1.alloc (.cells #[.string (bs y), .string (bs z)] 9)).alloc (.cells #[.string (bs y)] 9)).alloc (.cells #[.string (bs x), .string (bs y)] 9)).alloc (.cells #[.string (bs x), .string (bs y), .string (bs z)] 9)).alloc (.cells #[.string (bs x), .string (bs y)] 9))).heap.size by simp, new_cell]
    exact hu
  have la : LAt (tabW w1 x y z d v) none 0 [] := ⟨Nat.le_refl _, by simp, fun j hj => by simp at hj⟩
  have hp := rp_state h
  have lx := nameL_le h.nx; have ly := nameL_le h.ny; have lz := nameL_le h.nz; have ld := num_le h.nd
  exact ⟨joinP [[115, 116, 97, 116, 101], x, [112, 97, 115, 116], [105, 110], y], { kind := 8, name := x, n := 3, in_ := y }, none, 0, ⟨(H 0 _ rfl).trans (congrArg some (congrArg Value.string (st_state x y z d))), H 1 _ rfl, H 2 _ rfl, H 3 _ rfl, H 4 _ rfl, H 5 _ rfl, H 6 _ rfl, H 7 _ rfl, H 8 _ rfl, H 9 _ rfl, H 10 _ rfl, H 11 _ rfl, la, by intro g off e; cases e <;> rfl, by simp [join_cons2, join_one]; omega, by simp, hp, fun X hX => pr_state h X⟩⟩

theorem ent_on (w1 : World) {x y z d : Tx} {v : Int} (h : NamesH x y z d v) (hdd : Lib.decDigits v.toNat = d) (b : Nat) (hb : b = w1.heap.size + 5) : ∃ s r A ca, Ent (tabW w1 x y z d v) b 8 s r A ca := by
  have H : ∀ j u, (tabCells w1 x y z d v)[8 * 12 + j]? = some u → (tabW w1 x y z d v).cell? ⟨b, 8 * 12 + j, none⟩ = some u := by
    intro j u hu
    subst hb
    unfold tabW
    rw [show w1.heap.size + 5 = ((((((w1.alloc (.cells #[.string (bs y), .string (bs z)] 9)).alloc (.cells #[.string (bs y)] 9)).alloc (.cells #[.string (bs x), .string (bs y)] 9)).alloc (.cells #[.string (bs x), .string (bs y), .string (bs z)] 9)).alloc (.cells #[.string (bs x), .string (bs y)] 9))).heap.size by simp, new_cell]
    exact hu
  have la : LAt (tabW w1 x y z d v) none 0 [] := ⟨Nat.le_refl _, by simp, fun j hj => by simp at hj⟩
  have hp := rp_on h
  have lx := nameL_le h.nx; have ly := nameL_le h.ny; have lz := nameL_le h.nz; have ld := num_le h.nd
  exact ⟨joinP [[111, 110], x, [102, 114, 111, 109], y, [116, 111], z, [98, 121], x, [116, 97, 115, 107], y], { kind := 9, name := x, from_ := y, to_ := z, by_ := x, task := y }, none, 0, ⟨(H 0 _ rfl).trans (congrArg some (congrArg Value.string (st_on x y z d))), H 1 _ rfl, H 2 _ rfl, H 3 _ rfl, H 4 _ rfl, H 5 _ rfl, H 6 _ rfl, H 7 _ rfl, H 8 _ rfl, H 9 _ rfl, H 10 _ rfl, H 11 _ rfl, la, by intro g off e; cases e <;> rfl, by simp [join_cons2, join_one]; omega, by simp, hp, fun X hX => pr_on h X⟩⟩

theorem ent_auto (w1 : World) {x y z d : Tx} {v : Int} (h : NamesH x y z d v) (hdd : Lib.decDigits v.toNat = d) (b : Nat) (hb : b = w1.heap.size + 5) : ∃ s r A ca, Ent (tabW w1 x y z d v) b 9 s r A ca := by
  have H : ∀ j u, (tabCells w1 x y z d v)[9 * 12 + j]? = some u → (tabW w1 x y z d v).cell? ⟨b, 9 * 12 + j, none⟩ = some u := by
    intro j u hu
    subst hb
    unfold tabW
    rw [show w1.heap.size + 5 = ((((((w1.alloc (.cells #[.string (bs y), .string (bs z)] 9)).alloc (.cells #[.string (bs y)] 9)).alloc (.cells #[.string (bs x), .string (bs y)] 9)).alloc (.cells #[.string (bs x), .string (bs y), .string (bs z)] 9)).alloc (.cells #[.string (bs x), .string (bs y)] 9))).heap.size by simp, new_cell]
    exact hu
  have la : LAt (tabW w1 x y z d v) none 0 [] := ⟨Nat.le_refl _, by simp, fun j hj => by simp at hj⟩
  have hp := rp_auto h
  have lx := nameL_le h.nx; have ly := nameL_le h.ny; have lz := nameL_le h.nz; have ld := num_le h.nd
  exact ⟨joinP [[97, 117, 116, 111], [102, 114, 111, 109], x, [116, 111], y], { kind := 10, from_ := x, to_ := y }, none, 0, ⟨(H 0 _ rfl).trans (congrArg some (congrArg Value.string (st_auto x y z d))), H 1 _ rfl, H 2 _ rfl, H 3 _ rfl, H 4 _ rfl, H 5 _ rfl, H 6 _ rfl, H 7 _ rfl, H 8 _ rfl, H 9 _ rfl, H 10 _ rfl, H 11 _ rfl, la, by intro g off e; cases e <;> rfl, by simp [join_cons2, join_one]; omega, by simp, hp, fun X hX => pr_auto h X⟩⟩

theorem ent_after (w1 : World) {x y z d : Tx} {v : Int} (h : NamesH x y z d v) (hdd : Lib.decDigits v.toNat = d) (b : Nat) (hb : b = w1.heap.size + 5) : ∃ s r A ca, Ent (tabW w1 x y z d v) b 10 s r A ca := by
  have H : ∀ j u, (tabCells w1 x y z d v)[10 * 12 + j]? = some u → (tabW w1 x y z d v).cell? ⟨b, 10 * 12 + j, none⟩ = some u := by
    intro j u hu
    subst hb
    unfold tabW
    rw [show w1.heap.size + 5 = ((((((w1.alloc (.cells #[.string (bs y), .string (bs z)] 9)).alloc (.cells #[.string (bs y)] 9)).alloc (.cells #[.string (bs x), .string (bs y)] 9)).alloc (.cells #[.string (bs x), .string (bs y), .string (bs z)] 9)).alloc (.cells #[.string (bs x), .string (bs y)] 9))).heap.size by simp, new_cell]
    exact hu
  have la : LAt (tabW w1 x y z d v) none 0 [] := ⟨Nat.le_refl _, by simp, fun j hj => by simp at hj⟩
  have hp := rp_after h
  have lx := nameL_le h.nx; have ly := nameL_le h.ny; have lz := nameL_le h.nz; have ld := num_le h.nd
  exact ⟨joinP [[97, 102, 116, 101, 114], d, [102, 114, 111, 109], x, [116, 111], y], { kind := 11, n := v, from_ := x, to_ := y }, none, 0, ⟨(H 0 _ rfl).trans (congrArg some (congrArg Value.string (st_after x y z d))), H 1 _ rfl, H 2 _ rfl, H 3 _ rfl, H 4 _ rfl, H 5 _ rfl, H 6 _ rfl, H 7 _ rfl, H 8 _ rfl, H 9 _ rfl, H 10 _ rfl, H 11 _ rfl, la, by intro g off e; cases e <;> rfl, by simp [join_cons2, join_one]; omega, by simp, hp, fun X hX => pr_after h hdd X⟩⟩

theorem ents (w1 : World) {x y z d : Tx} {v : Int} (h : NamesH x y z d v) (hdd : Lib.decDigits v.toNat = d) (b : Nat) (hb : b = w1.heap.size + 5) (k : Nat) (hk : k < 11) : ∃ s r A ca, Ent (tabW w1 x y z d v) b k s r A ca := by
  rcases k with _ | _ | _ | _ | _ | _ | _ | _ | _ | _ | _ | k
  · exact ent_role w1 h hdd b hb
  · exact ent_user w1 h hdd b hb
  · exact ent_perm w1 h hdd b hb
  · exact ent_ssd w1 h hdd b hb
  · exact ent_dsd w1 h hdd b hb
  · exact ent_excl w1 h hdd b hb
  · exact ent_lend w1 h hdd b hb
  · exact ent_state w1 h hdd b hb
  · exact ent_on w1 h hdd b hb
  · exact ent_auto w1 h hdd b hb
  · exact ent_after w1 h hdd b hb
  · omega
end Go.Proofs.YtlbhgjilgdmedaaDoor
