/-
  rule.lineWords at any rule.
-/
import Derived.Test.YtbacdllokgcohaaLw1
import Derived.Test.YtbacdllokgcohaaRef01b
import Derived.Laws.AppendOwnNone
import Derived.Deep.AppendLies
import Derived.Test.YtbacdllokgcohaaD0
import Derived.Lib.ItoaMem
import Derived.Test.YtbacdllokgcohaaShelf
import Derived.Lib.AppendIntMem
import Derived.Test.YtbacdllokgcohaaSameL
import Derived.Deep.RegionWith
import Derived.StillTailTactics
import Derived.Deep.Fields
namespace Go.Proofs.Ytbacdllokgcohaa
set_option maxRecDepth 100000
open Go.ChangeShapes Go.WideShapes Go.ChangeAt Go.RowKit

/-- a list of texts that stands in memory, or none -/
def LIn (w : World) (A : Option Addr) (c : Nat) (l : List Tx) : Prop := (l = [] ∧ (A = none → c = 0)) ∨ ∃ g off, A = some ⟨g, off, none⟩ ∧ g < w.heap.size ∧ l.length ≤ c ∧ ∀ j (hj : j < l.length), w.cell? ⟨g, off + j, none⟩ = some (.string (bs l[j]))
theorem LIn.below {w w' : World} {A : Option Addr} {c : Nat} {l : List Tx} (h : LIn w A c l) (hb : Below w.heap.size w w') : LIn w' A c l := by
  rcases h with h | ⟨g, off, e, hg, hl, hc⟩
  · exact .inl h
  · exact .inr ⟨g, off, e, Nat.lt_of_lt_of_le hg hb.size, hl, fun j hj => (hb.cell hg).trans (hc j hj)⟩
theorem LIn.at {w : World} {A : Option Addr} {c : Nat} {l : List Tx} (h : LIn w A c l) (hm : l.length ≤ 9223372036854775807) : LAt w A c l := by
  rcases h with ⟨rfl, h0⟩ | ⟨g, off, e, hg, hl, hc⟩
  · exact ⟨Nat.zero_le _, hm, fun j hj => by simp at hj⟩
  · exact ⟨hl, hm, fun j hj => ⟨g, off, e, hg, hc j hj⟩⟩
end Go.Proofs.Ytbacdllokgcohaa
/-
  within; digits.
-/
namespace Go.Proofs.Ytbacdllokgcohaa
set_option maxRecDepth 100000
open Go.ChangeShapes Go.WideShapes Go.ChangeAt Go.RowKit

/-- a byte of a number; a digit's sign -/
def byteOf (n : Nat) : UInt8 := UInt8.ofNat n
def dgt (n : Nat) : UInt8 := byteOf (48 + n)
theorem dgt_nat (n : Nat) (h : n < 10) : (dgt n).toNat = 48 + n := by unfold dgt byteOf; simp; omega
/-- a text of one byte, out of a list of one byte -/
theorem conv_one (W : World) (b cap : Nat) (c : Int) (h0 : 0 ≤ c) (h1 : c ≤ 255) (hc : W.cell? ⟨b, 0, none⟩ = some (.int .u8 c)) :
    (convert 94 9 (.slice (some ⟨b, 0, none⟩) 1 cap)).run Try.prog W = .ok (.string (bs [byteOf c.toNat])) W := by
  have := run_convert_bytes_back (P := Try.prog) W 94 9 5 ⟨b, 0, none⟩ cap [UInt8.ofNat c.toNat] Try.underlying94 Try.underlying5 Try.underlying9 (by
    intro j hj
    simp at hj
    subst hj
    have e : ((UInt8.ofNat c.toNat).toNat : Int) = c := by simp; omega
    simp only [List.getElem_cons_zero, e]
    exact hc)
  exact this
def StrNew (l : List UInt8) (w : World) (e : Ending) (w' : World) : Prop := e = .returned (.string (bs l)) ∧ Below w.heap.size w w'
end Go.Proofs.Ytbacdllokgcohaa
namespace Go.Proofs.Ytbacdllokgcohaa
set_option maxRecDepth 100000
open Go.ChangeShapes Go.WideShapes Go.ChangeAt Go.RowKit

/-- a number's digits -/
def digs (n : Nat) : List UInt8 := if n < 10 then [dgt n] else digs (n / 10) ++ [dgt (n % 10)]
theorem digs_le (n : Nat) : (digs n).length ≤ n + 1 := by
  induction n using Nat.strongRecOn with
  | ind n ih =>
    rw [digs]; split
    · simp
    · have := ih (n / 10) (by omega); simp; omega
theorem digs_step {n : Nat} (h : ¬ n < 10) : bs (digs (n / 10)) ++ bs [dgt (n % 10)] = bs (digs n) := by
  conv => rhs; rw [digs, if_neg h]
  exact bs_append _ _
theorem Digits_any (n : Nat) : ∀ (w : World), n ≤ 9223372036854775807 →
    Calls Try.prog 119 #[.int .i64 n] w (StrNew (digs n) w) := by
  induction n using Nat.strongRecOn with
  | ind n ih =>
    intro w hn
    by_cases h : n < 10
    · have hcv := fun W b cap hc => conv_one W b cap (48 + n) (by omega) (by omega) hc
      have hb : (48 + (n : Int)).toNat = 48 + n := by omega
      rw [hb, ← dgt] at hcv
      clear hb
      go_enter Try.func119, Try.ntmps119
      go_wp2
      go_ret
      exact ⟨ret_str (by rw [digs, if_pos h]), (Below.refl _ _).alloc (Nat.le_refl _) _⟩
    · have hd : ((n / 10 : Nat) : Int) = (n : Int) / 10 := by omega
      have ih1 := fun W => ih (n / 10) (by omega) W (by omega)
      rw [hd] at ih1
      have IH := Lib.hid ih1
      clear ih1 hd ih
      have hcv := fun W b cap hc => conv_one W b cap (48 + (n : Int) % 10) (by omega) (by omega) hc
      have hb : (48 + (n : Int) % 10).toNat = 48 + n % 10 := by omega
      rw [hb, ← dgt] at hcv
      clear hb
      have hl : (bs (digs (n / 10))).size ≤ 4611686018427387904 := by have := digs_le (n / 10); rw [size_bs]; omega
      have hl1 : (bs [dgt (n % 10)]).size ≤ 1 := Nat.le_refl _
      have e1 : IntKind.i64.wrap (48 + (n : Int) % 10) = 48 + (n : Int) % 10 := by rw [IntKind.wrap_i64]; omega
      have e2 : (n : Int).tdiv 10 = (n : Int) / 10 := Int.tdiv_eq_ediv_of_nonneg (by omega)
      have e3 : (n : Int).tmod 10 = (n : Int) % 10 := Int.tmod_eq_emod_of_nonneg (by omega)
      have e4 : IntKind.i64.wrap ((n : Int) / 10) = (n : Int) / 10 := by rw [IntKind.wrap_i64]; omega
      have e5 : IntKind.i64.wrap ((n : Int) % 10) = (n : Int) % 10 := by rw [IntKind.wrap_i64]; omega
      have e6 : IntKind.u8.wrap (48 + (n : Int) % 10) = 48 + (n : Int) % 10 := by simp only [IntKind.wrap, IntKind.bits, IntKind.signed]; simp; omega
      go_enter Try.func119, Try.ntmps119
      go_wp2_with fail
      go_region_with (go_at_call 119; refine (IH.out _).mono ?_; rintro e w1 ⟨rfl, hb⟩; have hcc := fun b o (h : b < _) => hb.cell (p := ⟨b, o, none⟩) h)
      all_goals
        go_wp2
        go_ret
        refine ⟨ret_str (digs_step h), ?_⟩
      · exact (below_then (Below.refl _ _).drew hb (by simp)).alloc (by have := hb.size; simpa using this) _
      all_goals exact below_then ((Below.refl _ _).alloc (Nat.le_refl _) _).drew hb (by simp)
end Go.Proofs.Ytbacdllokgcohaa
/-
  A rule that comes in, opened; Name, of however many; where the walk of the statements' rule of raw parts stands.
-/
namespace Go.Proofs.Ytbacdllokgcohaa
set_option maxRecDepth 100000
open Go.ChangeShapes Go.WideShapes Go.ChangeAt Go.RowKit Go.Deep

end Go.Proofs.Ytbacdllokgcohaa
namespace Go.Proofs.Ytbacdllokgcohaa
set_option maxRecDepth 100000
open Go.ChangeShapes Go.WideShapes Go.ChangeAt Go.RowKit

end Go.Proofs.Ytbacdllokgcohaa
namespace Go.Proofs.Ytbacdllokgcohaa
set_option maxRecDepth 100000
open Go.ChangeShapes Go.WideShapes Go.ChangeAt Go.RowKit

/-- W0 at the beginning, W now: what came in (rc) in the block W0.heap.size, the answer's cells behind it, the rule that is made behind that -/
structure XS (W0 W : World) (rc : Array Value) (k : Int) (nm : Tx) (v : Value) (l : List Tx) (n m : Int) (f t b a i : Tx) : Prop where
  r0 : W.heap[W0.heap.size]? = some (.cells rc 110 (0, 0))
  t0 : W.heap[W0.heap.size + 1]? = some (.cells zero11 110 (0, 0))
  x0 : W.heap[W0.heap.size + 1 + 1]? = some (.cells #[.int .i64 k, .string (bs nm), v, .int .i64 n, .int .i64 m, .string (bs f), .string (bs t), .string (bs b), .string (bs a), .string (bs i), .int .i64 0] 110 (0, 0))
  own : OwnL W (W0.heap.size + 3) v l
  low : Below W0.heap.size W0 W
section
variable {W0 W W' : World} {rc : Array Value} {k : Int} {nm : Tx} {v : Value} {l : List Tx} {n m : Int} {f t b a i : Tx}
theorem XS.size (h : XS W0 W rc k nm v l n m f t b a i) : W0.heap.size + 1 + 1 < W.heap.size := (Array.getElem?_eq_some_iff.1 h.x0).1
theorem XS.below (h : XS W0 W rc k nm v l n m f t b a i) (hb : Below W.heap.size W W') : XS W0 W' rc k nm v l n m f t b a i :=
  have := h.size
  ⟨(hb.block _ (by omega)).trans h.r0, (hb.block _ (by omega)).trans h.t0, (hb.block _ (by omega)).trans h.x0, own_below h.own hb (by omega), h.low.trans (hb.mono (by omega))⟩
theorem XS.grown {v' : Value} {l' : List Tx} {row : Option Nat} (h : XS W0 W rc k nm v l n m f t b a i) (hg : W.grownBy W' row) (hr : ∀ j, row = some j → W0.heap.size + 3 ≤ j) (ho : OwnL W' (W0.heap.size + 3) v' l') : W'.heap[W0.heap.size]? = some (.cells rc 110 (0, 0)) ∧ W'.heap[W0.heap.size + 1]? = some (.cells zero11 110 (0, 0)) ∧ W'.heap[W0.heap.size + 1 + 1]? = some (.cells #[.int .i64 k, .string (bs nm), v, .int .i64 n, .int .i64 m, .string (bs f), .string (bs t), .string (bs b), .string (bs a), .string (bs i), .int .i64 0] 110 (0, 0)) ∧ OwnL W' (W0.heap.size + 3) v' l' ∧ Below W0.heap.size W0 W' :=
  have hs := h.size
  ⟨(hg.block _ (by omega) (fun e => by have := hr _ e.symm; omega)).trans h.r0, (hg.block _ (by omega) (fun e => by have := hr _ e.symm; omega)).trans h.t0, (hg.block _ (by omega) (fun e => by have := hr _ e.symm; omega)).trans h.x0, ho, h.low.grown hg h.low.size (fun j e => by have := hr _ e; omega)⟩
theorem XS.drew (h : XS W0 W rc k nm v l n m f t b a i) : XS W0 W.drew rc k nm v l n m f t b a i := ⟨h.r0, h.t0, h.x0, h.own, h.low.drew⟩
/-- the same, where the list in hand (v', l') is not yet stored -/
structure XG (W0 W : World) (rc : Array Value) (v' : Value) (l' : List Tx) (k : Int) (nm : Tx) (v : Value) (n m : Int) (f t b a i : Tx) : Prop where
  r0 : W.heap[W0.heap.size]? = some (.cells rc 110 (0, 0))
  t0 : W.heap[W0.heap.size + 1]? = some (.cells zero11 110 (0, 0))
  x0 : W.heap[W0.heap.size + 1 + 1]? = some (.cells #[.int .i64 k, .string (bs nm), v, .int .i64 n, .int .i64 m, .string (bs f), .string (bs t), .string (bs b), .string (bs a), .string (bs i), .int .i64 0] 110 (0, 0))
  own : OwnL W (W0.heap.size + 3) v' l'
  low : Below W0.heap.size W0 W
theorem XS.app {W1 W2 : World} {v' : Value} {ts : List Tx} (h : XS W0 W rc k nm v l n m f t b a i) (hg0 : W.grownBy W1 none) (hg : W1.grownBy W2 v.ownBlock) (ho : W2.ownsRow (W0.heap.size + 3) 9 1 v' (l.length + ts.length) (scells l ++ scells ts)) : XG W0 W2 rc v' (l ++ ts) k nm v n m f t b a i := by
  have hr : ∀ j, v.ownBlock = some j → W0.heap.size + 3 ≤ j := fun j e => by have := (h.own.lt j e).1; omega
  have hs := h.size
  have hb : ∀ p, p < W0.heap.size + 3 → W2.heap[p]? = W.heap[p]? := fun p hp => by
    rw [hg.block _ (Nat.lt_of_lt_of_le (by omega) hg0.size) (fun e => by have := hr _ e.symm; omega), hg0.block _ (by omega) (by simp)]
  refine ⟨(hb _ (by omega)).trans h.r0, (hb _ (by omega)).trans h.t0, (hb _ (by omega)).trans h.x0, ?_, (h.low.grown hg0 h.low.size (fun j e => by cases e)).grown hg (Nat.le_trans h.low.size hg0.size) (fun j e => by have := hr _ e; omega)⟩
  unfold OwnL scells
  rw [List.length_append, List.map_append]
  exact ho
theorem XG.fz {v' : Value} {l' : List Tx} (h : XG W0 W rc v' l' k nm v n m f t b a i) (j : Nat) : W.frozen? ⟨W0.heap.size + 1 + 1, j, none⟩ = false := by simp [World.frozen?, h.x0]
theorem XS.q0 (h : XS W0 W rc k nm v l n m f t b a i) : W.cell? ⟨W0.heap.size + 1 + 1, 0, none⟩ = some (.int .i64 k) := row_q0 h.x0
theorem XS.q1 (h : XS W0 W rc k nm v l n m f t b a i) : W.cell? ⟨W0.heap.size + 1 + 1, 1, none⟩ = some (.string (bs nm)) := row_q1 h.x0
theorem XS.q2 (h : XS W0 W rc k nm v l n m f t b a i) : W.cell? ⟨W0.heap.size + 1 + 1, 2, none⟩ = some (v) := row_q2 h.x0
theorem XS.q3 (h : XS W0 W rc k nm v l n m f t b a i) : W.cell? ⟨W0.heap.size + 1 + 1, 3, none⟩ = some (.int .i64 n) := row_q3 h.x0
theorem XS.fz (h : XS W0 W rc k nm v l n m f t b a i) (j : Nat) : W.frozen? ⟨W0.heap.size + 1 + 1, j, none⟩ = false := by simp [World.frozen?, h.x0]
end
theorem LIn.grown {w w' : World} {A : Option Addr} {c p : Nat} {l : List Tx} (h : LIn w A c l) (hg : w.grownBy w' (some p)) (hB : ∀ g off, A = some ⟨g, off, none⟩ → l ≠ [] → g ≠ p) : LIn w' A c l := by
  by_cases h0 : l = []
  · rcases h with h | ⟨g, off, e, hgl, hl, hc⟩
    · exact .inl h
    · exact .inr ⟨g, off, e, Nat.lt_of_lt_of_le hgl hg.size, hl, fun j hj => by subst h0; simp at hj⟩
  rcases h with h | ⟨g, off, e, hgl, hl, hc⟩
  · exact .inl h
  · refine .inr ⟨g, off, e, Nat.lt_of_lt_of_le hgl hg.size, hl, fun j hj => ?_⟩
    rw [← hc j hj]
    unfold World.cell?
    simp only
    rw [hg.block g hgl (by have := hB g off e h0; simp; omega)]
end Go.Proofs.Ytbacdllokgcohaa
