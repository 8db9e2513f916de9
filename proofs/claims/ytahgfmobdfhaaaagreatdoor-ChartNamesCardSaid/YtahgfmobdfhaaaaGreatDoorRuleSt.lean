/-
  rule.lineWords at any rule.
-/
import Derived.Test.YtahgfmobdfhaaaaGreatDoorLw1
import Derived.Test.YtahgfmobdfhaaaaGreatDoorLw2
import Derived.Test.YtahgfmobdfhaaaaGreatDoorLw5
import Derived.Test.YtahgfmobdfhaaaaGreatDoorLw6
import Derived.Test.YtahgfmobdfhaaaaGreatDoorPlain06
import Derived.Test.YtahgfmobdfhaaaaGreatDoorShelf
import Derived.Lib.AppendIntMem
import Derived.Test.YtahgfmobdfhaaaaGreatDoorWth
import Derived.Deep.RegionWith
import Derived.StillTailTactics
import Derived.Deep.Fields
import Derived.Test.YtahgfmobdfhaaaaGreatDoorRd4
import Derived.Test.YtahgfmobdfhaaaaGreatDoorParse
import Derived.Test.YtahgfmobdfhaaaaGreatDoorPrint2
namespace Go.Proofs.YtahgfmobdfhaaaaGreatDoor
set_option maxRecDepth 100000
open Go.ChangeShapes Go.WideShapes Go.ChangeAt Go.RowKit

/-- a list of texts that stands in memory, or none -/
def LIn (w : World) (A : Option Addr) (c : Nat) (l : List Tx) : Prop := (l = [] ∧ (A = none → c = 0)) ∨ ∃ g off, A = some ⟨g, off, none⟩ ∧ g < w.heap.size ∧ l.length ≤ c ∧ ∀ j (hj : j < l.length), w.cell? ⟨g, off + j, none⟩ = some (.string (bs l[j]))
theorem LIn.below {w w' : World} {A : Option Addr} {c : Nat} {l : List Tx} (h : LIn w A c l) (hb : Below w.heap.size w w') : LIn w' A c l := by
  rcases h with h | ⟨g, off, e, hg, hl, hc⟩
  · exact .inl h
  · exact .inr ⟨g, off, e, Nat.lt_of_lt_of_le hg hb.size, hl, fun j hj => (hb.cell hg).trans (hc j hj)⟩
theorem LIn.at {w : World} {A : Option Addr} {c : Nat} {l : List Tx} (h : LIn w A c l) (hm : l.length ≤ 9223372036854775807) : LAt w A c l := by
  rcases h with ⟨rfl, h0⟩ | ⟨g, off, e, hg, hl, hc⟩
  · exact ⟨Nat.zero_le _, hm, fun j hj => by simp at hj⟩
  · exact ⟨hl, hm, fun j hj => ⟨g, off, e, hg, hc j hj⟩⟩
/-- the table of powers of ten that the program lists -/
def TabAt (w : World) : Prop := Lib.TabIs Tryz.prog w "internal/strconv.uint64pow10" .u64 Lib.pow10Tab
theorem TabAt.below {w w' : World} (h : TabAt w) (hb : Below w.heap.size w w') : TabAt w' := by
  have hgn : Tryz.prog.globalNamed "internal/strconv.uint64pow10" = some 2 := by kernel_rfl
  unfold TabAt Lib.TabIs World.var? at h ⊢
  rw [hgn] at h ⊢
  simp only [Option.bind_some] at h ⊢
  have hlt : 2 < w.heap.size := by
    rcases Nat.lt_or_ge 2 w.heap.size with h' | h'
    · exact h'
    · rw [Array.getElem?_eq_none h'] at h; cases h
  rw [hb.block _ hlt]
  exact h
theorem Itoa_any (n : Int) (h0 : -9223372036854775808 ≤ n) (h1 : n ≤ 9223372036854775807) (w : World) (ht : TabAt w) : ∀ W, Below w.heap.size w W → Calls Tryz.prog 57 #[.int .i64 n] W fun e w' => e = .returned (.string (bs (Lib.itoa n))) ∧ Below W.heap.size W w' := fun W hW =>
  (Tryz.strconv_Itoa n h0 h1 W (ht.below hW)).mono fun e w' h => ⟨h.1, by obtain ⟨k, os, e⟩ := h.2; rw [e]; exact Lib.below_grow _ _ (Nat.le_refl _) _ _⟩
/-- The line of any rule: its words. -/
theorem lineWords_any (r : Ru) (A : Option Addr) (ca : Nat) (ln : Int) (w : World) (hL : LIn w A ca r.list) (hl : r.list.length ≤ 1048576) (hn0 : -9223372036854775808 ≤ r.n) (hn1 : r.n ≤ 9223372036854775807) (hm0 : -9223372036854775808 ≤ r.m) (hm1 : r.m ≤ 9223372036854775807) (ht : TabAt w) :
    Calls Tryz.prog 24 #[ruV r (.slice A r.list.length ca) ln] w (LineTo (lineP r) w) := by
  obtain ⟨kd, nm, l, rn, rm, rf, rt, rb, ra, ri⟩ := r
  simp only at hL hl hn0 hn1 hm0 hm1
  have hi := Itoa_any rn hn0 hn1 w ht
  have hi2 := Itoa_any rm hm0 hm1 w ht
  unfold lineP ruV
  simp only
  by_cases k1 : kd = 1
  · subst k1
    simp only [if_true]
    rcases hL with ⟨rfl, h0⟩ | ⟨g, off, rfl, hg, hc, hcells⟩
    · cases A with
      | none => obtain rfl := h0 rfl; exact lw_roleN nm rf rt rb ra ri rn rm ln w
      | some a => exact lw_roleE nm rf rt rb ra ri rn rm ln a ca w
    · by_cases hp : l = []
      · subst hp
        exact lw_roleE nm rf rt rb ra ri rn rm ln _ ca w
      · rw [if_neg hp]
        have := lw_roleS nm rf rt rb ra ri rn rm ln g off ca l w hg hcells hl (List.length_pos_iff.2 hp)
        simpa using this
  rw [if_neg k1]
  by_cases k23 : kd = 2 ∨ kd = 3
  · rw [if_pos k23]
    rcases hL with ⟨rfl, h0⟩ | ⟨g, off, rfl, hg, hc, hcells⟩
    · cases A with
      | none =>
        obtain rfl := h0 rfl
        rcases k23 with rfl | rfl
        · exact lw_user2N nm rf rt rb ra ri rn rm ln w
        · exact lw_user3N nm rf rt rb ra ri rn rm ln w
      | some a =>
        rcases k23 with rfl | rfl
        · exact lw_user2E nm rf rt rb ra ri rn rm ln a ca w
        · exact lw_user3E nm rf rt rb ra ri rn rm ln a ca w
    · rcases k23 with rfl | rfl
      · have := lw_user2S nm rf rt rb ra ri rn rm ln g off ca l w hg hcells hl
        simpa using this
      · have := lw_user3S nm rf rt rb ra ri rn rm ln g off ca l w hg hcells hl
        simpa using this
  rw [if_neg k23]
  by_cases k45 : kd = 4 ∨ kd = 5
  · rw [if_pos k45]
    rcases hL with ⟨rfl, h0⟩ | ⟨g, off, rfl, hg, hc, hcells⟩
    · cases A with
      | none =>
        obtain rfl := h0 rfl
        rcases k45 with rfl | rfl
        · exact lw_ssd4N nm rf rt rb ra ri rn rm ln w (Lib.itoa rn) hi
        · exact lw_ssd5N nm rf rt rb ra ri rn rm ln w (Lib.itoa rn) hi
      | some a =>
        rcases k45 with rfl | rfl
        · exact lw_ssd4E nm rf rt rb ra ri rn rm ln a ca w (Lib.itoa rn) hi
        · exact lw_ssd5E nm rf rt rb ra ri rn rm ln a ca w (Lib.itoa rn) hi
    · rcases k45 with rfl | rfl
      · have := lw_ssd4S nm rf rt rb ra ri rn rm ln g off ca l w hg hcells hl (Lib.itoa rn) hi
        simpa using this
      · have := lw_ssd5S nm rf rt rb ra ri rn rm ln g off ca l w hg hcells hl (Lib.itoa rn) hi
        simpa using this
  rw [if_neg k45]
  by_cases k6 : kd = 6
  · subst k6
    simp only [if_true]
    rcases hL with ⟨rfl, h0⟩ | ⟨g, off, rfl, hg, hc, hcells⟩
    · cases A with
      | none => obtain rfl := h0 rfl; exact lw_exclN nm rf rt rb ra ri rn rm ln w
      | some a => exact lw_exclE nm rf rt rb ra ri rn rm ln a ca w
    · exact lw_excl nm rf rt rb ra ri rn rm ln g off ca l w hg hcells hl
  rw [if_neg k6]
  by_cases k7 : kd = 7
  · subst k7
    simp only [if_true]
    exact lw_lend nm rf rt rb ra ri rn rm ln w (Lib.itoa rn) (Lib.itoa rm) hi hi2
  rw [if_neg k7]
  by_cases k8 : kd = 8
  · subst k8
    simp only [if_true]
    by_cases h : ri = []
    · have := lw_state0 (A := A) (na := l.length) (ca := ca) nm rf rt rb ra ri rn rm ln w h
      rw [show optP [105, 110] ri = [] by simp [optP, h]]
      simpa using this
    · have := lw_state1 (A := A) (na := l.length) (ca := ca) nm rf rt rb ra ri rn rm ln w h
      rw [show optP [105, 110] ri = [[105, 110], ri] by simp [optP, h]]
      simpa using this
  rw [if_neg k8]
  by_cases k9 : kd = 9
  · subst k9
    simp only [if_true]
    by_cases h : rb = []
    · rw [show optP [98, 121] rb = [] by simp [optP, h]]
      by_cases h2 : ra = []
      · rw [show optP [116, 97, 115, 107] ra = [] by simp [optP, h2]]
        have := lw_on00 (A := A) (na := l.length) (ca := ca) nm rf rt rb ra ri rn rm ln w h h2
        simpa using this
      · rw [show optP [116, 97, 115, 107] ra = [[116, 97, 115, 107], ra] by simp [optP, h2]]
        have := lw_on01 (A := A) (na := l.length) (ca := ca) nm rf rt rb ra ri rn rm ln w h h2
        simpa using this
    · rw [show optP [98, 121] rb = [[98, 121], rb] by simp [optP, h]]
      by_cases h2 : ra = []
      · rw [show optP [116, 97, 115, 107] ra = [] by simp [optP, h2]]
        have := lw_on10 (A := A) (na := l.length) (ca := ca) nm rf rt rb ra ri rn rm ln w h h2
        simpa using this
      · rw [show optP [116, 97, 115, 107] ra = [[116, 97, 115, 107], ra] by simp [optP, h2]]
        have := lw_on11 (A := A) (na := l.length) (ca := ca) nm rf rt rb ra ri rn rm ln w h h2
        simpa using this
  rw [if_neg k9]
  by_cases k10 : kd = 10
  · subst k10
    simp only [if_true]
    have := lw_auto (A := A) (na := l.length) (ca := ca) nm rf rt rb ra ri rn rm ln w
    simpa using this
  rw [if_neg k10]
  by_cases k11 : kd = 11
  · subst k11
    simp only [if_true]
    have := lw_after (A := A) (na := l.length) (ca := ca) nm rf rt rb ra ri rn rm ln w (Lib.itoa rn) hi
    simpa using this
  rw [if_neg k11]
  have n2 : kd ≠ 2 := fun e => k23 (.inl e)
  have n3 : kd ≠ 3 := fun e => k23 (.inr e)
  have n4 : kd ≠ 4 := fun e => k45 (.inl e)
  have n5 : kd ≠ 5 := fun e => k45 (.inr e)
  exact lw_none (A := A) (na := l.length) (ca := ca) nm rf rt rb ra ri kd rn rm ln w (by simpa using k1) (by simpa using n2) (by simpa using n3) (by simpa using n4) (by simpa using n5) (by simpa using k6) (by simpa using k7) (by simpa using k8) (by simpa using k9) (by simpa using k10) (by simpa using k11)
end Go.Proofs.YtahgfmobdfhaaaaGreatDoor
/-
  within; digits.
-/
namespace Go.Proofs.YtahgfmobdfhaaaaGreatDoor
set_option maxRecDepth 100000
open Go.ChangeShapes Go.WideShapes Go.ChangeAt Go.RowKit

/-- a byte of a number; a digit's sign -/
def byteOf (n : Nat) : UInt8 := UInt8.ofNat n
def dgt (n : Nat) : UInt8 := byteOf (48 + n)
/-- a text of one byte, out of a list of one byte -/
theorem conv_one (W : World) (b cap : Nat) (c : Int) (h0 : 0 ≤ c) (h1 : c ≤ 255) (hc : W.cell? ⟨b, 0, none⟩ = some (.int .u8 c)) :
    (convert 103 9 (.slice (some ⟨b, 0, none⟩) 1 cap)).run Tryz.prog W = .ok (.string (bs [byteOf c.toNat])) W := by
  have := run_convert_bytes_back (P := Tryz.prog) W 103 9 5 ⟨b, 0, none⟩ cap [UInt8.ofNat c.toNat] Tryz.underlying103 Tryz.underlying5 Tryz.underlying9 (by
    intro j hj
    simp at hj
    subst hj
    have e : ((UInt8.ofNat c.toNat).toNat : Int) = c := by simp; omega
    simp only [List.getElem_cons_zero, e]
    exact hc)
  exact this
def StrNew (l : List UInt8) (w : World) (e : Ending) (w' : World) : Prop := e = .returned (.string (bs l)) ∧ Below w.heap.size w w'
end Go.Proofs.YtahgfmobdfhaaaaGreatDoor
namespace Go.Proofs.YtahgfmobdfhaaaaGreatDoor
set_option maxRecDepth 100000
open Go.ChangeShapes Go.WideShapes Go.ChangeAt Go.RowKit

/-- a number's digits -/
def digs (n : Nat) : List UInt8 := if n < 10 then [dgt n] else digs (n / 10) ++ [dgt (n % 10)]
theorem digs_le (n : Nat) : (digs n).length ≤ n + 1 := by
  induction n using Nat.strongRecOn with
  | ind n ih =>
    rw [digs]; split
    · simp
    · have := ih (n / 10) (by omega); simp; omega
theorem digs_step {n : Nat} (h : ¬ n < 10) : bs (digs (n / 10)) ++ bs [dgt (n % 10)] = bs (digs n) := by
  conv => rhs; rw [digs, if_neg h]
  exact bs_append _ _
theorem Digits_any (n : Nat) : ∀ (w : World), n ≤ 9223372036854775807 →
    Calls Tryz.prog 22 #[.int .i64 n] w (StrNew (digs n) w) := by
  induction n using Nat.strongRecOn with
  | ind n ih =>
    intro w hn
    by_cases h : n < 10
    · have hcv := fun W b cap hc => conv_one W b cap (48 + n) (by omega) (by omega) hc
      have hb : (48 + (n : Int)).toNat = 48 + n := by omega
      rw [hb, ← dgt] at hcv
      clear hb
      go_enter Tryz.func22, Tryz.ntmps22
      go_wp2
      go_ret
      exact ⟨ret_str (by rw [digs, if_pos h]), (Below.refl _ _).alloc (Nat.le_refl _) _⟩
    · have hd : ((n / 10 : Nat) : Int) = (n : Int) / 10 := by omega
      have ih1 := fun W => ih (n / 10) (by omega) W (by omega)
      rw [hd] at ih1
      have IH := Lib.hid ih1
      clear ih1 hd ih
      have hcv := fun W b cap hc => conv_one W b cap (48 + (n : Int) % 10) (by omega) (by omega) hc
      have hb : (48 + (n : Int) % 10).toNat = 48 + n % 10 := by omega
      rw [hb, ← dgt] at hcv
      clear hb
      have hl : (bs (digs (n / 10))).size ≤ 4611686018427387904 := by have := digs_le (n / 10); rw [size_bs]; omega
      have hl1 : (bs [dgt (n % 10)]).size ≤ 1 := Nat.le_refl _
      have e1 : IntKind.i64.wrap (48 + (n : Int) % 10) = 48 + (n : Int) % 10 := by rw [IntKind.wrap_i64]; omega
      have e2 : (n : Int).tdiv 10 = (n : Int) / 10 := Int.tdiv_eq_ediv_of_nonneg (by omega)
      have e3 : (n : Int).tmod 10 = (n : Int) % 10 := Int.tmod_eq_emod_of_nonneg (by omega)
      have e4 : IntKind.i64.wrap ((n : Int) / 10) = (n : Int) / 10 := by rw [IntKind.wrap_i64]; omega
      have e5 : IntKind.i64.wrap ((n : Int) % 10) = (n : Int) % 10 := by rw [IntKind.wrap_i64]; omega
      have e6 : IntKind.u8.wrap (48 + (n : Int) % 10) = 48 + (n : Int) % 10 := by simp only [IntKind.wrap, IntKind.bits, IntKind.signed]; simp; omega
      go_enter Tryz.func22, Tryz.ntmps22
      go_wp2_with fail
      go_region_with (go_at_call 22; refine (IH.out _).mono ?_; rintro e w1 ⟨rfl, hb⟩; have hcc := fun b o (h : b < _) => hb.cell (p := ⟨b, o, none⟩) h)
      all_goals
        go_wp2
        go_ret
        refine ⟨ret_str (digs_step h), ?_⟩
      · exact (below_then (Below.refl _ _).drew hb (by simp)).alloc (by have := hb.size; simpa using this) _
      all_goals exact below_then ((Below.refl _ _).alloc (Nat.le_refl _) _).drew hb (by simp)
end Go.Proofs.YtahgfmobdfhaaaaGreatDoor
/-
  A rule that comes in, opened; Name, of however many; where the walk of the statements' rule of raw parts stands.
-/
namespace Go.Proofs.YtahgfmobdfhaaaaGreatDoor
set_option maxRecDepth 100000
open Go.ChangeShapes Go.WideShapes Go.ChangeAt Go.RowKit Go.Deep

/-- how much texts hold -/
def sumL : List Tx → Nat
  | [] => 0
  | t :: r => t.length + 1 + sumL r
def totR (r : Ru) : Nat := r.name.length + sumL r.list + r.from_.length + r.to_.length + r.by_.length + r.task.length + r.in_.length
theorem sum_len (l : List Tx) : l.length ≤ sumL l := by
  induction l with
  | nil => exact Nat.le_refl _
  | cons t r ih => simp only [sumL, List.length_cons]; omega
theorem sum_app (l m : List Tx) : sumL (l ++ m) = sumL l + sumL m := by
  induction l with
  | nil => simp [sumL]
  | cons t r ih => simp only [List.cons_append, sumL, ih]; omega
theorem join_sum (l : List Tx) : (joinP l).length ≤ sumL l := by
  induction l with
  | nil => simp [joinP, Lib.join, sumL]
  | cons a r ih =>
    cases r with
    | nil => rw [join_one]; simp only [sumL]; omega
    | cons b r => rw [join_cons2]; simp only [sumL, List.length_append, List.length_cons] at ih ⊢; omega
theorem nDig_le (u : Nat) : ∀ k : Nat, u < 10 ^ (k + 1) → (Lib.decDigits u).length ≤ k + 1 := by
  intro k
  induction k generalizing u with
  | zero => intro h; rw [Lib.decDigits, dif_pos (by omega)]; simp
  | succ k ih =>
    intro h
    rw [Lib.decDigits]
    split
    · simp
    · have := ih (u / 10) (by rw [Nat.pow_succ] at h; omega)
      simp; omega
theorem itoa_le {n : Int} (h0 : -9223372036854775808 ≤ n) (h1 : n ≤ 9223372036854775807) : (Lib.itoa n).length ≤ 20 := by
  have hp : (10 : Nat) ^ (18 + 1) = 10000000000000000000 := by decide
  unfold Lib.itoa
  split
  · have := nDig_le n.natAbs 18 (by rw [hp]; omega)
    simp; omega
  · have := nDig_le n.toNat 18 (by rw [hp]; omega)
    omega
theorem kindT_le : ∀ t ∈ kindT, t.length ≤ 9 := by decide +kernel
theorem stateT_le : ∀ t ∈ stateT, t.length ≤ 9 := by decide +kernel
theorem wordP_le {tbl : List Tx} (h : ∀ t ∈ tbl, t.length ≤ 9) (k : Int) : (wordP tbl k).length ≤ 9 := by
  unfold wordP
  split
  · simp
  · cases hh : tbl[k.toNat]? with
    | none => simp
    | some t => exact h t (List.mem_of_getElem? hh)
theorem sum_opt (x y : Tx) (hx : x.length ≤ 4) : sumL (optP x y) ≤ y.length + 6 := by
  unfold optP
  split
  · simp [sumL]
  · simp only [sumL]; omega
theorem line_sum (r : Ru) (hn0 : -9223372036854775808 ≤ r.n) (hn1 : r.n ≤ 9223372036854775807) (hm0 : -9223372036854775808 ≤ r.m) (hm1 : r.m ≤ 9223372036854775807) : sumL (lineP r) ≤ totR r + 60 := by
  have i1 := itoa_le hn0 hn1
  have i2 := itoa_le hm0 hm1
  have w1 := wordP_le kindT_le r.kind
  have w2 := wordP_le stateT_le r.n
  have o1 := sum_opt [105, 110] r.in_ (by decide)
  have o2 := sum_opt [98, 121] r.by_ (by decide)
  have o3 := sum_opt [116, 97, 115, 107] r.task (by decide)
  unfold lineP totR
  simp only [sumL]
  split
  · split
    · rename_i e; simp only [sumL, e]; omega
    · simp only [sumL, List.length_cons, List.length_nil]; omega
  split
  · simp only [sumL]; omega
  split
  · simp only [sumL]; omega
  split
  · omega
  split
  · simp only [sumL]; omega
  split
  · simp only [sum_app, sumL]; omega
  split
  · simp only [sum_app, sumL, List.length_cons, List.length_nil]; omega
  split
  · simp only [sumL, List.length_cons, List.length_nil]; omega
  split
  · simp only [sumL, List.length_cons, List.length_nil]; omega
  · simp only [sumL]; omega
end Go.Proofs.YtahgfmobdfhaaaaGreatDoor
namespace Go.Proofs.YtahgfmobdfhaaaaGreatDoor
set_option maxRecDepth 100000
open Go.ChangeShapes Go.WideShapes Go.ChangeAt Go.RowKit

end Go.Proofs.YtahgfmobdfhaaaaGreatDoor
namespace Go.Proofs.YtahgfmobdfhaaaaGreatDoor
set_option maxRecDepth 100000
open Go.ChangeShapes Go.WideShapes Go.ChangeAt Go.RowKit

/-- W0 at the beginning, W now: what came in (rc) in the block W0.heap.size, the answer's cells behind it, the rule that is made behind that -/
structure XS (W0 W : World) (rc : Array Value) (k : Int) (nm : Tx) (v : Value) (l : List Tx) (n m : Int) (f t b a i : Tx) : Prop where
  r0 : W.heap[W0.heap.size]? = some (.cells rc 41 (0, 0))
  t0 : W.heap[W0.heap.size + 1]? = some (.cells zero11 41 (0, 0))
  x0 : W.heap[W0.heap.size + 1 + 1]? = some (.cells #[.int .i64 k, .string (bs nm), v, .int .i64 n, .int .i64 m, .string (bs f), .string (bs t), .string (bs b), .string (bs a), .string (bs i), .int .i64 0] 41 (0, 0))
  own : OwnL W (W0.heap.size + 3) v l
  low : Below W0.heap.size W0 W
section
variable {W0 W W' : World} {rc : Array Value} {k : Int} {nm : Tx} {v : Value} {l : List Tx} {n m : Int} {f t b a i : Tx}
theorem XS.size (h : XS W0 W rc k nm v l n m f t b a i) : W0.heap.size + 1 + 1 < W.heap.size := (Array.getElem?_eq_some_iff.1 h.x0).1
theorem XS.below (h : XS W0 W rc k nm v l n m f t b a i) (hb : Below W.heap.size W W') : XS W0 W' rc k nm v l n m f t b a i :=
  have := h.size
  ⟨(hb.block _ (by omega)).trans h.r0, (hb.block _ (by omega)).trans h.t0, (hb.block _ (by omega)).trans h.x0, own_below h.own hb (by omega), h.low.trans (hb.mono (by omega))⟩
theorem XS.grown {v' : Value} {l' : List Tx} {row : Option Nat} (h : XS W0 W rc k nm v l n m f t b a i) (hg : W.grownBy W' row) (hr : ∀ j, row = some j → W0.heap.size + 3 ≤ j) (ho : OwnL W' (W0.heap.size + 3) v' l') : W'.heap[W0.heap.size]? = some (.cells rc 41 (0, 0)) ∧ W'.heap[W0.heap.size + 1]? = some (.cells zero11 41 (0, 0)) ∧ W'.heap[W0.heap.size + 1 + 1]? = some (.cells #[.int .i64 k, .string (bs nm), v, .int .i64 n, .int .i64 m, .string (bs f), .string (bs t), .string (bs b), .string (bs a), .string (bs i), .int .i64 0] 41 (0, 0)) ∧ OwnL W' (W0.heap.size + 3) v' l' ∧ Below W0.heap.size W0 W' :=
  have hs := h.size
  ⟨(hg.block _ (by omega) (fun e => by have := hr _ e.symm; omega)).trans h.r0, (hg.block _ (by omega) (fun e => by have := hr _ e.symm; omega)).trans h.t0, (hg.block _ (by omega) (fun e => by have := hr _ e.symm; omega)).trans h.x0, ho, h.low.grown hg h.low.size (fun j e => by have := hr _ e; omega)⟩
theorem far_row {W : World} {p j : Nat} {o : Obj} {c : Value} {t : Nat} (h : W.heap[p]? = some o) (hne : t ≠ p) : (W.setCell ⟨t, j, none⟩ c).heap[p]? = some o := by
  have hg := grown_setCell W t j c
  rw [hg.block p (Array.getElem?_eq_some_iff.1 h).1 (by simp; omega)]; exact h
theorem own_set {W : World} {base t j : Nat} {v c : Value} {l : List Tx} (h : OwnL W base v l) (ht : t < base) : OwnL (W.setCell ⟨t, j, none⟩ c) base v l :=
  World.ownsRow.kept h (grown_setCell W t j c) (.inr (fun e => by have := (h.lt t e).1; omega))
theorem XS.drew (h : XS W0 W rc k nm v l n m f t b a i) : XS W0 W.drew rc k nm v l n m f t b a i := ⟨h.r0, h.t0, h.x0, h.own, h.low.drew⟩
theorem XS.low_set (h : XS W0 W rc k nm v l n m f t b a i) (j : Nat) (c : Value) : Below W0.heap.size W0 (W.setCell ⟨W0.heap.size + 1 + 1, j, none⟩ c) :=
  h.low.grown (grown_setCell W _ j c) h.low.size (fun q e => by simp at e; omega)

theorem XS.set2 {v' : Value} {l' : List Tx} (h : XS W0 W rc k nm v l n m f t b a i) (ho : OwnL W (W0.heap.size + 3) v' l') : XS W0 (W.setCell ⟨W0.heap.size + 1 + 1, 2, none⟩ v') rc k nm v' l' n m f t b a i :=
  ⟨far_row h.r0 (by omega), far_row h.t0 (by omega), heap_set h.x0 _, own_set ho (by omega), h.low_set _ _⟩
/-- the same, where the list in hand (v', l') is not yet stored -/
structure XG (W0 W : World) (rc : Array Value) (v' : Value) (l' : List Tx) (k : Int) (nm : Tx) (v : Value) (n m : Int) (f t b a i : Tx) : Prop where
  r0 : W.heap[W0.heap.size]? = some (.cells rc 41 (0, 0))
  t0 : W.heap[W0.heap.size + 1]? = some (.cells zero11 41 (0, 0))
  x0 : W.heap[W0.heap.size + 1 + 1]? = some (.cells #[.int .i64 k, .string (bs nm), v, .int .i64 n, .int .i64 m, .string (bs f), .string (bs t), .string (bs b), .string (bs a), .string (bs i), .int .i64 0] 41 (0, 0))
  own : OwnL W (W0.heap.size + 3) v' l'
  low : Below W0.heap.size W0 W
theorem XS.app {W1 W2 : World} {v' : Value} {ts : List Tx} (h : XS W0 W rc k nm v l n m f t b a i) (hg0 : W.grownBy W1 none) (hg : W1.grownBy W2 v.ownBlock) (ho : W2.ownsRow (W0.heap.size + 3) 9 1 v' (l.length + ts.length) (scells l ++ scells ts)) : XG W0 W2 rc v' (l ++ ts) k nm v n m f t b a i := by
  have hr : ∀ j, v.ownBlock = some j → W0.heap.size + 3 ≤ j := fun j e => by have := (h.own.lt j e).1; omega
  have hs := h.size
  have hb : ∀ p, p < W0.heap.size + 3 → W2.heap[p]? = W.heap[p]? := fun p hp => by
    rw [hg.block _ (Nat.lt_of_lt_of_le (by omega) hg0.size) (fun e => by have := hr _ e.symm; omega), hg0.block _ (by omega) (by simp)]
  refine ⟨(hb _ (by omega)).trans h.r0, (hb _ (by omega)).trans h.t0, (hb _ (by omega)).trans h.x0, ?_, (h.low.grown hg0 h.low.size (fun j e => by cases e)).grown hg (Nat.le_trans h.low.size hg0.size) (fun j e => by have := hr _ e; omega)⟩
  unfold OwnL scells
  rw [List.length_append, List.map_append]
  exact ho
theorem XG.store {v' : Value} {l' : List Tx} (h : XG W0 W rc v' l' k nm v n m f t b a i) : XS W0 (W.setCell ⟨W0.heap.size + 1 + 1, 2, none⟩ v') rc k nm v' l' n m f t b a i :=
  ⟨far_row h.r0 (by omega), far_row h.t0 (by omega), heap_set h.x0 _, own_set h.own (by omega), h.low.grown (grown_setCell W _ 2 v') h.low.size (fun q e => by simp at e; omega)⟩
theorem XG.fz {v' : Value} {l' : List Tx} (h : XG W0 W rc v' l' k nm v n m f t b a i) (j : Nat) : W.frozen? ⟨W0.heap.size + 1 + 1, j, none⟩ = false := by simp [World.frozen?, h.x0]
theorem XS.q0 (h : XS W0 W rc k nm v l n m f t b a i) : W.cell? ⟨W0.heap.size + 1 + 1, 0, none⟩ = some (.int .i64 k) := row_q0 h.x0
theorem XS.q1 (h : XS W0 W rc k nm v l n m f t b a i) : W.cell? ⟨W0.heap.size + 1 + 1, 1, none⟩ = some (.string (bs nm)) := row_q1 h.x0
theorem XS.q2 (h : XS W0 W rc k nm v l n m f t b a i) : W.cell? ⟨W0.heap.size + 1 + 1, 2, none⟩ = some (v) := row_q2 h.x0
theorem XS.q3 (h : XS W0 W rc k nm v l n m f t b a i) : W.cell? ⟨W0.heap.size + 1 + 1, 3, none⟩ = some (.int .i64 n) := row_q3 h.x0
theorem XS.q4 (h : XS W0 W rc k nm v l n m f t b a i) : W.cell? ⟨W0.heap.size + 1 + 1, 4, none⟩ = some (.int .i64 m) := row_q4 h.x0
theorem XS.q5 (h : XS W0 W rc k nm v l n m f t b a i) : W.cell? ⟨W0.heap.size + 1 + 1, 5, none⟩ = some (.string (bs f)) := row_q5 h.x0
theorem XS.q6 (h : XS W0 W rc k nm v l n m f t b a i) : W.cell? ⟨W0.heap.size + 1 + 1, 6, none⟩ = some (.string (bs t)) := row_q6 h.x0
theorem XS.q7 (h : XS W0 W rc k nm v l n m f t b a i) : W.cell? ⟨W0.heap.size + 1 + 1, 7, none⟩ = some (.string (bs b)) := row_q7 h.x0
theorem XS.q8 (h : XS W0 W rc k nm v l n m f t b a i) : W.cell? ⟨W0.heap.size + 1 + 1, 8, none⟩ = some (.string (bs a)) := row_q8 h.x0
theorem XS.q9 (h : XS W0 W rc k nm v l n m f t b a i) : W.cell? ⟨W0.heap.size + 1 + 1, 9, none⟩ = some (.string (bs i)) := row_q9 h.x0
theorem XS.q10 (h : XS W0 W rc k nm v l n m f t b a i) : W.cell? ⟨W0.heap.size + 1 + 1, 10, none⟩ = some (.int .i64 0) := row_q10 h.x0
theorem XS.fz (h : XS W0 W rc k nm v l n m f t b a i) (j : Nat) : W.frozen? ⟨W0.heap.size + 1 + 1, j, none⟩ = false := by simp [World.frozen?, h.x0]
theorem XS.fzt (h : XS W0 W rc k nm v l n m f t b a i) (j : Nat) : W.frozen? ⟨W0.heap.size + 1, j, none⟩ = false := by simp [World.frozen?, h.t0]
end
theorem own_LIn {w : World} {base c : Nat} {A : Option Addr} {l : List Tx} (h : OwnL w base (.slice A l.length c) l) : LIn w A c l := by
  obtain ⟨h1, h2⟩ := strSl_of h
  by_cases h0 : 0 < l.length
  · obtain ⟨g, rfl, _, hg, _⟩ := h2 0 h0
    refine .inr ⟨g, 0, rfl, hg, h1, fun j hj => ?_⟩
    obtain ⟨g', e, _, _, hc⟩ := h2 j hj
    cases e; rw [Nat.zero_add]; exact hc
  · have e : l = [] := List.eq_nil_of_length_eq_zero (by omega)
    subst e
    refine .inl ⟨rfl, fun e => ?_⟩
    subst e
    rcases h.2 with ⟨hv, _⟩ | ⟨g, cap, cur, hv, _⟩
    · cases hv; rfl
    · cases hv
theorem LIn.grown {w w' : World} {A : Option Addr} {c p : Nat} {l : List Tx} (h : LIn w A c l) (hg : w.grownBy w' (some p)) (hB : ∀ g off, A = some ⟨g, off, none⟩ → l ≠ [] → g ≠ p) : LIn w' A c l := by
  by_cases h0 : l = []
  · rcases h with h | ⟨g, off, e, hgl, hl, hc⟩
    · exact .inl h
    · exact .inr ⟨g, off, e, Nat.lt_of_lt_of_le hgl hg.size, hl, fun j hj => by subst h0; simp at hj⟩
  rcases h with h | ⟨g, off, e, hgl, hl, hc⟩
  · exact .inl h
  · refine .inr ⟨g, off, e, Nat.lt_of_lt_of_le hgl hg.size, hl, fun j hj => ?_⟩
    rw [← hc j hj]
    unfold World.cell?
    simp only
    rw [hg.block g hgl (by have := hB g off e h0; simp; omega)]
end Go.Proofs.YtahgfmobdfhaaaaGreatDoor
