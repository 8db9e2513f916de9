/-
  rule.lineWords at any rule.
-/
import Derived.Test.YtkgjcahcpeehjaaGreatDoorLw1
import Derived.Test.YtkgjcahcpeehjaaGreatDoorLw2
import Derived.Test.YtkgjcahcpeehjaaGreatDoorLw5
import Derived.Test.YtkgjcahcpeehjaaGreatDoorLw6
import Derived.Test.YtkgjcahcpeehjaaGreatDoorPlain06
import Derived.Test.YtkgjcahcpeehjaaGreatDoorShelf
import Derived.Lib.AppendIntMem
namespace Go.Proofs.YtkgjcahcpeehjaaGreatDoor
set_option maxRecDepth 100000
open Go.ChangeShapes Go.WideShapes Go.ChangeAt Go.RowKit

/-- a list of texts that stands in memory, or none -/
def LIn (w : World) (A : Option Addr) (c : Nat) (l : List Tx) : Prop := (l = [] ∧ (A = none → c = 0)) ∨ ∃ g off, A = some ⟨g, off, none⟩ ∧ g < w.heap.size ∧ l.length ≤ c ∧ ∀ j (hj : j < l.length), w.cell? ⟨g, off + j, none⟩ = some (.string (bs l[j]))
theorem LIn.below {w w' : World} {A : Option Addr} {c : Nat} {l : List Tx} (h : LIn w A c l) (hb : Below w.heap.size w w') : LIn w' A c l := by
  rcases h with h | ⟨g, off, e, hg, hl, hc⟩
  · exact .inl h
  · exact .inr ⟨g, off, e, Nat.lt_of_lt_of_le hg hb.size, hl, fun j hj => (hb.cell hg).trans (hc j hj)⟩
theorem LIn.at {w : World} {A : Option Addr} {c : Nat} {l : List Tx} (h : LIn w A c l) (hm : l.length ≤ 9223372036854775807) : LAt w A c l := by
  rcases h with ⟨rfl, h0⟩ | ⟨g, off, e, hg, hl, hc⟩
  · exact ⟨Nat.zero_le _, hm, fun j hj => by simp at hj⟩
  · exact ⟨hl, hm, fun j hj => ⟨g, off, e, hg, hc j hj⟩⟩
/-- the table of powers of ten that the program lists -/
def TabAt (w : World) : Prop := Lib.TabIs Tryz.prog w "internal/strconv.uint64pow10" .u64 Lib.pow10Tab
theorem TabAt.below {w w' : World} (h : TabAt w) (hb : Below w.heap.size w w') : TabAt w' := by
  have hgn : Tryz.prog.globalNamed "internal/strconv.uint64pow10" = some 2 := by kernel_rfl
  unfold TabAt Lib.TabIs World.var? at h ⊢
  rw [hgn] at h ⊢
  simp only [Option.bind_some] at h ⊢
  have hlt : 2 < w.heap.size := by
    rcases Nat.lt_or_ge 2 w.heap.size with h' | h'
    · exact h'
    · rw [Array.getElem?_eq_none h'] at h; cases h
  rw [hb.block _ hlt]
  exact h
theorem Itoa_any (n : Int) (h0 : -9223372036854775808 ≤ n) (h1 : n ≤ 9223372036854775807) (w : World) (ht : TabAt w) : ∀ W, Below w.heap.size w W → Calls Tryz.prog 101 #[.int .i64 n] W fun e w' => e = .returned (.string (bs (Lib.itoa n))) ∧ Below W.heap.size W w' := fun W hW =>
  (Tryz.strconv_Itoa n h0 h1 W (ht.below hW)).mono fun e w' h => ⟨h.1, by obtain ⟨k, os, e⟩ := h.2; rw [e]; exact Lib.below_grow _ _ (Nat.le_refl _) _ _⟩
/-- The line of any rule: its words. -/
theorem lineWords_any (r : Ru) (A : Option Addr) (ca : Nat) (ln : Int) (w : World) (hL : LIn w A ca r.list) (hl : r.list.length ≤ 1048576) (hn0 : -9223372036854775808 ≤ r.n) (hn1 : r.n ≤ 9223372036854775807) (hm0 : -9223372036854775808 ≤ r.m) (hm1 : r.m ≤ 9223372036854775807) (ht : TabAt w) :
    Calls Tryz.prog 45 #[ruV r (.slice A r.list.length ca) ln] w (LineTo (lineP r) w) := by
  obtain ⟨kd, nm, l, rn, rm, rf, rt, rb, ra, ri⟩ := r
  simp only at hL hl hn0 hn1 hm0 hm1
  have hi := Itoa_any rn hn0 hn1 w ht
  have hi2 := Itoa_any rm hm0 hm1 w ht
  unfold lineP ruV
  simp only
  by_cases k1 : kd = 1
  · subst k1
    simp only [if_true]
    rcases hL with ⟨rfl, h0⟩ | ⟨g, off, rfl, hg, hc, hcells⟩
    · cases A with
      | none => obtain rfl := h0 rfl; exact lw_roleN nm rf rt rb ra ri rn rm ln w
      | some a => exact lw_roleE nm rf rt rb ra ri rn rm ln a ca w
    · by_cases hp : l = []
      · subst hp
        exact lw_roleE nm rf rt rb ra ri rn rm ln _ ca w
      · rw [if_neg hp]
        have := lw_roleS nm rf rt rb ra ri rn rm ln g off ca l w hg hcells hl (List.length_pos_iff.2 hp)
        simpa using this
  rw [if_neg k1]
  by_cases k23 : kd = 2 ∨ kd = 3
  · rw [if_pos k23]
    rcases hL with ⟨rfl, h0⟩ | ⟨g, off, rfl, hg, hc, hcells⟩
    · cases A with
      | none =>
        obtain rfl := h0 rfl
        rcases k23 with rfl | rfl
        · exact lw_user2N nm rf rt rb ra ri rn rm ln w
        · exact lw_user3N nm rf rt rb ra ri rn rm ln w
      | some a =>
        rcases k23 with rfl | rfl
        · exact lw_user2E nm rf rt rb ra ri rn rm ln a ca w
        · exact lw_user3E nm rf rt rb ra ri rn rm ln a ca w
    · rcases k23 with rfl | rfl
      · have := lw_user2S nm rf rt rb ra ri rn rm ln g off ca l w hg hcells hl
        simpa using this
      · have := lw_user3S nm rf rt rb ra ri rn rm ln g off ca l w hg hcells hl
        simpa using this
  rw [if_neg k23]
  by_cases k45 : kd = 4 ∨ kd = 5
  · rw [if_pos k45]
    rcases hL with ⟨rfl, h0⟩ | ⟨g, off, rfl, hg, hc, hcells⟩
    · cases A with
      | none =>
        obtain rfl := h0 rfl
        rcases k45 with rfl | rfl
        · exact lw_ssd4N nm rf rt rb ra ri rn rm ln w (Lib.itoa rn) hi
        · exact lw_ssd5N nm rf rt rb ra ri rn rm ln w (Lib.itoa rn) hi
      | some a =>
        rcases k45 with rfl | rfl
        · exact lw_ssd4E nm rf rt rb ra ri rn rm ln a ca w (Lib.itoa rn) hi
        · exact lw_ssd5E nm rf rt rb ra ri rn rm ln a ca w (Lib.itoa rn) hi
    · rcases k45 with rfl | rfl
      · have := lw_ssd4S nm rf rt rb ra ri rn rm ln g off ca l w hg hcells hl (Lib.itoa rn) hi
        simpa using this
      · have := lw_ssd5S nm rf rt rb ra ri rn rm ln g off ca l w hg hcells hl (Lib.itoa rn) hi
        simpa using this
  rw [if_neg k45]
  by_cases k6 : kd = 6
  · subst k6
    simp only [if_true]
    rcases hL with ⟨rfl, h0⟩ | ⟨g, off, rfl, hg, hc, hcells⟩
    · cases A with
      | none => obtain rfl := h0 rfl; exact lw_exclN nm rf rt rb ra ri rn rm ln w
      | some a => exact lw_exclE nm rf rt rb ra ri rn rm ln a ca w
    · exact lw_excl nm rf rt rb ra ri rn rm ln g off ca l w hg hcells hl
  rw [if_neg k6]
  by_cases k7 : kd = 7
  · subst k7
    simp only [if_true]
    exact lw_lend nm rf rt rb ra ri rn rm ln w (Lib.itoa rn) (Lib.itoa rm) hi hi2
  rw [if_neg k7]
  by_cases k8 : kd = 8
  · subst k8
    simp only [if_true]
    by_cases h : ri = []
    · have := lw_state0 (A := A) (na := l.length) (ca := ca) nm rf rt rb ra ri rn rm ln w h
      rw [show optP [105, 110] ri = [] by simp [optP, h]]
      simpa using this
    · have := lw_state1 (A := A) (na := l.length) (ca := ca) nm rf rt rb ra ri rn rm ln w h
      rw [show optP [105, 110] ri = [[105, 110], ri] by simp [optP, h]]
      simpa using this
  rw [if_neg k8]
  by_cases k9 : kd = 9
  · subst k9
    simp only [if_true]
    by_cases h : rb = []
    · rw [show optP [98, 121] rb = [] by simp [optP, h]]
      by_cases h2 : ra = []
      · rw [show optP [116, 97, 115, 107] ra = [] by simp [optP, h2]]
        have := lw_on00 (A := A) (na := l.length) (ca := ca) nm rf rt rb ra ri rn rm ln w h h2
        simpa using this
      · rw [show optP [116, 97, 115, 107] ra = [[116, 97, 115, 107], ra] by simp [optP, h2]]
        have := lw_on01 (A := A) (na := l.length) (ca := ca) nm rf rt rb ra ri rn rm ln w h h2
        simpa using this
    · rw [show optP [98, 121] rb = [[98, 121], rb] by simp [optP, h]]
      by_cases h2 : ra = []
      · rw [show optP [116, 97, 115, 107] ra = [] by simp [optP, h2]]
        have := lw_on10 (A := A) (na := l.length) (ca := ca) nm rf rt rb ra ri rn rm ln w h h2
        simpa using this
      · rw [show optP [116, 97, 115, 107] ra = [[116, 97, 115, 107], ra] by simp [optP, h2]]
        have := lw_on11 (A := A) (na := l.length) (ca := ca) nm rf rt rb ra ri rn rm ln w h h2
        simpa using this
  rw [if_neg k9]
  by_cases k10 : kd = 10
  · subst k10
    simp only [if_true]
    have := lw_auto (A := A) (na := l.length) (ca := ca) nm rf rt rb ra ri rn rm ln w
    simpa using this
  rw [if_neg k10]
  by_cases k11 : kd = 11
  · subst k11
    simp only [if_true]
    have := lw_after (A := A) (na := l.length) (ca := ca) nm rf rt rb ra ri rn rm ln w (Lib.itoa rn) hi
    simpa using this
  rw [if_neg k11]
  have n2 : kd ≠ 2 := fun e => k23 (.inl e)
  have n3 : kd ≠ 3 := fun e => k23 (.inr e)
  have n4 : kd ≠ 4 := fun e => k45 (.inl e)
  have n5 : kd ≠ 5 := fun e => k45 (.inr e)
  exact lw_none (A := A) (na := l.length) (ca := ca) nm rf rt rb ra ri kd rn rm ln w (by simpa using k1) (by simpa using n2) (by simpa using n3) (by simpa using n4) (by simpa using n5) (by simpa using k6) (by simpa using k7) (by simpa using k8) (by simpa using k9) (by simpa using k10) (by simpa using k11)
end Go.Proofs.YtkgjcahcpeehjaaGreatDoor
