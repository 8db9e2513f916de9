/-
  Lists that are alike; two rules that are alike.
-/
import Derived.Test.YtgemciecdplcgaaDoorKeep02
namespace Go.Proofs.YtgemciecdplcgaaDoor
set_option maxRecDepth 100000
open Go.ChangeShapes Go.WideShapes Go.ChangeAt Go.RowKit

theorem strSl_of {w : World} {base : Nat} {A : Option Addr} {c : Nat} {l : List Tx} (h : OwnL w base (.slice A l.length c) l) : l.length ≤ c ∧ ∀ j (hj : j < l.length), ∃ g, A = some ⟨g, 0, none⟩ ∧ base ≤ g ∧ g < w.heap.size ∧ w.cell? ⟨g, j, none⟩ = some (.string (bs l[j])) := by
  by_cases h0 : 0 < l.length
  · obtain ⟨g, cap, hv, hb, hl, hc, hcells⟩ := own_form h h0
    cases hv
    exact ⟨hc, fun j hj => ⟨g, rfl, hb, hl, hcells j _ (by simp [scells, hj])⟩⟩
  · exact ⟨by omega, fun j hj => by omega⟩
set_option maxHeartbeats 1000000 in
theorem Same_eq (l : List Tx) (A B : Option Addr) (ca cb : Nat) (w : World) (hl : l.length ≤ 9223372036854775807) (_ha : l.length ≤ ca) (_hb : l.length ≤ cb)
    (h1 : ∀ j (hj : j < l.length), ∃ g, A = some ⟨g, 0, none⟩ ∧ w.cell? ⟨g, j, none⟩ = some (.string (bs l[j]))) (h2 : ∀ j (hj : j < l.length), ∃ g, B = some ⟨g, 0, none⟩ ∧ w.cell? ⟨g, j, none⟩ = some (.string (bs l[j]))) :
    Calls Tryd.prog 40 #[.slice A l.length ca, .slice B l.length cb] w fun e w' => e = .returned (.bool true) ∧ Below w.heap.size w w' := by
  have H1 := Lib.hid h1
  have H2 := Lib.hid h2
  clear h1 h2
  go_enter Tryd.func40, Tryd.ntmps40
  go_wp2
  go_loopw [5] (fun i wr => ∃ k : Nat, k ≤ l.length ∧ i = .int .i64 k ∧ ∃ n, wr = w.drewN n) (fun i _ => l.length - (intOf i).toNat)
  case atStart => exact ⟨0, Nat.zero_le _, rfl, 0, rfl⟩
  case round =>
    obtain ⟨k, hk, rfl, n, rfl⟩ := hrel
    by_cases hlt : k < l.length
    · obtain ⟨g, rfl, x1⟩ := H1.out k hlt
      obtain ⟨g', rfl, x2⟩ := H2.out k hlt
      generalize bs l[k] = X at *
      have hb1 : (X.toList != X.toList) = false := by simp
      go_wp2
      go_quiet (fail)
      go_wp2
      go_roundw
      case rel => exact ⟨k + 1, by omega, by go_num, _, rfl⟩
      case measure => simp [intOf]; omega
    · go_wp2
      go_ret
      exact ⟨rfl, below_drewN (Below.refl _ _) _⟩
/-- a list's cells, wherever they lie -/
def ListAt (w : World) (A : Option Addr) (c : Nat) (l : List Tx) : Prop := l.length ≤ c ∧ ∀ j (hj : j < l.length), ∃ g, A = some ⟨g, 0, none⟩ ∧ g < w.heap.size ∧ w.cell? ⟨g, j, none⟩ = some (.string (bs l[j]))
theorem ListAt.below {w w' : World} {A : Option Addr} {c : Nat} {l : List Tx} (h : ListAt w A c l) (hb : Below w.heap.size w w') : ListAt w' A c l :=
  ⟨h.1, fun j hj => let ⟨g, e, hl, hc⟩ := h.2 j hj; ⟨g, e, Nat.lt_of_lt_of_le hl hb.size, (hb.cell hl).trans hc⟩⟩
theorem listAt_of {w : World} {base : Nat} {A : Option Addr} {c : Nat} {l : List Tx} (h : OwnL w base (.slice A l.length c) l) : ListAt w A c l :=
  ⟨(strSl_of h).1, fun j hj => let ⟨g, e, _, hl, hc⟩ := (strSl_of h).2 j hj; ⟨g, e, hl, hc⟩⟩
theorem Same_at (l : List Tx) (A B : Option Addr) (ca cb : Nat) (w : World) (hl : l.length ≤ 9223372036854775807) (ha : ListAt w A ca l) (hb : ListAt w B cb l) :
    Calls Tryd.prog 40 #[.slice A l.length ca, .slice B l.length cb] w fun e w' => e = .returned (.bool true) ∧ Below w.heap.size w w' :=
  Same_eq l A B ca cb w hl ha.1 hb.1 (fun j hj => let ⟨g, e, _, hc⟩ := ha.2 j hj; ⟨g, e, hc⟩) (fun j hj => let ⟨g, e, _, hc⟩ := hb.2 j hj; ⟨g, e, hc⟩)
theorem alloc_at {W : World} {n : Nat} (h : n = W.heap.size) (o : Obj) : (W.alloc o).heap[n]? = some o := by subst h; exact heap_alloc_new _ _
set_option maxHeartbeats 2000000 in
theorem keepRule (r : Ru) (A B : Option Addr) (ca cb : Nat) (la lb : Int) (w : World) (hl : r.list.length ≤ 9223372036854775807) (ha : ListAt w A ca r.list) (hb : ListAt w B cb r.list) :
    Calls Tryd.prog 23 #[ruV r (.slice A r.list.length ca) la, ruV r (.slice B r.list.length cb) lb] w fun e w' => e = .returned (.bool true) ∧ Below w.heap.size w w' := by
  obtain ⟨kd, nm, l, rn, rm, rf, rt, rb, ra, ri⟩ := r
  dsimp only [ruV]
  simp only at hl ha hb
  have hB : Below w.heap.size w ((w.alloc (.cells #[.int .i64 kd, .string (bs nm), .slice A l.length ca, .int .i64 rn, .int .i64 rm, .string (bs rf), .string (bs rt), .string (bs rb), .string (bs ra), .string (bs ri), .int .i64 la] 42)).alloc (.cells #[.int .i64 kd, .string (bs nm), .slice B l.length cb, .int .i64 rn, .int .i64 rm, .string (bs rf), .string (bs rt), .string (bs rb), .string (bs ra), .string (bs ri), .int .i64 lb] 42)) := ((Below.refl _ _).alloc (Nat.le_refl _) _).alloc (by simp) _
  have sm := Same_at l A B ca cb ((w.alloc (.cells #[.int .i64 kd, .string (bs nm), .slice A l.length ca, .int .i64 rn, .int .i64 rm, .string (bs rf), .string (bs rt), .string (bs rb), .string (bs ra), .string (bs ri), .int .i64 la] 42)).alloc (.cells #[.int .i64 kd, .string (bs nm), .slice B l.length cb, .int .i64 rn, .int .i64 rm, .string (bs rf), .string (bs rt), .string (bs rb), .string (bs ra), .string (bs ri), .int .i64 lb] 42)) hl (ha.below hB) (hb.below hB)
  have RA0 : ((w.alloc (.cells #[.int .i64 kd, .string (bs nm), .slice A l.length ca, .int .i64 rn, .int .i64 rm, .string (bs rf), .string (bs rt), .string (bs rb), .string (bs ra), .string (bs ri), .int .i64 la] 42)).alloc (.cells #[.int .i64 kd, .string (bs nm), .slice B l.length cb, .int .i64 rn, .int .i64 rm, .string (bs rf), .string (bs rt), .string (bs rb), .string (bs ra), .string (bs ri), .int .i64 lb] 42)).heap[w.heap.size]? = some (.cells #[.int .i64 kd, .string (bs nm), .slice A l.length ca, .int .i64 rn, .int .i64 rm, .string (bs rf), .string (bs rt), .string (bs rb), .string (bs ra), .string (bs ri), .int .i64 la] 42 (0, 0)) := row_alloc (heap_alloc_new _ _) _
  have RB0 : ((w.alloc (.cells #[.int .i64 kd, .string (bs nm), .slice A l.length ca, .int .i64 rn, .int .i64 rm, .string (bs rf), .string (bs rt), .string (bs rb), .string (bs ra), .string (bs ri), .int .i64 la] 42)).alloc (.cells #[.int .i64 kd, .string (bs nm), .slice B l.length cb, .int .i64 rn, .int .i64 rm, .string (bs rf), .string (bs rt), .string (bs rb), .string (bs ra), .string (bs ri), .int .i64 lb] 42)).heap[w.heap.size + 1]? = some (.cells #[.int .i64 kd, .string (bs nm), .slice B l.length cb, .int .i64 rn, .int .i64 rm, .string (bs rf), .string (bs rt), .string (bs rb), .string (bs ra), .string (bs ri), .int .i64 lb] 42 (0, 0)) := alloc_at (by simp) _
  have SM := Lib.hid sm
  have HB := Lib.hid hB
  clear sm hB ha hb
  go_enter Tryd.func23, Tryd.ntmps23
  go_wp2_with (go_at_call 40; refine SM.out.mono ?_; rintro e w1 ⟨rfl, hb1⟩; have RA := row_below RA0 hb1; have RB := row_below RB0 hb1; have p0 := row_q0 RA; have r0 := row_q0 RB; have p1 := row_q1 RA; have r1 := row_q1 RB; have p2 := row_q2 RA; have r2 := row_q2 RB; have p3 := row_q3 RA; have r3 := row_q3 RB; have p4 := row_q4 RA; have r4 := row_q4 RB; have p5 := row_q5 RA; have r5 := row_q5 RB; have p6 := row_q6 RA; have r6 := row_q6 RB; have p7 := row_q7 RA; have r7 := row_q7 RB; have p8 := row_q8 RA; have r8 := row_q8 RB; have p9 := row_q9 RA; have r9 := row_q9 RB; have p10 := row_q10 RA; have r10 := row_q10 RB)
  go_ret
  exact ⟨rfl, below_then HB.out hb1 (by simp; omega)⟩

end Go.Proofs.YtgemciecdplcgaaDoor
