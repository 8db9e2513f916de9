/-
  Rule: two rules that are alike; the document's example of chapter 2.
-/
import Derived.Test.YtlbhgjilgdmedaaGreatDoorLine02
namespace Go.Proofs.YtlbhgjilgdmedaaGreatDoor
set_option maxRecDepth 100000
open Go.ChangeShapes Go.WideShapes Go.ChangeAt Go.RowKit

/-- a list's cells, wherever they lie -/
def ListAt (w : World) (A : Option Addr) (c : Nat) (l : List Tx) : Prop := l.length ≤ c ∧ ∀ j (hj : j < l.length), ∃ g, A = some ⟨g, 0, none⟩ ∧ g < w.heap.size ∧ w.cell? ⟨g, j, none⟩ = some (.string (bs l[j]))
theorem ListAt.below {w w' : World} {A : Option Addr} {c : Nat} {l : List Tx} (h : ListAt w A c l) (hb : Below w.heap.size w w') : ListAt w' A c l :=
  ⟨h.1, fun j hj => let ⟨g, e, hl, hc⟩ := h.2 j hj; ⟨g, e, Nat.lt_of_lt_of_le hl hb.size, (hb.cell hl).trans hc⟩⟩
theorem listAt_of {w : World} {base : Nat} {A : Option Addr} {c : Nat} {l : List Tx} (h : OwnL w base (.slice A l.length c) l) : ListAt w A c l :=
  ⟨(strSl_of h).1, fun j hj => let ⟨g, e, _, hl, hc⟩ := (strSl_of h).2 j hj; ⟨g, e, hl, hc⟩⟩
theorem Same_at (l : List Tx) (A B : Option Addr) (ca cb : Nat) (w : World) (hl : l.length ≤ 9223372036854775807) (ha : ListAt w A ca l) (hb : ListAt w B cb l) :
    Calls Tryz.prog 23 #[.slice A l.length ca, .slice B l.length cb] w fun e w' => e = .returned (.bool true) ∧ Below w.heap.size w w' :=
  Same_eq l A B ca cb w hl ha.1 hb.1 (fun j hj => let ⟨g, e, _, hc⟩ := ha.2 j hj; ⟨g, e, hc⟩) (fun j hj => let ⟨g, e, _, hc⟩ := hb.2 j hj; ⟨g, e, hc⟩)
theorem alloc_at {W : World} {n : Nat} (h : n = W.heap.size) (o : Obj) : (W.alloc o).heap[n]? = some o := by subst h; exact heap_alloc_new _ _
set_option maxHeartbeats 2000000 in
theorem keepRule (r : Ru) (A B : Option Addr) (ca cb : Nat) (la lb : Int) (w : World) (hl : r.list.length ≤ 9223372036854775807) (ha : ListAt w A ca r.list) (hb : ListAt w B cb r.list) :
    Calls Tryz.prog 11 #[ruV r (.slice A r.list.length ca) la, ruV r (.slice B r.list.length cb) lb] w fun e w' => e = .returned (.bool true) ∧ Below w.heap.size w w' := by
  obtain ⟨kd, nm, l, rn, rm, rf, rt, rb, ra, ri⟩ := r
  dsimp only [ruV]
  simp only at hl ha hb
  have hB : Below w.heap.size w ((w.alloc (.cells #[.int .i64 kd, .string (bs nm), .slice A l.length ca, .int .i64 rn, .int .i64 rm, .string (bs rf), .string (bs rt), .string (bs rb), .string (bs ra), .string (bs ri), .int .i64 la] 24)).alloc (.cells #[.int .i64 kd, .string (bs nm), .slice B l.length cb, .int .i64 rn, .int .i64 rm, .string (bs rf), .string (bs rt), .string (bs rb), .string (bs ra), .string (bs ri), .int .i64 lb] 24)) := ((Below.refl _ _).alloc (Nat.le_refl _) _).alloc (by simp) _
  have sm := Same_at l A B ca cb ((w.alloc (.cells #[.int .i64 kd, .string (bs nm), .slice A l.length ca, .int .i64 rn, .int .i64 rm, .string (bs rf), .string (bs rt), .string (bs rb), .string (bs ra), .string (bs ri), .int .i64 la] 24)).alloc (.cells #[.int .i64 kd, .string (bs nm), .slice B l.length cb, .int .i64 rn, .int .i64 rm, .string (bs rf), .string (bs rt), .string (bs rb), .string (bs ra), .string (bs ri), .int .i64 lb] 24)) hl (ha.below hB) (hb.below hB)
  have RA0 : ((w.alloc (.cells #[.int .i64 kd, .string (bs nm), .slice A l.length ca, .int .i64 rn, .int .i64 rm, .string (bs rf), .string (bs rt), .string (bs rb), .string (bs ra), .string (bs ri), .int .i64 la] 24)).alloc (.cells #[.int .i64 kd, .string (bs nm), .slice B l.length cb, .int .i64 rn, .int .i64 rm, .string (bs rf), .string (bs rt), .string (bs rb), .string (bs ra), .string (bs ri), .int .i64 lb] 24)).heap[w.heap.size]? = some (.cells #[.int .i64 kd, .string (bs nm), .slice A l.length ca, .int .i64 rn, .int .i64 rm, .string (bs rf), .string (bs rt), .string (bs rb), .string (bs ra), .string (bs ri), .int .i64 la] 24 (0, 0)) := row_alloc (heap_alloc_new _ _) _
  have RB0 : ((w.alloc (.cells #[.int .i64 kd, .string (bs nm), .slice A l.length ca, .int .i64 rn, .int .i64 rm, .string (bs rf), .string (bs rt), .string (bs rb), .string (bs ra), .string (bs ri), .int .i64 la] 24)).alloc (.cells #[.int .i64 kd, .string (bs nm), .slice B l.length cb, .int .i64 rn, .int .i64 rm, .string (bs rf), .string (bs rt), .string (bs rb), .string (bs ra), .string (bs ri), .int .i64 lb] 24)).heap[w.heap.size + 1]? = some (.cells #[.int .i64 kd, .string (bs nm), .slice B l.length cb, .int .i64 rn, .int .i64 rm, .string (bs rf), .string (bs rt), .string (bs rb), .string (bs ra), .string (bs ri), .int .i64 lb] 24 (0, 0)) := alloc_at (by simp) _
  have SM := Lib.hid sm
  have HB := Lib.hid hB
  clear sm hB ha hb
  go_enter Tryz.func11, Tryz.ntmps11
  go_wp2_with (go_at_call 23; refine SM.out.mono ?_; rintro e w1 ⟨rfl, hb1⟩; have RA := row_below RA0 hb1; have RB := row_below RB0 hb1; have p0 := row_q0 RA; have r0 := row_q0 RB; have p1 := row_q1 RA; have r1 := row_q1 RB; have p2 := row_q2 RA; have r2 := row_q2 RB; have p3 := row_q3 RA; have r3 := row_q3 RB; have p4 := row_q4 RA; have r4 := row_q4 RB; have p5 := row_q5 RA; have r5 := row_q5 RB; have p6 := row_q6 RA; have r6 := row_q6 RB; have p7 := row_q7 RA; have r7 := row_q7 RB; have p8 := row_q8 RA; have r8 := row_q8 RB; have p9 := row_q9 RA; have r9 := row_q9 RB; have p10 := row_q10 RA; have r10 := row_q10 RB)
  go_ret
  exact ⟨rfl, below_then HB.out hb1 (by simp; omega)⟩

/-! ### the document's example -/
def exLine : List UInt8 := [114, 111, 108, 101, 32, 104, 101, 97, 100, 32, 62, 32, 99, 108, 101, 114, 107]
theorem ex_part : partL exLine = exLine := by decide +kernel
theorem ex_bad : badL exLine = 0 := by decide +kernel
theorem ex_words : wordsL exLine = [(1, [114, 111, 108, 101]), (6, [104, 101, 97, 100]), (11, [62]), (13, [99, 108, 101, 114, 107])] := by
  unfold wordsL
  rw [ex_bad, ex_part]
  unfold exLine
  rw [if_pos rfl]
  rw [toks_word (by decide), show word [114, 111, 108, 101, 32, 104, 101, 97, 100, 32, 62, 32, 99, 108, 101, 114, 107] = [114, 111, 108, 101] by decide]
  simp only [List.length_cons, List.length_nil, List.drop_succ_cons, List.drop_zero, Nat.zero_add, Nat.reduceAdd]
  rw [toks_blank, toks_word (by decide), show word [104, 101, 97, 100, 32, 62, 32, 99, 108, 101, 114, 107] = [104, 101, 97, 100] by decide]
  simp only [List.length_cons, List.length_nil, List.drop_succ_cons, List.drop_zero, Nat.zero_add, Nat.reduceAdd]
  rw [toks_blank, toks_word (by decide), show word [62, 32, 99, 108, 101, 114, 107] = [62] by decide]
  simp only [List.length_cons, List.length_nil, List.drop_succ_cons, List.drop_zero, Nat.zero_add, Nat.reduceAdd]
  rw [toks_blank, toks_word (by decide), show word [99, 108, 101, 114, 107] = [99, 108, 101, 114, 107] by decide]
  simp [toks_nil]
def exRule : Ru := { kind := 1, name := [104, 101, 97, 100], list := [[99, 108, 101, 114, 107]] }
theorem ex_parse : parseL exLine = .ok exRule := by
  unfold parseL
  rw [ex_bad, ex_words]
  kernel_rfl
theorem one_cell {W : World} {n j : Nat} {x : Tx} {e : TypeId} (h : n = W.heap.size) (hj : j < [x].length) : (W.alloc (.cells #[.string (bs x)] e)).cell? ⟨n, j, none⟩ = some (.string (bs [x][j])) := by
  subst h
  obtain rfl : j = 0 := by simpa using hj
  exact new_cell W _ _ 0
theorem one_at {W : World} {n : Nat} (h : n = W.heap.size) (x : Tx) (e : TypeId) : ListAt (W.alloc (.cells #[.string (bs x)] e)) (some ⟨n, 0, none⟩) 1 [x] :=
  ⟨Nat.le_refl _, fun j hj => ⟨n, rfl, by simp; omega, one_cell h hj⟩⟩
set_option maxHeartbeats 2000000 in
theorem wakes02 (w : World) : Calls Tryz.prog 8 #[] w (TrueOn w) := by
  have hp := fun W => Parse_any ⟨#[114, 111, 108, 101, 32, 104, 101, 97, 100, 32, 62, 32, 99, 108, 101, 114, 107]⟩ 3 W (by decide) (fun _ => by show (partL exLine).length ≤ _; rw [ex_part]; decide)
  rw [show parseL (⟨#[114, 111, 108, 101, 32, 104, 101, 97, 100, 32, 62, 32, 99, 108, 101, 114, 107]⟩ : ByteArray).data.toList = .ok exRule from ex_parse] at hp
  have HP := Lib.hid hp
  clear hp
  have hh : (bs [104, 101, 97, 100]).toList = [104, 101, 97, 100] := by rw [Lib.toList_data, list_bs]
  go_enter Tryz.func8, Tryz.ntmps8
  go_wp2_with (first
    | (go_at_call 10; refine (HP.out _).mono ?_; rintro e w1 ⟨hb, L, rfl, ho⟩; obtain ⟨A1, c1, rfl⟩ := own_slice ho; have hla := listAt_of ho; clear ho; dsimp only [ruV, exRule, List.length])
    | (go_at_call 23; refine (Same_at [[99, 108, 101, 114, 107]] A1 (some ⟨w1.heap.size + 1, 0, none⟩) c1 1 _ (by decide) (hla.below (((Below.refl _ _).alloc (Nat.le_refl _) _).alloc (by simp) _)) (one_at (by simp) _ _)).mono ?_; rintro e w3 ⟨rfl, hb3⟩; have k10 := (hb3.cell (p := ⟨w1.heap.size, 10, none⟩) (by simp; omega)).trans ((World.cell?_alloc_lt _ _ _ (by simp)).trans (new_cell w1 _ _ 10))))
  go_ret
  exact ⟨rfl, below_then (((hb.alloc hb.size _).alloc (by have := hb.size; simp; omega) _)) hb3 (by have := hb.size; simp; omega)⟩
end Go.Proofs.YtlbhgjilgdmedaaGreatDoor
