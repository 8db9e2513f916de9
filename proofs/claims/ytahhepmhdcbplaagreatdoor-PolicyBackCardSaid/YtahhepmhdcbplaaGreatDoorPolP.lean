/-
  policy.Print.
-/
import Derived.Test.YtahhepmhdcbplaaGreatDoorRuleSt
import Derived.Test.YtahhepmhdcbplaaGreatDoorPrint4
import Derived.Test.YtahhepmhdcbplaaGreatDoorOwn
import Derived.Lib.Builder
import Derived.Lib.AppendStr
import Derived.Lib.Hide
import Derived.Test.YtahhepmhdcbplaaGreatDoorPol5
import Derived.Test.YtahhepmhdcbplaaGreatDoorShelf
namespace Go.Proofs.YtahhepmhdcbplaaGreatDoor
set_option maxRecDepth 100000
open Go.ChangeShapes Go.WideShapes Go.ChangeAt Go.RowKit

theorem print_in (x : Ru) (A : Option Addr) (c : Nat) (ln : Int) (W : World) (hL : LIn W A c x.list) (hn : -9223372036854775808 ≤ x.n ∧ x.n ≤ 9223372036854775807) (hm : -9223372036854775808 ≤ x.m ∧ x.m ≤ 9223372036854775807) (hs : totR x ≤ 1048576) (hg : HandleAt W) (ht : TabAt W) :
    Calls Tryz.prog 7 #[ruV x (.slice A x.list.length c) ln] W (PrintTo (printP x) W) := by
  have h1 := line_sum x hn.1 hn.2 hm.1 hm.2
  have h2 := sum_len (lineP x)
  have h3 := join_sum (lineP x)
  have h4 := sum_len x.list
  have h5 : x.list.length ≤ 1048576 := by simp only [totR] at hs; omega
  exact print_any x A c ln W (hL.at (by omega)) (fun X hX => lineWords_any x A c ln X (hL.below hX) h5 hn.1 hn.2 hm.1 hm.2 (ht.below hX)) (by omega) (by omega) hg
end Go.Proofs.YtahhepmhdcbplaaGreatDoor
namespace Go.Proofs.YtahhepmhdcbplaaGreatDoor
set_option maxRecDepth 100000
open Go.ChangeShapes Go.WideShapes Go.ChangeAt Go.RowKit

theorem Tryz.bldSize : (Tryz.prog.info? 79).map (·.size) = some 2 := by kernel_rfl
theorem Tryz.bldLies : liesAt Tryz.prog Tryz.prog.depth 79 (2 / Tryz.prog.cellsOf 79) 0 79 1 = true := by kernel_rfl
theorem check_used (b : Nat) (w : World) (h0 : w.cell? ⟨b, 0, none⟩ = some (.pointer (some ⟨b, 0, none⟩))) :
    Calls Tryz.prog 76 #[.pointer (some ⟨b, 0, none⟩)] w fun e w' => e = .returned (.tuple #[]) ∧ w' = w := by
  obtain ⟨j, hj, _⟩ := Option.map_eq_some_iff.1 Tryz.bldSize
  go_enter Tryz.func76, Tryz.ntmps76
  go_wp2
  rw [Lib.run_neq_ptr_same w _ Tryz.underlying76 hj]
  go_wp2
  go_end0
  exact ⟨rfl, rfl⟩
theorem check_fresh (b : Nat) (w : World) (h0 : w.cell? ⟨b, 0, none⟩ = some (.pointer none)) (hsh : w.shape? b = some (79, 2)) (hfz : w.frozen? ⟨b, 0, none⟩ = false) :
    Calls Tryz.prog 76 #[.pointer (some ⟨b, 0, none⟩)] w fun e w' => e = .returned (.tuple #[]) ∧ w' = w.setCell ⟨b, 0, none⟩ (.pointer (some ⟨b, 0, none⟩)) := by
  obtain ⟨j, hj, hjs⟩ := Option.map_eq_some_iff.1 Tryz.bldSize
  go_enter Tryz.func76, Tryz.ntmps76
  go_wp2
  rw [Lib.run_to_unsafe w ⟨b, 0, none⟩ Tryz.underlying76 Tryz.underlying99 hj (by rw [hjs]; decide) hsh (Nat.zero_lt_succ 1)]
  simp only [Result.andThen]
  rw [Oper.upon_value]
  go_wp2
  rw [run_callFunc_extern Tryz.func98 (by kernel_rfl) (by kernel_rfl) (by kernel_rfl) (e := Extern.AbiNoEscape.same) (by kernel_rfl)]
  rw [Lib.run_noEscape]
  simp only [Result.andThen]
  rw [Oper.upon_value]
  go_wp2
  rw [Lib.run_from_unsafe w ⟨b, 0, none⟩ Tryz.underlying99 Tryz.underlying76 hj hsh Tryz.bldLies]
  simp only [Result.andThen]
  rw [Oper.upon_value]
  go_wp2
  go_end0
  exact ⟨rfl, rfl⟩
theorem check_any (B b : Nat) (xs : List Value) (w : World) (h : Lib.IsBuilder 79 5 B b xs w) :
    Calls Tryz.prog 76 #[.pointer (some ⟨b, 0, none⟩)] w fun e w' => e = .returned (.tuple #[]) ∧ (Lib.BuilderAt 79 5 B b (.pointer (some ⟨b, 0, none⟩)) xs w' ∧ Below B w w') := by
  rcases h with h | h
  · refine (check_fresh b w h.cell0 h.shape h.frozen0).mono ?_
    rintro e w' ⟨rfl, rfl⟩
    exact ⟨rfl, h.used _, (Below.refl B w).setCell (p := ⟨b, 0, none⟩) h.1 _⟩
  · refine (check_used b w h.cell0).mono ?_
    rintro e w' ⟨rfl, rfl⟩
    exact ⟨rfl, h, Below.refl B _⟩
theorem Tryz.infoByte8 : (Tryz.prog.info? 5).map (fun i => (i.zero, i.size, i.bytes)) = some (some (.int .u8 0), 1, 1) := by kernel_rfl
set_option maxHeartbeats 1000000 in
theorem write_any (B b : Nat) (xs : List Value) (s : ByteArray) (w : World) (h : Lib.IsBuilder 79 5 B b xs w) (hlen : xs.length + s.size ≤ 140737488355328) (hBw : B ≤ w.heap.size) :
    Calls Tryz.prog 38 #[.pointer (some ⟨b, 0, none⟩), .string s] w fun e w' => e = .returned (.tuple #[.int .i64 s.size, .nilIface]) ∧ (Lib.BuilderAt 79 5 B b (.pointer (some ⟨b, 0, none⟩)) (xs ++ Lib.strCells s) w' ∧ Below B w w') := by
  obtain ⟨i0, hi, hz0, hz1, hz2⟩ := info_parts Tryz.infoByte8
  have HC := Lib.hid (check_any B b xs w h)
  clear h
  go_enter Tryz.func38, Tryz.ntmps38
  go_wp2_with (first
    | (go_at_call 76; refine HC.out.mono ?_; rintro e w1 ⟨rfl, h1, hb1⟩; obtain ⟨hB, v, hbk, hown, hne⟩ := h1; have c1 : w1.cell? ⟨b, 1, none⟩ = some v := (by rw [Lib.cell_of_heap hbk]; rfl); have h1s := hb1.size)
    | (at_builtin; refine Lib.wpList_append_own_string _ rfl _ _ 77 9 rfl B 5 i0 Tryz.underlying77 Tryz.underlying9 hi hz0 hz1 hz2 _ _ _ rfl hown s rfl (by unfold maxLen; omega) (by omega) (by omega) ?_; intro v' w2 hown' hgrow _; have hlt := (Array.getElem?_eq_some_iff.1 hbk).1; have hb2 : w2.heap[b]? = some (.cells #[.pointer (some ⟨b, 0, none⟩), v] 79 (0, 0)) := (by rw [hgrow.block b hlt (fun e => hne e.symm)]; exact hbk); have d1 : w2.cell? ⟨b, 1, none⟩ = some v := (by rw [Lib.cell_of_heap hb2]; rfl); have f1 : w2.frozen? ⟨b, 1, none⟩ = false := Lib.frozen_of_heap hb2 1; obtain ⟨ao, n', cap, rfl⟩ : ∃ ao n' cap, v' = .slice ao n' cap := (by rcases hown'.2 with ⟨hv, _⟩ | ⟨g, cap, cur, hv, _⟩ <;> exact ⟨_, _, _, hv⟩)))
  go_ret2
  refine ⟨rfl, ?_, ?_⟩
  · exact Lib.BuilderAt.put (T := 79) (e := 5) hB hb2 (bs' := xs ++ Lib.strCells s) (by simpa [Lib.strCells_length] using hown') (by decide)
  · exact (hb1.grown hgrow (by omega) (fun k hk => (hown.lt k hk).1)).setCell (p := ⟨b, 1, none⟩) hB _
end Go.Proofs.YtahhepmhdcbplaaGreatDoor
namespace Go.Proofs.YtahhepmhdcbplaaGreatDoor
set_option maxRecDepth 100000
open Go.ChangeShapes Go.WideShapes Go.ChangeAt Go.RowKit

noncomputable def lineStep (o : Option Tx) (r : Ru) : Option Tx := match o, printP r with
  | some p, some t => some (p ++ t ++ [10])
  | _, _ => none
noncomputable def linesOf (l : List Ru) : Option Tx := l.foldl lineStep (some [])
theorem linesOf_snoc (l : List Ru) (r : Ru) : linesOf (l ++ [r]) = lineStep (linesOf l) r := by simp [linesOf]
theorem step_none (l : List Ru) : l.foldl lineStep none = none := by
  induction l with
  | nil => rfl
  | cons r l ih => exact ih
theorem linesOf_none {l m : List Ru} (h : linesOf l = none) : linesOf (l ++ m) = none := by
  unfold linesOf at h ⊢
  rw [List.foldl_append, h, step_none]
def PrsTo (o : Option Tx) (n : Nat) (w : World) (e : Ending) (w' : World) : Prop := Below w.heap.size w w' ∧ match o with
  | none => e = .returned (.tuple #[.string ⟨#[]⟩, .iface 34 (.int .i64 1)])
  | some t => if 4096 < t.length ∨ 160 < n then e = .returned (.tuple #[.string ⟨#[]⟩, .iface 34 (.int .i64 5)]) else e = .returned (.tuple #[.string (bs t), .nilIface])
theorem bld_below {w w' : World} {b : Nat} {xs : List Value} (h : Lib.IsBuilder 79 5 b b xs w) (hb : Below w.heap.size w w') : Lib.IsBuilder 79 5 b b xs w' := by
  rcases h with ⟨h1, v, h2, h3, h4⟩ | ⟨h1, v, h2, h3, h4⟩
  · exact .inl ⟨h1, v, (hb.block _ (Array.getElem?_eq_some_iff.1 h2).1).trans h2, own_below h3 hb (Nat.le_of_lt (Array.getElem?_eq_some_iff.1 h2).1), h4⟩
  · exact .inr ⟨h1, v, (hb.block _ (Array.getElem?_eq_some_iff.1 h2).1).trans h2, own_below h3 hb (Nat.le_of_lt (Array.getElem?_eq_some_iff.1 h2).1), h4⟩
theorem cells_more (p t : Tx) : Lib.byteCells p ++ Lib.strCells (bs t) ++ Lib.strCells ⟨#[10]⟩ = Lib.byteCells (p ++ t ++ [10]) := by
  have e1 : Lib.strCells (bs t) = Lib.byteCells t := Lib.strCells_toArray t
  have e2 : Lib.strCells ⟨#[10]⟩ = Lib.byteCells [10] := Lib.strCells_toArray [10]
  rw [e1, e2]; simp [Lib.byteCells]
def Small (x : Ru) : Prop := (-9223372036854775808 ≤ x.n ∧ x.n ≤ 9223372036854775807) ∧ (-9223372036854775808 ≤ x.m ∧ x.m ≤ 9223372036854775807) ∧ totR x ≤ 1048576
theorem small_line {r : Ru} {t : Tx} (h : Small r) (hp : printP r = some t) : t.length ≤ 1048636 := by
  obtain ⟨rfl, _⟩ := printP_some.1 hp
  have h1 := line_sum r h.1.1 h.1.2 h.2.1.1 h.2.1.2
  have h2 := join_sum (lineP r)
  have := h.2.2
  omega
set_option maxHeartbeats 4000000 in
theorem PolPrint_any (acc : List RL) (A : Option Addr) (cap : Nat) (w : World) (hR : RIn w A acc) (ha : acc.length ≤ 1000) (_hac : acc.length ≤ cap) (hsm : ∀ x ∈ acc, Small x.1) (hli : ∀ x ∈ acc, ∀ B c, x.2.2 = .slice B x.1.list.length c → LIn w B c x.1.list) (hg : HandleAt w) (ht : TabAt w) :
    Calls Tryz.prog 13 #[.slice A acc.length cap] w (PrsTo (linesOf (acc.map (·.1))) acc.length w) := by
  have HR := Lib.hid hR
  have HS := Lib.hid hsm
  have HI := Lib.hid hli
  have HH := Lib.hid hg
  have HT := Lib.hid ht
  clear hR hsm hli hg ht
  have HB0 : Hid (Lib.IsBuilder 79 5 w.heap.size w.heap.size (Lib.byteCells []) (w.alloc (.cells #[.pointer none, .slice none 0 0] 79))) := .inl ⟨Nat.le_refl _, _, heap_alloc_new _ _, World.ownsRow_nil _ _ _ _, by simp [Value.ownBlock]⟩
  go_enter Tryz.func13, Tryz.ntmps13
  go_upto_region 3 with fail
  go_loopw [11] (fun i wr => ∃ (k : Nat) (p : Tx), k ≤ acc.length ∧ i = .int .i64 k ∧ Hid (linesOf ((acc.take k).map (·.1)) = some p) ∧ Hid (Lib.IsBuilder 79 5 w.heap.size w.heap.size (Lib.byteCells p) wr) ∧ Below w.heap.size w wr ∧ p.length ≤ k * 2000000) (fun i _ => acc.length - (intOf i).toNat)
  case atStart => exact ⟨0, [], Nat.zero_le _, rfl, rfl, HB0.out, (Below.refl _ _).alloc (Nat.le_refl _) _, by simp⟩
  case round =>
    obtain ⟨k, p, hk, rfl, HP, HBB, hbw, hpl⟩ := hrel
    by_cases hlt : k < acc.length
    · obtain ⟨g, rfl, hgl, hc, B, c, e2, hL⟩ := HR.out k hlt
      have hsk := HS.out _ (List.getElem_mem hlt)
      have hL := HI.out _ (List.getElem_mem hlt) B c e2
      have hsn : (acc.take (k + 1)).map (·.1) = (acc.take k).map (·.1) ++ [acc[k].1] := by rw [List.take_succ_eq_append_getElem hlt, List.map_append]; rfl
      have hall : (acc.take (k + 1)).map (·.1) ++ (acc.drop (k + 1)).map (·.1) = acc.map (·.1) := by rw [← List.map_append, List.take_append_drop]
      have hbz := hbw.size
      have hL := hL.below hbw
      have q := fun f u hf hu => (hbw.cell (p := ⟨g, k * 11 + f, none⟩) hgl).trans (hc f u hf hu)
      have HSN := Lib.hid hsn
      have HALL := Lib.hid hall
      clear hc hsn hall
      generalize acc[k] = x at *
      obtain ⟨⟨kd, nm, l, rn, rm, rf, rt, rb, ra, ri⟩, ln, L⟩ := x
      obtain rfl : L = .slice B l.length c := e2
      simp only at hL hsk HSN
      have q0 := q 0 _ (by omega) rfl; have q1 := q 1 _ (by omega) rfl; have q2 := q 2 _ (by omega) rfl; have q3 := q 3 _ (by omega) rfl; have q4 := q 4 _ (by omega) rfl; have q5 := q 5 _ (by omega) rfl; have q6 := q 6 _ (by omega) rfl; have q7 := q 7 _ (by omega) rfl; have q8 := q 8 _ (by omega) rfl; have q9 := q 9 _ (by omega) rfl; have q10 := q 10 _ (by omega) rfl
      simp only [Nat.add_zero] at q0
      clear q
      go_upto_region 5 with fail
      have RA : (wr.alloc (.cells #[.int .i64 kd, .string (bs nm), .slice B l.length c, .int .i64 rn, .int .i64 rm, .string (bs rf), .string (bs rt), .string (bs rb), .string (bs ra), .string (bs ri), .int .i64 ln] 24)).heap[wr.heap.size]? = some (.cells #[.int .i64 kd, .string (bs nm), .slice B l.length c, .int .i64 rn, .int .i64 rm, .string (bs rf), .string (bs rt), .string (bs rb), .string (bs ra), .string (bs ri), .int .i64 ln] 24 (0, 0)) := heap_alloc_new _ _
      have hb1 : Below wr.heap.size wr (wr.alloc (.cells #[.int .i64 kd, .string (bs nm), .slice B l.length c, .int .i64 rn, .int .i64 rm, .string (bs rf), .string (bs rt), .string (bs rb), .string (bs ra), .string (bs ri), .int .i64 ln] 24)) := (Below.refl _ _).alloc (Nat.le_refl _) _
      have hL1 := hL.below hb1
      have hbw1 := below_then hbw hb1 hbz
      have HB1 := Lib.hid (bld_below HBB.out hb1)
      generalize hw1 : wr.alloc (.cells #[.int .i64 kd, .string (bs nm), .slice B l.length c, .int .i64 rn, .int .i64 rm, .string (bs rf), .string (bs rt), .string (bs rb), .string (bs ra), .string (bs ri), .int .i64 ln] 24) = w1 at *
      clear hw1 q0 q1 q2 q3 q4 q5 q6 q7 q8 q9 q10 hL HBB
      have PI := print_in ⟨kd, nm, l, rn, rm, rf, rt, rb, ra, ri⟩ B c ln w1 hL1 hsk.1 hsk.2.1 hsk.2.2 (HH.out.below' hbw1) (HT.out.below hbw1)
      have HTL := Lib.hid (fun t => small_line (t := t) hsk)
      dsimp only [ruV] at PI
      have p0 := row_q0 RA; have p1 := row_q1 RA; have p2 := row_q2 RA; have p3 := row_q3 RA; have p4 := row_q4 RA; have p5 := row_q5 RA; have p6 := row_q6 RA; have p7 := row_q7 RA; have p8 := row_q8 RA; have p9 := row_q9 RA; have p10 := row_q10 RA
      clear RA hsk hL1
      cases hp : printP ⟨kd, nm, l, rn, rm, rf, rt, rb, ra, ri⟩ with
      | none =>
        rw [hp] at PI
        have HE : Hid (linesOf (acc.map (·.1)) = none) := by
          show _ = _
          rw [← HALL.out]
          refine linesOf_none ?_
          rw [HSN.out, linesOf_snoc, HP.out]
          simp [lineStep, hp]
        have PI2 := Lib.hid PI
        clear PI hp HALL HSN HP
        go_wp2_with (go_at_call 7; refine PI2.out.mono ?_; rintro e w2 ⟨hb2, rfl⟩)
        go_ret2
        rw [HE.out]
        exact ⟨below_then hbw1 hb2 hbw1.size, rfl⟩
      | some t =>
        rw [hp] at PI
        have htl := HTL.out t hp
        have HE : Hid (linesOf ((acc.take (k + 1)).map (·.1)) = some (p ++ t ++ [10])) := by
          show _ = _
          rw [HSN.out, linesOf_snoc, HP.out]
          simp [lineStep, hp]
        have PI2 := Lib.hid PI
        have hcl : (Lib.byteCells p).length = p.length := by simp [Lib.byteCells]
        clear PI hp HALL HSN HP
        have tok1 : True := trivial
        go_wp2_with (first
          | (go_at_call 7; refine PI2.out.mono ?_; rintro e w2 ⟨hb2, rfl⟩; have HB2 := Lib.hid (bld_below HB1.out hb2); have hbw2 := below_then hbw1 hb2 hbw1.size; have h2s := hbw2.size)
          | (have _t := tok1; go_at_call 38; refine (write_any _ _ _ (bs t) _ HB2.out (by rw [hcl, size_bs]; omega) h2s).mono ?_; rintro e w3 ⟨rfl, hB3, hb3⟩; have HB3 := Lib.hid hB3; have hbw3 := hbw2.trans hb3; have h3s := hbw3.size; clear hB3 tok1 _t)
          | (go_at_call 38; refine (write_any _ _ _ ⟨#[10]⟩ _ (.inr HB3.out) (by rw [List.length_append, hcl, Lib.strCells_length, size_bs]; have : (⟨#[10]⟩ : ByteArray).size = 1 := rfl; omega) h3s).mono ?_; rintro e w4 ⟨rfl, hB4, hb4⟩))
        go_roundw
        case rel => exact ⟨k + 1, _, by omega, by go_num, HE.out, by show Lib.IsBuilder _ _ _ _ _ _; rw [← cells_more]; exact .inr hB4, hbw3.trans hb4, by simp only [List.length_append, List.length_cons, List.length_nil]; omega⟩
        case measure => simp [intOf]; omega
    · have HE : Hid (linesOf (acc.map (·.1)) = some p) := by have := HP.out; rw [List.take_of_length_le (by omega)] at this; exact this
      have hcl : (Lib.byteCells p).length = p.length := by simp [Lib.byteCells]
      have hE := HE.out
      have hbz := hbw.size
      have LEN := Lib.hid (Tryz.Builder_Len w.heap.size w.heap.size (Lib.byteCells p) wr HBB.out)
      rw [hcl] at LEN
      clear HP
      by_cases h1 : 4096 < p.length
      · have d1 : decide ((4096 : Int) < (p.length : Int)) = true := decide_eq_true (by omega)
        go_wp2_with (go_at_call 39; refine LEN.out.mono ?_; rintro e w2 ⟨rfl, rfl⟩; try simp only [d1])
        go_ret2
        exact ⟨hbw, by rw [hE]; show (if _ then _ else _); rw [if_pos (.inl h1)] <;> rfl⟩
      · have d1 : decide ((4096 : Int) < (p.length : Int)) = false := decide_eq_false (by omega)
        by_cases h2 : 160 < acc.length
        · have d2 : decide ((160 : Int) < (acc.length : Int)) = true := decide_eq_true (by omega)
          go_wp2_with (go_at_call 39; refine LEN.out.mono ?_; rintro e w2 ⟨rfl, rfl⟩; try simp only [d1, d2])
          go_ret2
          exact ⟨hbw, by rw [hE]; show (if _ then _ else _); rw [if_pos (.inr h2)] <;> rfl⟩
        · have d2 : decide ((160 : Int) < (acc.length : Int)) = false := decide_eq_false (by omega)
          go_wp2_with (first
            | (go_at_call 39; refine LEN.out.mono ?_; rintro e w2 ⟨rfl, rfl⟩; try simp only [d1, d2])
            | (go_at_call 40; refine (Tryz.Builder_String_any w.heap.size w.heap.size p _ HBB.out hbz).mono ?_; rintro e w3 ⟨rfl, hb3⟩))
          go_ret2
          exact ⟨hbw.trans hb3, by rw [hE]; show (if _ then _ else _); rw [if_neg (by omega)] <;> rfl⟩
end Go.Proofs.YtahhepmhdcbplaaGreatDoor
