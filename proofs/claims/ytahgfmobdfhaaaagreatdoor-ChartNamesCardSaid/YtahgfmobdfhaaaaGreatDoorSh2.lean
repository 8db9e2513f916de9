/-
  policy.Of: the walk; what the rules of a text are like.
-/
import Derived.Test.YtahgfmobdfhaaaaGreatDoorPol5
import Derived.Test.YtahgfmobdfhaaaaGreatDoorPlain06
import Derived.Test.YtahgfmobdfhaaaaGreatDoorAs
import Derived.Laws.ShiftsVar
import Derived.Test.YtahgfmobdfhaaaaGreatDoorWth
import Derived.Maps.Range
namespace Go.Proofs.YtahgfmobdfhaaaaGreatDoor
set_option maxRecDepth 100000
open Go.ChangeShapes Go.WideShapes Go.ChangeAt Go.RowKit

theorem pol_all (ls : List Tx) : (∀ t ∈ ls, t.length ≤ 4096) → ∀ (n : Nat) (acc l : List (Ru × Nat)), (∀ x ∈ acc, RuOk x.1) → acc.length ≤ 160 → polL ls n acc = .ok l → (∀ x ∈ l, RuOk x.1) ∧ l.length ≤ 160 := by
  induction ls with
  | nil =>
    intro _ n acc l ha hl h
    rw [polL] at h
    cases h
    exact ⟨ha, hl⟩
  | cons t r ih =>
    intro hle n acc l ha hl h
    rw [polL] at h
    cases hp : parseL t with
    | bad c k => rw [hp] at h; cases h
    | empty => rw [hp] at h; exact ih (fun x hx => hle x (List.mem_cons_of_mem _ hx)) _ _ _ ha hl h
    | ok u =>
      rw [hp] at h
      simp only at h
      split at h
      · cases h
      · rename_i h160
        refine ih (fun x hx => hle x (List.mem_cons_of_mem _ hx)) _ _ _ ?_ (by simp; omega) h
        intro x hx
        rcases List.mem_append.1 hx with hx | hx
        · exact ha x hx
        · rw [List.mem_singleton.1 hx]; exact ru_ok hp (hle t List.mem_cons_self)
theorem polT_all {s : List UInt8} {l : List (Ru × Nat)} (h : polT s = .ok l) : (∀ x ∈ l, RuOk x.1) ∧ l.length ≤ 160 := by
  unfold polT at h
  split at h
  · cases h
  · rename_i hs
    exact pol_all _ (fun t ht => by have := (lines_len s).2 t ht; omega) 1 [] l (fun x hx => by cases hx) (by simp) h

def kindIn (ks : List Int) (x : Ru × Nat) : Bool := decide (x.1.kind ∈ ks)
def OfTo (ks : List Int) (l : List (Ru × Nat)) (w : World) (e : Ending) (w' : World) : Prop := ∃ v acc, e = .returned v ∧ acc.map er = l.filter (kindIn ks) ∧ RowsAt w' w.heap.size v acc ∧ Below w.heap.size w w'
theorem ofTo_mk {ks : List Int} {l : List (Ru × Nat)} {w w' : World} {v : Value} {acc : List RL} (h1 : acc.map er = l.filter (kindIn ks)) (h2 : RowsAt w' w.heap.size v acc) (h3 : Below w.heap.size w w') : OfTo ks l w (.returned v) w' := ⟨v, acc, rfl, h1, h2, h3⟩
set_option maxHeartbeats 4000000 in
theorem Of_any6 (acc : List RL) (A : Option Addr) (cap : Nat) (ks : List Int) (KA : Option Addr) (kc : Nat) (w : World) (hR : RIn w A acc) (hK : KAt w KA ks) (hk : ks.length ≤ 1000) (hkc : ks.length ≤ kc) (ha : acc.length ≤ 1000) (_hac : acc.length ≤ cap) (hll : ∀ x ∈ acc, x.1.list.length ≤ 1000000) :
    Calls Tryz.prog 12 #[.slice A acc.length cap, .slice KA ks.length kc] w (OfTo ks (acc.map er) w) := by
  have HR := Lib.hid hR
  have HK := Lib.hid hK
  have HLL := Lib.hid hll
  clear hR hK hll
  obtain ⟨i0, hi, hz0, hz1, hz2⟩ := info_parts Tryz.infoRule
  go_enter Tryz.func12, Tryz.ntmps12
  go_upto_region 3 with fail
  go_loopw [5, 10] (fun l i wr => ∃ (k : Nat) (out : List RL), k ≤ acc.length ∧ i = .int .i64 k ∧ out.length ≤ k ∧ Hid (out.map er = ((acc.take k).map er).filter (kindIn ks)) ∧ Hid (RowsAt wr w.heap.size l out) ∧ Below w.heap.size w wr) (fun _ i _ => acc.length - (intOf i).toNat)
  case atStart => exact ⟨0, [], Nat.zero_le _, rfl, Nat.zero_le _, rfl, rows_nil _ _, Below.refl _ _⟩
  case round =>
    obtain ⟨k, out, hkk, rfl, hol, HO, HW, hbw⟩ := hrel
    by_cases hlt : k < acc.length
    · obtain ⟨g, rfl, hgl, hc, B, c, e2, hL⟩ := HR.out k hlt
      have hllk := HLL.out _ (List.getElem_mem hlt)
      have hsn : acc.take (k + 1) = acc.take k ++ [acc[k]] := by rw [List.take_succ_eq_append_getElem hlt]
      have HSN := Lib.hid hsn
      clear hsn
      have hbz := hbw.size
      have hL := hL.below hbw
      have q := fun f u hf hu => (hbw.cell (p := ⟨g, k * 11 + f, none⟩) hgl).trans (hc f u hf hu)
      clear hc
      generalize acc[k] = x at *
      obtain ⟨⟨kd, nm, l, rn, rm, rf, rt, rb, ra, ri⟩, ln, L⟩ := x
      obtain rfl : L = .slice B l.length c := e2
      simp only at hL hllk
      have q0 := q 0 _ (by omega) rfl; have q1 := q 1 _ (by omega) rfl; have q2 := q 2 _ (by omega) rfl; have q3 := q 3 _ (by omega) rfl; have q4 := q 4 _ (by omega) rfl; have q5 := q 5 _ (by omega) rfl; have q6 := q 6 _ (by omega) rfl; have q7 := q 7 _ (by omega) rfl; have q8 := q 8 _ (by omega) rfl; have q9 := q 9 _ (by omega) rfl; have q10 := q 10 _ (by omega) rfl
      simp only [Nat.add_zero] at q0
      clear q
      go_upto_region 5 with fail
      have RA : (wr.alloc (.cells #[.int .i64 kd, .string (bs nm), .slice B l.length c, .int .i64 rn, .int .i64 rm, .string (bs rf), .string (bs rt), .string (bs rb), .string (bs ra), .string (bs ri), .int .i64 ln] 41)).heap[wr.heap.size]? = some (.cells #[.int .i64 kd, .string (bs nm), .slice B l.length c, .int .i64 rn, .int .i64 rm, .string (bs rf), .string (bs rt), .string (bs rb), .string (bs ra), .string (bs ri), .int .i64 ln] 41 (0, 0)) := heap_alloc_new _ _
      have hb1 : Below wr.heap.size wr (wr.alloc (.cells #[.int .i64 kd, .string (bs nm), .slice B l.length c, .int .i64 rn, .int .i64 rm, .string (bs rf), .string (bs rt), .string (bs rb), .string (bs ra), .string (bs ri), .int .i64 ln] 41)) := (Below.refl _ _).alloc (Nat.le_refl _) _
      have hL1 := hL.below hb1
      have hK1 := HK.out.below (hbw.trans (hb1.mono hbz))
      have hs1 : (wr.alloc (.cells #[.int .i64 kd, .string (bs nm), .slice B l.length c, .int .i64 rn, .int .i64 rm, .string (bs rf), .string (bs rt), .string (bs rb), .string (bs ra), .string (bs ri), .int .i64 ln] 41)).heap.size = wr.heap.size + 1 := by simp
      generalize hw1 : wr.alloc (.cells #[.int .i64 kd, .string (bs nm), .slice B l.length c, .int .i64 rn, .int .i64 rm, .string (bs rf), .string (bs rt), .string (bs rb), .string (bs ra), .string (bs ri), .int .i64 ln] 41) = w1 at *
      clear hw1 q0 q1 q2 q3 q4 q5 q6 q7 q8 q9 q10 hL
      have HC := Lib.hid (Contains_any ks kd KA kc w1 hK1 (by omega) hkc)
      have HCL := Lib.hid (Clone_any l B c w1 hL1 (by omega))
      clear hK1 hL1
      have y0 := row_q0 RA
      by_cases hm : kd ∈ ks
      · have HE : Hid ((out ++ [((⟨kd, nm, l, rn, rm, rf, rt, rb, ra, ri⟩ : Ru), ln, Value.slice B l.length c)]).map er = ((acc.take (k + 1)).map er).filter (kindIn ks)) := by
          show _ = _
          rw [HSN.out, List.map_append, List.map_append, List.filter_append, HO.out]
          simp [kindIn, er, hm]
        rw [decide_eq_true hm] at HC
        clear hm HO HSN
        have y2 := row_q2 RA
        have f2 := row_fz RA 2
        go_upto_region 7 with (first
          | (go_at_call 28; refine HC.out.mono ?_; rintro e w2 ⟨rfl, rfl⟩)
          | (go_at_call 29; refine HCL.out.mono ?_; rintro e w2 ⟨v2, rfl, ho2, hb2⟩; obtain ⟨B2, c2, rfl⟩ := own_slice ho2; have RA2 := row_below RA hb2; have y2 := row_q2 RA2; have f2 := row_fz RA2 2))
        have hbs2 := hb2.size
        have R3 : (w2.setCell ⟨wr.heap.size, 2, none⟩ (.slice B2 l.length c2)).heap[wr.heap.size]? = some (.cells #[.int .i64 kd, .string (bs nm), .slice B2 l.length c2, .int .i64 rn, .int .i64 rm, .string (bs rf), .string (bs rt), .string (bs rb), .string (bs ra), .string (bs ri), .int .i64 ln] 41 (0, 0)) := by
          have h := heap_set (j := 2) RA2 (.slice B2 l.length c2)
          simpa using h
        have hg3 : w2.grownBy (w2.setCell ⟨wr.heap.size, 2, none⟩ (.slice B2 l.length c2)) (some wr.heap.size) := grown_setCell _ _ _ _
        have hb3 : Below wr.heap.size wr (w2.setCell ⟨wr.heap.size, 2, none⟩ (.slice B2 l.length c2)) := (below_then hb1 hb2 (by omega)).grown hg3 (by omega) (fun j hj => by cases hj; exact Nat.le_refl _)
        have HL3 : Hid (OwnL (w2.setCell ⟨wr.heap.size, 2, none⟩ (.slice B2 l.length c2)) w.heap.size (.slice B2 l.length c2) l) := own_base (World.ownsRow.kept ho2 hg3 (own_ne ho2 (by omega))) (by omega)
        have HW3 := Lib.hid (HW.out.below hb3 hbz)
        have hb4 := below_then hbw hb3 hbz
        generalize hw3 : w2.setCell ⟨wr.heap.size, 2, none⟩ (.slice B2 l.length c2) = w3 at *
        clear hw3 RA RA2 y0 y2 f2 hb2 ho2 hg3 HW HC HCL hb1 hb3
        obtain ⟨A0, cap0, rfl⟩ := own_slice HW3.out.1
        have p0 := row_q0 R3; have p1 := row_q1 R3; have p2 := row_q2 R3; have p3 := row_q3 R3; have p4 := row_q4 R3; have p5 := row_q5 R3; have p6 := row_q6 R3; have p7 := row_q7 R3; have p8 := row_q8 R3; have p9 := row_q9 R3; have p10 := row_q10 R3
        clear R3
        go_wp2_with (at_builtin; go_must (refine wpList_append_own _ rfl (.tmp 22) (.tmp 24) 25 rfl w.heap.size 41 i0 _ 11 152 Tryz.underlying25 hi hz0 hz1 hz2 rfl (by decide) _ _ _ rfl (HW3.out.1.alloc _) ⟨w3.heap.size, 0, none⟩ 1 1 [.int .i64 kd, .string (bs nm), .slice B2 l.length c2, .int .i64 rn, .int .i64 rm, .string (bs rf), .string (bs rt), .string (bs rb), .string (bs ra), .string (bs ri), .int .i64 ln] rfl rfl (cells_new _ _ _) (by intro u hu; simp at hu; rcases hu with rfl | rfl | rfl | rfl | rfl | rfl | rfl | rfl | rfl | rfl | rfl <;> rfl) (by unfold maxLen; omega) (by omega) (by have := hb4.size; simp; omega) ?_); intro v' w4 hown' hg' _)
        have hg2 : (w3.alloc (.cells #[.int .i64 kd, .string (bs nm), .slice B2 l.length c2, .int .i64 rn, .int .i64 rm, .string (bs rf), .string (bs rt), .string (bs rb), .string (bs ra), .string (bs ri), .int .i64 ln] 41)).grownBy w4 (Value.slice A0 out.length cap0).ownBlock := hg'
        have hb5 : Below w.heap.size w w4 := (hb4.alloc hb4.size _).grown hg2 (by have := hb4.size; simp; omega) (fun g hg => (HW3.out.1.lt g hg).1)
        clear hg'
        have HN : Hid (RowsAt w4 w.heap.size v' (out ++ [((⟨kd, nm, l, rn, rm, rf, rt, rb, ra, ri⟩ : Ru), ln, Value.slice B2 l.length c2)])) := by
          have hB : Below w3.heap.size w3 (w3.alloc (.cells #[.int .i64 kd, .string (bs nm), .slice B2 l.length c2, .int .i64 rn, .int .i64 rm, .string (bs rf), .string (bs rt), .string (bs rb), .string (bs ra), .string (bs ri), .int .i64 ln] 41)) := (Below.refl _ _).alloc (Nat.le_refl _) _
          have hba := hb4.size
          have hO := own_below HW3.out.1 hB hba
          refine ⟨?_, fun x hx => ?_⟩
          · rw [rcells_snoc, List.length_append]
            exact hown'
          · have hxo : OwnL w3 w.heap.size x.2.2 x.1.list := by
              rcases List.mem_append.1 hx with hx | hx
              · exact HW3.out.2 x hx
              · rw [List.mem_singleton.1 hx]; exact HL3.out
            exact (own_below hxo hB hba).kept hg2 (own_apart (own_below hxo hB hba) hO)
        clear hown' HW3 HL3
        go_roundw
        case rel => exact ⟨k + 1, _, by omega, by go_num, by simp; omega, (by show _ = _; rw [← HE.out]; simp [er]), HN.out, hb5⟩
        case measure => simp [intOf]; omega
      · have HE : Hid (out.map er = ((acc.take (k + 1)).map er).filter (kindIn ks)) := by
          show _ = _
          rw [HSN.out, List.map_append, List.filter_append, HO.out]
          simp [kindIn, er, hm]
        rw [decide_eq_false hm] at HC
        clear hm HO HSN
        go_wp2_with (go_at_call 28; refine HC.out.mono ?_; rintro e w2 ⟨rfl, rfl⟩)
        go_roundw
        case rel => exact ⟨k + 1, out, by omega, by go_num, by omega, HE.out, HW.out.below hb1 hbz, below_then hbw hb1 hbz⟩
        case measure => simp [intOf]; omega
    · have HE : Hid (out.map er = (acc.map er).filter (kindIn ks)) := by have := HO.out; rw [List.take_of_length_le (by omega)] at this; exact this
      clear HO
      go_wp2
      go_ret
      exact ofTo_mk HE.out HW.out hbw
end Go.Proofs.YtahgfmobdfhaaaaGreatDoor
/-
  Package shape: size, holds, parent, has.
-/
namespace Go.Proofs.YtahgfmobdfhaaaaGreatDoor
set_option maxRecDepth 100000
open Go.ChangeShapes Go.WideShapes Go.ChangeAt Go.RowKit

theorem box_0 (w : World) (t : TypeId) (u v : Value) : (w.alloc (.cells #[u, v] t)).cell? ⟨w.heap.size, 0, none⟩ = some u := by rw [cell_of_row _ _ _ _ _ _ (heap_alloc_new w _)]; rfl
theorem box_1 (w : World) (t : TypeId) (u v : Value) : (w.alloc (.cells #[u, v] t)).cell? ⟨w.heap.size, 1, none⟩ = some v := by rw [cell_of_row _ _ _ _ _ _ (heap_alloc_new w _)]; rfl
theorem box_b (w : World) (o : Obj) : Below w.heap.size w (w.alloc o) := (Below.refl _ _).alloc (Nat.le_refl _) _
theorem box_x {w : World} {b off : Nat} {v : Value} (o : Obj) (hb : b < w.heap.size) (hx : w.cell? ⟨b, off, none⟩ = some v) : (w.alloc o).cell? ⟨b, off, none⟩ = some v := (World.cell?_alloc_lt _ _ _ hb).trans hx
theorem ints_cell {w : World} {A : Option Addr} {n c : Nat} {zs : List Int} (h : IntsAt w (.slice A n c) zs) {k : Nat} (hk : k < zs.length) : ∃ b off, A = some ⟨b, off, none⟩ ∧ b < w.heap.size ∧ w.cell? ⟨b, off + k, none⟩ = some (.int .i64 (zs.getD k 0)) ∧ (Lit.int .i64 (zs.getD k 0)).wf = true := by
  obtain ⟨A', c', e, hl, hc⟩ := h
  obtain ⟨b, off, e2, hb, hx, hw⟩ := hc k hk
  injection e with e1 _ _
  subst e1
  have e3 : zs.getD k 0 = zs[k] := by simp [List.getD_eq_getElem?_getD, List.getElem?_eq_getElem hk]
  rw [e3]
  exact ⟨b, off, e2, hb, hx, hw⟩

theorem size_any (t : TypeId) (A B : Option Addr) (n c m d : Nat) (w : World) (hn : n ≤ 1000) (hm : m ≤ 1000) :
    Calls Tryz.prog 76 #[.agg #[.slice A n c, .slice B m d]] w fun e w' => e = .returned (.int .i64 (min n m : Nat)) ∧ Below w.heap.size w w' := by
  have x0 := box_0 w 30 (.slice A n c) (.slice B m d)
  have x1 := box_1 w 30 (.slice A n c) (.slice B m d)
  have HZ := Lib.hid (box_b w (.cells #[.slice A n c, .slice B m d] 30))
  have HM : Hid (min (n : Int) m = ((min n m : Nat) : Int)) := by show _ = _; omega
  go_enter Tryz.func76, Tryz.ntmps76
  go_wp2
  all_goals
    go_ret
    exact ⟨ret_int (by omega), HZ.out⟩
theorem holds_any (ks : List Int) (A B : Option Addr) (n c m d k : Nat) (w : World) (h : IntsAt w (.slice A n c) ks) (hn : n = ks.length) (hk : k < n) (hk2 : k < 1000) :
    Calls Tryz.prog 75 #[.agg #[.slice A n c, .slice B m d], .int .i64 k] w fun e w' => e = .returned (.bool (hl ks k)) ∧ Below w.heap.size w w' := by
  obtain ⟨b, off, rfl, hb, hx, hw⟩ := ints_cell h (k := k) (by omega)
  have x0 := box_0 w 30 (.slice (some ⟨b, off, none⟩) n c) (.slice B m d)
  have x1 := box_1 w 30 (.slice (some ⟨b, off, none⟩) n c) (.slice B m d)
  have x2 := box_x (.cells #[.slice (some ⟨b, off, none⟩) n c, .slice B m d] 30) hb hx
  have HZ := Lib.hid (box_b w (.cells #[.slice (some ⟨b, off, none⟩) n c, .slice B m d] 30))
  have HV : Hid (hl ks k = (ks.getD k 0 == 1 || ks.getD k 0 == 2)) := rfl
  have hki : (k : Int) < n := by omega
  clear hx h hn hw
  generalize ks.getD k 0 = z at *
  rcases bor_cases (a := z == 1) with g | g
  · have HV2 : Hid (hl ks k = true) := by show _ = _; rw [HV.out, g]; rfl
    clear HV
    go_enter Tryz.func75, Tryz.ntmps75
    go_wp2
    go_ret
    exact ⟨ret_bool HV2.out.symm, HZ.out⟩
  · have HV2 : Hid (hl ks k = (z == 2)) := by show _ = _; rw [HV.out, g]; rfl
    clear HV
    go_enter Tryz.func75, Tryz.ntmps75
    go_wp2
    go_ret
    exact ⟨ret_bool HV2.out.symm, HZ.out⟩
end Go.Proofs.YtahgfmobdfhaaaaGreatDoor
/-
  Shapes in memory, small things.
-/
namespace Go.Proofs.YtahgfmobdfhaaaaGreatDoor
set_option maxRecDepth 100000
open Go.ChangeShapes Go.WideShapes Go.ChangeAt Go.RowKit

theorem shp_below {w w' : World} {u v : Value} {ks ps : List Int} (h : IntsAt w u ks ∧ IntsAt w v ps) (hb : Below w.heap.size w w') : IntsAt w' u ks ∧ IntsAt w' v ps := ⟨h.1.below hb, h.2.below hb⟩
end Go.Proofs.YtahgfmobdfhaaaaGreatDoor
/-
  Package shape: Initial, Kids, open.
-/
namespace Go.Proofs.YtahgfmobdfhaaaaGreatDoor
set_option maxRecDepth 100000
open Go.ChangeShapes Go.WideShapes Go.ChangeAt Go.RowKit

theorem Tryz.infoInt : (Tryz.prog.info? 3).map (fun i => (i.zero, i.size, i.bytes)) = some (some (.int .i64 0), 1, 8) := by kernel_rfl
theorem own_mono2 {w : World} {base base' e size n : Nat} {v : Value} {xs : List Value} (h : w.ownsRow base e size v n xs) (hle : base' ≤ base) : w.ownsRow base' e size v n xs :=
  ⟨h.1, h.2.elim .inl fun ⟨g, cap, cur, e, hb, r⟩ => .inr ⟨g, cap, cur, e, Nat.le_trans hle hb, r⟩⟩
def icells (l : List Int) : List Value := l.map (Value.int .i64)
/-- a list of integers in memory of the call's own -/
def OwnI (w : World) (base : Nat) (v : Value) (l : List Int) : Prop := w.ownsRow base 3 1 v l.length (icells l)

section
variable (ks ps : List Int) (A B : Option Addr) (n c m d : Nat) (w : World)
set_option maxHeartbeats 1000000 in
theorem Initial_any (a : Int) (h : IntsAt w (.slice A n c) ks ∧ IntsAt w (.slice B m d) ps) (hn : n = ks.length) (hm : m = ps.length) (hn2 : n ≤ 100) (hm2 : m ≤ 100) :
    Calls Tryz.prog 34 #[.agg #[.slice A n c, .slice B m d], .int .i64 a] w fun e w' => e = .returned (.int .i64 (iniTo ks ps a (szN ks ps))) ∧ Below w.heap.size w w' := by
  have x0 := box_0 w 30 (.slice A n c) (.slice B m d)
  have x1 := box_1 w 30 (.slice A n c) (.slice B m d)
  have hz := box_b w (.cells #[.slice A n c, .slice B m d] 30)
  have S1 := Lib.hid (shp_below h hz)
  have HZ := Lib.hid hz
  have hlt : w.heap.size < (w.alloc (.cells #[.slice A n c, .slice B m d] 30)).heap.size := by simp
  have SZ := Lib.hid (fun W => size_any 30 A B n c m d W (by omega) (by omega))
  have HN : Hid (szN ks ps = min n m) := by show _ = _; rw [hn, hm]; rfl
  have H1 := Lib.hid hn
  have H2 := Lib.hid hm
  clear h hz hn hm
  go_enter Tryz.func34, Tryz.ntmps34
  go_wp2_with (go_at_call 76; refine (SZ.out _).mono ?_; rintro e w1 ⟨rfl, hb1⟩)
  have y0 := (hb1.cell (p := ⟨w.heap.size, 0, none⟩) hlt).trans x0
  have y1 := (hb1.cell (p := ⟨w.heap.size, 1, none⟩) hlt).trans x1
  have S2 := Lib.hid (shp_below S1.out hb1)
  have HZ2 := Lib.hid (below_then HZ.out hb1 HZ.out.size)
  have hlt2 : w.heap.size < w1.heap.size := Nat.lt_of_lt_of_le hlt hb1.size
  clear S1 HZ x0 x1 hb1 hlt SZ
  have hqm : min n m ≤ m := Nat.min_le_right _ _
  have hqn : min n m ≤ n := Nat.min_le_left _ _
  generalize min n m = q at *
  go_loopw [5, 8] (fun _ i wr => ∃ k : Nat, k ≤ q ∧ i = .int .i64 k ∧ Hid (Below w1.heap.size w1 wr) ∧ Hid (∀ j, j < k → isKid ks ps a j = false)) (fun _ i _ => q - (intOf i).toNat)
  case atStart => exact ⟨0, Nat.zero_le _, rfl, Below.refl _ _, fun j hj => by omega⟩
  case round =>
    obtain ⟨k, hk, rfl, HB, HI⟩ := hrel
    have z0 := (HB.out.cell (p := ⟨w.heap.size, 0, none⟩) hlt2).trans y0
    have z1 := (HB.out.cell (p := ⟨w.heap.size, 1, none⟩) hlt2).trans y1
    by_cases hlt : k < q
    · have hkm : (k : Int) < m := by omega
      obtain ⟨b, off, rfl, hb, hx, hw⟩ := ints_cell (HB.out |> shp_below S2.out).2 (k := k) (by have := H2.out; omega)
      have HO := Lib.hid (holds_any ks A (some ⟨b, off, none⟩) n c m d k wr (shp_below S2.out HB.out).1 H1.out (by omega) (by omega))
      have HT : Hid (isKid ks ps a k = false → ∀ j, j < k + 1 → isKid ks ps a j = false) := fun hh j hj => by
        by_cases e : j = k
        · subst e; exact hh
        · exact HI.out j (by omega)
      have HH : Hid (isKid ks ps a k = true → iniTo ks ps a q = k) := fun hh => ini_hit hlt hh HI.out
      have HD : Hid (isKid ks ps a k = (ps.getD k 0 == a && hl ks k)) := rfl
      clear HI hw
      generalize ps.getD k 0 = z at *
      generalize hl ks k = hb2 at *
      rcases bor_cases (a := z == a) with g | g
      · cases hb2
        · have HT2 := Lib.hid (HT.out (by rw [HD.out, g]; rfl))
          clear HT HH HD
          go_wp2_with (go_at_call 75; refine HO.out.mono ?_; rintro e w2 ⟨rfl, hb2⟩)
          go_roundw
          case rel => exact ⟨k + 1, by omega, by go_num, below_then HB.out hb2 HB.out.size, HT2⟩
          case measure => simp [intOf]; omega
        · have HE := Lib.hid (HH.out (by rw [HD.out, g]; rfl))
          clear HT HH HD
          go_wp2_with (go_at_call 75; refine HO.out.mono ?_; rintro e w2 ⟨rfl, hb2⟩)
          go_ret
          exact ⟨ret_int (by rw [HN.out, HE.out]), below_then HZ2.out (below_then HB.out hb2 HB.out.size) HZ2.out.size⟩
      · have HT2 := Lib.hid (HT.out (by rw [HD.out, g]; rfl))
        clear HT HH HD HO
        go_wp2
        go_roundw
        case rel => exact ⟨k + 1, by omega, by go_num, HB, HT2⟩
        case measure => simp [intOf]; omega
    · have HE : Hid (iniTo ks ps a q = -1) := ini_miss fun j hj => HI.out j (by omega)
      clear HI
      go_wp2
      go_ret
      exact ⟨ret_int (by rw [HN.out, HE.out]), below_then HZ2.out HB.out HZ2.out.size⟩
def KidsTo (l : List Nat) (w : World) (e : Ending) (w' : World) : Prop := ∃ v, e = .returned v ∧ OwnI w' w.heap.size v (l.map fun k : Nat => (k : Int)) ∧ Below w.heap.size w w'
theorem kidsTo_mk {l l' : List Nat} {w w' : World} {v : Value} (e : l' = l) (h : OwnI w' w.heap.size v (l'.map fun k : Nat => (k : Int))) (hb : Below w.heap.size w w') : KidsTo l w (.returned v) w' := by
  subst e; exact ⟨v, rfl, h, hb⟩
theorem icells_snoc (l : List Nat) (k : Nat) : icells ((l ++ [k]).map fun k : Nat => (k : Int)) = icells (l.map fun k : Nat => (k : Int)) ++ [.int .i64 (k : Int)] := by simp [icells]
set_option maxHeartbeats 1000000 in
theorem Kids_any (a : Int) (h : IntsAt w (.slice A n c) ks ∧ IntsAt w (.slice B m d) ps) (hn : n = ks.length) (hm : m = ps.length) (hn2 : n ≤ 100) (hm2 : m ≤ 100) :
    Calls Tryz.prog 33 #[.agg #[.slice A n c, .slice B m d], .int .i64 a] w (KidsTo (kidsTo ps a (szN ks ps)) w) := by
  obtain ⟨i0, hi, hz0, hz1, hz2⟩ := info_parts Tryz.infoInt
  have x0 := box_0 w 30 (.slice A n c) (.slice B m d)
  have x1 := box_1 w 30 (.slice A n c) (.slice B m d)
  have hz := box_b w (.cells #[.slice A n c, .slice B m d] 30)
  have S1 := Lib.hid (shp_below h hz)
  have HZ := Lib.hid hz
  have hlt : w.heap.size < (w.alloc (.cells #[.slice A n c, .slice B m d] 30)).heap.size := by simp
  have SZ := Lib.hid (fun W => size_any 30 A B n c m d W (by omega) (by omega))
  have HN : Hid (szN ks ps = min n m) := by show _ = _; rw [hn, hm]; rfl
  have H1 := Lib.hid hn
  have H2 := Lib.hid hm
  clear h hz hn hm
  go_enter Tryz.func33, Tryz.ntmps33
  go_wp2_with (go_at_call 76; refine (SZ.out _).mono ?_; rintro e w1 ⟨rfl, hb1⟩)
  have y0 := (hb1.cell (p := ⟨w.heap.size, 0, none⟩) hlt).trans x0
  have y1 := (hb1.cell (p := ⟨w.heap.size, 1, none⟩) hlt).trans x1
  have S2 := Lib.hid (shp_below S1.out hb1)
  have HZ2 := Lib.hid (below_then HZ.out hb1 HZ.out.size)
  have hlt2 : w.heap.size < w1.heap.size := Nat.lt_of_lt_of_le hlt hb1.size
  clear S1 HZ x0 x1 hb1 hlt SZ
  have hqm : min n m ≤ m := Nat.min_le_right _ _
  have hqn : min n m ≤ n := Nat.min_le_left _ _
  generalize min n m = q at *
  go_loopw [5, 9] (fun v i wr => ∃ k : Nat, k ≤ q ∧ i = .int .i64 k ∧ Hid (OwnI wr w1.heap.size v ((kidsTo ps a k).map fun k : Nat => (k : Int))) ∧ Hid (Below w1.heap.size w1 wr)) (fun _ i _ => q - (intOf i).toNat)
  case atStart => exact ⟨0, Nat.zero_le _, rfl, World.ownsRow_nil _ _ _ _, Below.refl _ _⟩
  case round =>
    obtain ⟨k, hk, rfl, HO, HB⟩ := hrel
    have hbz := HB.out.size
    by_cases hlt : k < q
    · have z1 := (HB.out.cell (p := ⟨w.heap.size, 1, none⟩) hlt2).trans y1
      have hkm : (k : Int) < m := by omega
      obtain ⟨b, off, rfl, hb, hx, hw⟩ := ints_cell (HB.out |> shp_below S2.out).2 (k := k) (by have := H2.out; omega)
      have hsn : kidsTo ps a (k + 1) = if ps.getD k 0 = a then kidsTo ps a k ++ [k] else kidsTo ps a k := rfl
      have hln := kidsTo_len ps a k
      have hlm : ((kidsTo ps a k).map fun k : Nat => (k : Int)).length = (kidsTo ps a k).length := List.length_map ..
      clear hw
      generalize ps.getD k 0 = z at *
      obtain ⟨A5, c5, rfl⟩ := own_slice HO.out
      rcases bor_cases (a := z == a) with g | g
      · have e : z = a := by simpa using g
        rw [if_pos e] at hsn
        have HS := Lib.hid hsn
        clear hsn e
        go_wp2_with (at_builtin; go_must (refine wpList_append_own _ rfl (.tmp 19) (.tmp 21) 22 rfl w1.heap.size 3 i0 _ 1 8 Tryz.underlying22 hi hz0 hz1 hz2 rfl (by decide) _ _ _ rfl (HO.out.alloc _) ⟨wr.heap.size, 0, none⟩ 1 1 [.int .i64 k] rfl rfl (cells_new _ _ _) (by intro u hu; simp at hu; subst hu; rfl) (by unfold maxLen; omega) (by omega) (by simp; omega) ?_); intro v' w4 hown' hg' _)
        have hg2 : wr.grownBy w4 (Value.slice A5 ((kidsTo ps a k).map fun k : Nat => (k : Int)).length c5).ownBlock := (World.grownBy_alloc _ _ _).andThen hg' (fun j e => .inr e)
        have HNw : Hid (OwnI w4 w1.heap.size v' ((kidsTo ps a (k + 1)).map fun k : Nat => (k : Int))) := by
          show w4.ownsRow _ _ _ _ _ _
          rw [HS.out, icells_snoc, List.length_map, List.length_append, ← List.length_map (f := fun k : Nat => (k : Int))]
          exact hown'
        have HB4 := Lib.hid (HB.out.grown hg2 hbz (fun j e => (HO.out.lt j e).1))
        clear hown' hg' hg2
        go_roundw
        case rel => exact ⟨k + 1, by omega, by go_num, HNw, HB4⟩
        case measure => simp [intOf]; omega
      · have e : ¬ z = a := by simpa using g
        rw [if_neg e] at hsn
        have HNw : Hid (OwnI wr w1.heap.size (.slice A5 ((kidsTo ps a k).map fun k : Nat => (k : Int)).length c5) ((kidsTo ps a (k + 1)).map fun k : Nat => (k : Int))) := by show OwnI _ _ _ _; rw [hsn]; exact HO.out
        clear hsn e
        go_wp2
        go_roundw
        case rel => exact ⟨k + 1, by omega, by go_num, HNw, HB⟩
        case measure => simp [intOf]; omega
    · have HK : Hid (kidsTo ps a k = kidsTo ps a (szN ks ps)) := by show _ = _; rw [HN.out]; congr 1; omega
      go_wp2
      go_ret
      exact kidsTo_mk HK.out (own_mono2 HO.out (by omega)) (below_then HZ2.out HB.out HZ2.out.size)
end
end Go.Proofs.YtahgfmobdfhaaaaGreatDoor
