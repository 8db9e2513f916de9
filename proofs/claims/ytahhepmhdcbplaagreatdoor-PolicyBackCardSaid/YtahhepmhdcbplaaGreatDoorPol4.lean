/-
  policy.Parse.
-/
import Derived.Test.YtahhepmhdcbplaaGreatDoorPol1
import Derived.Test.YtahhepmhdcbplaaGreatDoorShelf
import Derived.Shelf.Strings.Split
import Derived.OwnWalk
import Derived.Deep.DeepMust
import Derived.Test.YtahhepmhdcbplaaGreatDoorOwn
namespace Go.Proofs.YtahhepmhdcbplaaGreatDoor
set_option maxRecDepth 100000
open Go.ChangeShapes Go.WideShapes Go.ChangeAt Go.RowKit

/-- a rule, its line, its list's slice -/
abbrev RL := Ru × Nat × Value
def er (x : RL) : Ru × Nat := (x.1, x.2.1)
def rcell (x : RL) : List Value := [.int .i64 x.1.kind, .string (bs x.1.name), x.2.2, .int .i64 x.1.n, .int .i64 x.1.m, .string (bs x.1.from_), .string (bs x.1.to_), .string (bs x.1.by_), .string (bs x.1.task), .string (bs x.1.in_), .int .i64 x.2.1]
def rcells (l : List RL) : List Value := l.flatMap rcell
theorem rcells_snoc (l : List RL) (x : RL) : rcells (l ++ [x]) = rcells l ++ rcell x := by simp [rcells]
/-- rules in memory of the call's own -/
def RowsAt (w : World) (base : Nat) (v : Value) (acc : List RL) : Prop := w.ownsRow base 24 11 v acc.length (rcells acc) ∧ ∀ x ∈ acc, OwnL w base x.2.2 x.1.list
theorem own_base {w : World} {base base' e size n : Nat} {v : Value} {xs : List Value} (h : w.ownsRow base e size v n xs) (hb : base' ≤ base) : w.ownsRow base' e size v n xs := by
  obtain ⟨h1, h2⟩ := h
  refine ⟨h1, ?_⟩
  rcases h2 with h2 | ⟨g, cap, cur, h3, h4, h5⟩
  · exact .inl h2
  · exact .inr ⟨g, cap, cur, h3, Nat.le_trans hb h4, h5⟩
theorem RowsAt.below {w w' : World} {base : Nat} {v : Value} {acc : List RL} (h : RowsAt w base v acc) (hb : Below w.heap.size w w') (hB : base ≤ w.heap.size) : RowsAt w' base v acc :=
  ⟨own_below h.1 hb hB, fun x hx => own_below (h.2 x hx) hb hB⟩
theorem RowsAt.base {w : World} {base base' : Nat} {v : Value} {acc : List RL} (h : RowsAt w base v acc) (hB : base' ≤ base) : RowsAt w base' v acc :=
  ⟨own_base h.1 hB, fun x hx => own_base (h.2 x hx) hB⟩
theorem rows_nil (w : World) (base : Nat) : RowsAt w base (.slice none 0 0) [] := ⟨World.ownsRow_nil _ _ _ _, fun _ h => by cases h⟩
/-- a list of texts does not lie where rules lie -/
theorem own_apart {w : World} {base base' n : Nat} {L v : Value} {l : List Tx} {xs : List Value} (h : OwnL w base L l) (h' : w.ownsRow base' 24 11 v n xs) : L.ownBlock = none ∨ L.ownBlock ≠ v.ownBlock := by
  rcases h.2 with ⟨hv, _⟩ | ⟨g, cap, cur, hv, _, hg, _⟩
  · left; rw [hv]; rfl
  · right
    rcases h'.2 with ⟨hv', _⟩ | ⟨g', cap', cur', hv', _, hg', _⟩
    · rw [hv, hv']; simp [Value.ownBlock]
    · rw [hv, hv']
      intro e
      have e2 : g = g' := by simpa [Value.ownBlock] using e
      subst e2
      rw [hg] at hg'
      simp at hg'

/-! ### strings.Split at a byte -/
theorem split_lines (s : ByteArray) : (Lib.splitB ⟨#[10]⟩ 0 (Lib.countB s ⟨#[10]⟩) s).map Value.string = (linesL s.data.toList).map fun t => Value.string (bs t) := by
  have h := Lib.splitB_data ⟨#[10]⟩ 0 (Lib.countB s ⟨#[10]⟩) s
  rw [show (⟨#[10]⟩ : ByteArray).data.toList = [10] from rfl, show Lib.countB s ⟨#[10]⟩ = Lib.count s.data.toList [10] from rfl, lines_split] at h
  rw [← h, show Lib.countB s ⟨#[10]⟩ = Lib.count s.data.toList [10] from rfl]
  simp [bs_list]
theorem split_cells (s : ByteArray) : ((Lib.splitB ⟨#[10]⟩ 0 (Lib.countB s ⟨#[10]⟩) s).map Value.string).toArray = ((linesL s.data.toList).map fun t => Value.string (bs t)).toArray := by rw [split_lines]
theorem split_count (s : ByteArray) : Lib.countB s ⟨#[10]⟩ + 1 = (linesL s.data.toList).length := by
  have h := congrArg List.length (split_lines s)
  rw [List.length_map, List.length_map, Lib.splitB_all ⟨#[10]⟩ (by decide) 0 _ s rfl] at h
  exact h

theorem genSplit_nl (s : ByteArray) (w : World) (hs : s.size ≤ 1000000) :
    Calls Tryz.prog 78 #[.string s, .string ⟨#[10]⟩, .int .i64 0, .int .i64 (-1)] w fun e w' =>
      e = .returned (.slice (some ⟨w.heap.size, 0, none⟩) (linesL s.data.toList).length (linesL s.data.toList).length) ∧ w' = w.alloc (.cells ((linesL s.data.toList).map fun t => Value.string (bs t)).toArray 9) := by
  have hle := Lib.countB_le ⟨#[10]⟩ (by decide) s.size s (Nat.le_refl _)
  have hlen := Lib.splitB_all ⟨#[10]⟩ (by decide) 0 _ s rfl
  have c := Any.strings_genSplit_core { Tryz.lays146 with } (by kernel_rfl) s ⟨#[10]⟩ 0 (-1) (Lib.countB s ⟨#[10]⟩ + 1) w (by omega) (by decide) (Nat.zero_le _)
    (fun x c _ => by have h := Any.strings_Index_one { Tryz.lays146 with } x 10 (w.alloc (.cells c 9)); rw [← Lib.index_one] at h; exact h) (by have h := Any.strings_Count_one { Tryz.lays146 with } s 10 w; rw [show Lib.countByte s.data.toList 10 = Lib.countB s ⟨#[10]⟩ from (Lib.count_one 10 s.data.toList).symm] at h; exact h) (by decide) (by decide) (by rw [if_pos (by decide)]; omega)
  rw [Nat.add_sub_cancel, hlen] at c
  have e2 : Lib.cellsOf (Lib.splitB ⟨#[10]⟩ 0 (Lib.countB s ⟨#[10]⟩) s) (Lib.countB s ⟨#[10]⟩ + 1) = ((Lib.splitB ⟨#[10]⟩ 0 (Lib.countB s ⟨#[10]⟩) s).map Value.string).toArray := by rw [← hlen]; exact Lib.cellsOf_full _
  rw [e2, split_cells, split_count] at c
  exact c
theorem Split_nl (s : ByteArray) (w : World) (hs : s.size ≤ 1000000) :
    Calls Tryz.prog 44 #[.string s, .string ⟨#[10]⟩] w fun e w' =>
      e = .returned (.slice (some ⟨w.heap.size, 0, none⟩) (linesL s.data.toList).length (linesL s.data.toList).length) ∧ w' = w.alloc (.cells ((linesL s.data.toList).map fun t => Value.string (bs t)).toArray 9) := by
  go_enter Tryz.func44, Tryz.ntmps44
  go_wp2_with (go_at_call 78; refine (genSplit_nl s _ hs).mono ?_; rintro e w' ⟨rfl, hw⟩; rw [hw])
  go_ret
  exact ⟨rfl, rfl⟩

/-- what policy.Parse answers -/
def PolTo (p : PolR) (w : World) (e : Ending) (w' : World) : Prop := Below w.heap.size w w' ∧ match p with
  | .limit => e = .returned (.tuple #[.slice none 0 0, .iface 34 (.int .i64 5)])
  | .bad n c k => ∃ b, e = .returned (.tuple #[.slice none 0 0, .iface 59 (.pointer (some ⟨b, 0, none⟩))]) ∧ w.heap.size ≤ b ∧ b < w'.heap.size ∧ FaultAt w' b n c k
  | .ok l => ∃ v acc, e = .returned (.tuple #[v, .nilIface]) ∧ acc.map er = l ∧ RowsAt w' w.heap.size v acc
theorem polTo_bad {p : PolR} {n c : Nat} {k : Int} {b : Nat} {w w' : World} (hp : p = .bad n c k) (hb : Below w.heap.size w w') (h1 : w.heap.size ≤ b) (h2 : b < w'.heap.size) (h3 : FaultAt w' b n c k) :
    PolTo p w (.returned (.tuple #[.slice none 0 0, .iface 59 (.pointer (some ⟨b, 0, none⟩))])) w' := by subst hp; exact ⟨hb, b, rfl, h1, h2, h3⟩
theorem polTo_ok {p : PolR} {v : Value} {acc : List RL} {w w' : World} (hp : p = .ok (acc.map er)) (hb : Below w.heap.size w w') (h : RowsAt w' w.heap.size v acc) :
    PolTo p w (.returned (.tuple #[v, .nilIface])) w' := by subst hp; exact ⟨hb, v, acc, rfl, rfl, h⟩
theorem fault_below {w w' : World} {b : Nat} {l c k : Int} (h : FaultAt w b l c k) (hl : b < w.heap.size) (hb : Below w.heap.size w w') : FaultAt w' b l c k :=
  ⟨(hb.cell (p := ⟨b, 0, none⟩) hl).trans h.1, (hb.cell (p := ⟨b, 1, none⟩) hl).trans h.2.1, (hb.cell (p := ⟨b, 2, none⟩) hl).trans h.2.2⟩
theorem parse_line (t : Tx) (n : Nat) (w : World) (h : t.length ≤ 4096) : Calls Tryz.prog 26 #[.string (bs t), .int .i64 n] w (ParseTo (parseL t) n w) :=
  Parse_any (bs t) n w (by rw [size_bs]; omega) (fun _ => by have := partL_le t; show (partL t).length ≤ _; omega)
theorem Tryz.infoRule : (Tryz.prog.info? 24).map (fun i => (i.zero, i.size, i.bytes)) = some (some (.agg #[.int .i64 0, .string ⟨#[]⟩, .slice none 0 0, .int .i64 0, .int .i64 0, .string ⟨#[]⟩, .string ⟨#[]⟩, .string ⟨#[]⟩, .string ⟨#[]⟩, .string ⟨#[]⟩, .int .i64 0]), 11, 152) := by kernel_rfl
end Go.Proofs.YtahhepmhdcbplaaGreatDoor
namespace Go.Proofs.YtahhepmhdcbplaaGreatDoor
set_option maxRecDepth 100000
open Go.ChangeShapes Go.WideShapes Go.ChangeAt Go.RowKit

theorem Pol_long (s : ByteArray) (w : World) (hs : 4096 < s.size) : Calls Tryz.prog 21 #[.string s] w (PolTo .limit w) := by
  have h : (4096 : Int) < s.size := by omega
  clear hs
  go_enter Tryz.func21, Tryz.ntmps21
  go_wp2
  go_ret2
  exact ⟨Below.refl _ _, rfl⟩
set_option maxHeartbeats 4000000 in
theorem Pol_lines (s : ByteArray) (ls : List Tx) (w : World) (hs : s.size ≤ 4096) (hn : ls.length ≤ 4097) (hle : ∀ t ∈ ls, t.length ≤ 4096)
    (hsp : ∀ W, Calls Tryz.prog 44 #[.string s, .string ⟨#[10]⟩] W fun e w' => e = .returned (.slice (some ⟨W.heap.size, 0, none⟩) ls.length ls.length) ∧ w' = W.alloc (.cells (ls.map fun t => Value.string (bs t)).toArray 9)) :
    Calls Tryz.prog 21 #[.string s] w (PolTo (polL ls 1 []) w) := by
  have hs' : ¬ (4096 : Int) < s.size := by omega
  have HSP := Lib.hid hsp
  have HLE := Lib.hid hle
  clear hsp hs hle
  obtain ⟨i0, hi, hz0, hz1, hz2⟩ := info_parts Tryz.infoRule
  go_enter Tryz.func21, Tryz.ntmps21
  go_upto_region 5 with (go_at_call 44; refine (HSP.out _).mono ?_; rintro e w1 ⟨rfl, rfl⟩)
  have HA : Hid (StrAt (w.alloc (.cells (ls.map fun t => Value.string (bs t)).toArray 9)) w.heap.size ls) := strAt_alloc w ls _
  have hz1' : (w.alloc (.cells (ls.map fun t => Value.string (bs t)).toArray 9)).heap.size = w.heap.size + 1 := by simp
  have HB1 : Hid (Below w.heap.size w (w.alloc (.cells (ls.map fun t => Value.string (bs t)).toArray 9))) := (Below.refl _ _).alloc (Nat.le_refl _) _
  generalize hw1 : w.alloc (.cells (ls.map fun t => Value.string (bs t)).toArray 9) = w1 at *
  clear hw1 HSP
  go_loopw [4, 18] (fun l i wr => ∃ (k : Nat) (acc : List RL), k ≤ ls.length ∧ i = .int .i64 k ∧ acc.length ≤ 160 ∧ Hid (polL ls 1 [] = polL (ls.drop k) (k + 1) (acc.map er)) ∧ Hid (RowsAt wr w1.heap.size l acc) ∧ Below w1.heap.size w1 wr) (fun _ i _ => ls.length - (intOf i).toNat)
  case atStart => exact ⟨0, [], Nat.zero_le _, rfl, Nat.zero_le _, rfl, rows_nil _ _, Below.refl _ _⟩
  case round =>
    obtain ⟨k, acc, hk, rfl, ha, HP, HR, hbw⟩ := hrel
    by_cases hlt : k < ls.length
    · have hx : wr.cell? ⟨w.heap.size, k, none⟩ = some (.string (bs ls[k])) := (hbw.cell (p := ⟨w.heap.size, k, none⟩) (by simp only; omega)).trans (HA.out k hlt)
      have hpar : ∀ W, Calls Tryz.prog 26 #[.string (bs ls[k]), .int .i64 ((k : Int) + 1)] W (ParseTo (parseL ls[k]) ((k : Int) + 1) W) := fun W => parse_line ls[k] (k + 1) W (HLE.out _ (List.getElem_mem hlt))
      have hbz := hbw.size
      generalize hp : parseL ls[k] = p at hpar
      have HPAR := Lib.hid hpar
      clear hpar
      generalize ls[k] = t at hx HPAR
      cases p with
      | bad c d =>
        have HE : Hid (polL ls 1 [] = .bad (k + 1) c d) := HP.out.trans (pol_bad hlt hp)
        clear HP hp HR
        have HPAR' : Hid (∀ W, Calls Tryz.prog 26 #[.string (bs t), .int .i64 ((k : Int) + 1)] W (ParseTo (.bad c d) ((k : Int) + 1) W)) := HPAR
        clear HPAR
        go_wp2_with (go_at_call 26; refine (HPAR'.out _).mono ?_; rintro e w2 ⟨hb2, fb, rfl, hf1, hf2, hF⟩; dsimp only [zeroV, zero11])
        have hs2 := hb2.size
        go_ret2
        exact polTo_bad HE.out ((below_then (below_then HB1.out hbw (by omega)) hb2 (by omega)).alloc (by omega) _) (by omega) (by simp; omega) (fault_below hF hf2 ((Below.refl _ _).alloc (Nat.le_refl _) _))
      | empty =>
        have HE : Hid (polL ls 1 [] = polL (ls.drop (k + 1)) (k + 1 + 1) (acc.map er)) := HP.out.trans (pol_empty hlt hp)
        clear HP hp
        have HPAR' : Hid (∀ W, Calls Tryz.prog 26 #[.string (bs t), .int .i64 ((k : Int) + 1)] W (ParseTo .empty ((k : Int) + 1) W)) := HPAR
        clear HPAR
        go_wp2_with (go_at_call 26; refine (HPAR'.out _).mono ?_; rintro e w2 ⟨hb2, rfl⟩; dsimp only [zeroV, zero11])
        have hs2 := hb2.size
        go_roundw
        case rel => exact ⟨k + 1, acc, by omega, by go_num, ha, HE.out, HR.out.below (hb2.alloc hs2 _) hbz, (below_then hbw hb2 hbz).alloc (by omega) _⟩
        case measure => simp [intOf]; omega
      | ok u =>
        obtain ⟨kd, nm, l, rn, rm, rf, rt, rb, ra, ri⟩ := u
        have HPAR' : Hid (∀ W, Calls Tryz.prog 26 #[.string (bs t), .int .i64 ((k : Int) + 1)] W (ParseTo (.ok ⟨kd, nm, l, rn, rm, rf, rt, rb, ra, ri⟩) ((k : Int) + 1) W)) := HPAR
        clear HPAR
        obtain ⟨A, cap, rfl⟩ := own_slice HR.out.1
        go_upto_region 12 with (go_at_call 26; refine (HPAR'.out _).mono ?_; rintro e w2 ⟨hb2, L1, rfl, ho1⟩; obtain ⟨A1, c1, rfl⟩ := own_slice ho1; dsimp only [ruV])
        have hs2 := hb2.size
        have RA : (w2.alloc (.cells #[.int .i64 kd, .string (bs nm), .slice A1 l.length c1, .int .i64 rn, .int .i64 rm, .string (bs rf), .string (bs rt), .string (bs rb), .string (bs ra), .string (bs ri), .int .i64 ((k : Int) + 1)] 24)).heap[w2.heap.size]? = some (.cells #[.int .i64 kd, .string (bs nm), .slice A1 l.length c1, .int .i64 rn, .int .i64 rm, .string (bs rf), .string (bs rt), .string (bs rb), .string (bs ra), .string (bs ri), .int .i64 ((k : Int) + 1)] 24 (0, 0)) := heap_alloc_new _ _
        have HL : Hid (OwnL (w2.alloc (.cells #[.int .i64 kd, .string (bs nm), .slice A1 l.length c1, .int .i64 rn, .int .i64 rm, .string (bs rf), .string (bs rt), .string (bs rb), .string (bs ra), .string (bs ri), .int .i64 ((k : Int) + 1)] 24)) w1.heap.size (.slice A1 l.length c1) l) := own_base (own_below ho1 ((Below.refl _ _).alloc (Nat.le_refl _) _) hs2) hbz
        have HR3 : Hid (RowsAt (w2.alloc (.cells #[.int .i64 kd, .string (bs nm), .slice A1 l.length c1, .int .i64 rn, .int .i64 rm, .string (bs rf), .string (bs rt), .string (bs rb), .string (bs ra), .string (bs ri), .int .i64 ((k : Int) + 1)] 24)) w1.heap.size (.slice A acc.length cap) acc) := HR.out.below (hb2.alloc hs2 _) hbz
        have hb3 : Below w1.heap.size w1 (w2.alloc (.cells #[.int .i64 kd, .string (bs nm), .slice A1 l.length c1, .int .i64 rn, .int .i64 rm, .string (bs rf), .string (bs rt), .string (bs rb), .string (bs ra), .string (bs ri), .int .i64 ((k : Int) + 1)] 24)) := (below_then hbw hb2 hbz).alloc (by omega) _
        have hs3 : w2.heap.size < (w2.alloc (.cells #[.int .i64 kd, .string (bs nm), .slice A1 l.length c1, .int .i64 rn, .int .i64 rm, .string (bs rf), .string (bs rt), .string (bs rb), .string (bs ra), .string (bs ri), .int .i64 ((k : Int) + 1)] 24)).heap.size := by simp
        clear ho1 HR HPAR'
        generalize hw3 : w2.alloc (.cells #[.int .i64 kd, .string (bs nm), .slice A1 l.length c1, .int .i64 rn, .int .i64 rm, .string (bs rf), .string (bs rt), .string (bs rb), .string (bs ra), .string (bs ri), .int .i64 ((k : Int) + 1)] 24) = w3 at *
        clear hw3 hb2
        by_cases hfull : acc.length = 160
        · have HE : Hid (polL ls 1 [] = .bad (k + 1) 1 5) := HP.out.trans (pol_full hlt hp (by simpa using hfull))
          clear HP hp HR3 HL
          rw [hfull]
          go_wp2
          go_ret2
          refine polTo_bad HE.out ((below_then HB1.out hb3 (by omega)).alloc (by omega) _) (by omega) (by simp) ?_
          exact ⟨new_cell w3 _ _ 0, new_cell w3 _ _ 1, new_cell w3 _ _ 2⟩
        · have HE : Hid (polL ls 1 [] = polL (ls.drop (k + 1)) (k + 1 + 1) ((acc ++ [((⟨kd, nm, l, rn, rm, rf, rt, rb, ra, ri⟩ : Ru), k + 1, Value.slice A1 l.length c1)]).map er)) := by
            show _ = _
            rw [List.map_append]
            exact HP.out.trans (pol_ok hlt hp (by simpa using hfull))
          clear HP hp
          have hfi : ¬ (acc.length : Int) = 160 := by omega
          have p0 := row_q0 RA; have p1 := row_q1 RA; have p2 := row_q2 RA; have p3 := row_q3 RA; have p4 := row_q4 RA; have p5 := row_q5 RA; have p6 := row_q6 RA; have p7 := row_q7 RA; have p8 := row_q8 RA; have p9 := row_q9 RA; have p10 := row_q10 RA
          clear RA
          go_wp2_with (at_builtin; go_must (refine wpList_append_own _ rfl (.tmp 44) (.tmp 46) 36 rfl w1.heap.size 24 i0 _ 11 152 Tryz.underlying36 hi hz0 hz1 hz2 rfl (by decide) _ _ _ rfl (HR3.out.1.alloc _) ⟨w3.heap.size, 0, none⟩ 1 1 [.int .i64 kd, .string (bs nm), .slice A1 l.length c1, .int .i64 rn, .int .i64 rm, .string (bs rf), .string (bs rt), .string (bs rb), .string (bs ra), .string (bs ri), .int .i64 ((k : Int) + 1)] rfl rfl (cells_new _ _ _) (by intro u hu; simp at hu; rcases hu with rfl | rfl | rfl | rfl | rfl | rfl | rfl | rfl | rfl | rfl | rfl <;> rfl) (by unfold maxLen; omega) (by omega) (by have := hb3.size; simp; omega) ?_); intro v' w4 hown' hg' _)
          have hg2 : (w3.alloc (.cells #[.int .i64 kd, .string (bs nm), .slice A1 l.length c1, .int .i64 rn, .int .i64 rm, .string (bs rf), .string (bs rt), .string (bs rb), .string (bs ra), .string (bs ri), .int .i64 ((k : Int) + 1)] 24)).grownBy w4 (Value.slice A acc.length cap).ownBlock := hg'
          have hb4 : Below w1.heap.size w1 w4 := (hb3.alloc (by have := hb3.size; omega) _).grown hg2 (by have := hb3.size; simp; omega) (fun g hg => (HR3.out.1.lt g hg).1)
          clear hg'
          have HN : Hid (RowsAt w4 w1.heap.size v' (acc ++ [((⟨kd, nm, l, rn, rm, rf, rt, rb, ra, ri⟩ : Ru), k + 1, Value.slice A1 l.length c1)])) := by
            have hB : Below w3.heap.size w3 (w3.alloc (.cells #[.int .i64 kd, .string (bs nm), .slice A1 l.length c1, .int .i64 rn, .int .i64 rm, .string (bs rf), .string (bs rt), .string (bs rb), .string (bs ra), .string (bs ri), .int .i64 ((k : Int) + 1)] 24)) := (Below.refl _ _).alloc (Nat.le_refl _) _
            have hba := hb3.size
            have hO := own_below HR3.out.1 hB hba
            refine ⟨?_, fun x hx => ?_⟩
            · rw [rcells_snoc, List.length_append]
              exact hown'
            · have hxo : OwnL w3 w1.heap.size x.2.2 x.1.list := by
                rcases List.mem_append.1 hx with hx | hx
                · exact HR3.out.2 x hx
                · rw [List.mem_singleton.1 hx]; exact HL.out
              exact (own_below hxo hB hba).kept hg2 (own_apart (own_below hxo hB hba) hO)
          clear hown' HR3 HL
          go_roundw
          case rel => exact ⟨k + 1, _, by omega, by go_num, by simp; omega, HE.out, HN.out, hb4⟩
          case measure => simp [intOf]; omega
    · have HE : Hid (polL ls 1 [] = .ok (acc.map er)) := HP.out.trans (pol_end (by omega))
      clear HP
      go_wp2
      go_ret2
      exact polTo_ok HE.out (below_then HB1.out hbw (by omega)) (HR.out.base (by omega))
theorem Pol_any (s : ByteArray) (w : World) : Calls Tryz.prog 21 #[.string s] w (PolTo (polT s.data.toList) w) := by
  unfold polT
  by_cases h : 4096 < s.data.toList.length
  · rw [if_pos h]; exact Pol_long s w h
  · rw [if_neg h]
    rw [size_list] at h
    obtain ⟨h1, h2⟩ := lines_len s.data.toList
    rw [size_list] at h1 h2
    exact Pol_lines s _ w (by omega) (by omega) (fun t ht => by have := h2 t ht; omega) (fun W => Split_nl s W (by omega))
end Go.Proofs.YtahhepmhdcbplaaGreatDoor
namespace Go.Proofs.YtahhepmhdcbplaaGreatDoor
set_option maxRecDepth 100000
open Go.ChangeShapes Go.WideShapes Go.ChangeAt Go.RowKit Go.Maps Go.WideMaps Go.ChangeMaps

theorem keepIs0 (w : World) : Calls Tryz.prog 10 #[.nilIface, .int .i64 0] w fun e w' => e = .returned (.bool true) ∧ w = w' := by
  go_enter Tryz.func10, Tryz.ntmps10
  go_wp2
  go_ret
  exact ⟨rfl, rfl⟩
/-! ### the document's example -/
set_option maxHeartbeats 1000000 in
theorem wakes03 (w : World) : Calls Tryz.prog 19 #[] w (TrueOn w) := by
  have p1 := fun W => Pol_any (bs []) W
  have p2 := fun W => Pol_any (bs (roleLine ++ [10])) W
  rw [list_bs] at p1 p2
  rw [polT_nil] at p1
  rw [polT_role] at p2
  have P1 : Hid (∀ W, Calls Tryz.prog 21 #[.string ⟨#[]⟩] W (PolTo (.ok []) W)) := p1
  have P2 : Hid (∀ W, Calls Tryz.prog 21 #[.string ⟨#[114, 111, 108, 101, 32, 97, 10]⟩] W (PolTo (.ok [({ kind := 1, name := [97] }, 1)]) W)) := p2
  clear p1 p2
  go_enter Tryz.func19, Tryz.ntmps19
  go_upto_region 2 with (go_at_call 21; refine (P1.out _).mono ?_; rintro e w1 ⟨hb1, v, acc, rfl, hacc, hR⟩; obtain ⟨A, cap, rfl⟩ := own_slice hR.1; have hl : acc.length = 0 := by simpa using congrArg List.length hacc)
  try rw [hl]
  clear hR hacc hl P1
  go_upto_region 3 with (go_at_call 21; refine (P2.out _).mono ?_; rintro e w2 ⟨hb2, v2, acc2, rfl, hacc2, hR2⟩; obtain ⟨A2, cap2, rfl⟩ := own_slice hR2.1; have hl2 : acc2.length = 1 := by simpa using congrArg List.length hacc2)
  try rw [hl2]
  clear hR2 hacc2 hl2 P2
  go_wp2
  go_ret
  exact ⟨rfl, below_then hb1 hb2 hb1.size⟩
end Go.Proofs.YtahhepmhdcbplaaGreatDoor
