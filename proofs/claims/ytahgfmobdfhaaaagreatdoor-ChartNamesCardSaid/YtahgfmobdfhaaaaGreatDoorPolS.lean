/-
  The document's Parse: the plain; the walk.
-/
import Derived.Test.YtahgfmobdfhaaaaGreatDoorRdrE
import Derived.Test.YtahgfmobdfhaaaaGreatDoorPol5
import Derived.OwnWalk
import Derived.Deep.DeepMust
import Derived.Deep.CutBlock
import Derived.Deep.DeepCutAuto
import Derived.WalkSpells
import Derived.Laws.DeepStrings4
import Derived.Test.YtahgfmobdfhaaaaGreatDoorShelf2
import Derived.Shelf.Strings.Split
import Derived.Test.YtahgfmobdfhaaaaGreatDoorOwn
import Derived.Test.YtahgfmobdfhaaaaGreatDoorSm0
import Derived.Lib.Builder
import Derived.Lib.AppendStr
import Derived.Lib.Hide
namespace Go.Proofs.YtahgfmobdfhaaaaGreatDoor
set_option maxRecDepth 100000
open Go.ChangeShapes Go.WideShapes Go.ChangeAt Go.RowKit

theorem polL_last (t : Tx) (k : Nat) (acc : List (Ru × Nat)) : polL [t] k acc = polL (t :: linesL []) k acc := by
  show polL [t] k acc = polL [t, []] k acc
  simp only [polL, parse_nil]
theorem lines_cut : ∀ (u : Tx) (j : Nat), j ≤ u.length → (∀ b ∈ u.take j, b ≠ 10) → (∀ h : j < u.length, u[j] = 10) → linesL u = u.take j :: (if j < u.length then linesL (u.drop (j + 1)) else [])
  | [], j, hj, _, _ => by
    obtain rfl : j = 0 := by simpa using hj
    rfl
  | c :: r, 0, _, _, h => by
    have hc := h (by simp)
    simp only [List.getElem_cons_zero] at hc
    subst hc
    rw [lines_end]; simp
  | c :: r, j + 1, hj, h1, h2 => by
    have hc : c ≠ 10 := h1 c (by simp)
    have ih := lines_cut r j (by simpa using hj) (fun b hb => h1 b (by simp [hb])) (fun h => by have := h2 (by simpa using h); simpa using this)
    rw [lines_cons hc ih]
    simp
/-- The line that ends at j, then what stands behind it. -/
theorem doc_step {u : Tx} {j : Nat} (hj : j ≤ u.length) (h1 : ∀ b ∈ u.take j, b ≠ 10) (h2 : ∀ h : j < u.length, u[j] = 10) (k : Nat) (acc : List (Ru × Nat)) :
    polL (linesL u) k acc = polL (u.take j :: linesL (u.drop (min (j + 1) u.length))) k acc := by
  rw [lines_cut u j hj h1 h2]
  by_cases h : j < u.length
  · rw [if_pos h, Nat.min_eq_left (by omega)]
  · rw [if_neg h, Nat.min_eq_right (by omega), List.drop_length]; exact polL_last _ _ _
/-- what the document's Parse tells: the rules that the plain one reads, or a fault -/
def RefTo (p : PolR) (w : World) (e : Ending) (w' : World) : Prop := Below w.heap.size w w' ∧ match p with
  | .ok l => ∃ v acc, e = .returned (.tuple #[v, fltV 0 0 0]) ∧ acc.map er = l ∧ RowsAt w' w.heap.size v acc
  | _ => ∃ n c k : Int, k ≠ 0 ∧ e = .returned (.tuple #[.slice none 0 0, fltV n c k])
theorem refTo_no {p : PolR} {w w' : World} {n c k : Int} (hp : ∀ l, p ≠ .ok l) (hb : Below w.heap.size w w') (hk : k ≠ 0) : RefTo p w (.returned (.tuple #[.slice none 0 0, fltV n c k])) w' := by
  refine ⟨hb, ?_⟩
  cases p with
  | limit => exact ⟨n, c, k, hk, rfl⟩
  | bad a b d => exact ⟨n, c, k, hk, rfl⟩
  | ok l => exact (hp l rfl).elim
theorem refTo_ok {p : PolR} {w w' : World} {v : Value} {acc : List RL} (hp : p = .ok (acc.map er)) (hb : Below w.heap.size w w') (h : RowsAt w' w.heap.size v acc) : RefTo p w (.returned (.tuple #[v, fltV 0 0 0])) w' := by
  subst hp
  exact ⟨hb, v, acc, rfl, rfl, h⟩
theorem run_cellUI {P : Program} {fn : Func} {p u : Tmp} {ty : TypeId} (h : fn.results = #[.tmp u, .cell p ty]) (tmps : Array Value) (w : World) (g : Nat) (t : TypeId) (cs : Array Value) (fr : Nat × Nat) (d : TypeDesc)
    (hp : tmps.getD p undef = .pointer (some ⟨g, 0, none⟩)) (hg : w.heap[g]? = some (.cells cs t fr))
    (hu : P.underlying ty = some d) (hd : (match d with | .struct _ | .array _ _ => true | _ => false) = true) (hi : (P.info? ty).map (·.size) = some cs.size) :
    (results fn tmps).run P w = .ok (.tuple #[tmps.getD u undef, .agg cs]) w := by
  have hp' : tmps[p]?.getD undef = .pointer (some ⟨g, 0, none⟩) := by simpa using hp
  simp [results, h, hp', asAddr, run_loadVar_row w g t ty cs fr d hg hu hd hi]
theorem polT_long {s : Tx} (h : 4096 < s.length) : ∀ l, polT s ≠ .ok l := by
  intro l; unfold polT; rw [if_pos h]; simp
theorem cut_rest (u : ByteArray) (j : Nat) : u.extract (if (u.size : Int) < (j : Int) + 1 then (u.size : Int) else (j : Int) + 1).toNat u.size = bs (u.data.toList.drop (min (j + 1) u.size)) := by
  have h : (if (u.size : Int) < (j : Int) + 1 then (u.size : Int) else (j : Int) + 1).toNat = min (j + 1) u.size := by split <;> omega
  rw [h, extract_bs, List.take_of_length_le (by simp)]
theorem cut_rest2 (u : ByteArray) (j : Nat) : u.extract (min ((j : Int) + 1) (u.size : Int)).toNat u.size = bs (u.data.toList.drop (min (j + 1) u.size)) := by
  rw [← cut_rest]
  congr 2
  split <;> omega
theorem rows_low {w w' : World} {base t : Nat} {v : Value} {acc : List RL} (h : RowsAt w base v acc) (hg : w.grownBy w' (some t)) (ht : t < base) : RowsAt w' base v acc := by
  have key : ∀ {e size n : Nat} {v : Value} {xs : List Value}, w.ownsRow base e size v n xs → v.ownBlock = none ∨ v.ownBlock ≠ some t := by
    intro e size n v xs h
    cases hv : v.ownBlock with
    | none => exact .inl rfl
    | some g => right; intro he; cases he; have := (h.lt _ hv).1; omega
  exact ⟨h.1.kept hg (key h.1), fun x hx => (h.2 x hx).kept hg (key (h.2 x hx))⟩
set_option maxHeartbeats 4000000 in
theorem RefParse_long (s : ByteArray) (w : World) (hs : 4096 < s.size) : Calls Tryz.prog 9 #[.string s] w (RefTo (polT s.data.toList) w) := by
  have h : (4096 : Int) < s.size := by omega
  have HP := Lib.hid (polT_long (s := s.data.toList) hs)
  clear hs
  go_enter Tryz.func9, Tryz.ntmps9
  go_wp2
  (try simp only [Exit.inBlock, Exit.then])
  refine bodyPost_ret (run_cellUI rfl _ _ w.heap.size _ _ _ _ rfl (heap_alloc_new _ _) Tryz.underlying47 rfl (by kernel_rfl)) rfl ?_
  exact refTo_no HP.out ((Below.refl _ _).alloc (Nat.le_refl _) _) (by decide)
set_option maxHeartbeats 4000000 in
theorem RefParse_lines (s : ByteArray) (w : World) (hs : ¬ 4096 < s.size) : Calls Tryz.prog 9 #[.string s] w (RefTo (polL (linesL s.data.toList) 1 []) w) := by
  have hs' : ¬ (4096 : Int) < s.size := by omega
  obtain ⟨i0, hi, hz0, hz1, hz2⟩ := info_parts Tryz.infoRule
  generalize hP : polL (linesL s.data.toList) 1 [] = P
  have HP0 := Lib.hid hP
  clear hP
  go_enter Tryz.func9, Tryz.ntmps9
  go_upto_region 5 with fail
  have R3 : Hid ((w.alloc (.cells #[.int .i64 0, .int .i64 0, .int .i64 0] 47)).heap[w.heap.size]? = some (.cells #[.int .i64 0, .int .i64 0, .int .i64 0] 47 (0, 0))) := heap_alloc_new _ _
  have HB1 : Hid (Below w.heap.size w (w.alloc (.cells #[.int .i64 0, .int .i64 0, .int .i64 0] 47))) := (Below.refl _ _).alloc (Nat.le_refl _) _
  have hz1' : (w.alloc (.cells #[.int .i64 0, .int .i64 0, .int .i64 0] 47)).heap.size = w.heap.size + 1 := by simp
  generalize hw1 : w.alloc (.cells #[.int .i64 0, .int .i64 0, .int .i64 0] 47) = w1 at *
  clear hw1
  go_loopw [0, 4, 5] (fun t l i wr => ∃ (u : ByteArray) (k : Nat) (acc : List RL), t = .string u ∧ i = .int .i64 k ∧ u.size + k ≤ s.size + 1 ∧ acc.length ≤ 160 ∧ Hid (polL (linesL u.data.toList) k (acc.map er) = P) ∧ Hid (RowsAt wr w1.heap.size l acc) ∧ Hid (Below w1.heap.size w1 wr)) (fun t _ _ _ => match t with | .string u => u.size | _ => 0)
  case atStart => exact ⟨s, 1, [], rfl, rfl, by omega, Nat.zero_le _, HP0, rows_nil _ _, Below.refl _ _⟩
  case round =>
    obtain ⟨u, k, acc, rfl, rfl, huk, ha, HP, HR, HB⟩ := hrel
    by_cases hu : 0 < u.size
    · have hui : (0 : Int) < u.size := by omega
      go_upto_region 6 with fail
      go_upto_block 2 with fail
      go_cut [6] (fun n wx => wx = wr ∧ ∃ j : Nat, n = .int .i64 j ∧ j ≤ u.size ∧ Hid (∀ b ∈ u.data.toList.take j, b ≠ 10) ∧ Hid (∀ h : j < u.size, u[j] = 10))
      case first =>
        go_wp2_with fail
        go_loop [6] (fun n => ∃ j : Nat, n = .int .i64 j ∧ j ≤ u.size ∧ Hid (∀ b ∈ u.data.toList.take j, b ≠ 10)) (fun n => u.size - (intOf n).toNat)
        case atStart => exact ⟨0, rfl, Nat.zero_le _, fun _ h => by simp at h⟩
        case round =>
          obtain ⟨j, rfl, hj, HN⟩ := hrel
          by_cases hlt : j < u.size
          · have hji : (j : Int) < u.size := by omega
            by_cases h10 : (u[j].toNat : Int) = 10
            · have g10 : ((u[j].toNat : Int) != 10) = false := by rw [bne_eq_false_iff_eq]; exact h10
              have HE : Hid (u[j] = 10) := UInt8.toNat_inj.1 (show u[j].toNat = 10 by omega)
              go_wp2
              go_meet
              exact ⟨rfl, j, rfl, hj, HN, fun _ => HE.out⟩
            · have g10 : ((u[j].toNat : Int) != 10) = true := by rw [bne_iff_ne]; exact h10
              have HE : Hid (∀ b ∈ u.data.toList.take (j + 1), b ≠ 10) := by
                intro b hb
                rw [take_snoc u j hlt] at hb
                rcases List.mem_append.1 hb with hb | hb
                · exact HN.out b hb
                · rw [List.mem_singleton.1 hb]; intro e; exact h10 (by rw [e]; rfl)
              clear h10
              go_wp2
              go_round
              case rel => exact ⟨j + 1, by go_num, by omega, HE⟩
              case measure => simp [intOf]; omega
          · go_wp2
            go_meet
            exact ⟨rfl, j, rfl, hj, HN, fun h => (hlt h).elim⟩
      case rest =>
        obtain ⟨hw9, j, rfl, hj, HN, HE⟩ := hcut
        subst hw9
        obtain ⟨wr, rfl⟩ : ∃ w1 : World, w1 = wc := ⟨_, rfl⟩
        have hpar : ∀ W, Calls Tryz.prog 19 #[.string (u.extract 0 j), .int .i64 k] W (DPTo (u.data.toList.take j) k W) := by
          intro W
          have h := RParse_any (u.extract 0 j) k W (by rw [extract_bs, size_bs, List.length_take]; simp; omega)
          rwa [extract_bs, list_bs, List.drop_zero, Nat.sub_zero, ← List.drop_zero (l := u.data.toList), ← Nat.sub_zero j, ← extract_bs, List.drop_zero] at h
        have HPs : Hid (polL (u.data.toList.take j :: linesL (u.data.toList.drop (min (j + 1) u.size))) k (acc.map er) = P) := by
          show _ = _
          rw [← HP.out]
          exact (doc_step (u := u.data.toList) (by simpa using hj) HN.out (fun h => HE.out (by simpa using h)) k _).symm
        clear HP HN HE
        generalize u.data.toList.take j = t at hpar HPs
        have hji : (j : Int) ≤ u.size := by omega
        cases hp : parseL t with
        | bad c d =>
          have HPB : Hid (∀ l, P ≠ .ok l) := by
            intro l
            rw [← HPs.out, polL, hp]; simp
          have HPAR : Hid (∀ W, Calls Tryz.prog 19 #[.string (u.extract 0 j), .int .i64 k] W fun e w' => Below W.heap.size W w' ∧ ∃ c d : Int, d ≠ 0 ∧ e = .returned (.tuple #[zeroV, .bool false, fltV k c d])) := by
            intro W
            refine (hpar W).mono fun e w' h => ?_
            unfold DPTo at h
            rw [hp] at h
            exact h
          clear hpar HPs hp
          go_upto_region 10 with (go_at_call 19; refine (HPAR.out _).mono ?_; rintro e w2 ⟨hb2, c1, d1, hd1, rfl⟩; dsimp only [zeroV, zero11, fltV])
          have hs2 := hb2.size
          have hbz := HB.out.size
          have r9 : ((w2.alloc (.cells #[.int .i64 0, .string ⟨#[]⟩, .slice none 0 0, .int .i64 0, .int .i64 0, .string ⟨#[]⟩, .string ⟨#[]⟩, .string ⟨#[]⟩, .string ⟨#[]⟩, .string ⟨#[]⟩, .int .i64 0] 41)).alloc (.cells #[.int .i64 k, .int .i64 c1, .int .i64 d1] 47)).heap[w2.heap.size + 1]? = some (.cells #[.int .i64 k, .int .i64 c1, .int .i64 d1] 47 (0, 0)) := by
            have := heap_alloc_new (w2.alloc (.cells #[.int .i64 0, .string ⟨#[]⟩, .slice none 0 0, .int .i64 0, .int .i64 0, .string ⟨#[]⟩, .string ⟨#[]⟩, .string ⟨#[]⟩, .string ⟨#[]⟩, .string ⟨#[]⟩, .int .i64 0] 41)) (.cells #[.int .i64 k, .int .i64 c1, .int .i64 d1] 47)
            simpa using this
          have hbw : Below w1.heap.size w1 ((w2.alloc (.cells #[.int .i64 0, .string ⟨#[]⟩, .slice none 0 0, .int .i64 0, .int .i64 0, .string ⟨#[]⟩, .string ⟨#[]⟩, .string ⟨#[]⟩, .string ⟨#[]⟩, .string ⟨#[]⟩, .int .i64 0] 41)).alloc (.cells #[.int .i64 k, .int .i64 c1, .int .i64 d1] 47)) := ((below_then HB.out hb2 hbz).alloc (by omega) _).alloc (by simp; omega) _
          have HBW := Lib.hid hbw
          clear hbw
          generalize (w2.alloc (.cells #[.int .i64 0, .string ⟨#[]⟩, .slice none 0 0, .int .i64 0, .int .i64 0, .string ⟨#[]⟩, .string ⟨#[]⟩, .string ⟨#[]⟩, .string ⟨#[]⟩, .string ⟨#[]⟩, .int .i64 0] 41)).alloc (.cells #[.int .i64 k, .int .i64 c1, .int .i64 d1] 47) = w3 at *
          have r3 : w3.heap[w.heap.size]? = some (.cells #[.int .i64 0, .int .i64 0, .int .i64 0] 47 (0, 0)) := (HBW.out.block _ (by omega)).trans R3.out
          have k0 := flt_q0 r3; have k1 := flt_q1 r3; have k2 := flt_q2 r3; have e0 := flt_fz r3 0; have e1 := flt_fz r3 1; have e2 := flt_fz r3 2
          have q0 := flt_q0 r9; have q1 := flt_q1 r9; have q2 := flt_q2 r9
          have HR3 := Lib.hid r3
          have hdb : (d1 != 0) = true := by rw [bne_iff_ne]; exact hd1
          clear r3 r9 hb2
          go_upto_region 11 with fail
          go_region
          go_wp2
          obtain ⟨h8, g8⟩ := flt_row (.int .i64 k) (.int .i64 c1) (.int .i64 d1) HR3.out _ rfl
          (try simp only [Exit.inBlock, Exit.then])
          refine bodyPost_ret (run_cellUI rfl _ _ w.heap.size _ _ _ _ rfl h8 Tryz.underlying47 rfl (by kernel_rfl)) rfl ?_
          have hbb := below_then HB1.out HBW.out (by omega)
          exact refTo_no HPB.out (below_drew (hbb.grown g8 hbb.size (fun g hg => by cases hg; exact Nat.le_refl _))) hd1
        | empty =>
          have HE : Hid (polL (linesL (u.data.toList.drop (min (j + 1) u.size))) (k + 1) (acc.map er) = P) := by
            show _ = _
            rw [← HPs.out, polL, hp]
          have HPAR : Hid (∀ W, Calls Tryz.prog 19 #[.string (u.extract 0 j), .int .i64 k] W fun e w' => Below W.heap.size W w' ∧ e = .returned (.tuple #[zeroV, .bool true, fltV 0 0 0])) := by
            intro W
            refine (hpar W).mono fun e w' h => ?_
            unfold DPTo at h
            rw [hp] at h
            exact h
          clear hpar HPs hp
          go_upto_region 16 with (go_at_call 19; refine (HPAR.out _).mono ?_; rintro e w2 ⟨hb2, rfl⟩; dsimp only [zeroV, zero11, fltV])
          have hs2 := hb2.size
          have hbz := HB.out.size
          go_wp2
          go_roundw
          case rel => exact ⟨bs (u.data.toList.drop (min (j + 1) u.size)), k + 1, acc, by first | rw [cut_rest] | rw [cut_rest2], by go_num, by rw [size_bs, List.length_drop, size_list]; omega, ha, by rw [list_bs]; exact HE.out, HR.out.below ((hb2.alloc hs2 _).alloc (by simp; omega) _) hbz, ((below_then HB.out hb2 hbz).alloc (by omega) _).alloc (by simp; omega) _⟩
          case measure => (first | rw [cut_rest] | rw [cut_rest2]); simp [size_bs]; omega
        | ok r =>
          obtain ⟨kd, nm, l, rn, rm, rf, rt, rb, ra, ri⟩ := r
          have HPAR : Hid (∀ W, Calls Tryz.prog 19 #[.string (u.extract 0 j), .int .i64 k] W fun e w' => Below W.heap.size W w' ∧ ∃ v, e = .returned (.tuple #[ruV ⟨kd, nm, l, rn, rm, rf, rt, rb, ra, ri⟩ v k, .bool false, fltV 0 0 0]) ∧ OwnL w' W.heap.size v l) := by
            intro W
            refine (hpar W).mono fun e w' h => ?_
            unfold DPTo at h
            rw [hp] at h
            exact h
          clear hpar
          obtain ⟨A, cap, rfl⟩ := own_slice HR.out.1
          go_upto_region 12 with (go_at_call 19; refine (HPAR.out _).mono ?_; rintro e w2 ⟨hb2, L1, rfl, ho1⟩; obtain ⟨A1, c1, rfl⟩ := own_slice ho1; dsimp only [ruV, fltV])
          have hs2 := hb2.size
          have hbz := HB.out.size
          have RA : ((w2.alloc (.cells #[.int .i64 kd, .string (bs nm), .slice A1 l.length c1, .int .i64 rn, .int .i64 rm, .string (bs rf), .string (bs rt), .string (bs rb), .string (bs ra), .string (bs ri), .int .i64 k] 41)).alloc (.cells #[.int .i64 0, .int .i64 0, .int .i64 0] 47)).heap[w2.heap.size]? = some (.cells #[.int .i64 kd, .string (bs nm), .slice A1 l.length c1, .int .i64 rn, .int .i64 rm, .string (bs rf), .string (bs rt), .string (bs rb), .string (bs ra), .string (bs ri), .int .i64 k] 41 (0, 0)) := by rw [heap_alloc_old _ _ (by simp)]; exact heap_alloc_new _ _
          have hbw : Below w2.heap.size w2 ((w2.alloc (.cells #[.int .i64 kd, .string (bs nm), .slice A1 l.length c1, .int .i64 rn, .int .i64 rm, .string (bs rf), .string (bs rt), .string (bs rb), .string (bs ra), .string (bs ri), .int .i64 k] 41)).alloc (.cells #[.int .i64 0, .int .i64 0, .int .i64 0] 47)) := ((Below.refl _ _).alloc (Nat.le_refl _) _).alloc (by simp) _
          have hs3 : w2.heap.size < ((w2.alloc (.cells #[.int .i64 kd, .string (bs nm), .slice A1 l.length c1, .int .i64 rn, .int .i64 rm, .string (bs rf), .string (bs rt), .string (bs rb), .string (bs ra), .string (bs ri), .int .i64 k] 41)).alloc (.cells #[.int .i64 0, .int .i64 0, .int .i64 0] 47)).heap.size := by simp; omega
          generalize (w2.alloc (.cells #[.int .i64 kd, .string (bs nm), .slice A1 l.length c1, .int .i64 rn, .int .i64 rm, .string (bs rf), .string (bs rt), .string (bs rb), .string (bs ra), .string (bs ri), .int .i64 k] 41)).alloc (.cells #[.int .i64 0, .int .i64 0, .int .i64 0] 47) = w3 at *
          have HL : Hid (OwnL w3 w1.heap.size (.slice A1 l.length c1) l) := own_base (own_below ho1 hbw hs2) hbz
          have HR3 : Hid (RowsAt w3 w1.heap.size (.slice A acc.length cap) acc) := (HR.out.below hb2 hbz).below hbw (by omega)
          have HB3 : Hid (Below w1.heap.size w1 w3) := below_then (below_then HB.out hb2 hbz) hbw (by omega)
          have r3 : w3.heap[w.heap.size]? = some (.cells #[.int .i64 0, .int .i64 0, .int .i64 0] 47 (0, 0)) := (HB3.out.block _ (by omega)).trans R3.out
          clear ho1 HR HPAR hb2 hbw
          by_cases hfull : acc.length = 160
          · have HE : Hid (∀ l, P ≠ .ok l) := by
              intro l
              rw [← HPs.out, polL, hp]; simp [hfull]
            clear HPs hp HR3 HL RA
            have k0 := flt_q0 r3; have k1 := flt_q1 r3; have k2 := flt_q2 r3; have e0 := flt_fz r3 0; have e1 := flt_fz r3 1; have e2 := flt_fz r3 2
            have R33 := Lib.hid r3
            clear r3
            rw [hfull]
            go_wp2
            obtain ⟨h8, g8⟩ := flt_row (.int .i64 k) (.int .i64 1) (.int .i64 5) R33.out _ rfl
            (try simp only [Exit.inBlock, Exit.then])
            refine bodyPost_ret (run_cellUI rfl _ _ w.heap.size _ _ _ _ rfl h8 Tryz.underlying47 rfl (by kernel_rfl)) rfl ?_
            have hbb := below_then HB1.out HB3.out (by omega)
            exact refTo_no HE.out (hbb.grown g8 hbb.size (fun g hg => by cases hg; exact Nat.le_refl _)) (by decide)
          · have HE : Hid (polL (linesL (u.data.toList.drop (min (j + 1) u.size))) (k + 1) ((acc ++ [((⟨kd, nm, l, rn, rm, rf, rt, rb, ra, ri⟩ : Ru), k, Value.slice A1 l.length c1)]).map er) = P) := by
              show _ = _
              rw [List.map_append, ← HPs.out, polL, hp]
              dsimp only
              rw [if_neg (by simpa using hfull)]
              rfl
            clear HPs hp r3
            have hfi : (acc.length : Int) < 160 := by omega
            have p0 := row_q0 RA; have p1 := row_q1 RA; have p2 := row_q2 RA; have p3 := row_q3 RA; have p4 := row_q4 RA; have p5 := row_q5 RA; have p6 := row_q6 RA; have p7 := row_q7 RA; have p8 := row_q8 RA; have p9 := row_q9 RA; have p10 := row_q10 RA
            clear RA
            have hb3 := HB3.out
            go_wp2_with (at_builtin; go_must (refine wpList_append_own _ rfl (.tmp 49) (.tmp 51) 25 rfl w1.heap.size 41 i0 _ 11 152 Tryz.underlying25 hi hz0 hz1 hz2 rfl (by decide) _ _ _ rfl (HR3.out.1.alloc _) ⟨w3.heap.size, 0, none⟩ 1 1 [.int .i64 kd, .string (bs nm), .slice A1 l.length c1, .int .i64 rn, .int .i64 rm, .string (bs rf), .string (bs rt), .string (bs rb), .string (bs ra), .string (bs ri), .int .i64 k] rfl rfl (cells_new _ _ _) (by intro u hu; simp at hu; rcases hu with rfl | rfl | rfl | rfl | rfl | rfl | rfl | rfl | rfl | rfl | rfl <;> rfl) (by unfold maxLen; omega) (by omega) (by have := hb3.size; simp; omega) ?_); intro v' w4 hown' hg' _)
            have hg2 : (w3.alloc (.cells #[.int .i64 kd, .string (bs nm), .slice A1 l.length c1, .int .i64 rn, .int .i64 rm, .string (bs rf), .string (bs rt), .string (bs rb), .string (bs ra), .string (bs ri), .int .i64 k] 41)).grownBy w4 (Value.slice A acc.length cap).ownBlock := hg'
            have hb4 : Below w1.heap.size w1 w4 := (hb3.alloc (by have := hb3.size; omega) _).grown hg2 (by have := hb3.size; simp; omega) (fun g hg => (HR3.out.1.lt g hg).1)
            clear hg'
            have HN2 : Hid (RowsAt w4 w1.heap.size v' (acc ++ [((⟨kd, nm, l, rn, rm, rf, rt, rb, ra, ri⟩ : Ru), k, Value.slice A1 l.length c1)])) := by
              have hB : Below w3.heap.size w3 (w3.alloc (.cells #[.int .i64 kd, .string (bs nm), .slice A1 l.length c1, .int .i64 rn, .int .i64 rm, .string (bs rf), .string (bs rt), .string (bs rb), .string (bs ra), .string (bs ri), .int .i64 k] 41)) := (Below.refl _ _).alloc (Nat.le_refl _) _
              have hba := hb3.size
              have hO := own_below HR3.out.1 hB hba
              refine ⟨?_, fun x hx => ?_⟩
              · rw [rcells_snoc, List.length_append]
                exact hown'
              · have hxo : OwnL w3 w1.heap.size x.2.2 x.1.list := by
                  rcases List.mem_append.1 hx with hx | hx
                  · exact HR3.out.2 x hx
                  · rw [List.mem_singleton.1 hx]; exact HL.out
                exact (own_below hxo hB hba).kept hg2 (own_apart (own_below hxo hB hba) hO)
            clear hown' HR3 HL
            go_roundw
            case rel => exact ⟨bs (u.data.toList.drop (min (j + 1) u.size)), k + 1, _, by first | rw [cut_rest] | rw [cut_rest2], by go_num, by rw [size_bs, List.length_drop, size_list]; omega, by simp; omega, by rw [list_bs]; exact HE.out, HN2.out, hb4⟩
            case measure => (first | rw [cut_rest] | rw [cut_rest2]); simp [size_bs]; omega
    · have HF : Hid (P = .ok (acc.map er)) := by
        show _ = _
        rw [← HP.out]
        have : u.data.toList = [] := List.eq_nil_of_length_eq_zero (by rw [size_list]; omega)
        rw [this]; simp [linesL, polL, parse_nil]
      have r3 : wr.heap[w.heap.size]? = some (.cells #[.int .i64 0, .int .i64 0, .int .i64 0] 47 (0, 0)) := (HB.out.block _ (by omega)).trans R3.out
      have k0 := flt_q0 r3; have k1 := flt_q1 r3; have k2 := flt_q2 r3; have e0 := flt_fz r3 0; have e1 := flt_fz r3 1; have e2 := flt_fz r3 2
      have HR3 := Lib.hid r3
      clear r3
      go_wp2
      obtain ⟨h8, g8⟩ := flt_row (.int .i64 0) (.int .i64 0) (.int .i64 0) HR3.out _ rfl
      (try simp only [Exit.inBlock, Exit.then])
      refine bodyPost_ret (run_cellUI rfl _ _ w.heap.size _ _ _ _ rfl h8 Tryz.underlying47 rfl (by kernel_rfl)) rfl ?_
      have hbz := (below_then HB1.out HB.out (by omega)).size
      refine refTo_ok HF.out ((below_then HB1.out HB.out (by omega)).grown g8 hbz (fun g hg => by cases hg; exact Nat.le_refl _)) ?_
      exact (rows_low HR.out g8 (by omega)).base (by omega)
theorem RefParse_any (s : ByteArray) (w : World) : Calls Tryz.prog 9 #[.string s] w (RefTo (polT s.data.toList) w) := by
  by_cases h : 4096 < s.size
  · exact RefParse_long s w h
  · have e : polT s.data.toList = polL (linesL s.data.toList) 1 [] := by unfold polT; rw [if_neg (by rw [size_list]; exact h)]
    rw [e]; exact RefParse_lines s w h
end Go.Proofs.YtahgfmobdfhaaaaGreatDoor
/-
  Rules of a text, as the document reads them (none, if it is none).
-/
namespace Go.Proofs.YtahgfmobdfhaaaaGreatDoor
set_option maxRecDepth 100000
open Go.ChangeShapes Go.WideShapes Go.ChangeAt Go.RowKit

def PolR.l : PolR → List (Ru × Nat)
  | .ok l => l
  | _ => []
/-- rules that are the call's own -/
def RulTo (l : List (Ru × Nat)) (w : World) (e : Ending) (w' : World) : Prop := Below w.heap.size w w' ∧ ∃ v acc, e = .returned v ∧ acc.map er = l ∧ RowsAt w' w.heap.size v acc
theorem rul_of {p : PolR} {w w' : World} {e : Ending} (h : RefTo p w e w') : Below w.heap.size w w' ∧ ∃ v acc, (∃ a b c : Int, e = .returned (.tuple #[v, fltV a b c])) ∧ acc.map er = p.l ∧ RowsAt w' w.heap.size v acc := by
  obtain ⟨hb, h⟩ := h
  refine ⟨hb, ?_⟩
  cases p with
  | limit => obtain ⟨n, c, k, _, rfl⟩ := h; exact ⟨_, [], ⟨_, _, _, rfl⟩, rfl, rows_nil _ _⟩
  | bad a b d => obtain ⟨n, c, k, _, rfl⟩ := h; exact ⟨_, [], ⟨_, _, _, rfl⟩, rfl, rows_nil _ _⟩
  | ok l => obtain ⟨v, acc, rfl, ha, hr⟩ := h; exact ⟨_, acc, ⟨_, _, _, rfl⟩, ha, hr⟩
theorem PlayRules_any (s : ByteArray) (w : World) : Calls Tryz.prog 4 #[.string s] w (RulTo (polT s.data.toList).l w) := by
  have HP := Lib.hid ((RefParse_any s w).mono fun e w' h => rul_of h)
  generalize (polT s.data.toList).l = l at HP
  go_enter Tryz.func4, Tryz.ntmps4
  go_wp2_with (go_at_call 9; refine HP.out.mono ?_; rintro e w1 ⟨hb, v, acc, ⟨a, b, c, rfl⟩, ha, hr⟩; dsimp only [fltV]; have HA := Lib.hid ha; clear ha)
  go_ret
  have hs := hb.size
  exact ⟨hb.alloc hs _, v, acc, rfl, HA.out, hr.below ((Below.refl _ _).alloc (Nat.le_refl _) _) hs⟩
end Go.Proofs.YtahgfmobdfhaaaaGreatDoor
/-
  What was read as rules, told again: no longer than it was, and each rule a line of its own.
-/
namespace Go.Proofs.YtahgfmobdfhaaaaGreatDoor

theorem toks_sum : ∀ (n : Nat) (l : Tx), l.length ≤ n → ∀ c, (joinP (tx (toks l c))).length ≤ l.length := by
  intro n
  induction n with
  | zero =>
    intro l h c
    have : l = [] := List.eq_nil_of_length_eq_zero (by omega)
    subst this
    simp [toks_nil, tx, joinP, Lib.join]
  | succ n ih =>
    intro l h c
    by_cases hl : l = []
    · subst hl; simp [toks_nil, tx, joinP, Lib.join]
    have hpos : 0 < l.length := List.length_pos_iff.2 hl
    have hw : (word l).length ≤ l.length := (List.takeWhile_sublist _).length_le
    rw [toks_step]
    have i := ih (l.drop ((word l).length + 1)) (by simp; omega) (c + (word l).length + 1)
    by_cases hd : l.drop ((word l).length + 1) = []
    · rw [hd, toks_nil, List.append_nil]
      split
      · simp [tx, joinP, Lib.join]
      · show (joinP [word l]).length ≤ _
        rw [join_one]; exact hw
    · have hdl := List.length_pos_iff.2 hd
      generalize toks (l.drop ((word l).length + 1)) (c + (word l).length + 1) = T at i ⊢
      rw [List.length_drop] at i hdl
      split
      · rw [List.nil_append]; omega
      · cases T with
        | nil =>
          show (joinP [word l]).length ≤ _
          rw [join_one]; exact hw
        | cons x T =>
          show (joinP (word l :: x.2 :: tx T)).length ≤ _
          rw [join_cons2]
          have i2 : (joinP (x.2 :: tx T)).length ≤ l.length - ((word l).length + 1) := i
          simp only [List.length_append, List.length_cons]
          omega
theorem told_len {L : Tx} {r : Ru} (h : parseL L = .ok r) : (joinP (lineP r)).length ≤ L.length := by
  rw [(parse_told h).2]
  unfold wordsL
  split
  · exact Nat.le_trans (toks_sum _ _ (Nat.le_refl _) _) (partL_le L)
  · simp [tx, joinP, Lib.join]
/-- the bytes of lines, an end of line behind each -/
def linesLen (ls : List Tx) : Nat := (ls.map (·.length + 1)).sum
theorem linesLen_all : ∀ s : Tx, linesLen (linesL s) = s.length + 1
  | [] => rfl
  | c :: r => by
    have ih := linesLen_all r
    by_cases hc : c = 10
    · subst hc; rw [lines_end]; simp only [linesLen, List.map_cons, List.sum_cons, List.length_nil, List.length_cons] at ih ⊢; omega
    · obtain ⟨a, t, e⟩ := lines_ne r
      rw [e] at ih
      rw [lines_cons hc e]; simp only [linesLen, List.map_cons, List.sum_cons, List.length_cons] at ih ⊢; omega
/-- Rules read from lines: each told and read again is itself, the lines told are no longer than those read, the numbers ascend. -/
theorem pol_told : ∀ (ls : List Tx) (n : Nat) (acc l : List (Ru × Nat)), polL ls n acc = .ok l → ∃ us : List (Ru × Nat), l = acc ++ us ∧ (∀ x ∈ us, parseL (joinP (lineP x.1)) = .ok x.1 ∧ n ≤ x.2) ∧
    linesLen (us.map (fun x => joinP (lineP x.1))) ≤ linesLen ls ∧ us.Pairwise (fun x y => x.2 < y.2)
  | [], n, acc, l, h => by
    rw [polL] at h; cases h
    exact ⟨[], by simp, by simp, by simp [linesLen], List.Pairwise.nil⟩
  | t :: r, n, acc, l, h => by
    rw [polL] at h
    split at h
    · cases h
    · obtain ⟨us, e, h1, h2, h3⟩ := pol_told r (n + 1) acc l h
      refine ⟨us, e, fun x hx => ⟨(h1 x hx).1, by have := (h1 x hx).2; omega⟩, ?_, h3⟩
      simp only [linesLen, List.map_cons, List.sum_cons] at h2 ⊢; omega
    · rename_i u hu
      split at h
      · cases h
      · obtain ⟨us, e, h1, h2, h3⟩ := pol_told r (n + 1) (acc ++ [(u, n)]) l h
        refine ⟨(u, n) :: us, by rw [e]; simp, ?_, ?_, ?_⟩
        · intro x hx
          rcases List.mem_cons.1 hx with rfl | hx
          · exact ⟨(parse_told hu).1, Nat.le_refl _⟩
          · exact ⟨(h1 x hx).1, by have := (h1 x hx).2; omega⟩
        · have := told_len hu
          simp only [linesLen, List.map_cons, List.sum_cons] at h2 ⊢; omega
        · exact List.Pairwise.cons (fun y hy => by have := (h1 y hy).2; show n < y.2; omega) h3
end Go.Proofs.YtahgfmobdfhaaaaGreatDoor
