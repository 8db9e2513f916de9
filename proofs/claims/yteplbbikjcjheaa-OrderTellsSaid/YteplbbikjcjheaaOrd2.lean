/-
  Package order: pairSets.
-/
import Derived.Test.YteplbbikjcjheaaOrd1
import Derived.Deep.RegionWith
namespace Go.Proofs.Yteplbbikjcjheaa
set_option maxRecDepth 100000
open Go.ChangeShapes Go.WideShapes Go.ChangeAt Go.RowKit

/-- pairs in cells -/
def PAt (w : World) (A : Option Addr) (c : Nat) (ps : List Pr) : Prop := ps.length ≤ c ∧ ∀ j (hj : j < ps.length), ∃ g, A = some ⟨g, 0, none⟩ ∧ g < w.heap.size ∧ w.cell? ⟨g, j * 2, none⟩ = some (.string (bs ps[j].1)) ∧ w.cell? ⟨g, j * 2 + 1, none⟩ = some (.string (bs ps[j].2))
theorem PAt.below {w w' : World} {A : Option Addr} {c : Nat} {ps : List Pr} (h : PAt w A c ps) (hb : Below w.heap.size w w') : PAt w' A c ps :=
  ⟨h.1, fun j hj => let ⟨g, e, hl, hc, hd⟩ := h.2 j hj; ⟨g, e, Nat.lt_of_lt_of_le hl hb.size, (hb.cell (p := ⟨g, j * 2, none⟩) hl).trans hc, (hb.cell (p := ⟨g, j * 2 + 1, none⟩) hl).trans hd⟩⟩
theorem idxI_in {l : List Tx} {x : Tx} (h : x ∈ l) : idxI l x = (idx l x : Nat) := by unfold idxI idx; rw [if_pos h]
theorem idxI_out {l : List Tx} {x : Tx} (h : x ∉ l) : idxI l x = -1 := by unfold idxI; rw [if_neg h]
theorem Index_in (l : List Tx) (x : Tx) (A : Option Addr) (c : Nat) (w : World) (h : ListAt w A c l) (hl : l.length ≤ 1000000) (hx : x ∈ l) :
    Calls Try.prog 46 #[.slice A l.length c, .string (bs x)] w fun e w' => e = .returned (.int .i64 (idx l x : Nat)) ∧ w = w' := by
  have := Index_any l x A c w h hl
  rwa [idxI_in hx] at this
theorem Index_out (l : List Tx) (x : Tx) (A : Option Addr) (c : Nat) (w : World) (h : ListAt w A c l) (hl : l.length ≤ 1000000) (hx : x ∉ l) :
    Calls Try.prog 46 #[.slice A l.length c, .string (bs x)] w fun e w' => e = .returned (.int .i64 (-1)) ∧ w = w' := by
  have := Index_any l x A c w h hl
  rwa [idxI_out hx] at this

/-- what pairSets answers -/
def SetsTo (names : List Tx) (ps : List Pr) (w : World) (e : Ending) (w' : World) : Prop := Below w.heap.size w w' ∧
  ((ps.all (inN names) = false ∧ e = .returned (.tuple #[.slice none 0 0, .bool false])) ∨
   (ps.all (inN names) = true ∧ ∃ g, e = .returned (.tuple #[.slice (some ⟨g, 0, none⟩) names.length names.length, .bool true]) ∧ UL w' w.heap.size g (psL names ps) ∧ (psL names ps).length = names.length))
theorem setsTo_no {names : List Tx} {ps : List Pr} {w w' : World} (h : ps.all (inN names) = false) (hb : Below w.heap.size w w') : SetsTo names ps w (.returned (.tuple #[.slice none 0 0, .bool false])) w' := ⟨hb, .inl ⟨h, rfl⟩⟩
theorem setsTo_ok {names : List Tx} {ps : List Pr} {w w' : World} {g : Nat} (h : ps.all (inN names) = true) (hu : UL w' w.heap.size g (psL names ps)) (hl : (psL names ps).length = names.length) (hb : Below w.heap.size w w') : SetsTo names ps w (.returned (.tuple #[.slice (some ⟨g, 0, none⟩) names.length names.length, .bool true])) w' := ⟨hb, .inr ⟨h, g, rfl, hu, hl⟩⟩
theorem Try.infoU32 : (Try.prog.info? 23).map (fun i => (i.zero, i.size, i.bytes)) = some (some (.int .u32 0), 1, 4) := by kernel_rfl
theorem psL_length (names : List Tx) (ps : List Pr) : (psL names ps).length = names.length := by
  unfold psL
  suffices H : ∀ (ps : List Pr) (bl : List Nat), (ps.foldl (pset names) bl).length = bl.length from by rw [H]; simp
  intro ps
  induction ps with
  | nil => intro bl; rfl
  | cons p r ih => intro bl; rw [List.foldl_cons, ih]; simp [pset]
theorem all_bad {names : List Tx} {ps : List Pr} {k : Nat} (h : k < ps.length) (hb : inN names ps[k] = false) : ps.all (inN names) = false := by
  rw [List.all_eq_false]; exact ⟨ps[k], List.getElem_mem h, by simp [hb]⟩
theorem all_take {names : List Tx} {ps : List Pr} (h : ∀ p ∈ ps, inN names p = true) : ps.all (inN names) = true := List.all_eq_true.2 h
theorem ul_zeros (w : World) (base g n : Nat) (h : w.ownsRow base 23 1 (.slice (some ⟨g, 0, none⟩) n n) n (madeCells (Value.int .u32 0).cells (n * 1)).toList) : UL w base g (List.replicate n 0) := by
  unfold UL
  rw [List.length_replicate]
  have e : ucells (List.replicate n 0) = (madeCells (Value.int .u32 0).cells (n * 1)).toList := by
    rw [show (Value.int .u32 0).cells = #[.int .u32 0] from rfl, Nat.mul_one, toList_madeCells_one]; simp [ucells]
  rw [e]; exact h
set_option maxHeartbeats 2000000 in
theorem pairSets_any (names : List Tx) (ps : List Pr) (A B : Option Addr) (c d : Nat) (w : World) (hn : ListAt w A c names) (hp : PAt w B d ps) (hl : names.length ≤ 24) (hpl : ps.length ≤ 1000) :
    Calls Try.prog 40 #[.slice A names.length c, .slice B ps.length d] w (SetsTo names ps w) := by
  obtain ⟨i0, hi, hz0, hz1, hz2⟩ := info_parts Try.infoU32
  have HN := Lib.hid hn
  have HP := Lib.hid hp
  have hcc := hn.1
  have hdd := hp.1
  clear hn hp
  generalize hm : names.length = n at *
  have HM := Lib.hid hm
  clear hm
  go_enter Try.func40, Try.ntmps40
  go_wp2_with (refine wpList_make_full _ rfl (.tmp 11) (.tmp 11) 54 rfl w.heap.size 23 i0 _ 1 Try.underlying54 hi hz0 hz1 _ _ _ _ n rfl rfl rfl rfl (by rw [hz2]; omega) (by unfold maxLen; omega) (Nat.le_refl _) ?_; intro w1 hown hg1)
  have HU0 := Lib.hid (ul_zeros w1 w.heap.size w.heap.size n hown)
  have HB0 := Lib.hid ((Below.refl w.heap.size w).grown hg1 (Nat.le_refl _) (fun j e => by cases e))
  have hsz1 := HB0.out.size
  clear hown hg1
  go_wp2
  go_loopw [4, 15] (fun v i wr => ∃ k : Nat, k ≤ ps.length ∧ v = .slice (some ⟨w.heap.size, 0, none⟩) n n ∧ i = .int .i64 k ∧ Hid (∀ p ∈ ps.take k, inN names p = true) ∧ Hid (UL wr w.heap.size w.heap.size (psL names (ps.take k))) ∧ Hid (Below w.heap.size w wr)) (fun _ i _ => ps.length - (intOf i).toNat)
  case atStart => exact ⟨0, Nat.zero_le _, rfl, rfl, fun p hp => by simp at hp, by show UL _ _ _ (psL names (ps.take 0)); rw [List.take_zero]; unfold psL; rw [HM.out]; exact HU0.out, HB0⟩
  case round =>
    obtain ⟨k, hk, rfl, rfl, HI, HU, HB⟩ := hrel
    have hbz := HB.out.size
    by_cases hlt : k < ps.length
    · obtain ⟨g, rfl, hgl, hx, hy⟩ := (HP.out.below HB.out).2 k hlt
      have hll : (psL names (ps.take k)).length = n := by rw [psL_length, HM.out]
      have hsn : psL names (ps.take (k + 1)) = pset names (psL names (ps.take k)) ps[k] := by rw [List.take_succ_eq_append_getElem hlt, psL_snoc]
      have hall : inN names ps[k] = true → ∀ p ∈ ps.take (k + 1), inN names p = true := fun h p hp => by
        rw [List.take_succ_eq_append_getElem hlt] at hp
        rcases List.mem_append.1 hp with hp | hp
        · exact HI.out p hp
        · rw [List.mem_singleton.1 hp]; exact h
      have hbad := fun h => all_bad (names := names) hlt h
      have hbA : ∀ o, Below w.heap.size w (wr.alloc o) := fun o => HB.out.alloc hbz o
      have hnA := HN.out.below (hbA (.cells #[.string (bs ps[k].1), .string (bs ps[k].2)] 31))
      have HBA := Lib.hid (hbA (.cells #[.string (bs ps[k].1), .string (bs ps[k].2)] 31))
      clear hbA
      have hlo2 := (psL_all names (by rw [HM.out]; exact hl) (ps.take k) HI.out).2.1
      generalize ps[k] = p at *
      obtain ⟨sn, jn⟩ := p
      have i1 := fun h => Index_in names sn A c (wr.alloc (.cells #[.string (bs sn), .string (bs jn)] 31)) hnA (by rw [HM.out]; omega) h
      have i2 := fun h => Index_in names jn A c (wr.alloc (.cells #[.string (bs sn), .string (bs jn)] 31)) hnA (by rw [HM.out]; omega) h
      have o1 := fun h => Index_out names sn A c (wr.alloc (.cells #[.string (bs sn), .string (bs jn)] 31)) hnA (by rw [HM.out]; omega) h
      have o2 := fun h => Index_out names jn A c (wr.alloc (.cells #[.string (bs sn), .string (bs jn)] 31)) hnA (by rw [HM.out]; omega) h
      rw [HM.out] at i1 i2 o1 o2
      have I1 := Lib.hid i1; have I2 := Lib.hid i2; have O1 := Lib.hid o1; have O2 := Lib.hid o2
      clear i1 i2 o1 o2 hnA
      have tok1 : True := trivial
      by_cases h1 : sn ∈ names
      · by_cases h2 : jn ∈ names
        · have HA2 := Lib.hid (hall (by simp [inN, h1, h2]))
          have hai := idx_lt h1
          have hbi := idx_lt h2
          have C1 := Lib.hid (I1.out h1)
          have C2 := Lib.hid (I2.out h2)
          clear I1 I2 O1 O2 hbad hall h1 h2
          rw [HM.out] at hai hbi
          unfold pset at hsn
          simp only at hsn
          generalize idx names sn = a at *
          generalize idx names jn = b at *
          generalize psL names (ps.take k) = cur at *
          have HUA := Lib.hid (World.ownsRow.alloc HU.out (.cells #[.string (bs sn), .string (bs jn)] 31))
          have x1 := ul_cell HUA.out (j := a) (by omega)
          have f1 := ul_frozen HUA.out a
          have HST := Lib.hid (ul_store HUA.out a (cur.getD a 0 ||| bitN b))
          rw [← hsn] at HST
          have hv := or_val (cur.getD a 0) (bitN b) (hlo2 a) (pow_lo (by omega))
          have ga : decide ((a : Int) < 0) = false := by simp
          have gb : decide ((b : Int) < 0) = false := by simp
          clear hsn hlo2
          generalize cur.getD a 0 ||| bitN b = z at *
          generalize cur.getD a 0 = y at *
          go_upto_region 9 with (first
            | (have _t := tok1; go_at_call 46; refine C1.out.mono ?_; rintro e w2 ⟨rfl, rfl⟩; clear tok1 _t)
            | (go_at_call 46; refine C2.out.mono ?_; rintro e w3 ⟨rfl, rfl⟩))
          have HU3 : Hid (UL ((wr.alloc (.cells #[.string (bs sn), .string (bs jn)] 31)).setCell ⟨w.heap.size, a, none⟩ (.int .u32 z)).drew w.heap.size w.heap.size (psL names (ps.take (k + 1)))) := HST.out.1
          have HB3 : Hid (Below w.heap.size w ((wr.alloc (.cells #[.string (bs sn), .string (bs jn)] 31)).setCell ⟨w.heap.size, a, none⟩ (.int .u32 z)).drew) := below_drew (HBA.out.grown HST.out.2 HBA.out.size (fun j e => by cases e; exact Nat.le_refl _))
          go_region_with (go_at_call 43; refine (bit_any b _ (by omega)).mono ?_; rintro e w4 ⟨rfl, rfl⟩)
          all_goals
            generalize ((wr.alloc (.cells #[.string (bs sn), .string (bs jn)] 31)).setCell ⟨w.heap.size, a, none⟩ (.int .u32 z)).drew = w5 at HU3 HB3 ⊢
            go_wp2
            go_roundw
            case rel => exact ⟨k + 1, by omega, rfl, by go_num, HA2, HU3, HB3⟩
            case measure => simp [intOf]; omega
        · have HD := Lib.hid (hbad (by simp [inN, h2]))
          have C1 := Lib.hid (I1.out h1)
          have C2 := Lib.hid (O2.out h2)
          clear I1 I2 O1 O2 hbad hall h1 h2 hlo2 hsn
          generalize idx names sn = a at *
          have ga : decide ((a : Int) < 0) = false := by simp
          go_wp2_with (first
            | (have _t := tok1; go_at_call 46; refine C1.out.mono ?_; rintro e w2 ⟨rfl, rfl⟩; clear tok1 _t)
            | (go_at_call 46; refine C2.out.mono ?_; rintro e w3 ⟨rfl, rfl⟩))
          go_ret2
          exact setsTo_no HD.out HBA.out
      · have HD := Lib.hid (hbad (by simp [inN, h1]))
        have C1 := Lib.hid (O1.out h1)
        have key : ∃ r : Int, Calls Try.prog 46 #[.slice A n c, .string (bs jn)] (wr.alloc (.cells #[.string (bs sn), .string (bs jn)] 31)) fun e w' => e = .returned (.int .i64 r) ∧ (wr.alloc (.cells #[.string (bs sn), .string (bs jn)] 31)) = w' := by
          by_cases h2 : jn ∈ names
          · exact ⟨_, I2.out h2⟩
          · exact ⟨_, O2.out h2⟩
        obtain ⟨r, c2⟩ := key
        have C2 := Lib.hid c2
        clear c2 I1 I2 O1 O2 hbad hall h1 hlo2 hsn
        go_wp2_with (first
          | (have _t := tok1; go_at_call 46; refine C1.out.mono ?_; rintro e w2 ⟨rfl, rfl⟩; clear tok1 _t)
          | (go_at_call 46; refine C2.out.mono ?_; rintro e w3 ⟨rfl, rfl⟩))
        go_ret2
        exact setsTo_no HD.out HBA.out
    · have HT : Hid (ps.take k = ps) := List.take_of_length_le (by omega)
      rw [HT.out] at HI HU
      have HE := Lib.hid (setsTo_ok (all_take HI.out) HU.out (psL_length names ps) HB.out)
      rw [HM.out] at HE
      go_wp2
      go_ret2
      exact HE.out
end Go.Proofs.Yteplbbikjcjheaa
