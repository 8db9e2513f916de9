/-
  Package order: pairSets.
-/
import Derived.Test.YtkalfhhdljndfaaGreatDoorOrd1
import Derived.Deep.RegionWith
import Derived.Test.YtkalfhhdljndfaaGreatDoorDuty1
namespace Go.Proofs.YtkalfhhdljndfaaGreatDoor
set_option maxRecDepth 100000
open Go.ChangeShapes Go.WideShapes Go.ChangeAt Go.RowKit

/-- pairs in cells -/
def PAt (w : World) (A : Option Addr) (c : Nat) (ps : List Pr) : Prop := ps.length ≤ c ∧ ∀ j (hj : j < ps.length), ∃ g, A = some ⟨g, 0, none⟩ ∧ g < w.heap.size ∧ w.cell? ⟨g, j * 2, none⟩ = some (.string (bs ps[j].1)) ∧ w.cell? ⟨g, j * 2 + 1, none⟩ = some (.string (bs ps[j].2))
theorem PAt.below {w w' : World} {A : Option Addr} {c : Nat} {ps : List Pr} (h : PAt w A c ps) (hb : Below w.heap.size w w') : PAt w' A c ps :=
  ⟨h.1, fun j hj => let ⟨g, e, hl, hc, hd⟩ := h.2 j hj; ⟨g, e, Nat.lt_of_lt_of_le hl hb.size, (hb.cell (p := ⟨g, j * 2, none⟩) hl).trans hc, (hb.cell (p := ⟨g, j * 2 + 1, none⟩) hl).trans hd⟩⟩
theorem idxI_in {l : List Tx} {x : Tx} (h : x ∈ l) : idxI l x = (nix l x : Nat) := by unfold idxI nix; rw [if_pos h]
theorem idxI_out {l : List Tx} {x : Tx} (h : x ∉ l) : idxI l x = -1 := by unfold idxI; rw [if_neg h]
theorem Index_in (l : List Tx) (x : Tx) (A : Option Addr) (c : Nat) (w : World) (h : ListAt w A c l) (hl : l.length ≤ 1000000) (hx : x ∈ l) :
    Calls Tryz.prog 61 #[.slice A l.length c, .string (bs x)] w fun e w' => e = .returned (.int .i64 (nix l x : Nat)) ∧ w = w' := by
  have := IndexX_any l x A c w h hl
  rwa [idxI_in hx] at this
theorem Index_out (l : List Tx) (x : Tx) (A : Option Addr) (c : Nat) (w : World) (h : ListAt w A c l) (hl : l.length ≤ 1000000) (hx : x ∉ l) :
    Calls Tryz.prog 61 #[.slice A l.length c, .string (bs x)] w fun e w' => e = .returned (.int .i64 (-1)) ∧ w = w' := by
  have := IndexX_any l x A c w h hl
  rwa [idxI_out hx] at this

/-- what pairSets answers -/
def SetsTo (names : List Tx) (ps : List Pr) (w : World) (e : Ending) (w' : World) : Prop := Below w.heap.size w w' ∧
  ((ps.all (inN names) = false ∧ e = .returned (.tuple #[.slice none 0 0, .bool false])) ∨
   (ps.all (inN names) = true ∧ ∃ g, e = .returned (.tuple #[.slice (some ⟨g, 0, none⟩) names.length names.length, .bool true]) ∧ UL w' w.heap.size g (psL names ps) ∧ (psL names ps).length = names.length))
theorem setsTo_no {names : List Tx} {ps : List Pr} {w w' : World} (h : ps.all (inN names) = false) (hb : Below w.heap.size w w') : SetsTo names ps w (.returned (.tuple #[.slice none 0 0, .bool false])) w' := ⟨hb, .inl ⟨h, rfl⟩⟩
theorem setsTo_ok {names : List Tx} {ps : List Pr} {w w' : World} {g : Nat} (h : ps.all (inN names) = true) (hu : UL w' w.heap.size g (psL names ps)) (hl : (psL names ps).length = names.length) (hb : Below w.heap.size w w') : SetsTo names ps w (.returned (.tuple #[.slice (some ⟨g, 0, none⟩) names.length names.length, .bool true])) w' := ⟨hb, .inr ⟨h, g, rfl, hu, hl⟩⟩
theorem Tryz.infoU32 : (Tryz.prog.info? 40).map (fun i => (i.zero, i.size, i.bytes)) = some (some (.int .u32 0), 1, 4) := by kernel_rfl
theorem psL_length (names : List Tx) (ps : List Pr) : (psL names ps).length = names.length := by
  unfold psL
  suffices H : ∀ (ps : List Pr) (bl : List Nat), (ps.foldl (pset names) bl).length = bl.length from by rw [H]; simp
  intro ps
  induction ps with
  | nil => intro bl; rfl
  | cons p r ih => intro bl; rw [List.foldl_cons, ih]; simp [pset]
theorem all_bad {names : List Tx} {ps : List Pr} {k : Nat} (h : k < ps.length) (hb : inN names ps[k] = false) : ps.all (inN names) = false := by
  rw [List.all_eq_false]; exact ⟨ps[k], List.getElem_mem h, by simp [hb]⟩
theorem all_take {names : List Tx} {ps : List Pr} (h : ∀ p ∈ ps, inN names p = true) : ps.all (inN names) = true := List.all_eq_true.2 h
theorem ul_zeros (w : World) (base g n : Nat) (h : w.ownsRow base 40 1 (.slice (some ⟨g, 0, none⟩) n n) n (madeCells (Value.int .u32 0).cells (n * 1)).toList) : UL w base g (List.replicate n 0) := by
  unfold UL
  rw [List.length_replicate]
  have e : ucells (List.replicate n 0) = (madeCells (Value.int .u32 0).cells (n * 1)).toList := by
    rw [show (Value.int .u32 0).cells = #[.int .u32 0] from rfl, Nat.mul_one, toList_madeCells_one]; simp [ucells]
  rw [e]; exact h
set_option maxHeartbeats 2000000 in
theorem pairSets_any (names : List Tx) (ps : List Pr) (A B : Option Addr) (c d : Nat) (w : World) (hn : ListAt w A c names) (hp : PAt w B d ps) (hl : names.length ≤ 24) (hpl : ps.length ≤ 1000000) :
    Calls Tryz.prog 165 #[.slice A names.length c, .slice B ps.length d] w (SetsTo names ps w) := by
  obtain ⟨i0, hi, hz0, hz1, hz2⟩ := info_parts Tryz.infoU32
  have HN := Lib.hid hn
  have HP := Lib.hid hp
  have hcc := hn.1
  have hdd := hp.1
  clear hn hp
  generalize hm : names.length = n at *
  have HM := Lib.hid hm
  clear hm
  go_enter Tryz.func165, Tryz.ntmps165
  go_wp2_with (refine wpList_make_full _ rfl (.tmp 11) (.tmp 11) 88 rfl w.heap.size 40 i0 _ 1 Tryz.underlying88 hi hz0 hz1 _ _ _ _ n rfl rfl rfl rfl (by rw [hz2]; omega) (by unfold maxLen; omega) (Nat.le_refl _) ?_; intro w1 hown hg1)
  have HU0 := Lib.hid (ul_zeros w1 w.heap.size w.heap.size n hown)
  have HB0 := Lib.hid ((Below.refl w.heap.size w).grown hg1 (Nat.le_refl _) (fun j e => by cases e))
  have hsz1 := HB0.out.size
  clear hown hg1
  go_wp2
  go_loopw [4, 15] (fun v i wr => ∃ k : Nat, k ≤ ps.length ∧ v = .slice (some ⟨w.heap.size, 0, none⟩) n n ∧ i = .int .i64 k ∧ Hid (∀ p ∈ ps.take k, inN names p = true) ∧ Hid (UL wr w.heap.size w.heap.size (psL names (ps.take k))) ∧ Hid (Below w.heap.size w wr)) (fun _ i _ => ps.length - (intOf i).toNat)
  case atStart => exact ⟨0, Nat.zero_le _, rfl, rfl, fun p hp => by simp at hp, by show UL _ _ _ (psL names (ps.take 0)); rw [List.take_zero]; unfold psL; rw [HM.out]; exact HU0.out, HB0⟩
  case round =>
    obtain ⟨k, hk, rfl, rfl, HI, HU, HB⟩ := hrel
    have hbz := HB.out.size
    by_cases hlt : k < ps.length
    · obtain ⟨g, rfl, hgl, hx, hy⟩ := (HP.out.below HB.out).2 k hlt
      have hll : (psL names (ps.take k)).length = n := by rw [psL_length, HM.out]
      have hsn : psL names (ps.take (k + 1)) = pset names (psL names (ps.take k)) ps[k] := by rw [List.take_succ_eq_append_getElem hlt, psL_snoc]
      have hall : inN names ps[k] = true → ∀ p ∈ ps.take (k + 1), inN names p = true := fun h p hp => by
        rw [List.take_succ_eq_append_getElem hlt] at hp
        rcases List.mem_append.1 hp with hp | hp
        · exact HI.out p hp
        · rw [List.mem_singleton.1 hp]; exact h
      have hbad := fun h => all_bad (names := names) hlt h
      have hbA : ∀ o, Below w.heap.size w (wr.alloc o) := fun o => HB.out.alloc hbz o
      have hnA := HN.out.below (hbA (.cells #[.string (bs ps[k].1), .string (bs ps[k].2)] 264))
      have HBA := Lib.hid (hbA (.cells #[.string (bs ps[k].1), .string (bs ps[k].2)] 264))
      clear hbA
      have hlo2 := (psL_all names (by rw [HM.out]; exact hl) (ps.take k) HI.out).2.1
      generalize ps[k] = p at *
      obtain ⟨sn, jn⟩ := p
      have i1 := fun h => Index_in names sn A c (wr.alloc (.cells #[.string (bs sn), .string (bs jn)] 264)) hnA (by rw [HM.out]; omega) h
      have i2 := fun h => Index_in names jn A c (wr.alloc (.cells #[.string (bs sn), .string (bs jn)] 264)) hnA (by rw [HM.out]; omega) h
      have o1 := fun h => Index_out names sn A c (wr.alloc (.cells #[.string (bs sn), .string (bs jn)] 264)) hnA (by rw [HM.out]; omega) h
      have o2 := fun h => Index_out names jn A c (wr.alloc (.cells #[.string (bs sn), .string (bs jn)] 264)) hnA (by rw [HM.out]; omega) h
      rw [HM.out] at i1 i2 o1 o2
      have I1 := Lib.hid i1; have I2 := Lib.hid i2; have O1 := Lib.hid o1; have O2 := Lib.hid o2
      clear i1 i2 o1 o2 hnA
      have tok1 : True := trivial
      by_cases h1 : sn ∈ names
      · by_cases h2 : jn ∈ names
        · have HA2 := Lib.hid (hall (by simp [inN, h1, h2]))
          have hai := idx_lt h1
          have hbi := idx_lt h2
          have C1 := Lib.hid (I1.out h1)
          have C2 := Lib.hid (I2.out h2)
          clear I1 I2 O1 O2 hbad hall h1 h2
          rw [HM.out] at hai hbi
          unfold pset at hsn
          simp only at hsn
          generalize nix names sn = a at *
          generalize nix names jn = b at *
          generalize psL names (ps.take k) = cur at *
          have HUA := Lib.hid (World.ownsRow.alloc HU.out (.cells #[.string (bs sn), .string (bs jn)] 264))
          have x1 := ul_cell HUA.out (j := a) (by omega)
          have f1 := ul_frozen HUA.out a
          have HST := Lib.hid (ul_store HUA.out a (cur.getD a 0 ||| bitN b))
          rw [← hsn] at HST
          have hv := or_val (cur.getD a 0) (bitN b) (hlo2 a) (pow_lo (by omega))
          have ga : decide ((a : Int) < 0) = false := by simp
          have gb : decide ((b : Int) < 0) = false := by simp
          clear hsn hlo2
          generalize cur.getD a 0 ||| bitN b = z at *
          generalize cur.getD a 0 = y at *
          go_upto_region 9 with (first
            | (have _t := tok1; go_at_call 61; refine C1.out.mono ?_; rintro e w2 ⟨rfl, rfl⟩; clear tok1 _t)
            | (go_at_call 61; refine C2.out.mono ?_; rintro e w3 ⟨rfl, rfl⟩))
          have HU3 : Hid (UL ((wr.alloc (.cells #[.string (bs sn), .string (bs jn)] 264)).setCell ⟨w.heap.size, a, none⟩ (.int .u32 z)).drew w.heap.size w.heap.size (psL names (ps.take (k + 1)))) := HST.out.1
          have HB3 : Hid (Below w.heap.size w ((wr.alloc (.cells #[.string (bs sn), .string (bs jn)] 264)).setCell ⟨w.heap.size, a, none⟩ (.int .u32 z)).drew) := below_drew (HBA.out.grown HST.out.2 HBA.out.size (fun j e => by cases e; exact Nat.le_refl _))
          go_region_with (go_at_call 118; refine (bit_any b _ (by omega)).mono ?_; rintro e w4 ⟨rfl, rfl⟩)
          all_goals
            generalize ((wr.alloc (.cells #[.string (bs sn), .string (bs jn)] 264)).setCell ⟨w.heap.size, a, none⟩ (.int .u32 z)).drew = w5 at HU3 HB3 ⊢
            go_wp2
            go_roundw
            case rel => exact ⟨k + 1, by omega, rfl, by go_num, HA2, HU3, HB3⟩
            case measure => simp [intOf]; omega
        · have HD := Lib.hid (hbad (by simp [inN, h2]))
          have C1 := Lib.hid (I1.out h1)
          have C2 := Lib.hid (O2.out h2)
          clear I1 I2 O1 O2 hbad hall h1 h2 hlo2 hsn
          generalize nix names sn = a at *
          have ga : decide ((a : Int) < 0) = false := by simp
          go_wp2_with (first
            | (have _t := tok1; go_at_call 61; refine C1.out.mono ?_; rintro e w2 ⟨rfl, rfl⟩; clear tok1 _t)
            | (go_at_call 61; refine C2.out.mono ?_; rintro e w3 ⟨rfl, rfl⟩))
          go_ret2
          exact setsTo_no HD.out HBA.out
      · have HD := Lib.hid (hbad (by simp [inN, h1]))
        have C1 := Lib.hid (O1.out h1)
        have key : ∃ r : Int, Calls Tryz.prog 61 #[.slice A n c, .string (bs jn)] (wr.alloc (.cells #[.string (bs sn), .string (bs jn)] 264)) fun e w' => e = .returned (.int .i64 r) ∧ (wr.alloc (.cells #[.string (bs sn), .string (bs jn)] 264)) = w' := by
          by_cases h2 : jn ∈ names
          · exact ⟨_, I2.out h2⟩
          · exact ⟨_, O2.out h2⟩
        obtain ⟨r, c2⟩ := key
        have C2 := Lib.hid c2
        clear c2 I1 I2 O1 O2 hbad hall h1 hlo2 hsn
        go_wp2_with (first
          | (have _t := tok1; go_at_call 61; refine C1.out.mono ?_; rintro e w2 ⟨rfl, rfl⟩; clear tok1 _t)
          | (go_at_call 61; refine C2.out.mono ?_; rintro e w3 ⟨rfl, rfl⟩))
        go_ret2
        exact setsTo_no HD.out HBA.out
    · have HT : Hid (ps.take k = ps) := List.take_of_length_le (by omega)
      rw [HT.out] at HI HU
      have HE := Lib.hid (setsTo_ok (all_take HI.out) HU.out (psL_length names ps) HB.out)
      rw [HM.out] at HE
      go_wp2
      go_ret2
      exact HE.out
end Go.Proofs.YtkalfhhdljndfaaGreatDoor
/-
  Package order: New.
-/
namespace Go.Proofs.YtkalfhhdljndfaaGreatDoor
set_option maxRecDepth 100000
open Go.ChangeShapes Go.WideShapes Go.ChangeAt Go.RowKit

/-- an order in memory -/
structure OrdAt (w : World) (g : Nat) (names : List Tx) (bl : List Nat) : Prop where
  len : bl.length = names.length
  few : names.length ≤ 24
  lo : Lo bl
  lt : g < w.heap.size
  list : ∃ A c, w.cell? ⟨g, 0, none⟩ = some (.slice A names.length c) ∧ ListAt w A c names
  sets : ∃ h, w.cell? ⟨g, 1, none⟩ = some (.slice (some ⟨h, 0, none⟩) names.length names.length) ∧ h < w.heap.size ∧ ∀ j, j < names.length → w.cell? ⟨h, j, none⟩ = some (.int .u32 (bl.getD j 0 : Nat))
theorem OrdAt.below {w w' : World} {g : Nat} {names : List Tx} {bl : List Nat} (h : OrdAt w g names bl) (hb : Below w.heap.size w w') : OrdAt w' g names bl :=
  ⟨h.len, h.few, h.lo, Nat.lt_of_lt_of_le h.lt hb.size,
   let ⟨A, c, e, hL⟩ := h.list; ⟨A, c, (hb.cell (p := ⟨g, 0, none⟩) h.lt).trans e, hL.below hb⟩,
   let ⟨k, e, hk, hc⟩ := h.sets; ⟨k, (hb.cell (p := ⟨g, 1, none⟩) h.lt).trans e, Nat.lt_of_lt_of_le hk hb.size, fun j hj => (hb.cell (p := ⟨k, j, none⟩) hk).trans (hc j hj)⟩⟩

def errV (k : Int) : Value := .iface 49 (.int .i64 k)
def NewTo (names : List Tx) (ps : List Pr) (w : World) (e : Ending) (w' : World) : Prop := Below w.heap.size w w' ∧ match newP names ps with
  | .bad k => e = .returned (.tuple #[.pointer none, errV k])
  | .ok bl => ∃ g, e = .returned (.tuple #[.pointer (some ⟨g, 0, none⟩), .nilIface]) ∧ OrdAt w' g names bl
theorem newTo_bad {names : List Tx} {ps : List Pr} {w w' : World} {k : Int} (h : newP names ps = .bad k) (hb : Below w.heap.size w w') : NewTo names ps w (.returned (.tuple #[.pointer none, .iface 49 (.int .i64 k)])) w' := ⟨hb, by rw [h]; rfl⟩
theorem newTo_ok {names : List Tx} {ps : List Pr} {w w' : World} {bl : List Nat} {g : Nat} (h : newP names ps = .ok bl) (hb : Below w.heap.size w w') (ho : OrdAt w' g names bl) : NewTo names ps w (.returned (.tuple #[.pointer (some ⟨g, 0, none⟩), .nilIface])) w' := ⟨hb, by rw [h]; exact ⟨g, rfl, ho⟩⟩

theorem new_limit {names : List Tx} {ps : List Pr} (h : 24 < names.length) : newP names ps = .bad 5 := by unfold newP; rw [if_pos h]
theorem new_there {names : List Tx} {ps : List Pr} (h : names.length ≤ 24) (h2 : ¬ names.Nodup) : newP names ps = .bad 4 := by unfold newP; rw [if_neg (by omega), if_pos h2]
theorem new_none {names : List Tx} {ps : List Pr} (h : names.length ≤ 24) (h2 : names.Nodup) (h3 : ps.all (inN names) = false) : newP names ps = .bad 3 := by unfold newP; rw [if_neg (by omega), if_neg (by simp [h2]), if_pos h3]
theorem new_circle {names : List Tx} {ps : List Pr} (h : names.length ≤ 24) (h2 : names.Nodup) (h3 : ps.all (inN names) = true) (h4 : circ (folL names ps) = true) : newP names ps = .bad 6 := by unfold newP; rw [if_neg (by omega), if_neg (by simp [h2]), if_neg (by simp [h3]), if_pos h4]
theorem new_ok {names : List Tx} {ps : List Pr} (h : names.length ≤ 24) (h2 : names.Nodup) (h3 : ps.all (inN names) = true) (h4 : circ (folL names ps) = false) : newP names ps = .ok (selfTo (folL names ps) names.length) := by unfold newP; rw [if_neg (by omega), if_neg (by simp [h2]), if_neg (by simp [h3]), if_neg (by simp [h4])]

theorem folL_length (names : List Tx) (ps : List Pr) : (folL names ps).length = names.length := by rw [folL, folTo_length, psL_length]
theorem folL_lo {names : List Tx} {ps : List Pr} (hl : names.length ≤ 24) (h : ps.all (inN names) = true) : Lo (folL names ps) := folTo_lo (psL_all names hl ps (List.all_eq_true.1 h)).2.1 _

section
variable (names : List Tx) (ps : List Pr) (A B : Option Addr) (c d : Nat) (w : World)
theorem new_walk_limit (hl : 24 < names.length) (hm : names.length ≤ 1000000) :
    Calls Tryz.prog 112 #[.slice A names.length c, .slice B ps.length d] w (NewTo names ps w) := by
  have HE := Lib.hid (newTo_bad (w := w) (new_limit (ps := ps) hl) (Below.refl _ _))
  have h1 : decide (24 < names.length) = true := by simpa using hl
  go_enter Tryz.func112, Tryz.ntmps112
  go_wp2
  go_ret2
  exact HE.out
theorem new_walk_there (hl : names.length ≤ 24) (hn : ListAt w A c names) (hd : ¬ names.Nodup) :
    Calls Tryz.prog 112 #[.slice A names.length c, .slice B ps.length d] w (NewTo names ps w) := by
  have HE := Lib.hid (newTo_bad (w := w) (new_there (ps := ps) hl hd) (Below.refl _ _))
  have tw := twice_any names A c w hn (by omega)
  rw [decide_eq_false hd] at tw
  have TW := Lib.hid tw
  clear tw hd hn
  go_enter Tryz.func112, Tryz.ntmps112
  go_wp2_with (go_at_call 164; refine TW.out.mono ?_; rintro e w1 ⟨rfl, rfl⟩)
  go_ret2
  exact HE.out
theorem new_walk_none (hl : names.length ≤ 24) (hn : ListAt w A c names) (hp : PAt w B d ps) (hpl : ps.length ≤ 1000000) (hd : names.Nodup) (ha : ps.all (inN names) = false) :
    Calls Tryz.prog 112 #[.slice A names.length c, .slice B ps.length d] w (NewTo names ps w) := by
  have HE := Lib.hid (fun w' => newTo_bad (w := w) (w' := w') (new_none (ps := ps) hl hd ha))
  have tw := twice_any names A c w hn (by omega)
  rw [decide_eq_true hd] at tw
  have TW := Lib.hid tw
  have SS : Hid (Calls Tryz.prog 165 #[.slice A names.length c, .slice B ps.length d] w fun e w' => e = .returned (.tuple #[.slice none 0 0, .bool false]) ∧ Below w.heap.size w w') := by
    refine (pairSets_any names ps A B c d w hn hp hl hpl).mono ?_
    rintro e w' ⟨hb, ⟨_, he⟩ | ⟨h, _⟩⟩
    · exact ⟨he, hb⟩
    · rw [ha] at h; cases h
  clear tw hd hn ha hp
  go_enter Tryz.func112, Tryz.ntmps112
  go_wp2_with (first
    | (go_at_call 164; refine TW.out.mono ?_; rintro e w1 ⟨rfl, rfl⟩)
    | (go_at_call 165; refine SS.out.mono ?_; rintro e w2 ⟨rfl, hb2⟩))
  go_ret2
  exact HE.out _ hb2
set_option maxHeartbeats 2000000 in
theorem new_walk_rest (hl : names.length ≤ 24) (hn : ListAt w A c names) (hp : PAt w B d ps) (hpl : ps.length ≤ 1000000) (hd : names.Nodup) (ha : ps.all (inN names) = true) :
    Calls Tryz.prog 112 #[.slice A names.length c, .slice B ps.length d] w (NewTo names ps w) := by
  have tw := twice_any names A c w hn (by omega)
  rw [decide_eq_true hd] at tw
  have TW := Lib.hid tw
  have SS : Hid (Calls Tryz.prog 165 #[.slice A names.length c, .slice B ps.length d] w fun e w' => ∃ g, e = .returned (.tuple #[.slice (some ⟨g, 0, none⟩) names.length names.length, .bool true]) ∧ UL w' w.heap.size g (psL names ps) ∧ Below w.heap.size w w') := by
    refine (pairSets_any names ps A B c d w hn hp hl hpl).mono ?_
    rintro e w' ⟨hb, ⟨h, _⟩ | ⟨_, g, he, hu, _⟩⟩
    · rw [ha] at h; cases h
    · exact ⟨g, he, hu, hb⟩
  have hlo := (psL_all names hl ps (List.all_eq_true.1 ha)).2.1
  have hlf := folL_lo hl ha
  have FF := Lib.hid (fun g W base (hu : UL W base g (psL names ps)) => follow_any (psL names ps) base g W hu hlo (by rw [psL_length]; exact hl))
  have CC := Lib.hid (fun g W base (hu : UL W base g (folL names ps)) => circle_any (folL names ps) base g W hu hlf (by rw [folL_length]; exact hl))
  have E6 := Lib.hid (fun (w' : World) (h : circ (folL names ps) = true) => newTo_bad (w := w) (w' := w') (new_circle (ps := ps) hl hd ha h))
  have E0 := Lib.hid (fun (h : circ (folL names ps) = false) => new_ok (ps := ps) hl hd ha h)
  have hpl := psL_length names ps
  have hfl := folL_length names ps
  rw [hpl] at FF
  rw [hfl] at CC
  have FF2 : Hid (∀ g W base, UL W base g (psL names ps) → Calls Tryz.prog 166 #[.slice (some ⟨g, 0, none⟩) names.length names.length] W fun e w' => e = .returned (.tuple #[]) ∧ UL w' base g (folL names ps) ∧ W.grownBy w' (some g)) := fun g W base hu => (FF.out g W base hu).mono fun e w' h => by
    obtain ⟨h1, h2, h3⟩ := h
    rw [hpl] at h2
    exact ⟨h1, h2, h3⟩
  have HN := Lib.hid hn
  have HLF := Lib.hid hlf
  have HFL := Lib.hid hfl
  have hc := hn.1
  clear tw hn hp ha hd hlo hlf hpl hfl FF
  generalize folL names ps = fl at *
  generalize psL names ps = pl at *
  by_cases hci : circ fl = true
  · have HE := Lib.hid (fun w' => E6.out w' hci)
    rw [hci] at CC
    clear hci E6 E0 HLF
    go_enter Tryz.func112, Tryz.ntmps112
    go_wp2_with (first
      | (go_at_call 164; refine TW.out.mono ?_; rintro e w1 ⟨rfl, rfl⟩)
      | (go_at_call 165; refine SS.out.mono ?_; rintro e w2 ⟨g, rfl, hu2, hb2⟩; have hg2 := (ul_lt hu2).1)
      | (go_at_call 166; refine (FF2.out g _ _ hu2).mono ?_; rintro e w3 ⟨rfl, hu3, hgr3⟩)
      | (go_at_call 167; refine (CC.out g _ _ hu3).mono ?_; rintro e w4 ⟨rfl, rfl⟩))
    go_ret2
    exact HE.out _ (hb2.grown hgr3 hb2.size (fun j e => by cases e; exact hg2))
  · have hci' : circ fl = false := by simpa using hci
    have HE := Lib.hid (E0.out hci')
    rw [hci'] at CC
    clear hci hci' E6 E0
    go_enter Tryz.func112, Tryz.ntmps112
    go_wp2_with (first
      | (go_at_call 164; refine TW.out.mono ?_; rintro e w1 ⟨rfl, rfl⟩)
      | (go_at_call 165; refine SS.out.mono ?_; rintro e w2 ⟨g, rfl, hu2, hb2⟩; have hg2 := (ul_lt hu2).1)
      | (go_at_call 166; refine (FF2.out g _ _ hu2).mono ?_; rintro e w3 ⟨rfl, hu3, hgr3⟩)
      | (go_at_call 167; refine (CC.out g _ _ hu3).mono ?_; rintro e w4 ⟨rfl, rfl⟩))
    have HB3 := Lib.hid (hb2.grown hgr3 hb2.size (fun j e => by cases e; exact hg2))
    have HU3 := Lib.hid hu3
    clear hu2 hu3 hgr3 hb2
    go_loopw [32] (fun i wr => ∃ k : Nat, k ≤ names.length ∧ i = .int .i64 k ∧ Hid (UL wr w.heap.size g (selfTo fl k)) ∧ Hid (Below w.heap.size w wr)) (fun i _ => names.length - (intOf i).toNat)
    case atStart => exact ⟨0, Nat.zero_le _, rfl, HU3, HB3⟩
    case round =>
      obtain ⟨k, hk, rfl, HU, HB⟩ := hrel
      by_cases hlt : k < names.length
      · have hlo2 := selfTo_lo HLF.out (by rw [HFL.out]; exact hl) k (by rw [HFL.out]; omega)
        have hsl : (selfTo fl k).length = names.length := by rw [selfTo_length, HFL.out]
        have hsn : selfTo fl (k + 1) = (selfTo fl k).set k ((selfTo fl k).getD k 0 ||| bitN k) := rfl
        generalize selfTo fl k = cur at *
        have x1 := ul_cell HU.out (j := k) (by omega)
        have f1 := ul_frozen HU.out k
        have HST := Lib.hid (ul_store HU.out k (cur.getD k 0 ||| bitN k))
        rw [← hsn] at HST
        have hv := or_val (cur.getD k 0) (bitN k) (hlo2 k) (pow_lo (by omega))
        clear hsn hlo2 hsl
        generalize cur.getD k 0 ||| bitN k = z at *
        generalize cur.getD k 0 = y at *
        have HU5 : Hid (UL (wr.setCell ⟨g, k, none⟩ (.int .u32 z)).drew w.heap.size g (selfTo fl (k + 1))) := HST.out.1
        have HB5 : Hid (Below w.heap.size w (wr.setCell ⟨g, k, none⟩ (.int .u32 z)).drew) := below_drew (HB.out.grown HST.out.2 HB.out.size (fun j e => by cases e; exact hg2))
        go_wp2
        go_region_with (go_at_call 118; refine (bit_any k _ (by omega)).mono ?_; rintro e w4 ⟨rfl, rfl⟩)
        all_goals
          generalize (wr.setCell ⟨g, k, none⟩ (.int .u32 z)).drew = w5 at HU5 HB5 ⊢
          go_wp2
          go_roundw
          case rel => exact ⟨k + 1, by omega, by go_num, HU5, HB5⟩
          case measure => simp [intOf]; omega
      · have HK : Hid (selfTo fl k = selfTo fl names.length) := by show _ = _; congr 1; omega
        rw [HK.out] at HU
        have hbz := HB.out.size
        have CL := Lib.hid (Clone_any names A c wr (HN.out.below HB.out) (by omega))
        go_wp2_with (go_at_call 57; refine CL.out.mono ?_; rintro e w6 ⟨v6, rfl, ho6, hb6⟩; obtain ⟨A6, c6, rfl⟩ := own_slice ho6)
        have hb6z := hb6.size
        have hu6 : UL w6 w.heap.size g (selfTo fl names.length) := ul_below HU.out hb6 hbz
        have hb7 := (below_then HB.out hb6 hbz).alloc (Nat.le_trans hbz hb6z) (.cells #[.slice A6 names.length c6, .slice (some ⟨g, 0, none⟩) names.length names.length] 130)
        have ho : OrdAt (w6.alloc (.cells #[.slice A6 names.length c6, .slice (some ⟨g, 0, none⟩) names.length names.length] 130)) w6.heap.size names (selfTo fl names.length) := by
          have R := heap_alloc_new w6 (.cells #[.slice A6 names.length c6, .slice (some ⟨g, 0, none⟩) names.length names.length] 130)
          have hu7 := World.ownsRow.alloc hu6 (.cells #[.slice A6 names.length c6, .slice (some ⟨g, 0, none⟩) names.length names.length] 130)
          have hl7 : (selfTo fl names.length).length = names.length := by rw [selfTo_length, HFL.out]
          refine ⟨hl7, hl, selfTo_lo HLF.out (by rw [HFL.out]; exact hl) _ (by rw [HFL.out]; exact Nat.le_refl _), by simp, ⟨A6, c6, ?_, ?_⟩, ⟨g, ?_, ?_, ?_⟩⟩
          · rw [cell_of_row _ _ _ _ _ _ R]; rfl
          · exact (listAt_of ho6).below ((Below.refl _ _).alloc (Nat.le_refl _) _)
          · rw [cell_of_row _ _ _ _ _ _ R]; rfl
          · have := (ul_lt hu6).2; simp; omega
          · intro j hj; exact ul_cell hu7 (by omega)
        go_ret2
        exact newTo_ok HE.out hb7 ho
end
theorem New_any (names : List Tx) (ps : List Pr) (A B : Option Addr) (c d : Nat) (w : World) (hn : ListAt w A c names) (hp : PAt w B d ps) (hl : names.length ≤ 1000000) (hpl : ps.length ≤ 1000000) :
    Calls Tryz.prog 112 #[.slice A names.length c, .slice B ps.length d] w (NewTo names ps w) := by
  by_cases h1 : 24 < names.length
  · exact new_walk_limit names ps A B c d w h1 hl
  have h1' : names.length ≤ 24 := by omega
  by_cases h2 : names.Nodup
  · cases h3 : ps.all (inN names)
    · exact new_walk_none names ps A B c d w h1' hn hp hpl h2 h3
    · exact new_walk_rest names ps A B c d w h1' hn hp hpl h2 h3
  · exact new_walk_there names ps A B c d w h1' hn h2
end Go.Proofs.YtkalfhhdljndfaaGreatDoor
