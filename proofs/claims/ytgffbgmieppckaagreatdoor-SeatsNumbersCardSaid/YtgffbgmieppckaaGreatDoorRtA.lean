import Derived.Test.YtgffbgmieppckaaGreatDoorRt8
import Derived.Test.YtgffbgmieppckaaGreatDoorDuty1
namespace Go.Proofs.YtgffbgmieppckaaGreatDoor
set_option maxRecDepth 100000
open Go.ChangeShapes Go.WideShapes Go.ChangeAt Go.RowKit
abbrev eV (k : Int) : Value := .iface 39 (.int .i64 k)
theorem rset_val (names : List Tx) (bl : List Nat) (l : List Tx) (A : Option Addr) (c b o : Nat) (w : World) (hc : w.cell? ⟨b, 0, none⟩ = some (.pointer (some ⟨o, 0, none⟩))) (hO : OrdAt w o names bl) (hL : ListAt w A c l) (hl : l.length ≤ 1000000) :
  Calls Tryz.prog 199 #[.pointer (some ⟨b, 0, none⟩), .slice A l.length c] w fun e w' => e = .returned (.tuple #[.int .u32 ((rtSet names l 0).getD 0 : Nat), .bool (rtSet names l 0).isSome]) ∧ w = w' :=
 (rset_any names bl l A c b o w hc hO hL hl).mono fun e w' h => by
  unfold RsetTo at h
  cases hs : rtSet names l 0 with
  | none => rw [hs] at h; exact h
  | some s => rw [hs] at h; exact h
structure GrwTo (E : Int) (base : Nat) (vl : Value) (own : World → Value → Prop) (w : World) (e : Ending) (w' : World) : Prop where
 no : E ≠ 0 → e = .returned (.tuple #[.slice none 0 0, eV E]) ∧ Below w.heap.size w w'
 ok : E = 0 → ∃ w1 g cp n, Below w.heap.size w w1 ∧ w1.grownBy w' vl.ownBlock ∧ e = .returned (.tuple #[.slice (some ⟨g, 0, none⟩) n cp, .nilIface]) ∧ own w' (.slice (some ⟨g, 0, none⟩) n cp) ∧ (vl.ownBlock = some g ∨ w.heap.size ≤ g)
theorem grwTo_no {E k : Int} {base : Nat} {vl : Value} {own : World → Value → Prop} {w w' : World} (h : E = k) (hk : k ≠ 0) (hb : Below w.heap.size w w') : GrwTo E base vl own w (.returned (.tuple #[.slice none 0 0, eV k])) w' := by
 subst h; exact ⟨fun _ => ⟨rfl, hb⟩, fun h => absurd h hk⟩
theorem grwTo_ok {E : Int} {base : Nat} {vl : Value} {own : World → Value → Prop} {w w1 w' : World} {g cp n : Nat} (h : E = 0) (hb : Below w.heap.size w w1) (hg : w1.grownBy w' vl.ownBlock) (ho : own w' (.slice (some ⟨g, 0, none⟩) n cp)) (hl : vl.ownBlock = some g ∨ w.heap.size ≤ g) :
  GrwTo E base vl own w (.returned (.tuple #[.slice (some ⟨g, 0, none⟩) n cp, .nilIface])) w' := ⟨fun h9 => absurd h h9, fun _ => ⟨w1, g, cp, n, hb, hg, rfl, ho, hl⟩⟩
theorem hldE_there {names : List Tx} {l : List (Tx × Nat)} {x : Ru} {most : Nat} (h : x.name ∈ l.map (·.1)) : hldE names l x most = 4 := by unfold hldE; rw [if_pos h]
theorem hldE_limit {names : List Tx} {l : List (Tx × Nat)} {x : Ru} {most : Nat} (h : x.name ∉ l.map (·.1)) (h2 : most ≤ l.length) : hldE names l x most = 5 := by unfold hldE; rw [if_neg h, if_pos h2]
theorem hldE_none {names : List Tx} {l : List (Tx × Nat)} {x : Ru} {most : Nat} (h : x.name ∉ l.map (·.1)) (h2 : ¬ most ≤ l.length) (h3 : (rtSet names x.list 0).isSome = false) : hldE names l x most = 3 := by
 unfold hldE
 rw [if_neg h, if_neg h2, if_pos]
 cases hs : rtSet names x.list 0 with
 | none => rfl
 | some s => rw [hs] at h3; cases h3
theorem hldE_ok {names : List Tx} {l : List (Tx × Nat)} {x : Ru} {most : Nat} (h : x.name ∉ l.map (·.1)) (h2 : ¬ most ≤ l.length) (h3 : (rtSet names x.list 0).isSome = true) : hldE names l x most = 0 := by
 unfold hldE
 rw [if_neg h, if_neg h2, if_neg]
 cases hs : rtSet names x.list 0 with
 | none => rw [hs] at h3; cases h3
 | some s => simp
theorem oneH (w : World) (nm : Tx) (z : Nat) : ∀ j u, (hcell (nm, z))[j]? = some u → (w.alloc (.cells #[.string (bs nm), .int .u32 (z : Nat)] 265)).cell? ((⟨w.heap.size, 0, none⟩ : Addr).add j) = some u := cells_new w (hcell (nm, z)) 265
set_option maxHeartbeats 4000000 in
theorem withHolder_any (names : List Tx) (bl : List Nat) (lh : List (Tx × Nat)) (AH : Option Addr) (cH base : Nat) (b o most : Nat) (kd rn rm : Int) (nm rf rt rb ra ri : Tx) (l : List Tx) (B : Option Addr) (c : Nat) (ln : Int) (w : World)
  (hc : w.cell? ⟨b, 0, none⟩ = some (.pointer (some ⟨o, 0, none⟩))) (hb : b < w.heap.size) (hO : OrdAt w o names bl) (hL : ListAt w B c l) (hl : l.length ≤ 4096) (hH : OwnH w base (.slice AH lh.length cH) lh) (hbase : base ≤ w.heap.size) (hlh : lh.length ≤ 30) :
  Calls Tryz.prog 142 #[.pointer (some ⟨b, 0, none⟩), .slice AH lh.length cH, .agg #[.int .i64 kd, .string (bs nm), .slice B l.length c, .int .i64 rn, .int .i64 rm, .string (bs rf), .string (bs rt), .string (bs rb), .string (bs ra), .string (bs ri), .int .i64 ln], .int .i64 most] w
   (GrwTo (hldE names lh ⟨kd, nm, l, rn, rm, rf, rt, rb, ra, ri⟩ most) base (.slice AH lh.length cH) (fun w' v => OwnH w' base v (lh ++ [(nm, (rtSet names l 0).getD 0)])) w) := by
 have RA := heap_alloc_new w (.cells #[.int .i64 kd, .string (bs nm), .slice B l.length c, .int .i64 rn, .int .i64 rm, .string (bs rf), .string (bs rt), .string (bs rb), .string (bs ra), .string (bs ri), .int .i64 ln] 31)
 have hb1 := rbox w (.cells #[.int .i64 kd, .string (bs nm), .slice B l.length c, .int .i64 rn, .int .i64 rm, .string (bs rf), .string (bs rt), .string (bs rb), .string (bs ra), .string (bs ri), .int .i64 ln] 31)
 have HH := Lib.hid (own_below hH hb1 hbase)
 have HA := Lib.hid (hAt_of (own_below hH hb1 hbase))
 have HB1 := Lib.hid hb1
 have hO1 := hO.below hb1
 have hL1 := hL.below hb1
 have hc1 := (hb1.cell (p := ⟨b, 0, none⟩) hb).trans hc
 have hE4 : nm ∈ lh.map (·.1) → hldE names lh ⟨kd, nm, l, rn, rm, rf, rt, rb, ra, ri⟩ most = 4 := fun h => hldE_there h
 have hE5 : nm ∉ lh.map (·.1) → most ≤ lh.length → hldE names lh ⟨kd, nm, l, rn, rm, rf, rt, rb, ra, ri⟩ most = 5 := fun h h2 => hldE_limit h h2
 have hE3 : nm ∉ lh.map (·.1) → ¬ most ≤ lh.length → (rtSet names l 0).isSome = false → hldE names lh ⟨kd, nm, l, rn, rm, rf, rt, rb, ra, ri⟩ most = 3 := fun h h2 h3 => hldE_none h h2 h3
 have hE0 : nm ∉ lh.map (·.1) → ¬ most ≤ lh.length → (rtSet names l 0).isSome = true → hldE names lh ⟨kd, nm, l, rn, rm, rf, rt, rb, ra, ri⟩ most = 0 := fun h h2 h3 => hldE_ok h h2 h3
 have hge := hI_ge lh nm
 clear hH hc hO hL
 have SV := rset_val names bl l B c b o _ hc1 hO1 hL1 (by omega)
 have FV : ∀ W, Below (w.alloc (.cells #[.int .i64 kd, .string (bs nm), .slice B l.length c, .int .i64 rn, .int .i64 rm, .string (bs rf), .string (bs rt), .string (bs rb), .string (bs ra), .string (bs ri), .int .i64 ln] 31)).heap.size (w.alloc (.cells #[.int .i64 kd, .string (bs nm), .slice B l.length c, .int .i64 rn, .int .i64 rm, .string (bs rf), .string (bs rt), .string (bs rb), .string (bs ra), .string (bs ri), .int .i64 ln] 31)) W → Calls Tryz.prog 164 #[.slice AH lh.length cH, .string (bs nm)] W fun e w' => e = .returned (.int .i64 (hI lh nm)) ∧ Below W.heap.size W w' := fun W hW => fnd_any lh nm AH cH W (HA.out.below hW) (by omega)
 have hs1 : (w.alloc (.cells #[.int .i64 kd, .string (bs nm), .slice B l.length c, .int .i64 rn, .int .i64 rm, .string (bs rf), .string (bs rt), .string (bs rb), .string (bs ra), .string (bs ri), .int .i64 ln] 31)).heap.size = w.heap.size + 1 := by simp
 clear hc1 hO1 hL1
 generalize hldE names lh ⟨kd, nm, l, rn, rm, rf, rt, rb, ra, ri⟩ most = E at *
 generalize hI lh nm = r at *
 generalize (rtSet names l 0).isSome = ok at *
 generalize (rtSet names l 0).getD 0 = z at *
 have hr : 0 ≤ r ↔ nm ∈ lh.map (·.1) := by simpa using hge
 clear hge
 go_enter Tryz.func142, Tryz.ntmps142
 go_upto_region 1 with fail
 have q1 := row_q1 RA; have q2 := row_q2 RA
 have HRA := Lib.hid RA
 have HS1 := Lib.hid hs1
 clear RA hs1
 generalize w.alloc (.cells #[.int .i64 kd, .string (bs nm), .slice B l.length c, .int .i64 rn, .int .i64 rm, .string (bs rf), .string (bs rt), .string (bs rb), .string (bs ra), .string (bs ri), .int .i64 ln] 31) = w1 at *
 have SVH := Lib.hid SV
 have FVH := Lib.hid (FV w1 (Below.refl _ _))
 clear SV FV
 have hw1 : w.heap.size ≤ w1.heap.size := by have := HS1.out; omega
 go_upto_region 2 with (go_at_call 199; refine SVH.out.mono ?_; rintro e w2 ⟨rfl, rfl⟩)
 by_cases h1 : nm ∈ lh.map (·.1)
 ·have hr0 : 0 ≤ r := hr.2 h1
  have HE := Lib.hid (hE4 h1)
  clear hE4 hE5 hE3 hE0 hr h1
  go_wp2_with (go_at_call 164; refine FVH.out.mono ?_; rintro e w3 ⟨rfl, hb3⟩)
  go_ret2
  exact grwTo_no HE.out (by decide) (below_then HB1.out hb3 hw1)
 ·have hr0 : ¬ 0 ≤ r := fun h => h1 (hr.1 h)
  by_cases h2 : most ≤ lh.length
  ·have h2i : (most : Int) ≤ lh.length := by omega
   have HE := Lib.hid (hE5 h1 h2)
   clear hE4 hE5 hE3 hE0 hr h1
   go_wp2_with (go_at_call 164; refine FVH.out.mono ?_; rintro e w3 ⟨rfl, hb3⟩)
   go_ret2
   exact grwTo_no HE.out (by decide) (below_then HB1.out hb3 hw1)
  ·have h2i : ¬ (most : Int) ≤ lh.length := by omega
   cases ok with
   | false =>
    have HE := Lib.hid (hE3 h1 h2 rfl)
    clear hE4 hE5 hE3 hE0 hr h1
    go_wp2_with (go_at_call 164; refine FVH.out.mono ?_; rintro e w3 ⟨rfl, hb3⟩)
    go_ret2
    exact grwTo_no HE.out (by decide) (below_then HB1.out hb3 hw1)
   | true =>
    have HE := Lib.hid (hE0 h1 h2 rfl)
    obtain ⟨i0, hi, hz0, hz1, hz2⟩ := info_parts Tryz.infoHolder
    clear hE4 hE5 hE3 hE0 hr h1
    go_wp2_with (first
     | (go_at_call 164; refine FVH.out.mono ?_; rintro e w3 ⟨rfl, hb3⟩; have HB3 := Lib.hid (below_then HB1.out hb3 hw1); have HH3 := Lib.hid (own_below HH.out hb3 (Nat.le_trans hbase hw1)); have q1 := row_q1 (row_below HRA.out hb3); have hw3 := hb3.size; clear hb3)
     | (at_builtin; go_must (refine wpList_append_lies _ rfl (.tmp 36) (.tmp 41) 146 rfl base 265 i0 _ 2 24 Tryz.underlying146 hi hz0 hz1 hz2 rfl (by decide) (.slice AH lh.length cH) lh.length (hcells lh) rfl (World.ownsRow.alloc HH3.out _) ⟨w3.heap.size, 0, none⟩ 1 1 (hcell (nm, z)) rfl rfl (oneH w3 nm z) (by intro u hu; simp [hcell] at hu; rcases hu with rfl | rfl <;> rfl) (by omega) (by unfold maxLen; omega) (by omega) (by simp; omega) _ rfl ?_); intro g9 cp9 w9 hown9 hg9 hat9 hlt9))
    go_ret2
    refine grwTo_ok HE.out (below_then HB3.out (rbox w3 _) (by omega)) hg9 ?_ (hat9.imp_right fun h => by rw [h]; simp; omega)
    show World.ownsRow _ _ _ _ _ _ _
    rw [List.length_append, hcells_snoc]
    exact hown9
theorem sttE_limit {names : List Tx} {l : List (Int × Nat)} {x : Ru} (h2 : 8 ≤ l.length) : sttE names l x = 5 := by unfold sttE; rw [if_pos h2]
theorem sttE_none {names : List Tx} {l : List (Int × Nat)} {x : Ru} (h2 : ¬ 8 ≤ l.length) (h3 : (rtSet names x.list 0).isSome = false) : sttE names l x = 3 := by
 unfold sttE
 rw [if_neg h2, if_pos]
 cases hs : rtSet names x.list 0 with
 | none => rfl
 | some s => rw [hs] at h3; cases h3
theorem sttE_ok {names : List Tx} {l : List (Int × Nat)} {x : Ru} (h2 : ¬ 8 ≤ l.length) (h3 : (rtSet names x.list 0).isSome = true) : sttE names l x = 0 := by
 unfold sttE
 rw [if_neg h2, if_neg]
 cases hs : rtSet names x.list 0 with
 | none => rw [hs] at h3; cases h3
 | some s => simp
theorem oneDS (w : World) (n : Int) (z : Nat) : ∀ j u, (dsCells [(n, z)])[j]? = some u → (w.alloc (.cells #[.int .i64 n, .int .u32 (z : Nat)] 171)).cell? ((⟨w.heap.size, 0, none⟩ : Addr).add j) = some u := cells_new w (dsCells [(n, z)]) 171
set_option maxHeartbeats 4000000 in
theorem withSet_any (names : List Tx) (bl : List Nat) (lh : List (Int × Nat)) (AH : Option Addr) (cH base : Nat) (b o : Nat) (kd rn rm : Int) (nm rf rt rb ra ri : Tx) (l : List Tx) (B : Option Addr) (c : Nat) (ln : Int) (w : World)
  (hc : w.cell? ⟨b, 0, none⟩ = some (.pointer (some ⟨o, 0, none⟩))) (hb : b < w.heap.size) (hO : OrdAt w o names bl) (hL : ListAt w B c l) (hl : l.length ≤ 4096) (hH : OwnDS w base (.slice AH lh.length cH) lh) (hbase : base ≤ w.heap.size) (hlh : lh.length ≤ 30) :
  Calls Tryz.prog 143 #[.pointer (some ⟨b, 0, none⟩), .slice AH lh.length cH, .agg #[.int .i64 kd, .string (bs nm), .slice B l.length c, .int .i64 rn, .int .i64 rm, .string (bs rf), .string (bs rt), .string (bs rb), .string (bs ra), .string (bs ri), .int .i64 ln]] w
   (GrwTo (sttE names lh ⟨kd, nm, l, rn, rm, rf, rt, rb, ra, ri⟩) base (.slice AH lh.length cH) (fun w' v => OwnDS w' base v (lh ++ [(rn, (rtSet names l 0).getD 0)])) w) := by
 have RA := heap_alloc_new w (.cells #[.int .i64 kd, .string (bs nm), .slice B l.length c, .int .i64 rn, .int .i64 rm, .string (bs rf), .string (bs rt), .string (bs rb), .string (bs ra), .string (bs ri), .int .i64 ln] 31)
 have hb1 := rbox w (.cells #[.int .i64 kd, .string (bs nm), .slice B l.length c, .int .i64 rn, .int .i64 rm, .string (bs rf), .string (bs rt), .string (bs rb), .string (bs ra), .string (bs ri), .int .i64 ln] 31)
 have HH := Lib.hid (own_below hH hb1 hbase)
 have HB1 := Lib.hid hb1
 have SV := rset_val names bl l B c b o _ ((hb1.cell (p := ⟨b, 0, none⟩) hb).trans hc) (hO.below hb1) (hL.below hb1) (by omega)
 have hE5 : 8 ≤ lh.length → sttE names lh ⟨kd, nm, l, rn, rm, rf, rt, rb, ra, ri⟩ = 5 := fun h2 => sttE_limit h2
 have hE3 : ¬ 8 ≤ lh.length → (rtSet names l 0).isSome = false → sttE names lh ⟨kd, nm, l, rn, rm, rf, rt, rb, ra, ri⟩ = 3 := fun h2 h3 => sttE_none h2 h3
 have hE0 : ¬ 8 ≤ lh.length → (rtSet names l 0).isSome = true → sttE names lh ⟨kd, nm, l, rn, rm, rf, rt, rb, ra, ri⟩ = 0 := fun h2 h3 => sttE_ok h2 h3
 have hs1 : (w.alloc (.cells #[.int .i64 kd, .string (bs nm), .slice B l.length c, .int .i64 rn, .int .i64 rm, .string (bs rf), .string (bs rt), .string (bs rb), .string (bs ra), .string (bs ri), .int .i64 ln] 31)).heap.size = w.heap.size + 1 := by simp
 clear hb1 hO hL hc hH
 generalize sttE names lh ⟨kd, nm, l, rn, rm, rf, rt, rb, ra, ri⟩ = E at *
 generalize (rtSet names l 0).isSome = ok at *
 generalize (rtSet names l 0).getD 0 = z at *
 go_enter Tryz.func143, Tryz.ntmps143
 go_upto_region 1 with fail
 have q2 := row_q2 RA; have q3 := row_q3 RA
 have HS1 := Lib.hid hs1
 clear RA hs1
 generalize w.alloc (.cells #[.int .i64 kd, .string (bs nm), .slice B l.length c, .int .i64 rn, .int .i64 rm, .string (bs rf), .string (bs rt), .string (bs rb), .string (bs ra), .string (bs ri), .int .i64 ln] 31) = w1 at *
 have SVH := Lib.hid SV
 clear SV
 have hw1 : w.heap.size ≤ w1.heap.size := by have := HS1.out; omega
 go_upto_region 2 with (go_at_call 199; refine SVH.out.mono ?_; rintro e w2 ⟨rfl, rfl⟩)
 by_cases h2 : 8 ≤ lh.length
 ·have h2i : (8 : Int) ≤ lh.length := by omega
  have HE := Lib.hid (hE5 h2)
  clear hE5 hE3 hE0
  go_wp2
  go_ret2
  exact grwTo_no HE.out (by decide) HB1.out
 ·have h2i : ¬ (8 : Int) ≤ lh.length := by omega
  cases ok with
  | false =>
   have HE := Lib.hid (hE3 h2 rfl)
   clear hE5 hE3 hE0
   go_wp2
   go_ret2
   exact grwTo_no HE.out (by decide) HB1.out
  | true =>
   have HE := Lib.hid (hE0 h2 rfl)
   obtain ⟨i0, hi, hz0, hz1, hz2⟩ := info_parts Tryz.infoDSet
   clear hE5 hE3 hE0
   go_wp2_with (at_builtin; go_must (refine wpList_append_lies _ rfl (.tmp 26) (.tmp 31) 83 rfl base 171 i0 _ 2 16 Tryz.underlying83 hi hz0 hz1 hz2 rfl (by decide) (.slice AH lh.length cH) lh.length (dsCells lh) rfl (World.ownsRow.alloc HH.out _) ⟨w1.heap.size, 0, none⟩ 1 1 (dsCells [(rn, z)]) rfl rfl (oneDS w1 rn z) (by intro u hu; simp [dsCells] at hu; rcases hu with rfl | rfl <;> rfl) (by omega) (by unfold maxLen; omega) (by omega) (by simp; omega) _ rfl ?_); intro g9 cp9 w9 hown9 hg9 hat9 hlt9)
   go_ret2
   refine grwTo_ok HE.out (below_then HB1.out (rbox w1 _) (by omega)) hg9 ?_ (hat9.imp_right fun h => by rw [h]; simp; omega)
   show World.ownsRow _ _ _ _ _ _ _
   rw [List.length_append, dsCells_snoc]
   exact hown9
def tskE (L : List (List Tx)) : Int := if 8 ≤ L.length then 5 else 0
set_option maxHeartbeats 4000000 in
theorem withTasks_any (L : List (List Tx)) (AH : Option Addr) (cH base : Nat) (kd rn rm : Int) (nm rf rt rb ra ri : Tx) (l : List Tx) (B : Option Addr) (c : Nat) (ln : Int) (w : World)
  (hL : ListAt w B c l) (hl : l.length ≤ 4096) (hH : OwnLL w base (.slice AH L.length cH) L) (hbase : base ≤ w.heap.size) (hlh : L.length ≤ 30) :
  Calls Tryz.prog 144 #[.slice AH L.length cH, .agg #[.int .i64 kd, .string (bs nm), .slice B l.length c, .int .i64 rn, .int .i64 rm, .string (bs rf), .string (bs rt), .string (bs rb), .string (bs ra), .string (bs ri), .int .i64 ln]] w
   (GrwTo (tskE L) base (.slice AH L.length cH) (fun w' v => OwnLL w' base v (L ++ [l])) w) := by
 have RA := heap_alloc_new w (.cells #[.int .i64 kd, .string (bs nm), .slice B l.length c, .int .i64 rn, .int .i64 rm, .string (bs rf), .string (bs rt), .string (bs rb), .string (bs ra), .string (bs ri), .int .i64 ln] 31)
 have hb1 := rbox w (.cells #[.int .i64 kd, .string (bs nm), .slice B l.length c, .int .i64 rn, .int .i64 rm, .string (bs rf), .string (bs rt), .string (bs rb), .string (bs ra), .string (bs ri), .int .i64 ln] 31)
 have HH := Lib.hid (hH.below hb1 hbase)
 have HB1 := Lib.hid hb1
 have CV := Clone_any l B c _ (hL.below hb1) (by omega)
 have hs1 : (w.alloc (.cells #[.int .i64 kd, .string (bs nm), .slice B l.length c, .int .i64 rn, .int .i64 rm, .string (bs rf), .string (bs rt), .string (bs rb), .string (bs ra), .string (bs ri), .int .i64 ln] 31)).heap.size = w.heap.size + 1 := by simp
 clear hb1 hL hH
 go_enter Tryz.func144, Tryz.ntmps144
 go_upto_region 1 with fail
 have q2 := row_q2 RA
 have HS1 := Lib.hid hs1
 clear RA hs1
 generalize w.alloc (.cells #[.int .i64 kd, .string (bs nm), .slice B l.length c, .int .i64 rn, .int .i64 rm, .string (bs rf), .string (bs rt), .string (bs rb), .string (bs ra), .string (bs ri), .int .i64 ln] 31) = w1 at *
 have CVH := Lib.hid CV
 clear CV
 have hw1 : w.heap.size ≤ w1.heap.size := by have := HS1.out; omega
 by_cases h2 : 8 ≤ L.length
 ·have h2i : (8 : Int) ≤ L.length := by omega
  have HE : Hid (tskE L = 5) := by show tskE L = 5; unfold tskE; rw [if_pos h2]
  go_wp2
  go_ret2
  exact grwTo_no HE.out (by decide) HB1.out
 ·have h2i : ¬ (8 : Int) ≤ L.length := by omega
  have HE : Hid (tskE L = 0) := by show tskE L = 0; unfold tskE; rw [if_neg h2]
  obtain ⟨i0, hi, hz0, hz1, hz2⟩ := info_parts Tryz.infoStrings
  go_upto_region 3 with fail
  go_wp2_with (first
   | (go_at_call 141; refine CVH.out.mono ?_; rintro e w2 ⟨v2, rfl, ho2, hb2⟩; obtain ⟨A2, c2, rfl⟩ := own_slice ho2; have HO2 := Lib.hid ho2; have HB2 := Lib.hid (below_then HB1.out hb2 hw1); obtain ⟨cs, hcl, ho, hcs⟩ := HH.out.below hb2 (Nat.le_trans hbase hw1); have HO := Lib.hid ho; have HCL := Lib.hid hcl; have HCS := Lib.hid hcs; have hw2 := hb2.size; clear hb2 ho2 ho hcl hcs)
   | (at_builtin; go_must (refine wpList_append_lies _ rfl (.tmp 10) (.tmp 14) 70 rfl base 29 i0 _ 1 24 Tryz.underlying70 hi hz0 hz1 hz2 rfl (by decide) (.slice AH L.length cH) L.length cs rfl (World.ownsRow.alloc HO.out _) ⟨w2.heap.size, 0, none⟩ 1 1 [.slice A2 l.length c2] rfl rfl (cells_new w2 _ _) (by intro u hu; simp at hu; subst hu; rfl) (by omega) (by unfold maxLen; omega) (by omega) (by simp; omega) _ rfl ?_); intro g9 cp9 w9 hown9 hg9 hat9 hlt9))
  go_ret2
  refine grwTo_ok HE.out (below_then HB2.out (rbox w2 _) (by omega)) hg9 ?_ (hat9.imp_right fun h => by rw [h]; simp; omega)
  refine OwnLL.snoc HCL.out (World.ownsRow.alloc HO.out _) (fun j hj => ?_) (own_base (World.ownsRow.alloc HO2.out _) (by omega)) hown9 hg9
  obtain ⟨u, e, hu⟩ := HCS.out j hj
  exact ⟨u, e, World.ownsRow.alloc hu _⟩
end Go.Proofs.YtgffbgmieppckaaGreatDoor
