import Derived.Test.YtgffbgmieppckaaGreatDoorRt9
import Derived.Test.YtgffbgmieppckaaGreatDoorDT0
import Derived.Deep.RegionHeld3
namespace Go.Proofs.YtgffbgmieppckaaGreatDoor
set_option maxRecDepth 100000
open Go.ChangeShapes Go.WideShapes Go.ChangeAt Go.RowKit
theorem sttE_limit {names : List Tx} {l : List (Int × Nat)} {x : Ru} (h2 : 8 ≤ l.length) : sttE names l x = 5 := by unfold sttE; rw [if_pos h2]
theorem sttE_none {names : List Tx} {l : List (Int × Nat)} {x : Ru} (h2 : ¬ 8 ≤ l.length) (h3 : (rtSet names x.list 0).isSome = false) : sttE names l x = 3 := by
 unfold sttE
 rw [if_neg h2, if_pos]
 cases hs : rtSet names x.list 0 with
 | none => rfl
 | some s => rw [hs] at h3; cases h3
theorem sttE_ok {names : List Tx} {l : List (Int × Nat)} {x : Ru} (h2 : ¬ 8 ≤ l.length) (h3 : (rtSet names x.list 0).isSome = true) : sttE names l x = 0 := by
 unfold sttE
 rw [if_neg h2, if_neg]
 cases hs : rtSet names x.list 0 with
 | none => rw [hs] at h3; cases h3
 | some s => simp
theorem oneDS (w : World) (n : Int) (z : Nat) : ∀ j u, (dsCells [(n, z)])[j]? = some u → (w.alloc (.cells #[.int .i64 n, .int .u32 (z : Nat)] 171)).cell? ((⟨w.heap.size, 0, none⟩ : Addr).add j) = some u := cells_new w (dsCells [(n, z)]) 171
set_option maxHeartbeats 4000000 in
theorem withSet_any (names : List Tx) (bl : List Nat) (lh : List (Int × Nat)) (AH : Option Addr) (cH base : Nat) (b o : Nat) (kd rn rm : Int) (nm rf rt rb ra ri : Tx) (l : List Tx) (B : Option Addr) (c : Nat) (ln : Int) (w : World)
  (hc : w.cell? ⟨b, 0, none⟩ = some (.pointer (some ⟨o, 0, none⟩))) (hb : b < w.heap.size) (hO : OrdAt w o names bl) (hL : ListAt w B c l) (hl : l.length ≤ 4096) (hH : OwnDS w base (.slice AH lh.length cH) lh) (hbase : base ≤ w.heap.size) (hlh : lh.length ≤ 30) :
  Calls Tryz.prog 143 #[.pointer (some ⟨b, 0, none⟩), .slice AH lh.length cH, .agg #[.int .i64 kd, .string (bs nm), .slice B l.length c, .int .i64 rn, .int .i64 rm, .string (bs rf), .string (bs rt), .string (bs rb), .string (bs ra), .string (bs ri), .int .i64 ln]] w
   (GrwTo (sttE names lh ⟨kd, nm, l, rn, rm, rf, rt, rb, ra, ri⟩) base (.slice AH lh.length cH) (fun w' v => OwnDS w' base v (lh ++ [(rn, (rtSet names l 0).getD 0)])) w) := by
 have RA := heap_alloc_new w (.cells #[.int .i64 kd, .string (bs nm), .slice B l.length c, .int .i64 rn, .int .i64 rm, .string (bs rf), .string (bs rt), .string (bs rb), .string (bs ra), .string (bs ri), .int .i64 ln] 31)
 have hb1 := rbox w (.cells #[.int .i64 kd, .string (bs nm), .slice B l.length c, .int .i64 rn, .int .i64 rm, .string (bs rf), .string (bs rt), .string (bs rb), .string (bs ra), .string (bs ri), .int .i64 ln] 31)
 have HH := Lib.hid (own_below hH hb1 hbase)
 have HB1 := Lib.hid hb1
 have SV := rset_val names bl l B c b o _ ((hb1.cell (p := ⟨b, 0, none⟩) hb).trans hc) (hO.below hb1) (hL.below hb1) (by omega)
 have hE5 : 8 ≤ lh.length → sttE names lh ⟨kd, nm, l, rn, rm, rf, rt, rb, ra, ri⟩ = 5 := fun h2 => sttE_limit h2
 have hE3 : ¬ 8 ≤ lh.length → (rtSet names l 0).isSome = false → sttE names lh ⟨kd, nm, l, rn, rm, rf, rt, rb, ra, ri⟩ = 3 := fun h2 h3 => sttE_none h2 h3
 have hE0 : ¬ 8 ≤ lh.length → (rtSet names l 0).isSome = true → sttE names lh ⟨kd, nm, l, rn, rm, rf, rt, rb, ra, ri⟩ = 0 := fun h2 h3 => sttE_ok h2 h3
 have hs1 : (w.alloc (.cells #[.int .i64 kd, .string (bs nm), .slice B l.length c, .int .i64 rn, .int .i64 rm, .string (bs rf), .string (bs rt), .string (bs rb), .string (bs ra), .string (bs ri), .int .i64 ln] 31)).heap.size = w.heap.size + 1 := by simp
 clear hb1 hO hL hc hH
 generalize sttE names lh ⟨kd, nm, l, rn, rm, rf, rt, rb, ra, ri⟩ = E at *
 generalize (rtSet names l 0).isSome = ok at *
 generalize (rtSet names l 0).getD 0 = z at *
 go_enter Tryz.func143, Tryz.ntmps143
 go_upto_region 1 with fail
 have q2 := row_q2 RA; have q3 := row_q3 RA
 have HS1 := Lib.hid hs1
 clear RA hs1
 generalize w.alloc (.cells #[.int .i64 kd, .string (bs nm), .slice B l.length c, .int .i64 rn, .int .i64 rm, .string (bs rf), .string (bs rt), .string (bs rb), .string (bs ra), .string (bs ri), .int .i64 ln] 31) = w1 at *
 have SVH := Lib.hid SV
 clear SV
 have hw1 : w.heap.size ≤ w1.heap.size := by have := HS1.out; omega
 go_upto_region 2 with (go_at_call 199; refine SVH.out.mono ?_; rintro e w2 ⟨rfl, rfl⟩)
 by_cases h2 : 8 ≤ lh.length
 ·have h2i : (8 : Int) ≤ lh.length := by omega
  have HE := Lib.hid (hE5 h2)
  clear hE5 hE3 hE0
  go_wp2
  go_ret2
  exact grwTo_no HE.out (by decide) HB1.out
 ·have h2i : ¬ (8 : Int) ≤ lh.length := by omega
  cases ok with
  | false =>
   have HE := Lib.hid (hE3 h2 rfl)
   clear hE5 hE3 hE0
   go_wp2
   go_ret2
   exact grwTo_no HE.out (by decide) HB1.out
  | true =>
   have HE := Lib.hid (hE0 h2 rfl)
   obtain ⟨i0, hi, hz0, hz1, hz2⟩ := info_parts Tryz.infoDSet
   clear hE5 hE3 hE0
   go_wp2_with (at_builtin; go_must (refine wpList_append_lies _ rfl (.tmp 26) (.tmp 31) 83 rfl base 171 i0 _ 2 16 Tryz.underlying83 hi hz0 hz1 hz2 rfl (by decide) (.slice AH lh.length cH) lh.length (dsCells lh) rfl (World.ownsRow.alloc HH.out _) ⟨w1.heap.size, 0, none⟩ 1 1 (dsCells [(rn, z)]) rfl rfl (oneDS w1 rn z) (by intro u hu; simp [dsCells] at hu; rcases hu with rfl | rfl <;> rfl) (by omega) (by unfold maxLen; omega) (by omega) (by simp; omega) _ rfl ?_); intro g9 cp9 w9 hown9 hg9 hat9 hlt9)
   go_ret2
   refine grwTo_ok HE.out (below_then HB1.out (rbox w1 _) (by omega)) hg9 ?_ (hat9.imp_right fun h => by rw [h]; simp; omega)
   show World.ownsRow _ _ _ _ _ _ _
   rw [List.length_append, dsCells_snoc]
   exact hown9
def tskE (L : List (List Tx)) : Int := if 8 ≤ L.length then 5 else 0
set_option maxHeartbeats 4000000 in
theorem withTasks_any (L : List (List Tx)) (AH : Option Addr) (cH base : Nat) (kd rn rm : Int) (nm rf rt rb ra ri : Tx) (l : List Tx) (B : Option Addr) (c : Nat) (ln : Int) (w : World)
  (hL : ListAt w B c l) (hl : l.length ≤ 4096) (hH : OwnLL w base (.slice AH L.length cH) L) (hbase : base ≤ w.heap.size) (hlh : L.length ≤ 30) :
  Calls Tryz.prog 144 #[.slice AH L.length cH, .agg #[.int .i64 kd, .string (bs nm), .slice B l.length c, .int .i64 rn, .int .i64 rm, .string (bs rf), .string (bs rt), .string (bs rb), .string (bs ra), .string (bs ri), .int .i64 ln]] w
   (GrwTo (tskE L) base (.slice AH L.length cH) (fun w' v => OwnLL w' base v (L ++ [l])) w) := by
 have RA := heap_alloc_new w (.cells #[.int .i64 kd, .string (bs nm), .slice B l.length c, .int .i64 rn, .int .i64 rm, .string (bs rf), .string (bs rt), .string (bs rb), .string (bs ra), .string (bs ri), .int .i64 ln] 31)
 have hb1 := rbox w (.cells #[.int .i64 kd, .string (bs nm), .slice B l.length c, .int .i64 rn, .int .i64 rm, .string (bs rf), .string (bs rt), .string (bs rb), .string (bs ra), .string (bs ri), .int .i64 ln] 31)
 have HH := Lib.hid (hH.below hb1 hbase)
 have HB1 := Lib.hid hb1
 have CV := Clone_any l B c _ (hL.below hb1) (by omega)
 have hs1 : (w.alloc (.cells #[.int .i64 kd, .string (bs nm), .slice B l.length c, .int .i64 rn, .int .i64 rm, .string (bs rf), .string (bs rt), .string (bs rb), .string (bs ra), .string (bs ri), .int .i64 ln] 31)).heap.size = w.heap.size + 1 := by simp
 clear hb1 hL hH
 go_enter Tryz.func144, Tryz.ntmps144
 go_upto_region 1 with fail
 have q2 := row_q2 RA
 have HS1 := Lib.hid hs1
 clear RA hs1
 generalize w.alloc (.cells #[.int .i64 kd, .string (bs nm), .slice B l.length c, .int .i64 rn, .int .i64 rm, .string (bs rf), .string (bs rt), .string (bs rb), .string (bs ra), .string (bs ri), .int .i64 ln] 31) = w1 at *
 have CVH := Lib.hid CV
 clear CV
 have hw1 : w.heap.size ≤ w1.heap.size := by have := HS1.out; omega
 by_cases h2 : 8 ≤ L.length
 ·have h2i : (8 : Int) ≤ L.length := by omega
  have HE : Hid (tskE L = 5) := by show tskE L = 5; unfold tskE; rw [if_pos h2]
  go_wp2
  go_ret2
  exact grwTo_no HE.out (by decide) HB1.out
 ·have h2i : ¬ (8 : Int) ≤ L.length := by omega
  have HE : Hid (tskE L = 0) := by show tskE L = 0; unfold tskE; rw [if_neg h2]
  obtain ⟨i0, hi, hz0, hz1, hz2⟩ := info_parts Tryz.infoStrings
  go_upto_region 3 with fail
  go_wp2_with (first
   | (go_at_call 141; refine CVH.out.mono ?_; rintro e w2 ⟨v2, rfl, ho2, hb2⟩; obtain ⟨A2, c2, rfl⟩ := own_slice ho2; have HO2 := Lib.hid ho2; have HB2 := Lib.hid (below_then HB1.out hb2 hw1); obtain ⟨cs, hcl, ho, hcs⟩ := HH.out.below hb2 (Nat.le_trans hbase hw1); have HO := Lib.hid ho; have HCL := Lib.hid hcl; have HCS := Lib.hid hcs; have hw2 := hb2.size; clear hb2 ho2 ho hcl hcs)
   | (at_builtin; go_must (refine wpList_append_lies _ rfl (.tmp 10) (.tmp 14) 70 rfl base 29 i0 _ 1 24 Tryz.underlying70 hi hz0 hz1 hz2 rfl (by decide) (.slice AH L.length cH) L.length cs rfl (World.ownsRow.alloc HO.out _) ⟨w2.heap.size, 0, none⟩ 1 1 [.slice A2 l.length c2] rfl rfl (cells_new w2 _ _) (by intro u hu; simp at hu; subst hu; rfl) (by omega) (by unfold maxLen; omega) (by omega) (by simp; omega) _ rfl ?_); intro g9 cp9 w9 hown9 hg9 hat9 hlt9))
  go_ret2
  refine grwTo_ok HE.out (below_then HB2.out (rbox w2 _) (by omega)) hg9 ?_ (hat9.imp_right fun h => by rw [h]; simp; omega)
  refine OwnLL.snoc HCL.out (World.ownsRow.alloc HO.out _) (fun j hj => ?_) (own_base (World.ownsRow.alloc HO2.out _) (by omega)) hown9 hg9
  obtain ⟨u, e, hu⟩ := HCS.out j hj
  exact ⟨u, e, World.ownsRow.alloc hu _⟩
end Go.Proofs.YtgffbgmieppckaaGreatDoor
namespace Go.Proofs.YtgffbgmieppckaaGreatDoor
set_option maxRecDepth 100000
open Go.ChangeShapes Go.WideShapes Go.ChangeAt Go.RowKit Go.Maps Go.WideMaps Go.ChangeMaps
theorem loanR_inv {v : Value} {a b : Int} {ps : List MemPlace} (h : loanR v = some (.agg [.lit (.int .i64 a), .lit (.int .i64 b)], ps)) : v = .agg #[.int .i64 a, .int .i64 b] := by
 unfold loanR at h
 split at h
 ·rename_i cs
  obtain ⟨l⟩ := cs
  split at h
  ·rename_i x y e
   simp only [Option.some.injEq, Prod.mk.injEq, DataW.agg.injEq, List.cons.injEq, DataW.lit.injEq, Lit.int.injEq, true_and, and_true] at h
   obtain ⟨⟨rfl, rfl⟩, _⟩ := h
   have e2 : l = [.int .i64 x, .int .i64 y] := e
   subst e2
   rfl
  ·cases h
 ·cases h
theorem loanR_any {v : Value} {d : DataW Unit} {ps : List MemPlace} (h : loanR v = some (d, ps)) : ∃ a b, d = .agg [.lit (.int .i64 a), .lit (.int .i64 b)] := by
 unfold loanR at h
 split at h
 ·split at h
  ·rename_i x y e
   simp only [Option.some.injEq, Prod.mk.injEq] at h
   exact ⟨x, y, h.1.symm⟩
  ·cases h
 ·cases h
theorem Tryz.zeroLoan (w : World) : (zeroValue 89).run Tryz.prog w = .ok (.agg #[.int .i64 0, .int .i64 0]) w := by kernel_rfl
theorem loan_key {x : Tx} (hx : x.length ≤ 1048576) : keyOf Tryz.prog 9 (.string (bs x)) = some (.string x) := by
 have h : (bs x).size ≤ maxLen := by
  have : (bs x).size = x.length := by simp [bs, ByteArray.size]
  unfold maxLen; omega
 have := keyOf_string_mk (P := Tryz.prog) Tryz.underlying9 h
 rw [list_bs] at this
 exact this
theorem loan_look (m n : Nat) (l : List (Tx × Int × Int)) (x : Tx) (hx : x.length ≤ 1048576) (w : World) (h : w.ownsMap Tryz.prog 9 loanR m n (loanD l)) :
  ∃ a b, ∀ W : World, W.ownsMap Tryz.prog 9 loanR m n (loanD l) → (Instr.lookup 145 (.map (some m)) (.string (bs x)) true).run Tryz.prog W = .ok (.tuple #[.agg #[.int .i64 a, .int .i64 b], .bool (decide (x ∈ l.map (·.1)))]) W := by
 have hkey := loan_key hx
 obtain ⟨v, ps, hr, hv⟩ := h.look_ok Tryz.lawS Tryz.underlying145 (Tryz.zeroLoan w) (loanR_mk 0 0) hkey
 obtain ⟨a, b, hab⟩ := loanR_any hv
 refine ⟨a, b, fun W hW => ?_⟩
 obtain ⟨v2, ps2, hr2, hv2⟩ := hW.look_ok Tryz.lawS Tryz.underlying145 (Tryz.zeroLoan W) (loanR_mk 0 0) hkey
 rw [hab] at hv2
 rw [loanR_inv hv2, loanD_has] at hr2
 exact hr2
def lonE (names : List Tx) (l : List (Tx × Int × Int)) (x : Tx) : Int := if x ∉ names then 3 else if x ∈ l.map (·.1) then 4 else 0
theorem lonE_none {names : List Tx} {l : List (Tx × Int × Int)} {x : Tx} (h : x ∉ names) : lonE names l x = 3 := by unfold lonE; rw [if_pos h]
theorem lonE_there {names : List Tx} {l : List (Tx × Int × Int)} {x : Tx} (h : x ∈ names) (h2 : x ∈ l.map (·.1)) : lonE names l x = 4 := by unfold lonE; rw [if_neg (by simpa using h), if_pos h2]
theorem lonE_ok {names : List Tx} {l : List (Tx × Int × Int)} {x : Tx} (h : x ∈ names) (h2 : x ∉ l.map (·.1)) : lonE names l x = 0 := by unfold lonE; rw [if_neg (by simpa using h), if_neg h2]
structure LonTo (E : Int) (m n : Nat) (l : List (Tx × Int × Int)) (w : World) (e : Ending) (w' : World) : Prop where
 no : E ≠ 0 → e = .returned (eV E) ∧ Below w.heap.size w w'
 ok : E = 0 → e = .returned .nilIface ∧ ∃ w1, Below w.heap.size w w1 ∧ w1.grownBy w' (some m) ∧ w'.ownsMap Tryz.prog 9 loanR m (n + 1) (loanD l)
theorem lonTo_no {E k : Int} {m n : Nat} {l : List (Tx × Int × Int)} {w w' : World} (h : E = k) (hk : k ≠ 0) (hb : Below w.heap.size w w') : LonTo E m n l w (.returned (eV k)) w' := by
 subst h; exact ⟨fun _ => ⟨rfl, hb⟩, fun h => absurd h hk⟩
theorem lonTo_ok {E : Int} {m n : Nat} {l : List (Tx × Int × Int)} {w w1 w' : World} (h : E = 0) (hb : Below w.heap.size w w1) (hg : w1.grownBy w' (some m)) (hm : w'.ownsMap Tryz.prog 9 loanR m (n + 1) (loanD l)) : LonTo E m n l w (.returned .nilIface) w' :=
 ⟨fun h9 => absurd h h9, fun _ => ⟨rfl, w1, hb, hg, hm⟩⟩
theorem map_below {w w' : World} {m n : Nat} {D : DataW Unit} (h : w.ownsMap Tryz.prog 9 loanR m n D) (hb : Below w.heap.size w w') : w'.ownsMap Tryz.prog 9 loanR m n D := by
 have hl := h.lt
 obtain ⟨es, clock, h1, q⟩ := h
 exact ⟨es, clock, (hb.block _ hl).trans h1, q⟩
set_option maxHeartbeats 4000000 in
theorem takeLoan_any (names : List Tx) (bl : List Nat) (ls : List (Tx × Int × Int)) (b o m : Nat) (kd rn rm : Int) (nm rf rt rb ra ri : Tx) (l : List Tx) (B : Option Addr) (c : Nat) (ln : Int) (w : World)
  (hc : w.cell? ⟨b, 0, none⟩ = some (.pointer (some ⟨o, 0, none⟩))) (hc6 : w.cell? ⟨b, 6, none⟩ = some (.map (some m))) (hb : b < w.heap.size) (hO : OrdAt w o names bl) (hM : w.ownsMap Tryz.prog 9 loanR m ls.length (loanD ls)) (hlh : ls.length ≤ 1000) (hnm : nm.length ≤ 1048576) :
  Calls Tryz.prog 145 #[.pointer (some ⟨b, 0, none⟩), .agg #[.int .i64 kd, .string (bs nm), .slice B l.length c, .int .i64 rn, .int .i64 rm, .string (bs rf), .string (bs rt), .string (bs rb), .string (bs ra), .string (bs ri), .int .i64 ln]] w
   (LonTo (lonE names ls nm) m ls.length (ls ++ [(nm, rn, rm)]) w) := by
 have RA := heap_alloc_new w (.cells #[.int .i64 kd, .string (bs nm), .slice B l.length c, .int .i64 rn, .int .i64 rm, .string (bs rf), .string (bs rt), .string (bs rb), .string (bs ra), .string (bs ri), .int .i64 ln] 31)
 have hb1 := rbox w (.cells #[.int .i64 kd, .string (bs nm), .slice B l.length c, .int .i64 rn, .int .i64 rm, .string (bs rf), .string (bs rt), .string (bs rb), .string (bs ra), .string (bs ri), .int .i64 ln] 31)
 have HB1 := Lib.hid hb1
 have HM := Lib.hid (map_below hM hb1)
 have HO := Lib.hid (hO.below hb1)
 have c0 := (hb1.cell (p := ⟨b, 0, none⟩) hb).trans hc
 have c6 := (hb1.cell (p := ⟨b, 6, none⟩) hb).trans hc6
 have hs1 : (w.alloc (.cells #[.int .i64 kd, .string (bs nm), .slice B l.length c, .int .i64 rn, .int .i64 rm, .string (bs rf), .string (bs rt), .string (bs rb), .string (bs ra), .string (bs ri), .int .i64 ln] 31)).heap.size = w.heap.size + 1 := by simp
 clear hb1 hO hM hc hc6
 go_enter Tryz.func145, Tryz.ntmps145
 go_upto_region 1 with fail
 have HRA := Lib.hid RA
 have HS1 := Lib.hid hs1
 have q1 := row_q1 RA; have q3 := row_q3 RA; have q4 := row_q4 RA
 clear RA hs1
 generalize w.alloc (.cells #[.int .i64 kd, .string (bs nm), .slice B l.length c, .int .i64 rn, .int .i64 rm, .string (bs rf), .string (bs rt), .string (bs rb), .string (bs ra), .string (bs ri), .int .i64 ln] 31) = w1 at *
 have hw1 : w.heap.size ≤ w1.heap.size := by have := HS1.out; omega
 have IX : Hid (∀ W, Below w1.heap.size w1 W → Calls Tryz.prog 92 #[.pointer (some ⟨o, 0, none⟩), .string (bs nm)] W fun e w' => e = .returned (.int .i64 (idxI names nm)) ∧ w' = W.drewN 0) := fun W hW => (OIndex_any o names bl W nm (HO.out.below hW)).mono fun e w' h => ⟨h.1, h.2.symm⟩
 have hix : 0 ≤ idxI names nm ↔ nm ∈ names := by have := idxI_ge names nm; simpa using this
 generalize idxI names nm = r at *
 by_cases h1 : nm ∈ names
 ·have hr0 : ¬ r < 0 := by have := hix.2 h1; omega
  clear hix
  go_quiet ((go_at_call 92; exact Calls.quiet_of ((IX.out _ (by first | exact Below.refl _ _ | exact below_drewN (Below.refl _ _) _)).mono fun e w' h => ⟨h.1, 0, h.2⟩)))
  have HB2 := Lib.hid (below_drewN HB1.out nq)
  have HM2 : Hid ((w1.drewN nq).ownsMap Tryz.prog 9 loanR m ls.length (loanD ls)) := map_below HM.out (below_drewN (Below.refl _ _) nq)
  have d6 : (w1.drewN nq).cell? ⟨b, 6, none⟩ = some (.map (some m)) := c6
  have HR2 : Hid ((w1.drewN nq).heap[w.heap.size]? = some (.cells #[.int .i64 kd, .string (bs nm), .slice B l.length c, .int .i64 rn, .int .i64 rm, .string (bs rf), .string (bs rt), .string (bs rb), .string (bs ra), .string (bs ri), .int .i64 ln] 31 (0, 0))) := HRA.out
  have hw2 : w1.heap.size ≤ (w1.drewN nq).heap.size := Nat.le_refl _
  clear c0 c6 q1 q3 q4 HM HRA
  generalize w1.drewN nq = w2 at *
  have hb2 : b < w2.heap.size := by omega
  have hl2 : w.heap.size < w2.heap.size := (Array.getElem?_eq_some_iff.1 HR2.out).1
  have q1 := row_q1 HR2.out
  have d6d : w2.drew.cell? ⟨b, 6, none⟩ = some (.map (some m)) := d6
  have q1d : w2.drew.cell? ⟨w.heap.size, 1, none⟩ = some (.string (bs nm)) := q1
  have d6a : ∀ O, (w2.alloc O).drew.cell? ⟨b, 6, none⟩ = some (.map (some m)) := fun O => (World.cell?_alloc_lt _ _ _ hb2).trans d6
  have q1a : ∀ O, (w2.alloc O).drew.cell? ⟨w.heap.size, 1, none⟩ = some (.string (bs nm)) := fun O => (World.cell?_alloc_lt _ _ _ hl2).trans q1
  obtain ⟨la, lb, LK⟩ := loan_look m ls.length ls nm hnm w2 HM2.out
  have L1 := LK w2.drew (World.ownsMap.drew HM2.out)
  have L2 := fun O => LK (w2.alloc O).drew (World.ownsMap.drew (World.ownsMap.alloc HM2.out O))
  clear LK
  by_cases h2 : nm ∈ ls.map (·.1)
  ·rw [decide_eq_true h2] at L1 L2
   have HE := Lib.hid (lonE_there h1 h2)
   clear h1 h2
   go_upto_region 3 with fail
   go_region
   all_goals
    go_wp2
    go_ret
    exact lonTo_no HE.out (by decide) (below_drew (below_then HB2.out (rbox w2 _) (Nat.le_trans hw1 hw2)))
  ·rw [decide_eq_false h2] at L1 L2
   have HE := Lib.hid (lonE_ok h1 h2)
   have q3 := row_q3 HR2.out; have q4 := row_q4 HR2.out
   clear h1 h2
   go_upto_region 3 with fail
   go_region
   all_goals
    have HB3 : Hid (Below w.heap.size w (w2.alloc (.cells #[.int .i64 la, .int .i64 lb] 89)).drew) := below_drew (below_then HB2.out (rbox w2 _) (Nat.le_trans hw1 hw2))
    have HM3 : Hid ((w2.alloc (.cells #[.int .i64 la, .int .i64 lb] 89)).drew.ownsMap Tryz.prog 9 loanR m ls.length (loanD ls)) := World.ownsMap.drew (World.ownsMap.alloc HM2.out _)
    have e6 : (w2.alloc (.cells #[.int .i64 la, .int .i64 lb] 89)).drew.drew.cell? ⟨b, 6, none⟩ = some (.map (some m)) := (World.cell?_alloc_lt _ _ _ hb2).trans d6
    have e1 : (w2.alloc (.cells #[.int .i64 la, .int .i64 lb] 89)).drew.drew.cell? ⟨w.heap.size, 1, none⟩ = some (.string (bs nm)) := (World.cell?_alloc_lt _ _ _ hl2).trans q1
    have e3 : (w2.alloc (.cells #[.int .i64 la, .int .i64 lb] 89)).drew.drew.cell? ⟨w.heap.size, 3, none⟩ = some (.int .i64 rn) := (World.cell?_alloc_lt _ _ _ hl2).trans q3
    have e4 : (w2.alloc (.cells #[.int .i64 la, .int .i64 lb] 89)).drew.drew.cell? ⟨w.heap.size, 4, none⟩ = some (.int .i64 rm) := (World.cell?_alloc_lt _ _ _ hl2).trans q4
    clear d6d q1d d6a q1a L1 L2 d6 q1 q3 q4 HR2 HM2 HO IX
    generalize (w2.alloc (.cells #[.int .i64 la, .int .i64 lb] 89)).drew = w3 at *
    obtain ⟨w4, hrun, hown, hg⟩ := World.ownsMap.update (World.ownsMap.drew HM3.out) Tryz.lawS Tryz.underlying145 (by unfold maxLen; omega) (loan_key hnm) (loanR_mk rn rm)
    have HOW := Lib.hid hown
    have HG := Lib.hid hg
    clear hown hg
    go_wp2
    go_upto_region 6 with fail
    go_region
    all_goals
     go_wp2
     go_ret
     refine lonTo_ok HE.out (below_drew HB3.out) HG.out ?_
     rw [loanD_snoc]
     exact HOW.out
 ·have hr0 : r < 0 := Int.not_le.1 fun h => h1 (hix.1 h)
  have HE := Lib.hid (lonE_none (l := ls) h1)
  clear hix h1
  go_quiet ((go_at_call 92; exact Calls.quiet_of ((IX.out _ (by first | exact Below.refl _ _ | exact below_drewN (Below.refl _ _) _)).mono fun e w' h => ⟨h.1, 0, h.2⟩)))
  go_wp2
  go_ret
  exact lonTo_no HE.out (by decide) (below_drewN HB1.out nq)
section
variable {w0 W W1 W2 : World} {b o m : Nat} {r : Rt} {vU vP vS vD vA : Value}
theorem rtKeep {base e s n : Nat} {v : Value} {xs : List Value} {row : Option Nat} {cs : Array Value} {t : TypeId} {fz : Nat × Nat} (h : W1.ownsRow base e s v n xs) (hg : W1.grownBy W2 row) (hu : v.ownBlock = none ∨ v.ownBlock ≠ row) (r2 : W2.heap[b]? = some (.cells cs t fz)) (hne : t ≠ e) (j : Nat) (x : Value) :
  (W2.setCell ⟨b, j, none⟩ x).ownsRow base e s v n xs :=
 World.ownsRow.kept (World.ownsRow.kept h hg hu) (grown_setCell _ _ _ _) (.inr (rt_row_ne (World.ownsRow.kept h hg hu) r2 hne))
theorem rtPut {base e s n : Nat} {v : Value} {xs : List Value} {cs : Array Value} {t : TypeId} {fz : Nat × Nat} (h : W2.ownsRow base e s v n xs) (r2 : W2.heap[b]? = some (.cells cs t fz)) (hne : t ≠ e) (j : Nat) (x : Value) :
  (W2.setCell ⟨b, j, none⟩ x).ownsRow base e s v n xs := World.ownsRow.kept h (grown_setCell _ _ _ _) (.inr (rt_row_ne h r2 hne))
theorem rtPutLL {base : Nat} {v : Value} {L : List (List Tx)} {cs : Array Value} {fz : Nat × Nat} (h : OwnLL W2 base v L) (r2 : W2.heap[b]? = some (.cells cs 148 fz)) (j : Nat) (x : Value) :
  OwnLL (W2.setCell ⟨b, j, none⟩ x) base v L := h.kept (grown_setCell _ _ _ _) (fun u n xs hu => .inr (rt_row_ne hu r2 (by decide))) (fun u n xs hu => .inr (rt_row_ne hu r2 (by decide)))
theorem rtKeepLL {base e1 s1 n1 : Nat} {v u1 : Value} {xs1 : List Value} {L : List (List Tx)} {cs : Array Value} {fz : Nat × Nat} (h : OwnLL W1 base v L) (hg : W1.grownBy W2 u1.ownBlock) (hu : W1.ownsRow base e1 s1 u1 n1 xs1) (h1 : 29 ≠ e1) (h2 : 9 ≠ e1) (r2 : W2.heap[b]? = some (.cells cs 148 fz)) (j : Nat) (x : Value) :
  OwnLL (W2.setCell ⟨b, j, none⟩ x) base v L := rtPutLL (h.kept hg (fun _ _ _ h9 => rt_rows h9 hu h1) (fun _ _ _ h9 => rt_rows h9 hu h2)) r2 j x
theorem rtKeepM {m n b : Nat} {D : DataW Unit} {base e1 s1 n1 : Nat} {u1 : Value} {xs1 : List Value} {cs : Array Value} {fz : Nat × Nat} {t : TypeId} (h : W1.ownsMap Tryz.prog 9 loanR m n D) (hg : W1.grownBy W2 u1.ownBlock) (hu : W1.ownsRow base e1 s1 u1 n1 xs1) (r2 : W2.heap[b]? = some (.cells cs t fz)) (j : Nat) (x : Value) :
  (W2.setCell ⟨b, j, none⟩ x).ownsMap Tryz.prog 9 loanR m n D := by
 have hm : W2.ownsMap Tryz.prog 9 loanR m n D := by
  refine World.ownsMap.kept h hg fun e => ?_
  obtain ⟨es, cl, h1, _⟩ := h
  exact rt_row_map hu h1 e.symm
 refine World.ownsMap.kept hm (grown_setCell _ _ _ _) fun e => ?_
 obtain ⟨es, cl, h1, _⟩ := hm
 injection e with e
 subst e
 rw [h1] at r2
 cases r2
theorem RtA.row1 (R : RtA w0 W1 b o r vU vP vS vD vA m) {row : Option Nat} (hg : W1.grownBy W2 row) (hne : row ≠ some b) : W2.heap[b]? = some (.cells #[.pointer (some ⟨o, 0, none⟩), vU, vP, vS, vD, vA, .map (some m)] 148 (0, 0)) :=
 (hg.block b R.lt (fun e => hne e.symm)).trans R.row
theorem RtA.be1 (R : RtA w0 W1 b o r vU vP vS vD vA m) {row : Option Nat} (hg : W1.grownBy W2 row) (hlo : ∀ g, row = some g → w0.heap.size ≤ g) (j : Nat) (v : Value) : Below w0.heap.size w0 (W2.setCell ⟨b, j, none⟩ v) :=
 (R.be.grown hg R.be.size hlo).grown (grown_setCell _ _ _ _) (R.be.grown hg R.be.size hlo).size (fun g e => by cases e; exact R.lo)
theorem RtA.be0 (R : RtA w0 W b o r vU vP vS vD vA m) (j : Nat) (v : Value) : Below w0.heap.size w0 (W.setCell ⟨b, j, none⟩ v) := R.be.grown (grown_setCell _ _ _ _) R.be.size (fun g e => by cases e; exact R.lo)
theorem RtA.users' (R : RtA w0 W b o r vU vP vS vD vA m) (hb : Below W.heap.size W W1) (hg : W1.grownBy W2 vU.ownBlock) {v' : Value} {x : Tx × Nat} (ho : OwnH W2 w0.heap.size v' (r.users ++ [x])) (hk : ∀ g, v'.ownBlock = some g → vU.ownBlock = some g ∨ W.heap.size ≤ g) :
  RtA w0 (W2.setCell ⟨b, 1, none⟩ v') b o { r with users := r.users ++ [x] } v' vP vS vD vA m := by
 have R1 := R.below hb
 have r2 := R1.row1 hg (rt_row_ne R1.oU R1.row (by decide))
 exact ⟨heap_set (j := 1) r2 v', R.lo, rtPut ho r2 (by decide) _ _, rtKeep R1.oP hg (ap_or fun g e1 e2 => R1.apU g e2 e1) r2 (by decide) _ _, fun g e1 e2 => (hk g e1).elim (fun h => R1.apU g h e2) fun h => absurd (World.ownsRow.lt R.oP g e2).2 (by omega), rtKeep R1.oS hg (rt_rows R1.oS R1.oU (by decide)) r2 (by decide) _ _, rtKeep R1.oD hg (rt_rows R1.oD R1.oU (by decide)) r2 (by decide) _ _, R1.apS, rtKeepLL R1.oA hg R1.oU (by decide) (by decide) r2 _ _, rtKeepM R1.mp hg R1.oU r2 _ _, R.mlo, R1.be1 hg (fun g e => (World.ownsRow.lt R1.oU g e).1) _ _⟩
theorem RtA.perms' (R : RtA w0 W b o r vU vP vS vD vA m) (hb : Below W.heap.size W W1) (hg : W1.grownBy W2 vP.ownBlock) {v' : Value} {x : Tx × Nat} (ho : OwnH W2 w0.heap.size v' (r.perms ++ [x])) (hk : ∀ g, v'.ownBlock = some g → vP.ownBlock = some g ∨ W.heap.size ≤ g) :
  RtA w0 (W2.setCell ⟨b, 2, none⟩ v') b o { r with perms := r.perms ++ [x] } vU v' vS vD vA m := by
 have R1 := R.below hb
 have r2 := R1.row1 hg (rt_row_ne R1.oP R1.row (by decide))
 exact ⟨heap_set (j := 2) r2 v', R.lo, rtKeep R1.oU hg (ap_or fun g e1 e2 => R1.apU g e1 e2) r2 (by decide) _ _, rtPut ho r2 (by decide) _ _, fun g e1 e2 => (hk g e2).elim (fun h => R1.apU g e1 h) fun h => absurd (World.ownsRow.lt R.oU g e1).2 (by omega), rtKeep R1.oS hg (rt_rows R1.oS R1.oP (by decide)) r2 (by decide) _ _, rtKeep R1.oD hg (rt_rows R1.oD R1.oP (by decide)) r2 (by decide) _ _, R1.apS, rtKeepLL R1.oA hg R1.oP (by decide) (by decide) r2 _ _, rtKeepM R1.mp hg R1.oP r2 _ _, R.mlo, R1.be1 hg (fun g e => (World.ownsRow.lt R1.oP g e).1) _ _⟩
theorem RtA.stat' (R : RtA w0 W b o r vU vP vS vD vA m) (hb : Below W.heap.size W W1) (hg : W1.grownBy W2 vS.ownBlock) {v' : Value} {x : Int × Nat} (ho : OwnDS W2 w0.heap.size v' (r.stat ++ [x])) (hk : ∀ g, v'.ownBlock = some g → vS.ownBlock = some g ∨ W.heap.size ≤ g) :
  RtA w0 (W2.setCell ⟨b, 3, none⟩ v') b o { r with stat := r.stat ++ [x] } vU vP v' vD vA m := by
 have R1 := R.below hb
 have r2 := R1.row1 hg (rt_row_ne R1.oS R1.row (by decide))
 exact ⟨heap_set (j := 3) r2 v', R.lo, rtKeep R1.oU hg (rt_rows R1.oU R1.oS (by decide)) r2 (by decide) _ _, rtKeep R1.oP hg (rt_rows R1.oP R1.oS (by decide)) r2 (by decide) _ _, R1.apU, rtPut ho r2 (by decide) _ _, rtKeep R1.oD hg (ap_or fun g e1 e2 => R1.apS g e2 e1) r2 (by decide) _ _, fun g e1 e2 => (hk g e1).elim (fun h => R1.apS g h e2) fun h => absurd (World.ownsRow.lt R.oD g e2).2 (by omega), rtKeepLL R1.oA hg R1.oS (by decide) (by decide) r2 _ _, rtKeepM R1.mp hg R1.oS r2 _ _, R.mlo, R1.be1 hg (fun g e => (World.ownsRow.lt R1.oS g e).1) _ _⟩
theorem RtA.dyn' (R : RtA w0 W b o r vU vP vS vD vA m) (hb : Below W.heap.size W W1) (hg : W1.grownBy W2 vD.ownBlock) {v' : Value} {x : Int × Nat} (ho : OwnDS W2 w0.heap.size v' (r.dyn ++ [x])) (hk : ∀ g, v'.ownBlock = some g → vD.ownBlock = some g ∨ W.heap.size ≤ g) :
  RtA w0 (W2.setCell ⟨b, 4, none⟩ v') b o { r with dyn := r.dyn ++ [x] } vU vP vS v' vA m := by
 have R1 := R.below hb
 have r2 := R1.row1 hg (rt_row_ne R1.oD R1.row (by decide))
 exact ⟨heap_set (j := 4) r2 v', R.lo, rtKeep R1.oU hg (rt_rows R1.oU R1.oD (by decide)) r2 (by decide) _ _, rtKeep R1.oP hg (rt_rows R1.oP R1.oD (by decide)) r2 (by decide) _ _, R1.apU, rtKeep R1.oS hg (ap_or fun g e1 e2 => R1.apS g e1 e2) r2 (by decide) _ _, rtPut ho r2 (by decide) _ _, fun g e1 e2 => (hk g e2).elim (fun h => R1.apS g e1 h) fun h => absurd (World.ownsRow.lt R.oS g e1).2 (by omega), rtKeepLL R1.oA hg R1.oD (by decide) (by decide) r2 _ _, rtKeepM R1.mp hg R1.oD r2 _ _, R.mlo, R1.be1 hg (fun g e => (World.ownsRow.lt R1.oD g e).1) _ _⟩
theorem RtA.apart' (R : RtA w0 W b o r vU vP vS vD vA m) (hb : Below W.heap.size W W1) (hg : W1.grownBy W2 vA.ownBlock) {v' : Value} {x : List Tx} (ho : OwnLL W2 w0.heap.size v' (r.apart ++ [x])) :
  RtA w0 (W2.setCell ⟨b, 5, none⟩ v') b o { r with apart := r.apart ++ [x] } vU vP vS vD v' m := by
 have R1 := R.below hb
 obtain ⟨cs, _, hoA, _⟩ := R1.oA
 have r2 := R1.row1 hg (rt_row_ne hoA R1.row (by decide))
 exact ⟨heap_set (j := 5) r2 v', R.lo, rtKeep R1.oU hg (rt_rows R1.oU hoA (by decide)) r2 (by decide) _ _, rtKeep R1.oP hg (rt_rows R1.oP hoA (by decide)) r2 (by decide) _ _, R1.apU, rtKeep R1.oS hg (rt_rows R1.oS hoA (by decide)) r2 (by decide) _ _, rtKeep R1.oD hg (rt_rows R1.oD hoA (by decide)) r2 (by decide) _ _, R1.apS, rtPutLL ho r2 _ _, rtKeepM R1.mp hg hoA r2 _ _, R.mlo, R1.be1 hg (fun g e => (World.ownsRow.lt hoA g e).1) _ _⟩
theorem RtA.loans' (R : RtA w0 W b o r vU vP vS vD vA m) (hb : Below W.heap.size W W1) (hg : W1.grownBy W2 (some m)) {x : Tx × Int × Int} (ho : W2.ownsMap Tryz.prog 9 loanR m (r.loans.length + 1) (loanD (r.loans ++ [x]))) :
  RtA w0 W2 b o { r with loans := r.loans ++ [x] } vU vP vS vD vA m := by
 have R1 := R.below hb
 have hm : ∀ {base e s n : Nat} {v : Value} {xs : List Value}, W1.ownsRow base e s v n xs → v.ownBlock = none ∨ v.ownBlock ≠ some m := fun h => by
  obtain ⟨es, cl, h1, _⟩ := R1.mp
  exact .inr (rt_row_map h h1)
 have hne : some m ≠ some b := fun e => by
  injection e with e
  obtain ⟨es, cl, h1, _⟩ := R1.mp
  rw [e, R1.row] at h1
  cases h1
 exact ⟨R1.row1 hg hne, R.lo, World.ownsRow.kept R1.oU hg (hm R1.oU), World.ownsRow.kept R1.oP hg (hm R1.oP), R1.apU, World.ownsRow.kept R1.oS hg (hm R1.oS), World.ownsRow.kept R1.oD hg (hm R1.oD), R1.apS,
  R1.oA.kept hg (fun _ _ _ h => hm h) (fun _ _ _ h => hm h), by rw [List.length_append]; exact ho, R.mlo, R1.be.grown hg R1.be.size (fun g e => by cases e; exact R.mlo)⟩
end
structure TakTo (E : Int) (w0 w : World) (b o : Nat) (r' : Rt) (m : Nat) (e : Ending) (w' : World) : Prop where
 no : E ≠ 0 → e = .returned (eV E) ∧ Below w0.heap.size w0 w' ∧ ∀ g, g < w.heap.size → g ≠ b → w'.heap[g]? = w.heap[g]?
 ok : E = 0 → e = .returned .nilIface ∧ ∃ vU vP vS vD vA, RtA w0 w' b o r' vU vP vS vD vA m
theorem takTo_no {E : Int} {w0 w : World} {b o : Nat} {r' : Rt} {m : Nat} {w' : World} (hk : E ≠ 0) (hb : Below w0.heap.size w0 w') (hg : ∀ g, g < w.heap.size → g ≠ b → w'.heap[g]? = w.heap[g]?) : TakTo E w0 w b o r' m (.returned (eV E)) w' := ⟨fun _ => ⟨rfl, hb, hg⟩, fun h => absurd h hk⟩
theorem takTo_ok {E : Int} {w0 w : World} {b o : Nat} {r' : Rt} {m : Nat} {w' : World} {vU vP vS vD vA : Value} (h : E = 0) (hR : RtA w0 w' b o r' vU vP vS vD vA m) : TakTo E w0 w b o r' m (.returned .nilIface) w' := ⟨fun h9 => absurd h h9, fun _ => ⟨rfl, vU, vP, vS, vD, vA, hR⟩⟩
theorem tak_keep {w w1 w2 : World} {b j : Nat} {v : Value} (h0 : Below w.heap.size w w1) (hb : Below w1.heap.size w1 w2) : ∀ g, g < w.heap.size → g ≠ b → (w2.setCell ⟨b, j, none⟩ v).heap[g]? = w.heap[g]? := fun g hg hne =>
 (RowKit.Below.heap_setCell _ _ _ _ hne).trans ((hb.block g (Nat.lt_of_lt_of_le hg h0.size)).trans (h0.block g hg))
theorem tak_keep0 {w w1 w2 : World} {b : Nat} (h0 : Below w.heap.size w w1) (hb : Below w1.heap.size w1 w2) : ∀ g, g < w.heap.size → g ≠ b → w2.heap[g]? = w.heap[g]? := fun g hg _ =>
 (hb.block g (Nat.lt_of_lt_of_le hg h0.size)).trans (h0.block g hg)
theorem own_hk {v : Value} {g n cp k : Nat} (h : v.ownBlock = some g ∨ k ≤ g) : ∀ g', (Value.slice (some ⟨g, 0, none⟩) n cp).ownBlock = some g' → v.ownBlock = some g' ∨ k ≤ g' := fun g' e => by
 have e1 : g = g' := by simpa [Value.ownBlock] using e
 subst e1
 exact h
section
variable (names : List Tx) (bl : List Nat) (w0 w : World) (b o m : Nat) (r : Rt) (vU vP vS vD vA : Value) (rn rm : Int) (nm rf rt rb ra ri : Tx) (l : List Tx) (B : Option Addr) (c : Nat) (ln : Int)
set_option maxHeartbeats 4000000 in
theorem take_user (R : RtA w0 w b o r vU vP vS vD vA m) (hO : OrdAt w0 o names bl) (hL : ListAt w B c l) (hl : l.length ≤ 4096) (hn : r.users.length ≤ 30) :
  Calls Tryz.prog 73 #[.pointer (some ⟨b, 0, none⟩), .agg #[.int .i64 2, .string (bs nm), .slice B l.length c, .int .i64 rn, .int .i64 rm, .string (bs rf), .string (bs rt), .string (bs rb), .string (bs ra), .string (bs ri), .int .i64 ln]] w
   (TakTo (hldE names r.users ⟨2, nm, l, rn, rm, rf, rt, rb, ra, ri⟩ 12) w0 w b o { r with users := r.users ++ [(nm, (rtSet names l 0).getD 0)] } m) := by
 obtain ⟨AU, cU, rfl⟩ := own_slice R.oU
 have RA := heap_alloc_new w (.cells #[.int .i64 2, .string (bs nm), .slice B l.length c, .int .i64 rn, .int .i64 rm, .string (bs rf), .string (bs rt), .string (bs rb), .string (bs ra), .string (bs ri), .int .i64 ln] 31)
 have hb1 := rbox w (.cells #[.int .i64 2, .string (bs nm), .slice B l.length c, .int .i64 rn, .int .i64 rm, .string (bs rf), .string (bs rt), .string (bs rb), .string (bs ra), .string (bs ri), .int .i64 ln] 31)
 have HR := Lib.hid (R.below hb1)
 have H0 := Lib.hid hb1
 have HL := Lib.hid (hL.below hb1)
 clear hb1 R hL
 go_enter Tryz.func73, Tryz.ntmps73
 go_upto_region 1 with fail
 have HRA := Lib.hid RA
 have q0 := row_q0 RA
 clear RA
 obtain ⟨gb, hgb⟩ : ∃ gb, gb = w.heap.size := ⟨_, rfl⟩
 rw [← hgb] at HRA q0 ⊢
 have HGB := Lib.hid hgb
 clear hgb
 generalize w.alloc (.cells #[.int .i64 2, .string (bs nm), .slice B l.length c, .int .i64 rn, .int .i64 rm, .string (bs rf), .string (bs rt), .string (bs rb), .string (bs ra), .string (bs ri), .int .i64 ln] 31) = w1 at *
 go_upto_region 3 with fail
 have HB := Lib.hid (Below.refl w1.heap.size w1)
 obtain ⟨q1, q2, q3, q4, q5, q6, q7, q8, q9, q10⟩ := row_qs1 HRA.out
 have r1 := HR.out.q1
 have WH : Hid (∀ W, Below w1.heap.size w1 W → Calls Tryz.prog 142 #[.pointer (some ⟨b, 0, none⟩), .slice AU r.users.length cU, .agg #[.int .i64 2, .string (bs nm), .slice B l.length c, .int .i64 rn, .int .i64 rm, .string (bs rf), .string (bs rt), .string (bs rb), .string (bs ra), .string (bs ri), .int .i64 ln], .int .i64 12] W
   (GrwTo (hldE names r.users ⟨2, nm, l, rn, rm, rf, rt, rb, ra, ri⟩ 12) w0.heap.size (.slice AU r.users.length cU) (fun w' v => OwnH w' w0.heap.size v (r.users ++ [(nm, (rtSet names l 0).getD 0)])) W)) := fun W hW => by
  have RW := HR.out.below hW
  exact withHolder_any names bl r.users AU cU w0.heap.size b o 12 2 rn rm nm rf rt rb ra ri l B c ln W RW.q0 RW.lt (hO.below RW.be) (HL.out.below hW) hl RW.oU RW.be.size hn
 generalize hldE names r.users ⟨2, nm, l, rn, rm, rf, rt, rb, ra, ri⟩ 12 = E at *
 by_cases hE : E = 0
 ·have HE : Hid (E = 0) := hE
  clear hE
  go_region_with (go_at_call 142; refine (WH.out _ (by first | exact Below.refl _ _ | exact below_drew (Below.refl _ _))).mono ?_; intro e w3 h3; obtain ⟨w2, g2, cp2, n2, hb2', hg2, e9, ho2, hat2⟩ := h3.ok HE.out; subst e9; have hb2 : Below w1.heap.size w1 w2 := (by first | exact hb2' | exact below_then (below_drew (Below.refl _ _)) hb2' (Nat.le_refl _)); have r9 := (HR.out.below hb2).row1 hg2 (rt_row_ne (HR.out.below hb2).oU (HR.out.below hb2).row (by decide)); have s1 := cell_of_row w3 b 1 _ _ _ r9; have f1 : w3.frozen? ⟨b, 1, none⟩ = false := (by simp [World.frozen?, r9]); have R5 := Lib.hid (HR.out.users' hb2 hg2 ho2 (own_hk hat2)); clear h3 r9)
  all_goals
   go_wp2
   go_ret
   first | exact takTo_ok HE.out R5.out | exact takTo_ok HE.out (R5.out.below (below_drew (Below.refl _ _)))
 ·have HE : Hid (E ≠ 0) := hE
  clear hE
  go_region_with (go_at_call 142; refine (WH.out _ (by first | exact Below.refl _ _ | exact below_drew (Below.refl _ _))).mono ?_; intro e w2 h2; obtain ⟨e9, hb2'⟩ := h2.no HE.out; subst e9; have hb2 : Below w1.heap.size w1 w2 := (by first | exact hb2' | exact below_then (below_drew (Below.refl _ _)) hb2' (Nat.le_refl _)); have R2 := HR.out.below hb2; have s1 := R2.q1; have f1 := R2.fz 1; have R5 := Lib.hid (R2.be0 1 (.slice none 0 0)); have K5 := Lib.hid (tak_keep (b := b) (j := 1) (v := .slice none 0 0) H0.out hb2); clear h2 R2)
  all_goals
   go_wp2
   go_ret
   first | exact takTo_no HE.out R5.out K5.out | exact takTo_no HE.out (below_drew R5.out) K5.out
end
end Go.Proofs.YtgffbgmieppckaaGreatDoor
