import Derived.Test.YtgffbgmieppckaaGreatDoorRt6
import Derived.Test.YtgffbgmieppckaaGreatDoorRt1
namespace Go.Proofs.YtgffbgmieppckaaGreatDoor
set_option maxRecDepth 100000
open Go.ChangeShapes Go.WideShapes Go.ChangeAt Go.RowKit
theorem row_grow {w w' : World} {o : Obj} {base e s n b : Nat} {v : Value} {xs : List Value} {cs : Array Value} {t : TypeId} {fz : Nat × Nat} (R : w.heap[b]? = some (.cells cs t fz)) (h : (w.alloc o).ownsRow base e s v n xs) (hg : (w.alloc o).grownBy w' v.ownBlock) (hne : t ≠ e) :
  w'.heap[b]? = some (.cells cs t fz) := by
 have R1 : (w.alloc o).heap[b]? = some (.cells cs t fz) := ((rbox w o).block _ (Array.getElem?_eq_some_iff.1 R).1).trans R
 exact (hg.block b (Array.getElem?_eq_some_iff.1 R1).1 (fun e => rt_row_ne h R1 hne e.symm)).trans R1
def RpTo (p : Rs (List Pr)) (w : World) (e : Ending) (w' : World) : Prop := Below w.heap.size w w' ∧ match p with
 | .bad ln k => ∃ b, e = .returned (.tuple #[.slice none 0 0, .iface 175 (.pointer (some ⟨b, 0, none⟩))]) ∧ w.heap.size ≤ b ∧ b < w'.heap.size ∧ FaultAt w' b ln 1 k
 | .ok ps => ∃ A c, e = .returned (.tuple #[.slice A ps.length c, .nilIface]) ∧ OwnP w' w.heap.size (.slice A ps.length c) ps ∧ ps.length ≤ 819200
theorem rpTo_bad {p : Rs (List Pr)} {ln : Nat} {k : Int} {b : Nat} {w w' : World} (h : p = .bad ln k) (hb : Below w.heap.size w w') (h1 : w.heap.size ≤ b) (h2 : b < w'.heap.size) (h3 : FaultAt w' b ln 1 k) :
  RpTo p w (.returned (.tuple #[.slice none 0 0, .iface 175 (.pointer (some ⟨b, 0, none⟩))])) w' := by subst h; exact ⟨hb, b, rfl, h1, h2, h3⟩
theorem rpTo_ok {p : Rs (List Pr)} {ps : List Pr} {A : Option Addr} {c : Nat} {w w' : World} (h : p = .ok ps) (hb : Below w.heap.size w w') (h1 : OwnP w' w.heap.size (.slice A ps.length c) ps) (h2 : ps.length ≤ 819200) :
  RpTo p w (.returned (.tuple #[.slice A ps.length c, .nilIface])) w' := by subst h; exact ⟨hb, A, c, rfl, h1, h2⟩
theorem rtPairs_none {names : List Tx} {x : Ru × Nat} {r : List (Ru × Nat)} {ps : List Pr} (h : rtJun names x.1.name x.1.list ps = none) : rtPairs names (x :: r) ps = .bad x.2 3 := by rw [rtPairs, h]
theorem rtPairs_some {names : List Tx} {x : Ru × Nat} {r : List (Ru × Nat)} {ps qs : List Pr} (h : rtJun names x.1.name x.1.list ps = some qs) : rtPairs names (x :: r) ps = rtPairs names r qs := by rw [rtPairs, h]
theorem rtJun_in {names : List Tx} {s j : Tx} {r : List Tx} {ps : List Pr} (h : j ∈ names) : rtJun names s (j :: r) ps = rtJun names s r (ps ++ [(s, j)]) := by rw [rtJun, if_pos h]
theorem rtJun_out {names : List Tx} {s j : Tx} {r : List Tx} {ps : List Pr} (h : j ∉ names) : rtJun names s (j :: r) ps = none := by rw [rtJun, if_neg h]
set_option maxHeartbeats 4000000 in
theorem rolePairs_any (acc : List RL) (A : Option Addr) (cap : Nat) (names : List Tx) (AN : Option Addr) (cN : Nat) (w : World) (hR : RIn w A acc) (ha : acc.length ≤ 200) (hll : ∀ x ∈ acc, x.1.list.length ≤ 4096) (hN : ListAt w AN cN names) (hn : names.length ≤ 24) :
  Calls Tryz.prog 137 #[.slice A acc.length cap, .slice AN names.length cN] w (RpTo (rtPairs names (acc.map er) []) w) := by
 have HR := Lib.hid hR
 have HLL := Lib.hid hll
 have HN := Lib.hid hN
 clear hR hll hN
 obtain ⟨i0, hi, hz0, hz1, hz2⟩ := info_parts Tryz.infoPair
 go_enter Tryz.func137, Tryz.ntmps137
 go_upto_region 3 with fail
 go_loopw [6, 13] (fun l i wr => ∃ (k : Nat) (ps : List Pr), k ≤ acc.length ∧ i = .int .i64 k ∧ ps.length ≤ 4096 * k ∧ Hid (rtPairs names (acc.map er) [] = rtPairs names ((acc.map er).drop k) ps) ∧ Hid (OwnP wr w.heap.size l ps) ∧ Below w.heap.size w wr) (fun _ i _ => acc.length - (intOf i).toNat)
 case atStart => exact ⟨0, [], Nat.zero_le _, rfl, Nat.zero_le _, rfl, World.ownsRow_nil _ _ _ _, Below.refl _ _⟩
 case round =>
  obtain ⟨k, ps0, hkk, rfl, hpl, HP, HO, hbw⟩ := hrel
  have hbz := hbw.size
  obtain ⟨AP, cP, rfl⟩ := own_slice HO.out
  by_cases hlt : k < acc.length
  ·obtain ⟨g, rfl, hgl, hc, B, c, e2, hL⟩ := HR.out k hlt
   have hdr : (acc.map er).drop k = er acc[k] :: (acc.map er).drop (k + 1) := by rw [List.drop_eq_getElem_cons (by simpa using hlt)]; simp
   have hP := HP.out
   rw [hdr] at hP
   have hll := HLL.out _ (List.getElem_mem hlt)
   have q := fun f u hf hu => (hbw.cell (p := ⟨g, k * 11 + f, none⟩) hgl).trans (hc f u hf hu)
   clear hc hdr HP
   generalize acc[k] = x at *
   obtain ⟨⟨kd, nm, l, rn, rm, rf, rt, rb, ra, ri⟩, ln, L⟩ := x
   obtain rfl : L = .slice B l.length c := e2
   simp only at hL hll
   have q0 := q 0 _ (by omega) rfl; have q1 := q 1 _ (by omega) rfl; have q2 := q 2 _ (by omega) rfl; have q3 := q 3 _ (by omega) rfl; have q4 := q 4 _ (by omega) rfl; have q5 := q 5 _ (by omega) rfl; have q6 := q 6 _ (by omega) rfl; have q7 := q 7 _ (by omega) rfl; have q8 := q 8 _ (by omega) rfl; have q9 := q 9 _ (by omega) rfl; have q10 := q 10 _ (by omega) rfl
   simp only [Nat.add_zero] at q0
   clear q
   have HL := Lib.hid hL
   have HPP := Lib.hid hP
   clear hL hP
   go_upto_region 5 with fail
   have RA := heap_alloc_new wr (.cells #[.int .i64 kd, .string (bs nm), .slice B l.length c, .int .i64 rn, .int .i64 rm, .string (bs rf), .string (bs rt), .string (bs rb), .string (bs ra), .string (bs ri), .int .i64 ln] 31)
   have hb1 := rbox wr (.cells #[.int .i64 kd, .string (bs nm), .slice B l.length c, .int .i64 rn, .int .i64 rm, .string (bs rf), .string (bs rt), .string (bs rb), .string (bs ra), .string (bs ri), .int .i64 ln] 31)
   have HO1 := Lib.hid (own_below HO.out hb1 hbz)
   have HB2 := Lib.hid (below_then hbw hb1 hbz)
   have hlw : wr.heap.size < (wr.alloc (.cells #[.int .i64 kd, .string (bs nm), .slice B l.length c, .int .i64 rn, .int .i64 rm, .string (bs rf), .string (bs rt), .string (bs rb), .string (bs ra), .string (bs ri), .int .i64 ln] 31)).heap.size := by simp
   clear q0 q1 q2 q3 q4 q5 q6 q7 q8 q9 q10 hb1 HO
   generalize wr.alloc (.cells #[.int .i64 kd, .string (bs nm), .slice B l.length c, .int .i64 rn, .int .i64 rm, .string (bs rf), .string (bs rt), .string (bs rb), .string (bs ra), .string (bs ri), .int .i64 ln] 31) = w1 at *
   generalize wr.heap.size = gb at *
   have q2 := row_q2 RA
   have HRA := Lib.hid RA
   clear RA
   go_upto_region 6 with fail
   clear q2
   go_loopw [6, 20] (fun v i wr => ∃ (j : Nat) (ps : List Pr), j ≤ l.length ∧ i = .int .i64 j ∧ ps.length ≤ 4096 * k + j ∧ Hid (rtJun names nm l ps0 = rtJun names nm (l.drop j) ps) ∧ Hid (OwnP wr w.heap.size v ps) ∧ Hid (wr.heap[gb]? = some (.cells #[.int .i64 kd, .string (bs nm), .slice B l.length c, .int .i64 rn, .int .i64 rm, .string (bs rf), .string (bs rt), .string (bs rb), .string (bs ra), .string (bs ri), .int .i64 ln] 31 (0, 0))) ∧ Below w.heap.size w wr) (fun _ i _ => l.length - (intOf i).toNat)
   case atStart => exact ⟨0, ps0, Nat.zero_le _, rfl, by omega, rfl, HO1.out, HRA.out, HB2.out⟩
   case round =>
    clear HO1 HRA HB2 hlw hbw hbz
    obtain ⟨j, ps, hj, rfl, hpj, HJ, HO, HRA, hbw⟩ := hrel
    obtain ⟨AR, cR, rfl⟩ := own_slice HO.out
    have hbz := hbw.size
    by_cases hjl : j < l.length
    ·obtain ⟨g2, rfl, hgl2, hc2⟩ := (HL.out.below hbw).2 j hjl
     have hdr : l.drop j = l[j] :: l.drop (j + 1) := List.drop_eq_getElem_cons hjl
     have hJ := HJ.out
     rw [hdr] at hJ
     clear hdr HJ
     generalize l[j] = y at *
     have CO := Lib.hid (Contains_str names y AN cN wr (HN.out.below hbw) (by omega))
     by_cases hm : y ∈ names
     ·have HJ2 : Hid (rtJun names nm l ps0 = rtJun names nm (l.drop (j + 1)) (ps ++ [(nm, y)])) := hJ.trans (rtJun_in hm)
      have CO2 : Hid (Calls Tryz.prog 117 #[.slice AN names.length cN, .string (bs y)] wr fun e w' => e = .returned (.bool true) ∧ wr = w') := by have := CO.out; rwa [decide_eq_true hm] at this
      have q1 := row_q1 HRA.out
      clear CO hm hJ
      go_wp2_with (first
       | (go_at_call 117; refine CO2.out.mono ?_; rintro e w4 ⟨rfl, rfl⟩)
       | (at_builtin; go_must (refine wpList_append_own _ rfl (.tmp 31) (.tmp 36) 229 rfl w.heap.size 303 i0 _ 2 32 Tryz.underlying229 hi hz0 hz1 hz2 rfl (by decide) _ ps.length (pcells ps) rfl (World.ownsRow.alloc HO.out _) ⟨wr.heap.size, 0, none⟩ 1 1 [.string (bs nm), .string (bs y)] rfl rfl (cells_new _ _ _) (by intro u hu; simp at hu; rcases hu with rfl | rfl <;> rfl) (by unfold maxLen; omega) (by omega) (by simp; omega) ?_); intro v' w6 hown' hg' _; obtain ⟨A6, c6, rfl⟩ := own_slice hown'))
      have HO4 : Hid (OwnP w6 w.heap.size (.slice A6 (ps.length + 1) c6) (ps ++ [(nm, y)])) := by
       show World.ownsRow _ _ _ _ _ _ _
       rw [List.length_append, pcells_snoc]
       exact hown'
      have HB4 : Hid (Below w.heap.size w w6) := (hbw.alloc hbw.size _).grown hg' (Nat.le_trans hbw.size (by simp)) (fun j e => (HO.out.lt j e).1)
      have HR4 := Lib.hid (row_grow HRA.out (World.ownsRow.alloc HO.out _) hg' (by decide))
      go_roundw
      case rel => exact ⟨j + 1, ps ++ [(nm, y)], by omega, by go_num, by simp; omega, HJ2, HO4, HR4, HB4.out⟩
      case measure => simp [intOf]; omega
     ·have hbad := rtPairs_none (x := ((⟨kd, nm, l, rn, rm, rf, rt, rb, ra, ri⟩ : Ru), ln)) (r := (acc.map er).drop (k + 1)) (hJ.trans (rtJun_out hm))
      have HE : Hid (rtPairs names (acc.map er) [] = .bad ln 3) := HPP.out.trans hbad
      have CO2 : Hid (Calls Tryz.prog 117 #[.slice AN names.length cN, .string (bs y)] wr fun e w' => e = .returned (.bool false) ∧ wr = w') := by have := CO.out; rwa [decide_eq_false hm] at this
      obtain ⟨q0, q1, q2, q3, q4, q5, q6, q7, q8, q9, q10⟩ := row_qs0 HRA.out
      have FL := Lib.hid (rfault_any kd rn rm (bs nm) (bs rf) (bs rt) (bs rb) (bs ra) (bs ri) (some ⟨g2, 0, none⟩) l.length c ln 3 wr)
      clear CO hm hJ hbad HPP
      go_wp2_with (first
       | (go_at_call 117; refine CO2.out.mono ?_; rintro e w4 ⟨rfl, rfl⟩)
       | (go_at_call 74; refine FL.out.mono ?_; rintro e w3 ⟨fb, rfl, hf1, hf2, hF, hb3⟩; have HF := Lib.hid hF; clear hF))
      go_ret2
      exact rpTo_bad HE.out (below_then hbw hb3 hbz) (by omega) hf2 HF.out
    ·have hJ := HJ.out
     rw [List.drop_eq_nil_of_le (by omega), rtJun] at hJ
     have hnx := rtPairs_some (x := ((⟨kd, nm, l, rn, rm, rf, rt, rb, ra, ri⟩ : Ru), ln)) (r := (acc.map er).drop (k + 1)) hJ
     have HE : Hid (rtPairs names (acc.map er) [] = rtPairs names ((acc.map er).drop (k + 1)) ps) := HPP.out.trans hnx
     clear hJ HJ hnx HPP
     go_wp2
     go_roundw
     case rel => exact ⟨k + 1, ps, by omega, by go_num, by omega, HE, HO.out, hbw⟩
     case measure => simp [intOf]; omega
  ·have hP := HP.out
   rw [List.drop_eq_nil_of_le (by simp; omega), rtPairs] at hP
   have HE := Lib.hid hP
   clear hP HP
   go_wp2
   go_ret2
   exact rpTo_ok HE.out hbw HO.out (by omega)
theorem rtNames_facts : ∀ {l : List (Ru × Nat)} {n0 ns : List Tx}, rtNames l n0 = .ok ns → n0.Nodup → n0.length ≤ 24 → ns.Nodup ∧ ns.length ≤ 24 ∧ (∀ y ∈ n0, y ∈ ns) ∧ (∀ x ∈ l, x.1.name ∈ ns) ∧ ∀ y ∈ ns, y ∈ n0 ∨ ∃ x ∈ l, x.1.name = y
 | [], n0, ns, h, hd, hl => by
  rw [rtNames] at h
  injection h with h
  subst h
  exact ⟨hd, hl, fun _ h => h, (fun x hx => by cases hx), fun _ h => .inl h⟩
 | x :: r, n0, ns, h, hd, hl => by
  by_cases hm : x.1.name ∈ n0
  ·rw [rtNames_there hm] at h; cases h
  by_cases h24 : 24 ≤ n0.length
  ·rw [rtNames_limit hm h24] at h; cases h
  rw [rtNames_next hm h24] at h
  have hd2 : (n0 ++ [x.1.name]).Nodup := by
   rw [List.nodup_append]
   exact ⟨hd, by simp, fun a ha b hb e => hm (by rw [← List.mem_singleton.1 hb, ← e]; exact ha)⟩
  obtain ⟨h1, h2, h3, h4, h5⟩ := rtNames_facts h hd2 (by simp; omega)
  refine ⟨h1, h2, fun y hy => h3 y (List.mem_append_left _ hy), fun y hy => ?_, fun y hy => ?_⟩
  ·rcases List.mem_cons.1 hy with rfl | hy
   ·exact h3 _ (List.mem_append_right _ (List.mem_singleton.2 rfl))
   ·exact h4 y hy
  ·rcases h5 y hy with h | ⟨z, hz, e⟩
   ·rcases List.mem_append.1 h with h | h
    ·exact .inl h
    ·exact .inr ⟨x, List.mem_cons_self, (List.mem_singleton.1 h).symm⟩
   ·exact .inr ⟨z, List.mem_cons_of_mem _ hz, e⟩
theorem rtJun_facts {names : List Tx} {s : Tx} (hs : s ∈ names) : ∀ {l : List Tx} {p0 ps : List Pr}, rtJun names s l p0 = some ps → (∀ p ∈ p0, inN names p = true) → ∀ p ∈ ps, inN names p = true
 | [], p0, ps, h, h0 => by
  rw [rtJun] at h
  injection h with h
  subst h
  exact h0
 | y :: r, p0, ps, h, h0 => by
  by_cases hy : y ∈ names
  ·rw [rtJun_in hy] at h
   refine rtJun_facts hs h fun p hp => ?_
   rcases List.mem_append.1 hp with hp | hp
   ·exact h0 p hp
   ·rw [List.mem_singleton.1 hp]; simp [inN, hs, hy]
  ·rw [rtJun_out hy] at h; cases h
theorem rtPairs_facts {names : List Tx} : ∀ {l : List (Ru × Nat)} {p0 ps : List Pr}, rtPairs names l p0 = .ok ps → (∀ x ∈ l, x.1.name ∈ names) → (∀ p ∈ p0, inN names p = true) → ∀ p ∈ ps, inN names p = true
 | [], p0, ps, h, _, h0 => by
  rw [rtPairs] at h
  injection h with h
  subst h
  exact h0
 | x :: r, p0, ps, h, hx, h0 => by
  cases hj : rtJun names x.1.name x.1.list p0 with
  | none => rw [rtPairs_none hj] at h; cases h
  | some qs =>
   rw [rtPairs_some hj] at h
   exact rtPairs_facts h (fun y hy => hx y (List.mem_cons_of_mem _ hy)) (rtJun_facts (hx x List.mem_cons_self) hj h0)
theorem rtCirc_yes {names : List Tx} {ps : List Pr} {x : Ru × Nat} {r : List (Ru × Nat)} (h : circB names ps x.1.name = true) : rtCirc names ps (x :: r) = .bad x.2 6 := by rw [rtCirc, if_pos h]
theorem rtCirc_no {names : List Tx} {ps : List Pr} {x : Ru × Nat} {r : List (Ru × Nat)} (h : circB names ps x.1.name = false) : rtCirc names ps (x :: r) = rtCirc names ps r := by rw [rtCirc, if_neg (by rw [h]; simp)]
theorem rtCirc_facts {names : List Tx} {ps : List Pr} : ∀ {l : List (Ru × Nat)} {u : Unit}, rtCirc names ps l = .ok u → ∀ x ∈ l, circB names ps x.1.name = false
 | x :: r, u, h, y, hy => by
  cases hc : circB names ps x.1.name
  ·rw [rtCirc_no hc] at h
   rcases List.mem_cons.1 hy with rfl | hy
   ·exact hc
   ·exact rtCirc_facts h y hy
  ·rw [rtCirc_yes hc] at h; cases h
theorem rtHier_names {roles : List (Ru × Nat)} {a : Nat} {b : Int} (h : rtNames roles [] = .bad a b) : rtHier roles = .bad a b := by unfold rtHier; rw [h]
theorem rtHier_pairs {roles : List (Ru × Nat)} {ns : List Tx} {a : Nat} {b : Int} (h : rtNames roles [] = .ok ns) (h2 : rtPairs ns roles [] = .bad a b) : rtHier roles = .bad a b := by unfold rtHier; rw [h]; dsimp only; rw [h2]
theorem rtHier_circ {roles : List (Ru × Nat)} {ns : List Tx} {ps : List Pr} {a : Nat} {b : Int} (h : rtNames roles [] = .ok ns) (h2 : rtPairs ns roles [] = .ok ps) (h3 : rtCirc ns ps roles = .bad a b) : rtHier roles = .bad a b := by unfold rtHier; rw [h]; dsimp only; rw [h2]; dsimp only; rw [h3]
theorem rtHier_ok {roles : List (Ru × Nat)} {ns : List Tx} {ps : List Pr} {u : Unit} (h : rtNames roles [] = .ok ns) (h2 : rtPairs ns roles [] = .ok ps) (h3 : rtCirc ns ps roles = .ok u) : rtHier roles = .ok (ns, ps) := by unfold rtHier; rw [h]; dsimp only; rw [h2]; dsimp only; rw [h3]
theorem rtHier_new {roles : List (Ru × Nat)} {ns : List Tx} {ps : List Pr} {u : Unit} (h : rtNames roles [] = .ok ns) (h2 : rtPairs ns roles [] = .ok ps) (h3 : rtCirc ns ps roles = .ok u) : newP ns ps = .ok (rtBl ns ps) := by
 obtain ⟨f1, f2, _, f4, f5⟩ := rtNames_facts h List.nodup_nil (by simp)
 have g := rtPairs_facts h2 f4 (fun p hp => by cases hp)
 have k := rtCirc_facts h3
 exact new_ok f2 f1 (all_take g) (circ_none (fun x hx => by
  rcases f5 x hx with hx | ⟨y, hy, e⟩
  ·cases hx
  ·rw [← e]; exact k y hy) f1)
def HiTo (p : Rs (List Tx × List Pr)) (w : World) (e : Ending) (w' : World) : Prop := Below w.heap.size w w' ∧ match p with
 | .bad ln k => ∃ b, e = .returned (.tuple #[.pointer none, .iface 175 (.pointer (some ⟨b, 0, none⟩))]) ∧ w.heap.size ≤ b ∧ b < w'.heap.size ∧ FaultAt w' b ln 1 k
 | .ok (ns, ps) => ∃ o, e = .returned (.tuple #[.pointer (some ⟨o, 0, none⟩), .nilIface]) ∧ OrdAt w' o ns (rtBl ns ps)
theorem hiTo_bad {p : Rs (List Tx × List Pr)} {ln : Nat} {k : Int} {b : Nat} {w w' : World} (h : p = .bad ln k) (hb : Below w.heap.size w w') (h1 : w.heap.size ≤ b) (h2 : b < w'.heap.size) (h3 : FaultAt w' b ln 1 k) :
  HiTo p w (.returned (.tuple #[.pointer none, .iface 175 (.pointer (some ⟨b, 0, none⟩))])) w' := by subst h; exact ⟨hb, b, rfl, h1, h2, h3⟩
theorem hiTo_ok {p : Rs (List Tx × List Pr)} {ns : List Tx} {ps : List Pr} {o : Nat} {w w' : World} (h : p = .ok (ns, ps)) (hb : Below w.heap.size w w') (h1 : OrdAt w' o ns (rtBl ns ps)) :
  HiTo p w (.returned (.tuple #[.pointer (some ⟨o, 0, none⟩), .nilIface])) w' := by subst h; exact ⟨hb, o, rfl, h1⟩
set_option maxHeartbeats 4000000 in
theorem hier_any (acc : List RL) (A : Option Addr) (cap : Nat) (w : World) (hR : RIn w A acc) (ha : acc.length ≤ 200) (hll : ∀ x ∈ acc, x.1.list.length ≤ 4096) :
  Calls Tryz.prog 71 #[.slice A acc.length cap] w (HiTo (rtHier (acc.map er)) w) := by
 have RN := Lib.hid (roleNames_any acc A cap w hR (by omega))
 have HR := Lib.hid hR
 have HLL := Lib.hid hll
 clear hR hll
 go_enter Tryz.func71, Tryz.ntmps71
 cases hnm : rtNames (acc.map er) [] with
 | bad ln k =>
  rw [hnm] at RN
  have HE : Hid (rtHier (acc.map er) = .bad ln k) := rtHier_names hnm
  clear hnm HR HLL
  go_wp2_with (go_at_call 136; refine RN.out.mono ?_; rintro e w1 ⟨hb1, fb, rfl, hf1, hf2, hF⟩; have HF := Lib.hid hF; have HB1 := Lib.hid hb1; clear hF hb1)
  go_ret2
  exact hiTo_bad HE.out HB1.out hf1 hf2 HF.out
 | ok ns =>
  rw [hnm] at RN
  obtain ⟨f1, f2, _, f4, f5⟩ := rtNames_facts hnm List.nodup_nil (by simp)
  have HNM := Lib.hid hnm
  have HF1 := Lib.hid f1
  have HF4 := Lib.hid f4
  clear hnm f1 f4 f5
  go_upto_region 4 with (go_at_call 136; refine RN.out.mono ?_; rintro e w1 ⟨hb1, AN, cN, rfl, hN⟩; have HN := Lib.hid (listAt_of hN); have HB1 := Lib.hid hb1; have RP := Lib.hid (rolePairs_any acc A cap ns AN cN w1 (HR.out.below hb1) ha HLL.out (listAt_of hN) f2); clear hN hb1)
  cases hpr : rtPairs ns (acc.map er) [] with
  | bad ln k =>
   rw [hpr] at RP
   have HE : Hid (rtHier (acc.map er) = .bad ln k) := rtHier_pairs HNM.out hpr
   clear hpr HR HLL RN
   go_wp2_with (go_at_call 137; refine RP.out.mono ?_; rintro e w2 ⟨hb2, fb, rfl, hf1, hf2, hF⟩; have HF := Lib.hid hF; have HB2 := Lib.hid (below_then HB1.out hb2 HB1.out.size); clear hF hb2)
   go_ret2
   exact hiTo_bad HE.out HB2.out (Nat.le_trans HB1.out.size hf1) hf2 HF.out
  | ok ps =>
   rw [hpr] at RP
   have HPI := Lib.hid (rtPairs_facts hpr HF4.out (fun p hp => by cases hp))
   have HPR := Lib.hid hpr
   clear hpr RN
   go_upto_region 7 with (go_at_call 137; refine RP.out.mono ?_; rintro e w2 ⟨hb2, AP, cP, rfl, hP, hpl⟩; have HN2 := Lib.hid (HN.out.below hb2); have HB2 := Lib.hid (below_then HB1.out hb2 HB1.out.size); have HP := Lib.hid (pAt_of hP); clear hP hb2)
   clear RP HN HB1
   go_upto_region 8 with fail
   go_loopw [28] (fun i wr => ∃ k : Nat, k ≤ acc.length ∧ i = .int .i64 k ∧ Hid (rtCirc ns ps (acc.map er) = rtCirc ns ps ((acc.map er).drop k)) ∧ Below w2.heap.size w2 wr) (fun i _ => acc.length - (intOf i).toNat)
   case atStart => exact ⟨0, Nat.zero_le _, rfl, rfl, Below.refl _ _⟩
   case round =>
    obtain ⟨k, hkk, rfl, HC, hbw⟩ := hrel
    have hbz := hbw.size
    by_cases hlt : k < acc.length
    ·obtain ⟨g, rfl, hgl, hc, B, c, e2, hL⟩ := HR.out k hlt
     have hdr : (acc.map er).drop k = er acc[k] :: (acc.map er).drop (k + 1) := by rw [List.drop_eq_getElem_cons (by simpa using hlt)]; simp
     have hC := HC.out
     rw [hdr] at hC
     have hmem := HF4.out (er acc[k]) (List.mem_map_of_mem (List.getElem_mem hlt))
     have hbw2 := below_then HB2.out hbw HB2.out.size
     have q := fun f u hf hu => (hbw2.cell (p := ⟨g, k * 11 + f, none⟩) hgl).trans (hc f u hf hu)
     clear hc hdr HC hL
     generalize acc[k] = x at *
     obtain ⟨⟨kd, nm, l, rn, rm, rf, rt, rb, ra, ri⟩, ln, L⟩ := x
     obtain rfl : L = .slice B l.length c := e2
     have q0 := q 0 _ (by omega) rfl; have q1 := q 1 _ (by omega) rfl; have q2 := q 2 _ (by omega) rfl; have q3 := q 3 _ (by omega) rfl; have q4 := q 4 _ (by omega) rfl; have q5 := q 5 _ (by omega) rfl; have q6 := q 6 _ (by omega) rfl; have q7 := q 7 _ (by omega) rfl; have q8 := q 8 _ (by omega) rfl; have q9 := q 9 _ (by omega) rfl; have q10 := q 10 _ (by omega) rfl
     simp only [Nat.add_zero] at q0
     clear q
     have HCC := Lib.hid hC
     have HME : Hid (nm ∈ ns) := hmem
     clear hC hmem
     go_upto_region 10 with fail
     have RA := heap_alloc_new wr (.cells #[.int .i64 kd, .string (bs nm), .slice B l.length c, .int .i64 rn, .int .i64 rm, .string (bs rf), .string (bs rt), .string (bs rb), .string (bs ra), .string (bs ri), .int .i64 ln] 31)
     have hb1 := rbox wr (.cells #[.int .i64 kd, .string (bs nm), .slice B l.length c, .int .i64 rn, .int .i64 rm, .string (bs rf), .string (bs rt), .string (bs rb), .string (bs ra), .string (bs ri), .int .i64 ln] 31)
     have HB3 := Lib.hid (below_then hbw hb1 hbz)
     clear q0 q1 q2 q3 q4 q5 q6 q7 q8 q9 q10 hb1 hbw2
     generalize wr.alloc (.cells #[.int .i64 kd, .string (bs nm), .slice B l.length c, .int .i64 rn, .int .i64 rm, .string (bs rf), .string (bs rt), .string (bs rb), .string (bs ra), .string (bs ri), .int .i64 ln] 31) = w3 at *
     have CI := Lib.hid (circles_any ns ps nm AP cP w3 (HP.out.below HB3.out) (by omega) f2 HPI.out HME.out)
     have q1 := row_q1 RA
     have hbz3 := HB3.out.size
     have HRA := Lib.hid RA
     clear RA
     cases hcb : circB ns ps nm
     ·have HN : Hid (rtCirc ns ps (acc.map er) = rtCirc ns ps ((acc.map er).drop (k + 1))) := HCC.out.trans (rtCirc_no hcb)
      unfold CircTo at CI
      rw [hcb] at CI
      clear hcb HCC
      go_wp2_with (go_at_call 138; refine CI.out.mono ?_; rintro e w4 ⟨rfl, hb4⟩; have HB4 := Lib.hid (below_then HB3.out hb4 hbz3); clear hb4)
      go_roundw
      case rel => exact ⟨k + 1, by omega, by go_num, HN, HB4.out⟩
      case measure => simp [intOf]; omega
     ·have hcx := HCC.out.trans (rtCirc_yes hcb)
      have HE : Hid (rtHier (acc.map er) = .bad ln 6) := rtHier_circ HNM.out HPR.out hcx
      unfold CircTo at CI
      rw [hcb] at CI
      clear hcb HCC hcx
      go_upto_region 11 with (go_at_call 138; refine CI.out.mono ?_; rintro e w4 ⟨rfl, hb4⟩; have HB4 := Lib.hid (below_then HB3.out hb4 hbz3); have HR4 := Lib.hid (row_below HRA.out hb4); clear hb4)
      obtain ⟨q0, q1, q2, q3, q4, q5, q6, q7, q8, q9, q10⟩ := row_qs0 HR4.out
      have FL := Lib.hid (rfault_any kd rn rm (bs nm) (bs rf) (bs rt) (bs rb) (bs ra) (bs ri) B l.length c ln 6 w4)
      have hbz4 := HB4.out.size
      have hbz5 := HB2.out.size
      go_wp2_with (go_at_call 74; refine FL.out.mono ?_; rintro e w5 ⟨fb, rfl, hf1, hf2, hF, hb5⟩; have HF := Lib.hid hF; clear hF)
      go_ret2
      exact hiTo_bad HE.out (below_then HB2.out (below_then HB4.out hb5 hbz4) hbz5) (by omega) hf2 HF.out
    ·have hC := HC.out
     rw [List.drop_eq_nil_of_le (by simp; omega), rtCirc] at hC
     have HE := Lib.hid (rtHier_ok HNM.out HPR.out hC)
     have HNW := Lib.hid (rtHier_new HNM.out HPR.out hC)
     have NW := Lib.hid (New_any ns ps AN AP cN cP wr (HN2.out.below hbw) (HP.out.below hbw) (by omega) (by omega))
     have hbz5 := HB2.out.size
     clear hC HC
     go_wp2_with (go_at_call 139; refine NW.out.mono ?_; intro e w5 h5; unfold NewTo at h5; rw [HNW.out] at h5; obtain ⟨hb5, og, rfl, ho5⟩ := h5; have HO5 := Lib.hid ho5; clear ho5)
     go_ret2
     exact hiTo_ok HE.out (below_then HB2.out (below_then hbw hb5 hbz) hbz5) HO5.out
abbrev eV (k : Int) : Value := .iface 39 (.int .i64 k)
theorem rset_val (names : List Tx) (bl : List Nat) (l : List Tx) (A : Option Addr) (c b o : Nat) (w : World) (hc : w.cell? ⟨b, 0, none⟩ = some (.pointer (some ⟨o, 0, none⟩))) (hO : OrdAt w o names bl) (hL : ListAt w A c l) (hl : l.length ≤ 1000000) :
  Calls Tryz.prog 199 #[.pointer (some ⟨b, 0, none⟩), .slice A l.length c] w fun e w' => e = .returned (.tuple #[.int .u32 ((rtSet names l 0).getD 0 : Nat), .bool (rtSet names l 0).isSome]) ∧ w = w' :=
 (rset_any names bl l A c b o w hc hO hL hl).mono fun e w' h => by
  unfold RsetTo at h
  cases hs : rtSet names l 0 with
  | none => rw [hs] at h; exact h
  | some s => rw [hs] at h; exact h
structure GrwTo (E : Int) (base : Nat) (vl : Value) (own : World → Value → Prop) (w : World) (e : Ending) (w' : World) : Prop where
 no : E ≠ 0 → e = .returned (.tuple #[.slice none 0 0, eV E]) ∧ Below w.heap.size w w'
 ok : E = 0 → ∃ w1 g cp n, Below w.heap.size w w1 ∧ w1.grownBy w' vl.ownBlock ∧ e = .returned (.tuple #[.slice (some ⟨g, 0, none⟩) n cp, .nilIface]) ∧ own w' (.slice (some ⟨g, 0, none⟩) n cp) ∧ (vl.ownBlock = some g ∨ w.heap.size ≤ g)
theorem grwTo_no {E k : Int} {base : Nat} {vl : Value} {own : World → Value → Prop} {w w' : World} (h : E = k) (hk : k ≠ 0) (hb : Below w.heap.size w w') : GrwTo E base vl own w (.returned (.tuple #[.slice none 0 0, eV k])) w' := by
 subst h; exact ⟨fun _ => ⟨rfl, hb⟩, fun h => absurd h hk⟩
theorem grwTo_ok {E : Int} {base : Nat} {vl : Value} {own : World → Value → Prop} {w w1 w' : World} {g cp n : Nat} (h : E = 0) (hb : Below w.heap.size w w1) (hg : w1.grownBy w' vl.ownBlock) (ho : own w' (.slice (some ⟨g, 0, none⟩) n cp)) (hl : vl.ownBlock = some g ∨ w.heap.size ≤ g) :
  GrwTo E base vl own w (.returned (.tuple #[.slice (some ⟨g, 0, none⟩) n cp, .nilIface])) w' := ⟨fun h9 => absurd h h9, fun _ => ⟨w1, g, cp, n, hb, hg, rfl, ho, hl⟩⟩
theorem hldE_there {names : List Tx} {l : List (Tx × Nat)} {x : Ru} {most : Nat} (h : x.name ∈ l.map (·.1)) : hldE names l x most = 4 := by unfold hldE; rw [if_pos h]
theorem hldE_limit {names : List Tx} {l : List (Tx × Nat)} {x : Ru} {most : Nat} (h : x.name ∉ l.map (·.1)) (h2 : most ≤ l.length) : hldE names l x most = 5 := by unfold hldE; rw [if_neg h, if_pos h2]
theorem hldE_none {names : List Tx} {l : List (Tx × Nat)} {x : Ru} {most : Nat} (h : x.name ∉ l.map (·.1)) (h2 : ¬ most ≤ l.length) (h3 : (rtSet names x.list 0).isSome = false) : hldE names l x most = 3 := by
 unfold hldE
 rw [if_neg h, if_neg h2, if_pos]
 cases hs : rtSet names x.list 0 with
 | none => rfl
 | some s => rw [hs] at h3; cases h3
theorem hldE_ok {names : List Tx} {l : List (Tx × Nat)} {x : Ru} {most : Nat} (h : x.name ∉ l.map (·.1)) (h2 : ¬ most ≤ l.length) (h3 : (rtSet names x.list 0).isSome = true) : hldE names l x most = 0 := by
 unfold hldE
 rw [if_neg h, if_neg h2, if_neg]
 cases hs : rtSet names x.list 0 with
 | none => rw [hs] at h3; cases h3
 | some s => simp
theorem oneH (w : World) (nm : Tx) (z : Nat) : ∀ j u, (hcell (nm, z))[j]? = some u → (w.alloc (.cells #[.string (bs nm), .int .u32 (z : Nat)] 265)).cell? ((⟨w.heap.size, 0, none⟩ : Addr).add j) = some u := cells_new w (hcell (nm, z)) 265
set_option maxHeartbeats 4000000 in
theorem withHolder_any (names : List Tx) (bl : List Nat) (lh : List (Tx × Nat)) (AH : Option Addr) (cH base : Nat) (b o most : Nat) (kd rn rm : Int) (nm rf rt rb ra ri : Tx) (l : List Tx) (B : Option Addr) (c : Nat) (ln : Int) (w : World)
  (hc : w.cell? ⟨b, 0, none⟩ = some (.pointer (some ⟨o, 0, none⟩))) (hb : b < w.heap.size) (hO : OrdAt w o names bl) (hL : ListAt w B c l) (hl : l.length ≤ 4096) (hH : OwnH w base (.slice AH lh.length cH) lh) (hbase : base ≤ w.heap.size) (hlh : lh.length ≤ 30) :
  Calls Tryz.prog 142 #[.pointer (some ⟨b, 0, none⟩), .slice AH lh.length cH, .agg #[.int .i64 kd, .string (bs nm), .slice B l.length c, .int .i64 rn, .int .i64 rm, .string (bs rf), .string (bs rt), .string (bs rb), .string (bs ra), .string (bs ri), .int .i64 ln], .int .i64 most] w
   (GrwTo (hldE names lh ⟨kd, nm, l, rn, rm, rf, rt, rb, ra, ri⟩ most) base (.slice AH lh.length cH) (fun w' v => OwnH w' base v (lh ++ [(nm, (rtSet names l 0).getD 0)])) w) := by
 have RA := heap_alloc_new w (.cells #[.int .i64 kd, .string (bs nm), .slice B l.length c, .int .i64 rn, .int .i64 rm, .string (bs rf), .string (bs rt), .string (bs rb), .string (bs ra), .string (bs ri), .int .i64 ln] 31)
 have hb1 := rbox w (.cells #[.int .i64 kd, .string (bs nm), .slice B l.length c, .int .i64 rn, .int .i64 rm, .string (bs rf), .string (bs rt), .string (bs rb), .string (bs ra), .string (bs ri), .int .i64 ln] 31)
 have HH := Lib.hid (own_below hH hb1 hbase)
 have HA := Lib.hid (hAt_of (own_below hH hb1 hbase))
 have HB1 := Lib.hid hb1
 have hO1 := hO.below hb1
 have hL1 := hL.below hb1
 have hc1 := (hb1.cell (p := ⟨b, 0, none⟩) hb).trans hc
 have hE4 : nm ∈ lh.map (·.1) → hldE names lh ⟨kd, nm, l, rn, rm, rf, rt, rb, ra, ri⟩ most = 4 := fun h => hldE_there h
 have hE5 : nm ∉ lh.map (·.1) → most ≤ lh.length → hldE names lh ⟨kd, nm, l, rn, rm, rf, rt, rb, ra, ri⟩ most = 5 := fun h h2 => hldE_limit h h2
 have hE3 : nm ∉ lh.map (·.1) → ¬ most ≤ lh.length → (rtSet names l 0).isSome = false → hldE names lh ⟨kd, nm, l, rn, rm, rf, rt, rb, ra, ri⟩ most = 3 := fun h h2 h3 => hldE_none h h2 h3
 have hE0 : nm ∉ lh.map (·.1) → ¬ most ≤ lh.length → (rtSet names l 0).isSome = true → hldE names lh ⟨kd, nm, l, rn, rm, rf, rt, rb, ra, ri⟩ most = 0 := fun h h2 h3 => hldE_ok h h2 h3
 have hge := hI_ge lh nm
 clear hH hc hO hL
 have SV := rset_val names bl l B c b o _ hc1 hO1 hL1 (by omega)
 have FV : ∀ W, Below (w.alloc (.cells #[.int .i64 kd, .string (bs nm), .slice B l.length c, .int .i64 rn, .int .i64 rm, .string (bs rf), .string (bs rt), .string (bs rb), .string (bs ra), .string (bs ri), .int .i64 ln] 31)).heap.size (w.alloc (.cells #[.int .i64 kd, .string (bs nm), .slice B l.length c, .int .i64 rn, .int .i64 rm, .string (bs rf), .string (bs rt), .string (bs rb), .string (bs ra), .string (bs ri), .int .i64 ln] 31)) W → Calls Tryz.prog 164 #[.slice AH lh.length cH, .string (bs nm)] W fun e w' => e = .returned (.int .i64 (hI lh nm)) ∧ Below W.heap.size W w' := fun W hW => fnd_any lh nm AH cH W (HA.out.below hW) (by omega)
 have hs1 : (w.alloc (.cells #[.int .i64 kd, .string (bs nm), .slice B l.length c, .int .i64 rn, .int .i64 rm, .string (bs rf), .string (bs rt), .string (bs rb), .string (bs ra), .string (bs ri), .int .i64 ln] 31)).heap.size = w.heap.size + 1 := by simp
 clear hc1 hO1 hL1
 generalize hldE names lh ⟨kd, nm, l, rn, rm, rf, rt, rb, ra, ri⟩ most = E at *
 generalize hI lh nm = r at *
 generalize (rtSet names l 0).isSome = ok at *
 generalize (rtSet names l 0).getD 0 = z at *
 have hr : 0 ≤ r ↔ nm ∈ lh.map (·.1) := by simpa using hge
 clear hge
 go_enter Tryz.func142, Tryz.ntmps142
 go_upto_region 1 with fail
 have q1 := row_q1 RA; have q2 := row_q2 RA
 have HRA := Lib.hid RA
 have HS1 := Lib.hid hs1
 clear RA hs1
 generalize w.alloc (.cells #[.int .i64 kd, .string (bs nm), .slice B l.length c, .int .i64 rn, .int .i64 rm, .string (bs rf), .string (bs rt), .string (bs rb), .string (bs ra), .string (bs ri), .int .i64 ln] 31) = w1 at *
 have SVH := Lib.hid SV
 have FVH := Lib.hid (FV w1 (Below.refl _ _))
 clear SV FV
 have hw1 : w.heap.size ≤ w1.heap.size := by have := HS1.out; omega
 go_upto_region 2 with (go_at_call 199; refine SVH.out.mono ?_; rintro e w2 ⟨rfl, rfl⟩)
 by_cases h1 : nm ∈ lh.map (·.1)
 ·have hr0 : 0 ≤ r := hr.2 h1
  have HE := Lib.hid (hE4 h1)
  clear hE4 hE5 hE3 hE0 hr h1
  go_wp2_with (go_at_call 164; refine FVH.out.mono ?_; rintro e w3 ⟨rfl, hb3⟩)
  go_ret2
  exact grwTo_no HE.out (by decide) (below_then HB1.out hb3 hw1)
 ·have hr0 : ¬ 0 ≤ r := fun h => h1 (hr.1 h)
  by_cases h2 : most ≤ lh.length
  ·have h2i : (most : Int) ≤ lh.length := by omega
   have HE := Lib.hid (hE5 h1 h2)
   clear hE4 hE5 hE3 hE0 hr h1
   go_wp2_with (go_at_call 164; refine FVH.out.mono ?_; rintro e w3 ⟨rfl, hb3⟩)
   go_ret2
   exact grwTo_no HE.out (by decide) (below_then HB1.out hb3 hw1)
  ·have h2i : ¬ (most : Int) ≤ lh.length := by omega
   cases ok with
   | false =>
    have HE := Lib.hid (hE3 h1 h2 rfl)
    clear hE4 hE5 hE3 hE0 hr h1
    go_wp2_with (go_at_call 164; refine FVH.out.mono ?_; rintro e w3 ⟨rfl, hb3⟩)
    go_ret2
    exact grwTo_no HE.out (by decide) (below_then HB1.out hb3 hw1)
   | true =>
    have HE := Lib.hid (hE0 h1 h2 rfl)
    obtain ⟨i0, hi, hz0, hz1, hz2⟩ := info_parts Tryz.infoHolder
    clear hE4 hE5 hE3 hE0 hr h1
    go_wp2_with (first
     | (go_at_call 164; refine FVH.out.mono ?_; rintro e w3 ⟨rfl, hb3⟩; have HB3 := Lib.hid (below_then HB1.out hb3 hw1); have HH3 := Lib.hid (own_below HH.out hb3 (Nat.le_trans hbase hw1)); have q1 := row_q1 (row_below HRA.out hb3); have hw3 := hb3.size; clear hb3)
     | (at_builtin; go_must (refine wpList_append_lies _ rfl (.tmp 36) (.tmp 41) 146 rfl base 265 i0 _ 2 24 Tryz.underlying146 hi hz0 hz1 hz2 rfl (by decide) (.slice AH lh.length cH) lh.length (hcells lh) rfl (World.ownsRow.alloc HH3.out _) ⟨w3.heap.size, 0, none⟩ 1 1 (hcell (nm, z)) rfl rfl (oneH w3 nm z) (by intro u hu; simp [hcell] at hu; rcases hu with rfl | rfl <;> rfl) (by omega) (by unfold maxLen; omega) (by omega) (by simp; omega) _ rfl ?_); intro g9 cp9 w9 hown9 hg9 hat9 hlt9))
    go_ret2
    refine grwTo_ok HE.out (below_then HB3.out (rbox w3 _) (by omega)) hg9 ?_ (hat9.imp_right fun h => by rw [h]; simp; omega)
    show World.ownsRow _ _ _ _ _ _ _
    rw [List.length_append, hcells_snoc]
    exact hown9
end Go.Proofs.YtgffbgmieppckaaGreatDoor
