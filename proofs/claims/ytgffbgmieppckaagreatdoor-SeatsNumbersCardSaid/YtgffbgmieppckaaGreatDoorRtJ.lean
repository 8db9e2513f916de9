import Derived.Test.YtgffbgmieppckaaGreatDoorRtH
import Derived.Test.YtgffbgmieppckaaGreatDoorSm0
namespace Go.Proofs.YtgffbgmieppckaaGreatDoor
set_option maxRecDepth 100000
open Go.ChangeShapes Go.WideShapes Go.ChangeAt Go.RowKit Go.Maps Go.WideMaps Go.ChangeMaps
theorem RtI.le {r : Rt} {k n : Nat} (h : RtI r k) (hk : k ≤ n) : RtI r n := ⟨h.nu, h.np, h.ns, h.nd, h.na, Nat.le_trans h.nl hk, h.su, h.sp, h.ss, h.sd⟩
noncomputable def rtR (l : List (Ru × Nat)) : Option (Rs (List Tx × List Pr × Rt)) := by classical exact if ∀ x ∈ l, printP x.1 ≠ none then some (rtL l) else none
theorem rtR_ok {l : List (Ru × Nat)} (h : ∀ x ∈ l, printP x.1 ≠ none) : rtR l = some (rtL l) := by unfold rtR; rw [if_pos h]
theorem rtR_no {l : List (Ru × Nat)} {x : Ru × Nat} (hx : x ∈ l) (h : printP x.1 = none) : rtR l = none := by unfold rtR; rw [if_neg fun h9 => h9 x hx h]
def RtM (base : Nat) (W : World) (b : Nat) (ns : List Tx) (bl : List Nat) (r : Rt) : Prop := ∃ w0 o vU vP vS vD vA m, base ≤ w0.heap.size ∧ RtA w0 W b o r vU vP vS vD vA m ∧ OrdAt w0 o ns bl ∧ RtI r 200
def RcTo (p : Option (Rs (List Tx × List Pr × Rt))) (w : World) (e : Ending) (w' : World) : Prop := Below w.heap.size w w' ∧ match p with
 | none => e = .returned (.tuple #[.pointer none, eV 1])
 | some (.bad ln k) => ∃ b, e = .returned (.tuple #[.pointer none, .iface 175 (.pointer (some ⟨b, 0, none⟩))]) ∧ w.heap.size ≤ b ∧ b < w'.heap.size ∧ FaultAt w' b ln 1 k
 | some (.ok (ns, ps, r)) => ∃ b, e = .returned (.tuple #[.pointer (some ⟨b, 0, none⟩), .nilIface]) ∧ RtM w.heap.size w' b ns (rtBl ns ps) r
theorem rcTo_arg {p : Option (Rs (List Tx × List Pr × Rt))} {w w' : World} (h : p = none) (hb : Below w.heap.size w w') : RcTo p w (.returned (.tuple #[.pointer none, eV 1])) w' := by subst h; exact ⟨hb, rfl⟩
theorem rcTo_bad {p : Option (Rs (List Tx × List Pr × Rt))} {ln : Nat} {k : Int} {b : Nat} {w w' : World} (h : p = some (.bad ln k)) (hb : Below w.heap.size w w') (h1 : w.heap.size ≤ b) (h2 : b < w'.heap.size) (h3 : FaultAt w' b ln 1 k) :
  RcTo p w (.returned (.tuple #[.pointer none, .iface 175 (.pointer (some ⟨b, 0, none⟩))])) w' := by subst h; exact ⟨hb, b, rfl, h1, h2, h3⟩
theorem rcTo_ok {p : Option (Rs (List Tx × List Pr × Rt))} {ns : List Tx} {ps : List Pr} {r : Rt} {b : Nat} {w w' : World} (h : p = some (.ok (ns, ps, r))) (hb : Below w.heap.size w w') (h1 : RtM w.heap.size w' b ns (rtBl ns ps) r) :
  RcTo p w (.returned (.tuple #[.pointer (some ⟨b, 0, none⟩), .nilIface])) w' := by subst h; exact ⟨hb, b, rfl, h1⟩
theorem rtTake_bad {ns : List Tx} {x : Ru × Nat} {l : List (Ru × Nat)} {r : Rt} (h : rtE ns r x.1 ≠ 0) : rtTake ns (x :: l) r = .bad x.2 (rtE ns r x.1) := by rw [rtTake, if_pos h]
theorem rtTake_next {ns : List Tx} {x : Ru × Nat} {l : List (Ru × Nat)} {r : Rt} (h : rtE ns r x.1 = 0) : rtTake ns (x :: l) r = rtTake ns l (rtN ns r x.1) := by rw [rtTake, if_neg (by rw [h]; simp)]
theorem rtDuty_bad {bl : List Nat} {n : Nat} {r : Rt} {x : Ru × Nat} {l : List (Ru × Nat)} (h : 0 ≤ fstI (downTo bl (rtHas r.users x.1.name) n) r.stat) : rtDuty bl n r (x :: l) = .bad x.2 7 := by rw [rtDuty, if_pos h]
theorem rtDuty_next {bl : List Nat} {n : Nat} {r : Rt} {x : Ru × Nat} {l : List (Ru × Nat)} (h : ¬ 0 ≤ fstI (downTo bl (rtHas r.users x.1.name) n) r.stat) : rtDuty bl n r (x :: l) = rtDuty bl n r l := by rw [rtDuty, if_neg h]
theorem rtL_hier {l : List (Ru × Nat)} {a : Nat} {b : Int} (h : rtHier (l.filter (kindIn [1])) = .bad a b) : rtL l = .bad a b := by unfold rtL; rw [h]
theorem rtL_take {l : List (Ru × Nat)} {ns : List Tx} {ps : List Pr} {a : Nat} {b : Int} (h : rtHier (l.filter (kindIn [1])) = .ok (ns, ps)) (h2 : rtTake ns l {} = .bad a b) : rtL l = .bad a b := by unfold rtL; rw [h]; dsimp only; rw [h2]
theorem rtL_duty {l : List (Ru × Nat)} {ns : List Tx} {ps : List Pr} {r : Rt} {a : Nat} {b : Int} (h : rtHier (l.filter (kindIn [1])) = .ok (ns, ps)) (h2 : rtTake ns l {} = .ok r) (h3 : rtDuty (rtBl ns ps) ns.length r (l.filter (kindIn [2])) = .bad a b) : rtL l = .bad a b := by unfold rtL; rw [h]; dsimp only; rw [h2]; dsimp only; rw [h3]
theorem rtL_ok {l : List (Ru × Nat)} {ns : List Tx} {ps : List Pr} {r : Rt} {u : Unit} (h : rtHier (l.filter (kindIn [1])) = .ok (ns, ps)) (h2 : rtTake ns l {} = .ok r) (h3 : rtDuty (rtBl ns ps) ns.length r (l.filter (kindIn [2])) = .ok u) : rtL l = .ok (ns, ps, r) := by unfold rtL; rw [h]; dsimp only; rw [h2]; dsimp only; rw [h3]
theorem kat_one (w : World) (k : Int) : KAt (w.alloc (.cells #[.int .i64 k] 3)) (some ⟨w.heap.size, 0, none⟩) [k] := fun j hj => by
 have e : j = 0 := by simpa using hj
 subst e
 exact ⟨_, rfl, by simp, by rw [cell_of_row _ _ _ _ _ _ (heap_alloc_new w _)]; rfl⟩
theorem of_mem {acc accS : List RL} {p : Ru × Nat → Bool} (h : accS.map er = (acc.map er).filter p) {P : Ru → Prop} (hP : ∀ x ∈ acc, P x.1) : accS.length ≤ acc.length ∧ ∀ x ∈ accS, P x.1 := by
 refine ⟨?_, fun x hx => ?_⟩
 ·have h1 := congrArg List.length h
  have h2 := List.length_filter_le p (acc.map er)
  simp only [List.length_map] at h1 h2
  omega
 ·have hm : er x ∈ acc.map er := by
   have : er x ∈ accS.map er := List.mem_map_of_mem hx
   rw [h] at this
   exact (List.mem_filter.1 this).1
  obtain ⟨y, hy, e⟩ := List.mem_map.1 hm
  have e2 : y.1 = x.1 := (congrArg (fun z : Ru × Nat => z.1) e : (er y).1 = (er x).1)
  rw [← e2]; exact hP y hy
section
variable (acc : List RL) (A : Option Addr) (cap : Nat) (w : World)
set_option maxHeartbeats 8000000 in
theorem RComp_any (hR : RIn w A acc) (ha : acc.length ≤ 200) (hac : acc.length ≤ cap) (hsm : ∀ x ∈ acc, Small x.1) (hll : ∀ x ∈ acc, x.1.list.length ≤ 4096)
  (hli : ∀ x ∈ acc, ∀ B c, x.2.2 = .slice B x.1.list.length c → LIn w B c x.1.list) (hg : HandleAt w) (ht : TabAt w) :
  Calls Tryz.prog 17 #[.slice A acc.length cap] w (RcTo (rtR (acc.map er)) w) := by
 have HR := Lib.hid hR
 have HS := Lib.hid hsm
 have HI := Lib.hid hli
 have HH := Lib.hid hg
 have HT := Lib.hid ht
 have HLL := Lib.hid hll
 clear hR hsm hli hg ht hll
 have hmm := makeMap_none 145 9 89 Tryz.underlying145
 go_enter Tryz.func17, Tryz.ntmps17
 go_upto_region 2 with fail
 go_loopw [18] (fun i wr => ∃ k : Nat, k ≤ acc.length ∧ i = .int .i64 k ∧ Hid (∀ x ∈ (acc.take k).map er, printP x.1 ≠ none) ∧ Below w.heap.size w wr) (fun i _ => acc.length - (intOf i).toNat)
 case atStart => exact ⟨0, Nat.zero_le _, rfl, (fun x hx => by simp at hx), Below.refl _ _⟩
 case round =>
  obtain ⟨k, hk, rfl, HP, hbw⟩ := hrel
  have hbz := hbw.size
  by_cases hlt : k < acc.length
  ·obtain ⟨g, rfl, hgl, hc, B, c2, e2, hL⟩ := HR.out k hlt
   have hsk := HS.out _ (List.getElem_mem hlt)
   have hLI := (HI.out _ (List.getElem_mem hlt) B c2 e2).below hbw
   have hsn : (acc.take (k + 1)).map er = (acc.take k).map er ++ [er acc[k]] := by rw [List.take_succ_eq_append_getElem hlt, List.map_append]; rfl
   have hmem : er acc[k] ∈ acc.map er := List.mem_map_of_mem (List.getElem_mem hlt)
   have HSN := Lib.hid hsn
   have HME := Lib.hid hmem
   have q := fun f u hf hu => (hbw.cell (p := ⟨g, k * 11 + f, none⟩) hgl).trans (hc f u hf hu)
   clear hc hsn hmem hL
   generalize acc[k] = x at *
   obtain ⟨⟨kd, nm, l, rn, rm, rf, rt, rb, ra, ri⟩, ln, L⟩ := x
   obtain rfl : L = .slice B l.length c2 := e2
   simp only at hLI hsk
   have q0 := q 0 _ (by omega) rfl; have q1 := q 1 _ (by omega) rfl; have q2 := q 2 _ (by omega) rfl; have q3 := q 3 _ (by omega) rfl; have q4 := q 4 _ (by omega) rfl; have q5 := q 5 _ (by omega) rfl; have q6 := q 6 _ (by omega) rfl; have q7 := q 7 _ (by omega) rfl; have q8 := q 8 _ (by omega) rfl; have q9 := q 9 _ (by omega) rfl; have q10 := q 10 _ (by omega) rfl
   simp only [Nat.add_zero] at q0
   clear q
   have hbx := rbox wr (.cells #[.int .i64 kd, .string (bs nm), .slice B l.length c2, .int .i64 rn, .int .i64 rm, .string (bs rf), .string (bs rt), .string (bs rb), .string (bs ra), .string (bs ri), .int .i64 ln] 31)
   have PI := Lib.hid (print_in ⟨kd, nm, l, rn, rm, rf, rt, rb, ra, ri⟩ B c2 ln (wr.alloc (.cells #[.int .i64 kd, .string (bs nm), .slice B l.length c2, .int .i64 rn, .int .i64 rm, .string (bs rf), .string (bs rt), .string (bs rb), .string (bs ra), .string (bs ri), .int .i64 ln] 31)) (hLI.below hbx) hsk.1 hsk.2.1 hsk.2.2 ((HH.out.below' hbw).below' hbx) ((HT.out.below hbw).below hbx))
   have R0 := heap_alloc_new wr (.cells #[.int .i64 kd, .string (bs nm), .slice B l.length c2, .int .i64 rn, .int .i64 rm, .string (bs rf), .string (bs rt), .string (bs rb), .string (bs ra), .string (bs ri), .int .i64 ln] 31)
   obtain ⟨p0, p1, p2, p3, p4, p5, p6, p7, p8, p9, p10⟩ := row_qs0 R0
   have HBX := Lib.hid (below_then hbw hbx hbz)
   dsimp only [ruV] at PI
   clear hsk hLI R0 hbx
   cases hp : printP ⟨kd, nm, l, rn, rm, rf, rt, rb, ra, ri⟩ with
   | none =>
    have HE : Hid (rtR (acc.map er) = none) := rtR_no HME.out hp
    rw [hp] at PI
    clear hp HSN HME HP
    go_wp2_with (go_at_call 70; refine PI.out.mono ?_; rintro e w2 ⟨hb2, rfl⟩; have HB2 := Lib.hid (below_then HBX.out hb2 HBX.out.size))
    go_ret2
    exact rcTo_arg HE.out HB2.out
   | some t =>
    have HP2 : Hid (∀ x ∈ (acc.take (k + 1)).map er, printP x.1 ≠ none) := fun x hx => by
     rw [HSN.out, List.mem_append, List.mem_singleton] at hx
     rcases hx with hx | rfl
     ·exact HP.out x hx
     ·show printP ⟨kd, nm, l, rn, rm, rf, rt, rb, ra, ri⟩ ≠ none
      rw [hp]; simp
    rw [hp] at PI
    clear hp HSN HME HP
    go_wp2_with (go_at_call 70; refine PI.out.mono ?_; rintro e w2 ⟨hb2, rfl⟩)
    go_roundw
    case rel => exact ⟨k + 1, by omega, by go_num, HP2.out, below_then HBX.out hb2 HBX.out.size⟩
    case measure => simp [intOf]; omega
  ·have HPA : Hid (rtR (acc.map er) = some (rtL (acc.map er))) := rtR_ok (by have := HP.out; rwa [List.take_of_length_le (by omega)] at this)
   clear HP
   go_upto_region 8 with fail
   have hbk := rbox wr (.cells #[.int .i64 1] 3)
   have hb3 := below_then hbw hbk hbz
   have OF := Lib.hid (Of_any6 acc A cap [1] (some ⟨wr.heap.size, 0, none⟩) 1 (wr.alloc (.cells #[.int .i64 1] 3)) (HR.out.below hb3) (kat_one wr 1) (by decide) (by decide) (by omega) hac (fun x hx => Nat.le_trans (HLL.out x hx) (by decide)))
   have HBK := Lib.hid hb3
   clear hbk hb3
   cases hh : rtHier ((acc.map er).filter (kindIn [1])) with
   | bad ln k =>
    have HE : Hid (rtR (acc.map er) = some (.bad ln k)) := HPA.out.trans (by rw [rtL_hier hh])
    have HHI := Lib.hid hh
    clear hh
    go_wp2_with (first
     | (go_at_call 72; refine OF.out.mono ?_; rintro e w2 ⟨vS, accS, rfl, hacs, hrows, hb2⟩; obtain ⟨AS, cS, rfl⟩ := own_slice hrows.1; have HB2 := Lib.hid (below_then HBK.out hb2 HBK.out.size); have hom := of_mem hacs (P := fun x => x.list.length ≤ 4096) HLL.out; have HIC := hier_any accS AS cS w2 (rIn_of hrows) (by omega) hom.2; rw [hacs, HHI.out] at HIC; have HIH := Lib.hid HIC; clear hb2 hrows hacs hom HIC)
     | (go_at_call 71; refine HIH.out.mono ?_; rintro e w3 ⟨hb3, fb, rfl, hf1, hf2, hF⟩; have HF := Lib.hid hF; have HB3 := Lib.hid (below_then HB2.out hb3 HB2.out.size); have hlo := Nat.le_trans HB2.out.size hf1; clear hF hb3))
    go_ret2
    exact rcTo_bad HE.out HB3.out hlo hf2 HF.out
   | ok np =>
    obtain ⟨ns, ps⟩ := np
    have HHI := Lib.hid hh
    clear hh
    go_upto_region 9 with (first
     | (go_at_call 72; refine OF.out.mono ?_; rintro e w2 ⟨vS, accS, rfl, hacs, hrows, hb2⟩; obtain ⟨AS, cS, rfl⟩ := own_slice hrows.1; have HB2 := Lib.hid (below_then HBK.out hb2 HBK.out.size); have hom := of_mem hacs (P := fun x => x.list.length ≤ 4096) HLL.out; have HIC := hier_any accS AS cS w2 (rIn_of hrows) (by omega) hom.2; rw [hacs, HHI.out] at HIC; have HIH := Lib.hid HIC; clear hb2 hrows hacs hom HIC)
     | (go_at_call 71; refine HIH.out.mono ?_; rintro e w3 ⟨hb3, og, rfl, hO⟩; have HO := Lib.hid hO; have HB3 := Lib.hid (below_then HB2.out hb3 HB2.out.size); clear hO hb3))
    clear HIH HB2 OF HBK hbw hbz
    have hbz3 := HB3.out.size
    have hns := HO.out.few
    go_upto_region 12 with fail
    have hR0 : RtA w3 ((w3.alloc (.map #[] 0)).alloc (.cells #[.pointer (some ⟨og, 0, none⟩), .slice none 0 0, .slice none 0 0, .slice none 0 0, .slice none 0 0, .slice none 0 0, .map (some w3.heap.size)] 148)) (w3.heap.size + 1) og {} (.slice none 0 0) (.slice none 0 0) (.slice none 0 0) (.slice none 0 0) (.slice none 0 0) w3.heap.size := by
     have h1 := heap_alloc_new (w3.alloc (.map #[] 0)) (.cells #[.pointer (some ⟨og, 0, none⟩), .slice none 0 0, .slice none 0 0, .slice none 0 0, .slice none 0 0, .slice none 0 0, .map (some w3.heap.size)] 148)
     rw [show (w3.alloc (.map #[] 0)).heap.size = w3.heap.size + 1 by simp] at h1
     exact ⟨h1, by omega, World.ownsRow_nil _ _ _ _, World.ownsRow_nil _ _ _ _, (fun g e => by simp [Value.ownBlock] at e), World.ownsRow_nil _ _ _ _, World.ownsRow_nil _ _ _ _, (fun g e => by simp [Value.ownBlock] at e), ownLL_nil _ _, World.ownsMap.alloc (World.ownsMap_made w3 _ _ _) _, Nat.le_refl _, below_then (rbox w3 _) (rbox _ _) (by simp)⟩
    have HR0 := Lib.hid hR0
    clear hR0
    generalize (w3.alloc (.map #[] 0)).alloc (.cells #[.pointer (some ⟨og, 0, none⟩), .slice none 0 0, .slice none 0 0, .slice none 0 0, .slice none 0 0, .slice none 0 0, .map (some w3.heap.size)] 148) = w4 at *
    generalize w3.heap.size + 1 = b at *
    generalize w3.heap.size = mm at HR0 ⊢
    clear hmm
    go_upto_region 13 with fail
    go_loopw [47] (fun i wr => ∃ (k : Nat) (r : Rt) (vU vP vS vD vA : Value), k ≤ acc.length ∧ i = .int .i64 k ∧ Hid (rtTake ns (acc.map er) {} = rtTake ns ((acc.map er).drop k) r) ∧ Hid (RtI r k) ∧ Hid (RtA w3 wr b og r vU vP vS vD vA mm)) (fun i _ => acc.length - (intOf i).toNat)
    case atStart => exact ⟨0, {}, _, _, _, _, _, Nat.zero_le _, rfl, rfl, rtI_nil, HR0.out⟩
    case round =>
     clear HR0
     obtain ⟨k, r, vU, vP, vS, vD, vA, hk, rfl, HP, HIV, HA⟩ := hrel
     have hbe := HA.out.be
     have hbz := hbe.size
     have hbw := below_then HB3.out hbe hbz3
     have hbl := HA.out.lt
     by_cases hlt : k < acc.length
     ·obtain ⟨g, rfl, hgl, hc, B, c2, e2, hL⟩ := HR.out k hlt
      have hsk := HS.out _ (List.getElem_mem hlt)
      have hll := HLL.out _ (List.getElem_mem hlt)
      have hdr : (acc.map er).drop k = er acc[k] :: (acc.map er).drop (k + 1) := by rw [List.drop_eq_getElem_cons (by simpa using hlt)]; simp
      have hpp := HP.out
      rw [hdr] at hpp
      have q := fun f u hf hu => (hbw.cell (p := ⟨g, k * 11 + f, none⟩) hgl).trans (hc f u hf hu)
      have hL2 := hL.below hbw
      clear hc hL hdr HP
      generalize acc[k] = x at *
      obtain ⟨⟨kd, nm, l, rn, rm, rf, rt, rb, ra, ri⟩, ln, L⟩ := x
      obtain rfl : L = .slice B l.length c2 := e2
      simp only at hsk hll hL2
      have hnm : nm.length ≤ 1048576 := by have := hsk.2.2; unfold totR at this; simp only at this; omega
      have q0 := q 0 _ (by omega) rfl; have q1 := q 1 _ (by omega) rfl; have q2 := q 2 _ (by omega) rfl; have q3 := q 3 _ (by omega) rfl; have q4 := q 4 _ (by omega) rfl; have q5 := q 5 _ (by omega) rfl; have q6 := q 6 _ (by omega) rfl; have q7 := q 7 _ (by omega) rfl; have q8 := q 8 _ (by omega) rfl; have q9 := q 9 _ (by omega) rfl; have q10 := q 10 _ (by omega) rfl
      simp only [Nat.add_zero] at q0
      clear q
      have hbx := rbox wr (.cells #[.int .i64 kd, .string (bs nm), .slice B l.length c2, .int .i64 rn, .int .i64 rm, .string (bs rf), .string (bs rt), .string (bs rb), .string (bs ra), .string (bs ri), .int .i64 ln] 31)
      have R0 := heap_alloc_new wr (.cells #[.int .i64 kd, .string (bs nm), .slice B l.length c2, .int .i64 rn, .int .i64 rm, .string (bs rf), .string (bs rt), .string (bs rb), .string (bs ra), .string (bs ri), .int .i64 ln] 31)
      have TK := rtake_any ns (rtBl ns ps) w3 _ b og mm r vU vP vS vD vA ⟨kd, nm, l, rn, rm, rf, rt, rb, ra, ri⟩ B c2 ln k (HA.out.below hbx) HIV.out (by omega) HO.out (hL2.below hbx) hll hnm
      have HNX : Hid (rtE ns r ⟨kd, nm, l, rn, rm, rf, rt, rb, ra, ri⟩ = 0 → RtI (rtN ns r ⟨kd, nm, l, rn, rm, rf, rt, rb, ra, ri⟩) (k + 1)) := fun h => HIV.out.next hns h
      have HP1 : Hid (rtE ns r ⟨kd, nm, l, rn, rm, rf, rt, rb, ra, ri⟩ = 0 → rtTake ns (acc.map er) {} = rtTake ns ((acc.map er).drop (k + 1)) (rtN ns r ⟨kd, nm, l, rn, rm, rf, rt, rb, ra, ri⟩)) := fun h => hpp.trans (rtTake_next h)
      have HP2 : Hid (rtE ns r ⟨kd, nm, l, rn, rm, rf, rt, rb, ra, ri⟩ ≠ 0 → rtTake ns (acc.map er) {} = .bad ln (rtE ns r ⟨kd, nm, l, rn, rm, rf, rt, rb, ra, ri⟩)) := fun h => hpp.trans (rtTake_bad h)
      have hwl : wr.heap.size < (wr.alloc (.cells #[.int .i64 kd, .string (bs nm), .slice B l.length c2, .int .i64 rn, .int .i64 rm, .string (bs rf), .string (bs rt), .string (bs rb), .string (bs ra), .string (bs ri), .int .i64 ln] 31)).heap.size := by simp
      have hbb : wr.heap.size ≠ b := by omega
      dsimp only [ruV] at TK
      clear hsk hll hL2 hpp hbx HIV HA hbe hbw hbl hnm
      generalize rtE ns r ⟨kd, nm, l, rn, rm, rf, rt, rb, ra, ri⟩ = e9 at *
      generalize rtN ns r ⟨kd, nm, l, rn, rm, rf, rt, rb, ra, ri⟩ = r9 at *
      go_upto_region 15 with fail
      obtain ⟨p0, p1, p2, p3, p4, p5, p6, p7, p8, p9, p10⟩ := row_qs0 R0
      have HR0 := Lib.hid R0
      clear R0 q0 q1 q2 q3 q4 q5 q6 q7 q8 q9 q10
      generalize wr.alloc (.cells #[.int .i64 kd, .string (bs nm), .slice B l.length c2, .int .i64 rn, .int .i64 rm, .string (bs rf), .string (bs rt), .string (bs rb), .string (bs ra), .string (bs ri), .int .i64 ln] 31) = wx at *
      generalize wr.heap.size = gr at *
      by_cases he : e9 = 0
      ·have HPP := Lib.hid (HP1.out he)
       have HII := Lib.hid (HNX.out he)
       have TZ := Lib.hid (TK.mono fun e w' h => h.ok he)
       clear he HP1 HP2 HNX TK
       go_wp2_with (go_at_call 73; refine TZ.out.mono ?_; rintro e w5 ⟨rfl, vU9, vP9, vS9, vD9, vA9, hba9⟩; have HBA9 := Lib.hid hba9; clear hba9)
       go_roundw
       case rel => exact ⟨k + 1, r9, vU9, vP9, vS9, vD9, vA9, by omega, by go_num, HPP.out, HII.out, HBA9.out⟩
       case measure => simp [intOf]; omega
      ·have hne : e9 ≠ 0 := he
       have HE : Hid (rtR (acc.map er) = some (.bad ln e9)) := HPA.out.trans (by rw [rtL_take HHI.out (HP2.out he)])
       have TZ := Lib.hid (TK.mono fun e w' h => h.no he)
       clear he HP1 HP2 HNX TK
       go_upto_region 17 with (go_at_call 73; refine TZ.out.mono ?_; rintro e w5 ⟨rfl, hb5, hkp⟩; have HB5 := Lib.hid (below_then HB3.out hb5 hbz3); have HR5 := Lib.hid ((hkp gr hwl hbb).trans HR0.out); clear hb5 hkp)
       clear p0 p1 p2 p3 p4 p5 p6 p7 p8 p9 p10
       obtain ⟨p0, p1, p2, p3, p4, p5, p6, p7, p8, p9, p10⟩ := row_qs0 HR5.out
       have FL := Lib.hid (rfault_any kd rn rm (bs nm) (bs rf) (bs rt) (bs rb) (bs ra) (bs ri) B l.length c2 ln e9 w5)
       have hbz5 := HB5.out.size
       go_wp2_with (go_at_call 74; refine FL.out.mono ?_; rintro e w6 ⟨fb, rfl, hf1, hf2, hF, hb6⟩; have HF := Lib.hid hF; clear hF)
       go_ret2
       exact rcTo_bad HE.out (below_then HB5.out hb6 hbz5) (by omega) hf2 HF.out
     ·have hpp := HP.out
      rw [List.drop_of_length_le (by simp; omega), rtTake] at hpp
      have HTK := Lib.hid hpp
      have HI2 := Lib.hid (HIV.out.le (n := 200) (by omega))
      clear hpp HP
      go_upto_region 19 with fail
      have hbk := rbox wr (.cells #[.int .i64 2] 3)
      have OF := Lib.hid (Of_any6 acc A cap [2] (some ⟨wr.heap.size, 0, none⟩) 1 (wr.alloc (.cells #[.int .i64 2] 3)) (HR.out.below (below_then hbw hbk hbw.size)) (kat_one wr 2) (by decide) (by decide) (by omega) hac (fun x hx => Nat.le_trans (HLL.out x hx) (by decide)))
      have HBK := Lib.hid hbk
      clear hbk
      have hbkz := HBK.out.size
      go_upto_region 20 with (go_at_call 72; refine OF.out.mono ?_; rintro e w6 ⟨vS, accU, rfl, hacs, hrows, hb6⟩; obtain ⟨AU, cU, rfl⟩ := own_slice hrows.1; have HB6 := Lib.hid (below_then HBK.out hb6 hbkz); have HAC := Lib.hid hacs; have HRU := Lib.hid (rIn_of hrows); have hau := (of_mem hacs (P := fun _ => True) (fun _ _ => trivial)).1; clear hb6 hrows hacs)
      have HA6 := Lib.hid (HA.out.below HB6.out)
      have hb36 := HB6.out.size
      clear OF HBK HB6 HA hbkz hbw hbe hbl
      have hbz6 : w3.heap.size ≤ w6.heap.size := by omega
      clear hbz hb36
      go_loopw [64] (fun i wr => ∃ k : Nat, k ≤ accU.length ∧ i = .int .i64 k ∧ Hid (rtDuty (rtBl ns ps) ns.length r (accU.map er) = rtDuty (rtBl ns ps) ns.length r ((accU.map er).drop k)) ∧ Below w6.heap.size w6 wr) (fun i _ => accU.length - (intOf i).toNat)
      case atStart => exact ⟨0, Nat.zero_le _, rfl, rfl, Below.refl _ _⟩
      case round =>
       obtain ⟨k, hk, rfl, HD, hbw⟩ := hrel
       have hbz := hbw.size
       by_cases hlt : k < accU.length
       ·obtain ⟨g, rfl, hgl, hc, B, c2, e2, hL⟩ := HRU.out k hlt
        have hdr : (accU.map er).drop k = er accU[k] :: (accU.map er).drop (k + 1) := by rw [List.drop_eq_getElem_cons (by simpa using hlt)]; simp
        have hpp := HD.out
        rw [hdr] at hpp
        have q := fun f u hf hu => (hbw.cell (p := ⟨g, k * 11 + f, none⟩) hgl).trans (hc f u hf hu)
        clear hc hL hdr HD
        generalize accU[k] = x at *
        obtain ⟨⟨kd, nm, l, rn, rm, rf, rt, rb, ra, ri⟩, ln, L⟩ := x
        obtain rfl : L = .slice B l.length c2 := e2
        have q0 := q 0 _ (by omega) rfl; have q1 := q 1 _ (by omega) rfl; have q2 := q 2 _ (by omega) rfl; have q3 := q 3 _ (by omega) rfl; have q4 := q 4 _ (by omega) rfl; have q5 := q 5 _ (by omega) rfl; have q6 := q 6 _ (by omega) rfl; have q7 := q 7 _ (by omega) rfl; have q8 := q 8 _ (by omega) rfl; have q9 := q 9 _ (by omega) rfl; have q10 := q 10 _ (by omega) rfl
        simp only [Nat.add_zero] at q0
        clear q
        have hbx := rbox wr (.cells #[.int .i64 kd, .string (bs nm), .slice B l.length c2, .int .i64 rn, .int .i64 rm, .string (bs rf), .string (bs rt), .string (bs rb), .string (bs ra), .string (bs ri), .int .i64 ln] 31)
        have R0 := heap_alloc_new wr (.cells #[.int .i64 kd, .string (bs nm), .slice B l.length c2, .int .i64 rn, .int .i64 rm, .string (bs rf), .string (bs rt), .string (bs rb), .string (bs ra), .string (bs ri), .int .i64 ln] 31)
        have HBX := Lib.hid (below_then hbw hbx hbz)
        have hD1 : 0 ≤ fstI (downTo (rtBl ns ps) (rtHas r.users nm) ns.length) r.stat → rtDuty (rtBl ns ps) ns.length r (accU.map er) = .bad ln 7 := fun h => hpp.trans (rtDuty_bad h)
        have hD2 : ¬ 0 ≤ fstI (downTo (rtBl ns ps) (rtHas r.users nm) ns.length) r.stat → rtDuty (rtBl ns ps) ns.length r (accU.map er) = rtDuty (rtBl ns ps) ns.length r ((accU.map er).drop (k + 1)) := fun h => hpp.trans (rtDuty_next h)
        clear hbx hpp
        go_upto_region 22 with fail
        have p1 := row_q1 R0
        have HR0 := Lib.hid R0
        clear R0 q0 q1 q2 q3 q4 q5 q6 q7 q8 q9 q10
        generalize wr.alloc (.cells #[.int .i64 kd, .string (bs nm), .slice B l.length c2, .int .i64 rn, .int .i64 rm, .string (bs rf), .string (bs rt), .string (bs rb), .string (bs ra), .string (bs ri), .int .i64 ln] 31) = w7 at *
        generalize wr.heap.size = gr at *
        have HA7 := Lib.hid (HA6.out.below HBX.out)
        obtain ⟨AUS, cUS, rfl⟩ := own_slice HA7.out.oU
        obtain ⟨ASS, cSS, rfl⟩ := own_slice HA7.out.oS
        have r3 := HA7.out.q3
        have hb7l := HA7.out.lt
        have HS7 : Hid (∀ W, Below w7.heap.size w7 W → Calls Tryz.prog 39 #[.pointer (some ⟨b, 0, none⟩), .string (bs nm)] W fun e w' => e = .returned (.int .u32 (rtHas r.users nm : Nat)) ∧ Below W.heap.size W w') := fun W hW => by
         have HAW := HA7.out.below hW
         exact Has_any r.users nm AUS cUS b W HAW.q1 (hAt_of HAW.oU) (by have := HIV.out.nu; omega)
        have hlt1 := rtHas_lt HIV.out.su nm
        have DN7 : Hid (∀ W, Below w7.heap.size w7 W → Calls Tryz.prog 75 #[.pointer (some ⟨og, 0, none⟩), .int .u32 (rtHas r.users nm : Nat)] W fun e w' => e = .returned (.int .u32 (downTo (rtBl ns ps) (rtHas r.users nm) ns.length : Nat)) ∧ W = w') := fun W hW => Down_any og ns (rtBl ns ps) W (rtHas r.users nm) (by omega) (HO.out.below (below_then HA7.out.be hW HA7.out.be.size))
        have hlt2 := downTo_lo HO.out.lo (rtHas r.users nm) ns.length
        have AP7 : Hid (∀ W, Below w7.heap.size w7 W → Calls Tryz.prog 37 #[.int .u32 (downTo (rtBl ns ps) (rtHas r.users nm) ns.length : Nat), .slice ASS r.stat.length cSS] W fun e w' => e = .returned (.bool (decide (fstI (downTo (rtBl ns ps) (rtHas r.users nm) ns.length) r.stat < 0))) ∧ Below W.heap.size W w') := fun W hW => Apart_any _ r.stat ASS cSS W (by omega) (dsAt_of (HA7.out.below hW).oS (fun p hp => by have := HIV.out.ss p hp; omega)) (by have := HIV.out.ns; omega)
        clear hlt1 hlt2
        generalize downTo (rtBl ns ps) (rtHas r.users nm) ns.length = dv at *
        generalize rtHas r.users nm = hv at *
        generalize hfe : fstI dv r.stat = fv at *
        clear hfe
        have hbz7 := HBX.out.size
        by_cases hf : 0 ≤ fv
        ·have HE0 := Lib.hid (hD1 hf)
         have AP8 : Hid (∀ W, Below w7.heap.size w7 W → Calls Tryz.prog 37 #[.int .u32 (dv : Nat), .slice ASS r.stat.length cSS] W fun e w' => e = .returned (.bool false) ∧ Below W.heap.size W w') := fun W hW => by have := AP7.out W hW; rwa [decide_eq_false (by omega)] at this
         clear hD1 hD2 AP7 hf
         go_region_with (first
          | (go_at_call 39; refine (HS7.out _ (by first | exact Below.refl _ _ | exact below_drew (Below.refl _ _))).mono ?_; rintro e W2 ⟨rfl, hb2'⟩; have hb2 : Below w7.heap.size w7 W2 := (by first | exact hb2' | exact below_then (below_drew (Below.refl _ _)) hb2' (Nat.le_refl _)); have s3 := (hb2.cell (p := ⟨b, 3, none⟩) hb7l).trans r3)
          | (go_at_call 75; refine (DN7.out _ hb2).mono ?_; rintro e W3 ⟨rfl, rfl⟩)
          | (go_at_call 37; refine (AP8.out _ hb2).mono ?_; rintro e W4 ⟨rfl, hb4'⟩; have HB4 := Lib.hid (below_then hb2 hb4' hb2.size)))
         all_goals
          clear hb2 hb2' hb4' s3 p1
          have hR4 := row_below HR0.out HB4.out
          obtain ⟨p0, p1, p2, p3, p4, p5, p6, p7, p8, p9, p10⟩ := row_qs0 hR4
          have FL := Lib.hid (rfault_any kd rn rm (bs nm) (bs rf) (bs rt) (bs rb) (bs ra) (bs ri) B l.length c2 ln 7 W4)
          have HE : Hid (rtR (acc.map er) = some (.bad ln 7)) := HPA.out.trans (by rw [rtL_duty HHI.out HTK.out (by rw [← HAC.out]; exact HE0.out)])
          have HAE := Lib.hid (HA7.out.below HB4.out).be
          have hz4 := HAE.out.size
          clear hR4
          go_wp2_with (go_at_call 74; refine FL.out.mono ?_; rintro e W5 ⟨fb, rfl, hf1, hf2, hF, hb5⟩; have HF := Lib.hid hF; clear hF)
          go_ret2
          exact rcTo_bad HE.out (below_then HB3.out (below_then HAE.out hb5 hz4) hbz3) (by omega) hf2 HF.out
        ·have HN0 := Lib.hid (hD2 hf)
         have AP8 : Hid (∀ W, Below w7.heap.size w7 W → Calls Tryz.prog 37 #[.int .u32 (dv : Nat), .slice ASS r.stat.length cSS] W fun e w' => e = .returned (.bool true) ∧ Below W.heap.size W w') := fun W hW => by have := AP7.out W hW; rwa [decide_eq_true (by omega)] at this
         clear hD1 hD2 AP7 hf
         go_region_with (first
          | (go_at_call 39; refine (HS7.out _ (by first | exact Below.refl _ _ | exact below_drew (Below.refl _ _))).mono ?_; rintro e W2 ⟨rfl, hb2'⟩; have hb2 : Below w7.heap.size w7 W2 := (by first | exact hb2' | exact below_then (below_drew (Below.refl _ _)) hb2' (Nat.le_refl _)); have s3 := (hb2.cell (p := ⟨b, 3, none⟩) hb7l).trans r3)
          | (go_at_call 75; refine (DN7.out _ hb2).mono ?_; rintro e W3 ⟨rfl, rfl⟩)
          | (go_at_call 37; refine (AP8.out _ hb2).mono ?_; rintro e W4 ⟨rfl, hb4'⟩; have HB4 := Lib.hid (below_then hb2 hb4' hb2.size)))
         all_goals
          clear hb2 hb2' hb4' s3 p1
          go_wp2
          go_roundw
          case rel => exact ⟨k + 1, by omega, by go_num, HN0.out, below_then HBX.out HB4.out hbz7⟩
          case measure => simp [intOf]; omega
       ·have hpp := HD.out
        rw [List.drop_of_length_le (by simp; omega), rtDuty] at hpp
        have HE : Hid (rtR (acc.map er) = some (.ok (ns, ps, r))) := HPA.out.trans (by rw [rtL_ok HHI.out HTK.out (by rw [← HAC.out]; exact hpp)])
        have HAF := Lib.hid (HA6.out.below hbw)
        clear hpp HD
        go_wp2
        go_ret2
        exact rcTo_ok HE.out (below_then HB3.out HAF.out.be hbz3) ⟨w3, og, vU, vP, vS, vD, vA, mm, hbz3, HAF.out, HO.out, HI2.out⟩
end
end Go.Proofs.YtgffbgmieppckaaGreatDoor
namespace Go.Proofs.YtgffbgmieppckaaGreatDoor
set_option maxRecDepth 100000
open Go.ChangeShapes Go.WideShapes Go.ChangeAt Go.RowKit
def hnm (l : List (Tx × Nat)) : List Tx := l.map fun h => h.1
def NmTo2 (l : List Tx) (w : World) (e : Ending) (w' : World) : Prop := ∃ v, e = .returned v ∧ OwnL w' w.heap.size v l ∧ Below w.heap.size w w'
theorem nmTo2_mk {l m : List Tx} {w w' : World} {v : Value} (hl : m = l) (h : OwnL w' w.heap.size v m) (hb : Below w.heap.size w w') : NmTo2 l w (.returned v) w' := by subst hl; exact ⟨v, rfl, h, hb⟩
set_option maxHeartbeats 2000000 in
theorem namesOf_any (l : List (Tx × Nat)) (A : Option Addr) (c : Nat) (w : World) (h : HAt w A c l) (hl : l.length ≤ 1000) :
  Calls Tryz.prog 107 #[.slice A l.length c] w (NmTo2 (hnm l) w) := by
 have HL := Lib.hid h
 clear h
 obtain ⟨i0, hi, hz0, hz1, hz2⟩ := info_parts Tryz.infoString
 go_enter Tryz.func107, Tryz.ntmps107
 go_upto_region 3 with fail
 go_loopw [3, 8] (fun v i wr => ∃ k : Nat, k ≤ l.length ∧ i = .int .i64 k ∧ Hid (OwnL wr w.heap.size v (hnm (l.take k))) ∧ Below w.heap.size w wr) (fun _ i _ => l.length - (intOf i).toNat)
 case atStart => exact ⟨0, Nat.zero_le _, rfl, World.ownsRow_nil _ _ _ _, Below.refl _ _⟩
 case round =>
  obtain ⟨k, hk, rfl, HO, hbw⟩ := hrel
  have hbz := hbw.size
  by_cases hlt : k < l.length
  ·obtain ⟨g, rfl, hgl, x1, x2⟩ := (HL.out.below hbw).2 k hlt
   have hsn : hnm (l.take (k + 1)) = hnm (l.take k) ++ [l[k].1] := by rw [List.take_succ_eq_append_getElem hlt]; unfold hnm; rw [List.map_append]; rfl
   have hl0 : (hnm (l.take k)).length = k := by unfold hnm; rw [List.length_map, List.length_take]; omega
   have HSN := Lib.hid hsn
   have HL0 := Lib.hid hl0
   clear hsn hl0
   generalize l[k] = p at *
   obtain ⟨n, z⟩ := p
   generalize hnm (l.take k) = cur at *
   simp only at x1 x2 HSN
   have hO := HO.out
   unfold OwnL at hO
   rw [HL0.out] at hO
   obtain ⟨A6, c6, rfl⟩ := own_slice hO
   go_upto_region 5 with fail
   have R0 := heap_alloc_new wr (.cells #[.string (bs n), .int .u32 (z : Nat)] 265)
   have hb1 := rbox wr (.cells #[.string (bs n), .int .u32 (z : Nat)] 265)
   have ho1 := own_below hO hb1 hbz
   have y1 : (wr.alloc (.cells #[.string (bs n), .int .u32 (z : Nat)] 265)).cell? ⟨wr.heap.size, 0, none⟩ = some (.string (bs n)) := by rw [cell_of_row _ _ _ _ _ _ R0]; rfl
   have hb2 := below_then hbw hb1 hbz
   clear x1 x2 R0 hb1 hO HO
   generalize wr.alloc (.cells #[.string (bs n), .int .u32 (z : Nat)] 265) = w1 at *
   have hbz2 := hb2.size
   go_wp2_with (at_builtin; go_must (refine wpList_append_own _ rfl (.tmp 12) (.tmp 15) 29 rfl w.heap.size 9 i0 _ 1 16 Tryz.underlying29 hi hz0 hz1 hz2 rfl (by decide) _ k (scells cur) rfl (ho1.alloc _) ⟨w1.heap.size, 0, none⟩ 1 1 [.string (bs n)] rfl rfl (cells_new _ _ _) (by intro u hu; simp at hu; subst hu; rfl) (by unfold maxLen; omega) (by omega) (by simp; omega) ?_); intro v' w4 hown' hg' _; obtain ⟨A5, c5, rfl⟩ := own_slice hown')
   have HO4 : Hid (OwnL w4 w.heap.size (.slice A5 (k + 1) c5) (hnm (l.take (k + 1)))) := by
    show World.ownsRow _ _ _ _ _ _ _
    rw [HSN.out, List.length_append, HL0.out]
    have e : scells (cur ++ [n]) = scells cur ++ [.string (bs n)] := by simp [scells]
    rw [e]; exact hown'
   have HB4 : Hid (Below w.heap.size w w4) := (hb2.alloc hb2.size _).grown hg' (Nat.le_trans hb2.size (by simp)) (fun j e => (ho1.lt j e).1)
   go_roundw
   case rel => exact ⟨k + 1, by omega, by go_num, HO4, HB4.out⟩
   case measure => simp [intOf]; omega
  ·have HE : Hid (hnm (l.take k) = hnm l) := by show _ = _; rw [List.take_of_length_le (by omega)]
   go_wp2
   go_ret
   exact nmTo2_mk HE.out HO.out hbw
theorem Users_any (l : List (Tx × Nat)) (A : Option Addr) (c b : Nat) (w : World) (hc : w.cell? ⟨b, 1, none⟩ = some (.slice A l.length c)) (h : HAt w A c l) (hl : l.length ≤ 1000) :
  Calls Tryz.prog 36 #[.pointer (some ⟨b, 0, none⟩)] w (NmTo2 (hnm l) w) := by
 have RO := Lib.hid (namesOf_any l A c w h hl)
 clear h
 go_enter Tryz.func36, Tryz.ntmps36
 go_wp2_with (go_at_call 107; refine RO.out.mono ?_; rintro e w2 ⟨v2, rfl, ho2, hb2⟩; obtain ⟨A2, c2, rfl⟩ := own_slice ho2)
 go_ret
 exact nmTo2_mk rfl ho2 hb2
end Go.Proofs.YtgffbgmieppckaaGreatDoor
