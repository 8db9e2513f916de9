import Derived.Test.YtgffbgmieppckaaGreatDoorPol6
import Derived.Test.YtgffbgmieppckaaGreatDoorDT0
import Derived.Test.YtgffbgmieppckaaGreatDoorRs
import Derived.BigRegion
import Derived.Maps.Range
import Derived.Deep.RegionWith
namespace Go.Proofs.YtgffbgmieppckaaGreatDoor
set_option maxRecDepth 100000
inductive Rs (α : Type) where
 | bad (line : Nat) (k : Int)
 | ok (a : α)
structure Rt where
 users : List (Tx × Nat) := []
 perms : List (Tx × Nat) := []
 stat : List (Int × Nat) := []
 dyn : List (Int × Nat) := []
 apart : List (List Tx) := []
 loans : List (Tx × Int × Int) := []
def rtSet (names : List Tx) : List Tx → Nat → Option Nat
 | [], s => some s
 | x :: r, s => if x ∈ names then rtSet names r (s ||| bitN (nix names x)) else none
def rtNames : List (Ru × Nat) → List Tx → Rs (List Tx)
 | [], ns => .ok ns
 | x :: r, ns => if x.1.name ∈ ns then .bad x.2 4 else if 24 ≤ ns.length then .bad x.2 5 else rtNames r (ns ++ [x.1.name])
def rtJun (names : List Tx) (s : Tx) : List Tx → List Pr → Option (List Pr)
 | [], ps => some ps
 | j :: r, ps => if j ∈ names then rtJun names s r (ps ++ [(s, j)]) else none
def rtPairs (names : List Tx) : List (Ru × Nat) → List Pr → Rs (List Pr)
 | [], ps => .ok ps
 | x :: r, ps => match rtJun names x.1.name x.1.list ps with
  | none => .bad x.2 3
  | some qs => rtPairs names r qs
def circB (names : List Tx) (ps : List Pr) (x : Tx) : Bool := rel (folL names ps) (nix names x) (nix names x)
def rtCirc (names : List Tx) (ps : List Pr) : List (Ru × Nat) → Rs Unit
 | [] => .ok ()
 | x :: r => if circB names ps x.1.name = true then .bad x.2 6 else rtCirc names ps r
def rtHier (roles : List (Ru × Nat)) : Rs (List Tx × List Pr) := match rtNames roles [] with
 | .bad a b => .bad a b
 | .ok ns => match rtPairs ns roles [] with
  | .bad a b => .bad a b
  | .ok ps => match rtCirc ns ps roles with
   | .bad a b => .bad a b
   | .ok _ => .ok (ns, ps)
def rtHas (l : List (Tx × Nat)) (x : Tx) : Nat := match l.find? fun h => h.1 == x with
 | some h => h.2
 | none => 0
def hldE (names : List Tx) (l : List (Tx × Nat)) (x : Ru) (most : Nat) : Int :=
 if x.name ∈ l.map (·.1) then 4 else if most ≤ l.length then 5 else if (rtSet names x.list 0).isNone then 3 else 0
def sttE (names : List Tx) (l : List (Int × Nat)) (x : Ru) : Int := if 8 ≤ l.length then 5 else if (rtSet names x.list 0).isNone then 3 else 0
def rtE (names : List Tx) (r : Rt) (x : Ru) : Int :=
 if x.kind = 2 then hldE names r.users x 12
 else if x.kind = 3 then hldE names r.perms x 24
 else if x.kind = 4 then sttE names r.stat x
 else if x.kind = 5 then sttE names r.dyn x
 else if x.kind = 6 then (if 8 ≤ r.apart.length then 5 else 0)
 else if x.kind = 7 then (if x.name ∉ names then 3 else if x.name ∈ r.loans.map (·.1) then 4 else 0)
 else 0
def rtN (names : List Tx) (r : Rt) (x : Ru) : Rt :=
 if x.kind = 2 then { r with users := r.users ++ [(x.name, (rtSet names x.list 0).getD 0)] }
 else if x.kind = 3 then { r with perms := r.perms ++ [(x.name, (rtSet names x.list 0).getD 0)] }
 else if x.kind = 4 then { r with stat := r.stat ++ [(x.n, (rtSet names x.list 0).getD 0)] }
 else if x.kind = 5 then { r with dyn := r.dyn ++ [(x.n, (rtSet names x.list 0).getD 0)] }
 else if x.kind = 6 then { r with apart := r.apart ++ [x.list] }
 else if x.kind = 7 then { r with loans := r.loans ++ [(x.name, x.n, x.m)] }
 else r
def rtTake (names : List Tx) : List (Ru × Nat) → Rt → Rs Rt
 | [], r => .ok r
 | x :: l, r => if rtE names r x.1 ≠ 0 then .bad x.2 (rtE names r x.1) else rtTake names l (rtN names r x.1)
def rtDuty (bl : List Nat) (n : Nat) (r : Rt) : List (Ru × Nat) → Rs Unit
 | [] => .ok ()
 | x :: l => if 0 ≤ fstI (downTo bl (rtHas r.users x.1.name) n) r.stat then .bad x.2 7 else rtDuty bl n r l
def rtBl (names : List Tx) (ps : List Pr) : List Nat := selfTo (folL names ps) names.length
def rtL (l : List (Ru × Nat)) : Rs (List Tx × List Pr × Rt) := match rtHier (l.filter (kindIn [1])) with
 | .bad a b => .bad a b
 | .ok (ns, ps) => match rtTake ns l {} with
  | .bad a b => .bad a b
  | .ok r => match rtDuty (rtBl ns ps) ns.length r (l.filter (kindIn [2])) with
   | .bad a b => .bad a b
   | .ok _ => .ok (ns, ps, r)
inductive Leads (ps : List Pr) : Tx → Tx → Prop where
 | one {x y : Tx} : (x, y) ∈ ps → Leads ps x y
 | more {x y z : Tx} : Leads ps x y → (y, z) ∈ ps → Leads ps x z
theorem Leads.trans {ps : List Pr} {x y z : Tx} (h : Leads ps x y) (h2 : Leads ps y z) : Leads ps x z := by
 induction h2 with
 | one h3 => exact .more h h3
 | more _ h3 ih => exact .more ih h3
theorem fol_way {names : List Tx} {ps : List Pr} (hl : names.length ≤ 24) (hp : ∀ p ∈ ps, inN names p = true) (i j : Nat) : rel (folL names ps) i j = way (prel names ps) names.length i j := by
 unfold folL
 rw [folTo_rel]
 have h := (psL_all names hl ps hp).2.2
 have e : rel (psL names ps) = prel names ps := by funext a b; exact h a b
 rw [e]
theorem circ_leads {names : List Tx} {ps : List Pr} (hl : names.length ≤ 24) (hp : ∀ p ∈ ps, inN names p = true) {x : Tx} (hx : x ∈ names) : circB names ps x = true ↔ Leads ps x x := by
 unfold circB
 rw [fol_way hl hp]
 constructor
 ·intro h
  have key := way_least (R := prel names ps) (T := fun i j => ∃ a b, a ∈ names ∧ b ∈ names ∧ nix names a = i ∧ nix names b = j ∧ Leads ps a b) (fun i k j ⟨a, b, ha, hb, h1, h2, h3⟩ ⟨b', c, hb', hc, h4, h5, h6⟩ => by
   have e : b = b' := by rw [← get_idx hb, ← get_idx hb']; congr 1; rw [h2, h4]
   subst e
   exact ⟨a, c, ha, hc, h1, h5, h3.trans h6⟩) (fun i j hij => by
   unfold prel at hij
   rw [List.any_eq_true] at hij
   obtain ⟨p, hm, e⟩ := hij
   have h2 := hp p hm
   simp only [Bool.and_eq_true, beq_iff_eq, inN, decide_eq_true_eq] at e h2
   exact ⟨p.1, p.2, h2.1, h2.2, e.1, e.2, .one hm⟩) _ h
  obtain ⟨a, b, ha, hb, h1, h2, h3⟩ := key
  have e1 : a = x := by rw [← get_idx ha, ← get_idx hx]; congr 1
  have e2 : b = x := by rw [← get_idx hb, ← get_idx hx]; congr 1
  subst e1; subst e2
  exact h3
 ·have key : ∀ y z, Leads ps y z → way (prel names ps) names.length (nix names y) (nix names z) = true := fun y z h => by
   induction h with
   | one hm =>
    refine way_base ?_
    unfold prel
    rw [List.any_eq_true]
    exact ⟨_, hm, by simp⟩
   | more _ hm ih =>
    have h2 := hp _ hm
    simp only [Bool.and_eq_true, inN, decide_eq_true_eq] at h2
    refine way_trans _ (idx_lt h2.1) ih (way_base ?_)
    unfold prel
    rw [List.any_eq_true]
    exact ⟨_, hm, by simp⟩
  exact key x x
theorem circ_none {names : List Tx} {ps : List Pr} (h : ∀ x ∈ names, circB names ps x = false) (hn : names.Nodup) : circ (folL names ps) = false := by
 unfold circ
 rw [List.any_eq_false]
 intro i hi
 have hi2 : i < names.length := by
  have := List.mem_range.1 hi
  rw [folL, folTo_length] at this
  have e : (psL names ps).length = names.length := by
   unfold psL
   suffices H : ∀ (ps : List Pr) (bl : List Nat), (ps.foldl (pset names) bl).length = bl.length from by rw [H]; simp
   intro ps
   induction ps with
   | nil => intro bl; rfl
   | cons p r ih => intro bl; rw [List.foldl_cons, ih]; simp [pset]
  omega
 have h1 := h _ (List.getElem_mem hi2)
 unfold circB at h1
 rw [nix_get hn hi2] at h1
 rw [h1]; simp
end Go.Proofs.YtgffbgmieppckaaGreatDoor
namespace Go.Proofs.YtgffbgmieppckaaGreatDoor
set_option maxRecDepth 100000
open Go.ChangeShapes Go.WideShapes Go.ChangeAt Go.RowKit
theorem ListAt.take {w : World} {A : Option Addr} {c : Nat} {l : List Tx} (h : ListAt w A c l) (k : Nat) : ListAt w A c (l.take k) :=
 ⟨by have := h.1; rw [List.length_take]; omega,
  fun j hj => by
  have hj' : j < l.length := by rw [List.length_take] at hj; omega
  obtain ⟨g, e, hl, hc⟩ := h.2 j hj'
  exact ⟨g, e, hl, by rw [hc]; simp⟩⟩
theorem Contains_take (l : List Tx) (x : Tx) (k : Nat) (A : Option Addr) (c : Nat) (w : World) (h : ListAt w A c l) (hl : l.length ≤ 1000000) (hk : k ≤ l.length) :
  Calls Tryz.prog 117 #[.slice A k c, .string (bs x)] w fun e w' => e = .returned (.bool (decide (x ∈ l.take k))) ∧ w = w' := by
 have e : (l.take k).length = k := by rw [List.length_take]; omega
 have := Contains_str (l.take k) x A c w (h.take k) (by omega)
 rwa [e] at this
theorem nodup_next {l : List Tx} {k : Nat} (h : k < l.length) : (l.take (k + 1)).Nodup ↔ (l.take k).Nodup ∧ l[k] ∉ l.take k := by
 rw [List.take_succ_eq_append_getElem h, List.nodup_append]
 constructor
 ·rintro ⟨a, _, c⟩
  exact ⟨a, fun hm => c _ hm _ (List.mem_singleton.2 rfl) rfl⟩
 ·rintro ⟨a, b⟩
  exact ⟨a, by simp, fun x hx y hy e => b (by rw [List.mem_singleton] at hy; rw [← hy, ← e]; exact hx)⟩
theorem nodup_take {l : List Tx} (h : l.Nodup) (k : Nat) : (l.take k).Nodup := h.sublist (List.take_sublist _ _)
set_option maxHeartbeats 1000000 in
theorem twice_any (l : List Tx) (A : Option Addr) (c : Nat) (w : World) (h : ListAt w A c l) (hl : l.length ≤ 1000) :
  Calls Tryz.prog 194 #[.slice A l.length c] w fun e w' => e = .returned (.bool (!decide l.Nodup)) ∧ w = w' := by
 have HL := Lib.hid h
 have hc := h.1
 clear h
 go_enter Tryz.func194, Tryz.ntmps194
 go_wp2
 go_loop [7] (fun i => ∃ k : Nat, k ≤ l.length ∧ i = .int .i64 k ∧ Hid ((l.take k).Nodup)) (fun i => l.length - (intOf i).toNat)
 case atStart => exact ⟨0, Nat.zero_le _, rfl, by show List.Nodup _; simp⟩
 case round =>
  obtain ⟨k, hk, rfl, HI⟩ := hrel
  by_cases hlt : k < l.length
  ·obtain ⟨g, rfl, _, hx⟩ := HL.out.2 k hlt
   have HC := Lib.hid (Contains_take l l[k] k (some ⟨g, 0, none⟩) c w HL.out (by omega) hk)
   have HN := Lib.hid (nodup_next hlt)
   by_cases hm : l[k] ∈ l.take k
   ·have HD : Hid (decide l.Nodup = false) := by
     show _ = _
     rw [decide_eq_false_iff_not]
     exact fun hn => ((HN.out.1 (nodup_take hn (k + 1))).2 hm)
    rw [decide_eq_true hm] at HC
    clear hm HN
    generalize bs l[k] = y at *
    go_wp2_with (go_at_call 117; refine HC.out.mono ?_; rintro e w1 ⟨rfl, rfl⟩)
    go_ret
    exact ⟨ret_bool (by rw [HD.out]; rfl), rfl⟩
   ·have HT : Hid ((l.take (k + 1)).Nodup) := HN.out.2 ⟨HI.out, hm⟩
    rw [decide_eq_false hm] at HC
    clear hm HN
    generalize bs l[k] = y at *
    go_wp2_with (go_at_call 117; refine HC.out.mono ?_; rintro e w1 ⟨rfl, rfl⟩)
    go_round
    case rel => exact ⟨k + 1, by omega, by go_num, HT⟩
    case measure => simp [intOf]; omega
  ·have HD : Hid (decide l.Nodup = true) := by
    show _ = _
    have := HI.out
    rw [List.take_of_length_le (by omega)] at this
    exact decide_eq_true this
   go_wp2
   go_ret
   exact ⟨ret_bool (by rw [HD.out]; rfl), rfl⟩
theorem circ_any {bl : List Nat} {k : Nat} (h : k < bl.length) (hr : rel bl k k = true) : circ bl = true := by
 unfold circ; rw [List.any_eq_true]; exact ⟨k, List.mem_range.2 h, hr⟩
theorem circ_no {bl : List Nat} (h : ∀ j, j < bl.length → rel bl j j = false) : circ bl = false := by
 unfold circ; rw [List.any_eq_false]; intro x hx; rw [h x (List.mem_range.1 hx)]; simp
theorem lo_32 {bl : List Nat} (h : Lo bl) (i : Nat) : bl.getD i 0 < 4294967296 := Nat.lt_trans (h i) (by omega)
set_option maxHeartbeats 1000000 in
theorem circle_any (bl : List Nat) (base g : Nat) (w : World) (h : UL w base g bl) (hlo : Lo bl) (hl : bl.length ≤ 24) :
  Calls Tryz.prog 197 #[.slice (some ⟨g, 0, none⟩) bl.length bl.length] w fun e w' => e = .returned (.bool (circ bl)) ∧ w = w' := by
 have HL := Lib.hid h
 have HLO := Lib.hid hlo
 clear h hlo
 go_enter Tryz.func197, Tryz.ntmps197
 go_wp2
 go_loop [7] (fun i => ∃ k : Nat, k ≤ bl.length ∧ i = .int .i64 k ∧ Hid (∀ j, j < k → rel bl j j = false)) (fun i => bl.length - (intOf i).toNat)
 case atStart => exact ⟨0, Nat.zero_le _, rfl, fun j hj => by omega⟩
 case round =>
  obtain ⟨k, hk, rfl, HI⟩ := hrel
  by_cases hlt : k < bl.length
  ·have hx := ul_cell HL.out hlt
   have HH := Lib.hid (has_any (bl.getD k 0) k w (lo_32 HLO.out k) (by omega))
   by_cases hm : rel bl k k = true
   ·have HD := Lib.hid (circ_any hlt hm)
    rw [show (bl.getD k 0).testBit k = true from hm] at HH
    clear hm
    generalize bl.getD k 0 = y at *
    go_wp2_with (go_at_call 111; refine HH.out.mono ?_; rintro e w1 ⟨rfl, rfl⟩)
    go_ret
    exact ⟨ret_bool HD.out.symm, rfl⟩
   ·have hm' : rel bl k k = false := by simpa using hm
    have HT : Hid (∀ j, j < k + 1 → rel bl j j = false) := fun j hj => by
     by_cases e : j = k
     ·rw [e]; exact hm'
     ·exact HI.out j (by omega)
    rw [show (bl.getD k 0).testBit k = false from hm'] at HH
    clear hm hm'
    generalize bl.getD k 0 = y at *
    go_wp2_with (go_at_call 111; refine HH.out.mono ?_; rintro e w1 ⟨rfl, rfl⟩)
    go_round
    case rel => exact ⟨k + 1, by omega, by go_num, HT⟩
    case measure => simp [intOf]; omega
  ·have HD := Lib.hid (circ_no (bl := bl) (fun j hj => HI.out j (by omega)))
   go_wp2
   go_ret
   exact ⟨ret_bool HD.out.symm, rfl⟩
theorem or_val (a b : Nat) (ha : a < 16777216) (hb : b < 16777216) : bits .or .u32 (a : Int) (b : Int) = ((a ||| b : Nat) : Int) := u32_or_nat a b (by omega) (by omega)
def FolTo (bl : List Nat) (base g : Nat) (w : World) (e : Ending) (w' : World) : Prop := e = .returned (.tuple #[]) ∧ UL w' base g (folTo bl bl.length) ∧ w.grownBy w' (some g)
theorem put1_cell {m k : Nat} {cur : List Nat} (hr : rel cur k m = true) : put1 m k cur = cur.set k (cur.getD k 0 ||| cur.getD m 0) := by unfold put1; rw [if_pos hr]
theorem put1_same {m k : Nat} {cur : List Nat} (hr : rel cur k m = false) : put1 m k cur = cur := by unfold put1; rw [if_neg (by simp [hr])]
set_option maxHeartbeats 2000000 in
theorem follow_any (bl : List Nat) (base g : Nat) (w : World) (h : UL w base g bl) (hlo : Lo bl) (hl : bl.length ≤ 24) :
  Calls Tryz.prog 196 #[.slice (some ⟨g, 0, none⟩) bl.length bl.length] w (FolTo bl base g w) := by
 generalize hn : bl.length = n at *
 have HN := Lib.hid hn
 have H0 := Lib.hid h
 have HLO := Lib.hid hlo
 clear h hlo hn
 go_enter Tryz.func196, Tryz.ntmps196
 go_wp2
 go_loopw [6] (fun i wr => ∃ m : Nat, m ≤ n ∧ i = .int .i64 m ∧ Hid (UL wr base g (folTo bl m)) ∧ Hid (w.grownBy wr (some g))) (fun i _ => n - (intOf i).toNat)
 case atStart => exact ⟨0, Nat.zero_le _, rfl, H0.out, World.grownBy.refl _ _⟩
 case round =>
  obtain ⟨m, hm, rfl, HU, HG⟩ := hrel
  by_cases hlt : m < n
  ·go_wp2
   go_loopw [11] (fun i wr => ∃ k : Nat, k ≤ n ∧ i = .int .i64 k ∧ Hid (UL wr base g (stepTo m (folTo bl m) k)) ∧ Hid (w.grownBy wr (some g))) (fun i _ => n - (intOf i).toNat)
   case atStart => exact ⟨0, Nat.zero_le _, rfl, HU, HG⟩
   case round =>
    obtain ⟨k, hk, rfl, HU2, HG2⟩ := hrel
    have hcl : (stepTo m (folTo bl m) k).length = n := by rw [stepTo_length, folTo_length, HN.out]
    by_cases hlk : k < n
    ·have hlo2 := stepTo_lo (m := m) (folTo_lo HLO.out m) k (by rw [folTo_length, HN.out]; omega)
     have hs : stepTo m (folTo bl m) (k + 1) = put1 m k (stepTo m (folTo bl m) k) := rfl
     generalize stepTo m (folTo bl m) k = cur at *
     have x1 := ul_cell HU2.out (j := k) (by omega)
     have x2 := ul_cell HU2.out (j := m) (by omega)
     have f1 := ul_frozen HU2.out k
     have HH := Lib.hid (fun W => has_any (cur.getD k 0) m W (lo_32 hlo2 k) (by omega))
     by_cases hr : rel cur k m = true
     ·rw [put1_cell hr] at hs
      have hst := ul_store HU2.out k (cur.getD k 0 ||| cur.getD m 0)
      rw [← hs] at hst
      have HST := Lib.hid hst
      have hv := or_val _ _ (hlo2 k) (hlo2 m)
      have HHT : Hid (∀ W, Calls Tryz.prog 111 #[.int .u32 (cur.getD k 0 : Nat), .int .i64 m] W fun e w' => e = .returned (.bool true) ∧ W = w') := fun W => by
       have := HH.out W
       rwa [show (cur.getD k 0).testBit m = true from hr] at this
      clear hr hs hst HH hcl hlo2
      generalize cur.getD k 0 ||| cur.getD m 0 = z at *
      generalize cur.getD k 0 = y at *
      generalize cur.getD m 0 = x at *
      go_wp2_with (go_at_call 111; refine (HHT.out _).mono ?_; rintro e w1 ⟨rfl, rfl⟩)
      go_region
      have hu3 : UL (wr.setCell ⟨g, k, none⟩ (.int .u32 z)).drew base g (stepTo m (folTo bl m) (k + 1)) := HST.out.1
      have hg3 : w.grownBy (wr.setCell ⟨g, k, none⟩ (.int .u32 z)).drew (some g) := grown_drew (HG2.out.andThen HST.out.2 (fun j e => .inr e))
      have HU3 := Lib.hid hu3
      have HG3 := Lib.hid hg3
      clear hu3 hg3 HST hv
      generalize (wr.setCell ⟨g, k, none⟩ (.int .u32 z)).drew = w3 at *
      go_wp2
      go_roundw
      case rel => exact ⟨k + 1, by omega, by go_num, HU3, HG3⟩
      case measure => simp [intOf]; omega
     ·have hr' : rel cur k m = false := by simpa using hr
      rw [put1_same hr'] at hs
      have HU3 : Hid (UL wr base g (stepTo m (folTo bl m) (k + 1))) := by rw [hs]; exact HU2
      have HHF : Hid (∀ W, Calls Tryz.prog 111 #[.int .u32 (cur.getD k 0 : Nat), .int .i64 m] W fun e w' => e = .returned (.bool false) ∧ W = w') := fun W => by
       have := HH.out W
       rwa [show (cur.getD k 0).testBit m = false from hr'] at this
      clear hr hr' hs HH hcl hlo2 x2
      generalize cur.getD k 0 = y at *
      go_wp2_with (go_at_call 111; refine (HHF.out _).mono ?_; rintro e w1 ⟨rfl, rfl⟩)
      go_roundw
      case rel => exact ⟨k + 1, by omega, by go_num, HU3, HG2⟩
      case measure => simp [intOf]; omega
    ·have HU3 : Hid (UL wr base g (folTo bl (m + 1))) := by
      have e : k = bl.length := by have := HN.out; omega
      have := HU2.out
      rw [e] at this
      exact this
     go_wp2
     go_roundw
     case rel => exact ⟨m + 1, by omega, by go_num, HU3, HG2⟩
     case measure => simp [intOf]; omega
  ·have HU3 : Hid (UL wr base g (folTo bl bl.length)) := by
    have e : m = bl.length := by have := HN.out; omega
    have := HU.out
    rw [e] at this
    exact this
   go_wp2
   go_end0
   exact ⟨rfl, HU3.out, HG.out⟩
def PAt (w : World) (A : Option Addr) (c : Nat) (ps : List Pr) : Prop := ps.length ≤ c ∧ ∀ j (hj : j < ps.length), ∃ g, A = some ⟨g, 0, none⟩ ∧ g < w.heap.size ∧ w.cell? ⟨g, j * 2, none⟩ = some (.string (bs ps[j].1)) ∧ w.cell? ⟨g, j * 2 + 1, none⟩ = some (.string (bs ps[j].2))
theorem PAt.below {w w' : World} {A : Option Addr} {c : Nat} {ps : List Pr} (h : PAt w A c ps) (hb : Below w.heap.size w w') : PAt w' A c ps :=
 ⟨h.1, fun j hj => let ⟨g, e, hl, hc, hd⟩ := h.2 j hj; ⟨g, e, Nat.lt_of_lt_of_le hl hb.size, (hb.cell (p := ⟨g, j * 2, none⟩) hl).trans hc, (hb.cell (p := ⟨g, j * 2 + 1, none⟩) hl).trans hd⟩⟩
theorem idxI_in {l : List Tx} {x : Tx} (h : x ∈ l) : idxI l x = (nix l x : Nat) := by unfold idxI nix; rw [if_pos h]
theorem idxI_out {l : List Tx} {x : Tx} (h : x ∉ l) : idxI l x = -1 := by unfold idxI; rw [if_neg h]
theorem Index_in (l : List Tx) (x : Tx) (A : Option Addr) (c : Nat) (w : World) (h : ListAt w A c l) (hl : l.length ≤ 1000000) (hx : x ∈ l) :
  Calls Tryz.prog 154 #[.slice A l.length c, .string (bs x)] w fun e w' => e = .returned (.int .i64 (nix l x : Nat)) ∧ w = w' := by
 have := IndexX_any l x A c w h hl
 rwa [idxI_in hx] at this
theorem Index_out (l : List Tx) (x : Tx) (A : Option Addr) (c : Nat) (w : World) (h : ListAt w A c l) (hl : l.length ≤ 1000000) (hx : x ∉ l) :
  Calls Tryz.prog 154 #[.slice A l.length c, .string (bs x)] w fun e w' => e = .returned (.int .i64 (-1)) ∧ w = w' := by
 have := IndexX_any l x A c w h hl
 rwa [idxI_out hx] at this
def SetsTo (names : List Tx) (ps : List Pr) (w : World) (e : Ending) (w' : World) : Prop := Below w.heap.size w w' ∧
 ((ps.all (inN names) = false ∧ e = .returned (.tuple #[.slice none 0 0, .bool false])) ∨
  (ps.all (inN names) = true ∧ ∃ g, e = .returned (.tuple #[.slice (some ⟨g, 0, none⟩) names.length names.length, .bool true]) ∧ UL w' w.heap.size g (psL names ps) ∧ (psL names ps).length = names.length))
theorem setsTo_no {names : List Tx} {ps : List Pr} {w w' : World} (h : ps.all (inN names) = false) (hb : Below w.heap.size w w') : SetsTo names ps w (.returned (.tuple #[.slice none 0 0, .bool false])) w' := ⟨hb, .inl ⟨h, rfl⟩⟩
theorem setsTo_ok {names : List Tx} {ps : List Pr} {w w' : World} {g : Nat} (h : ps.all (inN names) = true) (hu : UL w' w.heap.size g (psL names ps)) (hl : (psL names ps).length = names.length) (hb : Below w.heap.size w w') : SetsTo names ps w (.returned (.tuple #[.slice (some ⟨g, 0, none⟩) names.length names.length, .bool true])) w' := ⟨hb, .inr ⟨h, g, rfl, hu, hl⟩⟩
theorem Tryz.infoU32 : (Tryz.prog.info? 74).map (fun i => (i.zero, i.size, i.bytes)) = some (some (.int .u32 0), 1, 4) := by kernel_rfl
theorem psL_length (names : List Tx) (ps : List Pr) : (psL names ps).length = names.length := by
 unfold psL
 suffices H : ∀ (ps : List Pr) (bl : List Nat), (ps.foldl (pset names) bl).length = bl.length from by rw [H]; simp
 intro ps
 induction ps with
 | nil => intro bl; rfl
 | cons p r ih => intro bl; rw [List.foldl_cons, ih]; simp [pset]
theorem all_bad {names : List Tx} {ps : List Pr} {k : Nat} (h : k < ps.length) (hb : inN names ps[k] = false) : ps.all (inN names) = false := by
 rw [List.all_eq_false]; exact ⟨ps[k], List.getElem_mem h, by simp [hb]⟩
theorem all_take {names : List Tx} {ps : List Pr} (h : ∀ p ∈ ps, inN names p = true) : ps.all (inN names) = true := List.all_eq_true.2 h
theorem ul_zeros (w : World) (base g n : Nat) (h : w.ownsRow base 74 1 (.slice (some ⟨g, 0, none⟩) n n) n (madeCells (Value.int .u32 0).cells (n * 1)).toList) : UL w base g (List.replicate n 0) := by
 unfold UL
 rw [List.length_replicate]
 have e : ucells (List.replicate n 0) = (madeCells (Value.int .u32 0).cells (n * 1)).toList := by
  rw [show (Value.int .u32 0).cells = #[.int .u32 0] from rfl, Nat.mul_one, toList_madeCells_one]; simp [ucells]
 rw [e]; exact h
set_option maxHeartbeats 2000000 in
theorem pairSets_any (names : List Tx) (ps : List Pr) (A B : Option Addr) (c d : Nat) (w : World) (hn : ListAt w A c names) (hp : PAt w B d ps) (hl : names.length ≤ 24) (hpl : ps.length ≤ 1000000) :
  Calls Tryz.prog 195 #[.slice A names.length c, .slice B ps.length d] w (SetsTo names ps w) := by
 obtain ⟨i0, hi, hz0, hz1, hz2⟩ := info_parts Tryz.infoU32
 have HN := Lib.hid hn
 have HP := Lib.hid hp
 have hcc := hn.1
 have hdd := hp.1
 clear hn hp
 generalize hm : names.length = n at *
 have HM := Lib.hid hm
 clear hm
 go_enter Tryz.func195, Tryz.ntmps195
 go_wp2_with (refine wpList_make_full _ rfl (.tmp 11) (.tmp 11) 68 rfl w.heap.size 74 i0 _ 1 Tryz.underlying68 hi hz0 hz1 _ _ _ _ n rfl rfl rfl rfl (by rw [hz2]; omega) (by unfold maxLen; omega) (Nat.le_refl _) ?_; intro w1 hown hg1)
 have HU0 := Lib.hid (ul_zeros w1 w.heap.size w.heap.size n hown)
 have HB0 := Lib.hid ((Below.refl w.heap.size w).grown hg1 (Nat.le_refl _) (fun j e => by cases e))
 have hsz1 := HB0.out.size
 clear hown hg1
 go_wp2
 go_loopw [4, 15] (fun v i wr => ∃ k : Nat, k ≤ ps.length ∧ v = .slice (some ⟨w.heap.size, 0, none⟩) n n ∧ i = .int .i64 k ∧ Hid (∀ p ∈ ps.take k, inN names p = true) ∧ Hid (UL wr w.heap.size w.heap.size (psL names (ps.take k))) ∧ Hid (Below w.heap.size w wr)) (fun _ i _ => ps.length - (intOf i).toNat)
 case atStart => exact ⟨0, Nat.zero_le _, rfl, rfl, fun p hp => by simp at hp, by show UL _ _ _ (psL names (ps.take 0)); rw [List.take_zero]; unfold psL; rw [HM.out]; exact HU0.out, HB0⟩
 case round =>
  obtain ⟨k, hk, rfl, rfl, HI, HU, HB⟩ := hrel
  have hbz := HB.out.size
  by_cases hlt : k < ps.length
  ·obtain ⟨g, rfl, hgl, hx, hy⟩ := (HP.out.below HB.out).2 k hlt
   have hll : (psL names (ps.take k)).length = n := by rw [psL_length, HM.out]
   have hsn : psL names (ps.take (k + 1)) = pset names (psL names (ps.take k)) ps[k] := by rw [List.take_succ_eq_append_getElem hlt, psL_snoc]
   have hall : inN names ps[k] = true → ∀ p ∈ ps.take (k + 1), inN names p = true := fun h p hp => by
    rw [List.take_succ_eq_append_getElem hlt] at hp
    rcases List.mem_append.1 hp with hp | hp
    ·exact HI.out p hp
    ·rw [List.mem_singleton.1 hp]; exact h
   have hbad := fun h => all_bad (names := names) hlt h
   have hbA : ∀ o, Below w.heap.size w (wr.alloc o) := fun o => HB.out.alloc hbz o
   have hnA := HN.out.below (hbA (.cells #[.string (bs ps[k].1), .string (bs ps[k].2)] 303))
   have HBA := Lib.hid (hbA (.cells #[.string (bs ps[k].1), .string (bs ps[k].2)] 303))
   clear hbA
   have hlo2 := (psL_all names (by rw [HM.out]; exact hl) (ps.take k) HI.out).2.1
   generalize ps[k] = p at *
   obtain ⟨sn, jn⟩ := p
   have i1 := fun h => Index_in names sn A c (wr.alloc (.cells #[.string (bs sn), .string (bs jn)] 303)) hnA (by rw [HM.out]; omega) h
   have i2 := fun h => Index_in names jn A c (wr.alloc (.cells #[.string (bs sn), .string (bs jn)] 303)) hnA (by rw [HM.out]; omega) h
   have o1 := fun h => Index_out names sn A c (wr.alloc (.cells #[.string (bs sn), .string (bs jn)] 303)) hnA (by rw [HM.out]; omega) h
   have o2 := fun h => Index_out names jn A c (wr.alloc (.cells #[.string (bs sn), .string (bs jn)] 303)) hnA (by rw [HM.out]; omega) h
   rw [HM.out] at i1 i2 o1 o2
   have I1 := Lib.hid i1; have I2 := Lib.hid i2; have O1 := Lib.hid o1; have O2 := Lib.hid o2
   clear i1 i2 o1 o2 hnA
   have tok1 : True := trivial
   by_cases h1 : sn ∈ names
   ·by_cases h2 : jn ∈ names
    ·have HA2 := Lib.hid (hall (by simp [inN, h1, h2]))
     have hai := idx_lt h1
     have hbi := idx_lt h2
     have C1 := Lib.hid (I1.out h1)
     have C2 := Lib.hid (I2.out h2)
     clear I1 I2 O1 O2 hbad hall h1 h2
     rw [HM.out] at hai hbi
     unfold pset at hsn
     simp only at hsn
     generalize nix names sn = a at *
     generalize nix names jn = b at *
     generalize psL names (ps.take k) = cur at *
     have HUA := Lib.hid (World.ownsRow.alloc HU.out (.cells #[.string (bs sn), .string (bs jn)] 303))
     have x1 := ul_cell HUA.out (j := a) (by omega)
     have f1 := ul_frozen HUA.out a
     have HST := Lib.hid (ul_store HUA.out a (cur.getD a 0 ||| bitN b))
     rw [← hsn] at HST
     have hv := or_val (cur.getD a 0) (bitN b) (hlo2 a) (pow_lo (by omega))
     have ga : decide ((a : Int) < 0) = false := by simp
     have gb : decide ((b : Int) < 0) = false := by simp
     clear hsn hlo2
     generalize cur.getD a 0 ||| bitN b = z at *
     generalize cur.getD a 0 = y at *
     go_upto_region 9 with (first
      | (have _t := tok1; go_at_call 154; refine C1.out.mono ?_; rintro e w2 ⟨rfl, rfl⟩; clear tok1 _t)
      | (go_at_call 154; refine C2.out.mono ?_; rintro e w3 ⟨rfl, rfl⟩))
     have HU3 : Hid (UL ((wr.alloc (.cells #[.string (bs sn), .string (bs jn)] 303)).setCell ⟨w.heap.size, a, none⟩ (.int .u32 z)).drew w.heap.size w.heap.size (psL names (ps.take (k + 1)))) := HST.out.1
     have HB3 : Hid (Below w.heap.size w ((wr.alloc (.cells #[.string (bs sn), .string (bs jn)] 303)).setCell ⟨w.heap.size, a, none⟩ (.int .u32 z)).drew) := below_drew (HBA.out.grown HST.out.2 HBA.out.size (fun j e => by cases e; exact Nat.le_refl _))
     go_region_with (go_at_call 165; refine (bit_any b _ (by omega)).mono ?_; rintro e w4 ⟨rfl, rfl⟩)
     all_goals
      generalize ((wr.alloc (.cells #[.string (bs sn), .string (bs jn)] 303)).setCell ⟨w.heap.size, a, none⟩ (.int .u32 z)).drew = w5 at HU3 HB3 ⊢
      go_wp2
      go_roundw
      case rel => exact ⟨k + 1, by omega, rfl, by go_num, HA2, HU3, HB3⟩
      case measure => simp [intOf]; omega
    ·have HD := Lib.hid (hbad (by simp [inN, h2]))
     have C1 := Lib.hid (I1.out h1)
     have C2 := Lib.hid (O2.out h2)
     clear I1 I2 O1 O2 hbad hall h1 h2 hlo2 hsn
     generalize nix names sn = a at *
     have ga : decide ((a : Int) < 0) = false := by simp
     go_wp2_with (first
      | (have _t := tok1; go_at_call 154; refine C1.out.mono ?_; rintro e w2 ⟨rfl, rfl⟩; clear tok1 _t)
      | (go_at_call 154; refine C2.out.mono ?_; rintro e w3 ⟨rfl, rfl⟩))
     go_ret2
     exact setsTo_no HD.out HBA.out
   ·have HD := Lib.hid (hbad (by simp [inN, h1]))
    have C1 := Lib.hid (O1.out h1)
    have key : ∃ r : Int, Calls Tryz.prog 154 #[.slice A n c, .string (bs jn)] (wr.alloc (.cells #[.string (bs sn), .string (bs jn)] 303)) fun e w' => e = .returned (.int .i64 r) ∧ (wr.alloc (.cells #[.string (bs sn), .string (bs jn)] 303)) = w' := by
     by_cases h2 : jn ∈ names
     ·exact ⟨_, I2.out h2⟩
     ·exact ⟨_, O2.out h2⟩
    obtain ⟨r, c2⟩ := key
    have C2 := Lib.hid c2
    clear c2 I1 I2 O1 O2 hbad hall h1 hlo2 hsn
    go_wp2_with (first
     | (have _t := tok1; go_at_call 154; refine C1.out.mono ?_; rintro e w2 ⟨rfl, rfl⟩; clear tok1 _t)
     | (go_at_call 154; refine C2.out.mono ?_; rintro e w3 ⟨rfl, rfl⟩))
    go_ret2
    exact setsTo_no HD.out HBA.out
  ·have HT : Hid (ps.take k = ps) := List.take_of_length_le (by omega)
   rw [HT.out] at HI HU
   have HE := Lib.hid (setsTo_ok (all_take HI.out) HU.out (psL_length names ps) HB.out)
   rw [HM.out] at HE
   go_wp2
   go_ret2
   exact HE.out
end Go.Proofs.YtgffbgmieppckaaGreatDoor
