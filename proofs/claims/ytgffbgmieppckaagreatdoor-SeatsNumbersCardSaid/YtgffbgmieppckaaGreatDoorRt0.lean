import Derived.Test.YtgffbgmieppckaaGreatDoorPrint2
import Derived.Test.YtgffbgmieppckaaGreatDoorPlain06
import Derived.Test.YtgffbgmieppckaaGreatDoorDuty1
namespace Go.Proofs.YtgffbgmieppckaaGreatDoor
set_option maxRecDepth 100000
open Go.ChangeShapes Go.WideShapes Go.ChangeAt Go.RowKit
theorem pol_all (ls : List Tx) : (∀ t ∈ ls, t.length ≤ 4096) → ∀ (n : Nat) (acc l : List (Ru × Nat)), (∀ x ∈ acc, RuOk x.1) → acc.length ≤ 160 → polL ls n acc = .ok l → (∀ x ∈ l, RuOk x.1) ∧ l.length ≤ 160 := by
 induction ls with
 | nil =>
  intro _ n acc l ha hl h
  rw [polL] at h
  cases h
  exact ⟨ha, hl⟩
 | cons t r ih =>
  intro hle n acc l ha hl h
  rw [polL] at h
  cases hp : parseL t with
  | bad c k => rw [hp] at h; cases h
  | empty => rw [hp] at h; exact ih (fun x hx => hle x (List.mem_cons_of_mem _ hx)) _ _ _ ha hl h
  | ok u =>
   rw [hp] at h
   simp only at h
   split at h
   ·cases h
   ·rename_i h160
    refine ih (fun x hx => hle x (List.mem_cons_of_mem _ hx)) _ _ _ ?_ (by simp; omega) h
    intro x hx
    rcases List.mem_append.1 hx with hx | hx
    ·exact ha x hx
    ·rw [List.mem_singleton.1 hx]; exact ru_ok hp (hle t List.mem_cons_self)
theorem polT_all {s : List UInt8} {l : List (Ru × Nat)} (h : polT s = .ok l) : (∀ x ∈ l, RuOk x.1) ∧ l.length ≤ 160 := by
 unfold polT at h
 split at h
 ·cases h
 ·rename_i hs
  exact pol_all _ (fun t ht => by have := (lines_len s).2 t ht; omega) 1 [] l (fun x hx => by cases hx) (by simp) h
def kindIn (ks : List Int) (x : Ru × Nat) : Bool := decide (x.1.kind ∈ ks)
def OfTo (ks : List Int) (l : List (Ru × Nat)) (w : World) (e : Ending) (w' : World) : Prop := ∃ v acc, e = .returned v ∧ acc.map er = l.filter (kindIn ks) ∧ RowsAt w' w.heap.size v acc ∧ Below w.heap.size w w'
theorem ofTo_mk {ks : List Int} {l : List (Ru × Nat)} {w w' : World} {v : Value} {acc : List RL} (h1 : acc.map er = l.filter (kindIn ks)) (h2 : RowsAt w' w.heap.size v acc) (h3 : Below w.heap.size w w') : OfTo ks l w (.returned v) w' := ⟨v, acc, rfl, h1, h2, h3⟩
set_option maxHeartbeats 4000000 in
theorem Of_any6 (acc : List RL) (A : Option Addr) (cap : Nat) (ks : List Int) (KA : Option Addr) (kc : Nat) (w : World) (hR : RIn w A acc) (hK : KAt w KA ks) (hk : ks.length ≤ 1000) (hkc : ks.length ≤ kc) (ha : acc.length ≤ 1000) (_hac : acc.length ≤ cap) (hll : ∀ x ∈ acc, x.1.list.length ≤ 1000000) :
  Calls Tryz.prog 72 #[.slice A acc.length cap, .slice KA ks.length kc] w (OfTo ks (acc.map er) w) := by
 have HR := Lib.hid hR
 have HK := Lib.hid hK
 have HLL := Lib.hid hll
 clear hR hK hll
 obtain ⟨i0, hi, hz0, hz1, hz2⟩ := info_parts Tryz.infoRule
 go_enter Tryz.func72, Tryz.ntmps72
 go_upto_region 3 with fail
 go_loopw [5, 10] (fun l i wr => ∃ (k : Nat) (out : List RL), k ≤ acc.length ∧ i = .int .i64 k ∧ out.length ≤ k ∧ Hid (out.map er = ((acc.take k).map er).filter (kindIn ks)) ∧ Hid (RowsAt wr w.heap.size l out) ∧ Below w.heap.size w wr) (fun _ i _ => acc.length - (intOf i).toNat)
 case atStart => exact ⟨0, [], Nat.zero_le _, rfl, Nat.zero_le _, rfl, rows_nil _ _, Below.refl _ _⟩
 case round =>
  obtain ⟨k, out, hkk, rfl, hol, HO, HW, hbw⟩ := hrel
  by_cases hlt : k < acc.length
  ·obtain ⟨g, rfl, hgl, hc, B, c, e2, hL⟩ := HR.out k hlt
   have hllk := HLL.out _ (List.getElem_mem hlt)
   have hsn : acc.take (k + 1) = acc.take k ++ [acc[k]] := by rw [List.take_succ_eq_append_getElem hlt]
   have HSN := Lib.hid hsn
   clear hsn
   have hbz := hbw.size
   have hL := hL.below hbw
   have q := fun f u hf hu => (hbw.cell (p := ⟨g, k * 11 + f, none⟩) hgl).trans (hc f u hf hu)
   clear hc
   generalize acc[k] = x at *
   obtain ⟨⟨kd, nm, l, rn, rm, rf, rt, rb, ra, ri⟩, ln, L⟩ := x
   obtain rfl : L = .slice B l.length c := e2
   simp only at hL hllk
   have q0 := q 0 _ (by omega) rfl; have q1 := q 1 _ (by omega) rfl; have q2 := q 2 _ (by omega) rfl; have q3 := q 3 _ (by omega) rfl; have q4 := q 4 _ (by omega) rfl; have q5 := q 5 _ (by omega) rfl; have q6 := q 6 _ (by omega) rfl; have q7 := q 7 _ (by omega) rfl; have q8 := q 8 _ (by omega) rfl; have q9 := q 9 _ (by omega) rfl; have q10 := q 10 _ (by omega) rfl
   simp only [Nat.add_zero] at q0
   clear q
   go_upto_region 5 with fail
   have RA : (wr.alloc (.cells #[.int .i64 kd, .string (bs nm), .slice B l.length c, .int .i64 rn, .int .i64 rm, .string (bs rf), .string (bs rt), .string (bs rb), .string (bs ra), .string (bs ri), .int .i64 ln] 31)).heap[wr.heap.size]? = some (.cells #[.int .i64 kd, .string (bs nm), .slice B l.length c, .int .i64 rn, .int .i64 rm, .string (bs rf), .string (bs rt), .string (bs rb), .string (bs ra), .string (bs ri), .int .i64 ln] 31 (0, 0)) := heap_alloc_new _ _
   have hb1 : Below wr.heap.size wr (wr.alloc (.cells #[.int .i64 kd, .string (bs nm), .slice B l.length c, .int .i64 rn, .int .i64 rm, .string (bs rf), .string (bs rt), .string (bs rb), .string (bs ra), .string (bs ri), .int .i64 ln] 31)) := (Below.refl _ _).alloc (Nat.le_refl _) _
   have hL1 := hL.below hb1
   have hK1 := HK.out.below (hbw.trans (hb1.mono hbz))
   have hs1 : (wr.alloc (.cells #[.int .i64 kd, .string (bs nm), .slice B l.length c, .int .i64 rn, .int .i64 rm, .string (bs rf), .string (bs rt), .string (bs rb), .string (bs ra), .string (bs ri), .int .i64 ln] 31)).heap.size = wr.heap.size + 1 := by simp
   generalize hw1 : wr.alloc (.cells #[.int .i64 kd, .string (bs nm), .slice B l.length c, .int .i64 rn, .int .i64 rm, .string (bs rf), .string (bs rt), .string (bs rb), .string (bs ra), .string (bs ri), .int .i64 ln] 31) = w1 at *
   clear hw1 q0 q1 q2 q3 q4 q5 q6 q7 q8 q9 q10 hL
   have HC := Lib.hid (Contains_any ks kd KA kc w1 hK1 (by omega) hkc)
   have HCL := Lib.hid (Clone_any l B c w1 hL1 (by omega))
   clear hK1 hL1
   have y0 := row_q0 RA
   by_cases hm : kd ∈ ks
   ·have HE : Hid ((out ++ [((⟨kd, nm, l, rn, rm, rf, rt, rb, ra, ri⟩ : Ru), ln, Value.slice B l.length c)]).map er = ((acc.take (k + 1)).map er).filter (kindIn ks)) := by
     show _ = _
     rw [HSN.out, List.map_append, List.map_append, List.filter_append, HO.out]
     simp [kindIn, er, hm]
    rw [decide_eq_true hm] at HC
    clear hm HO HSN
    have y2 := row_q2 RA
    have f2 := row_fz RA 2
    go_upto_region 7 with (first
     | (go_at_call 140; refine HC.out.mono ?_; rintro e w2 ⟨rfl, rfl⟩)
     | (go_at_call 141; refine HCL.out.mono ?_; rintro e w2 ⟨v2, rfl, ho2, hb2⟩; obtain ⟨B2, c2, rfl⟩ := own_slice ho2; have RA2 := row_below RA hb2; have y2 := row_q2 RA2; have f2 := row_fz RA2 2))
    have hbs2 := hb2.size
    have R3 : (w2.setCell ⟨wr.heap.size, 2, none⟩ (.slice B2 l.length c2)).heap[wr.heap.size]? = some (.cells #[.int .i64 kd, .string (bs nm), .slice B2 l.length c2, .int .i64 rn, .int .i64 rm, .string (bs rf), .string (bs rt), .string (bs rb), .string (bs ra), .string (bs ri), .int .i64 ln] 31 (0, 0)) := by
     have h := heap_set (j := 2) RA2 (.slice B2 l.length c2)
     simpa using h
    have hg3 : w2.grownBy (w2.setCell ⟨wr.heap.size, 2, none⟩ (.slice B2 l.length c2)) (some wr.heap.size) := grown_setCell _ _ _ _
    have hb3 : Below wr.heap.size wr (w2.setCell ⟨wr.heap.size, 2, none⟩ (.slice B2 l.length c2)) := (below_then hb1 hb2 (by omega)).grown hg3 (by omega) (fun j hj => by cases hj; exact Nat.le_refl _)
    have HL3 : Hid (OwnL (w2.setCell ⟨wr.heap.size, 2, none⟩ (.slice B2 l.length c2)) w.heap.size (.slice B2 l.length c2) l) := own_base (World.ownsRow.kept ho2 hg3 (own_ne ho2 (by omega))) (by omega)
    have HW3 := Lib.hid (HW.out.below hb3 hbz)
    have hb4 := below_then hbw hb3 hbz
    generalize hw3 : w2.setCell ⟨wr.heap.size, 2, none⟩ (.slice B2 l.length c2) = w3 at *
    clear hw3 RA RA2 y0 y2 f2 hb2 ho2 hg3 HW HC HCL hb1 hb3
    obtain ⟨A0, cap0, rfl⟩ := own_slice HW3.out.1
    obtain ⟨p0, p1, p2, p3, p4, p5, p6, p7, p8, p9, p10⟩ := row_qs0 R3
    clear R3
    go_wp2_with (at_builtin; go_must (refine wpList_append_own _ rfl (.tmp 22) (.tmp 24) 25 rfl w.heap.size 31 i0 _ 11 152 Tryz.underlying25 hi hz0 hz1 hz2 rfl (by decide) _ _ _ rfl (HW3.out.1.alloc _) ⟨w3.heap.size, 0, none⟩ 1 1 [.int .i64 kd, .string (bs nm), .slice B2 l.length c2, .int .i64 rn, .int .i64 rm, .string (bs rf), .string (bs rt), .string (bs rb), .string (bs ra), .string (bs ri), .int .i64 ln] rfl rfl (cells_new _ _ _) (by intro u hu; simp at hu; rcases hu with rfl | rfl | rfl | rfl | rfl | rfl | rfl | rfl | rfl | rfl | rfl <;> rfl) (by unfold maxLen; omega) (by omega) (by have := hb4.size; simp; omega) ?_); intro v' w4 hown' hg' _)
    have hg2 : (w3.alloc (.cells #[.int .i64 kd, .string (bs nm), .slice B2 l.length c2, .int .i64 rn, .int .i64 rm, .string (bs rf), .string (bs rt), .string (bs rb), .string (bs ra), .string (bs ri), .int .i64 ln] 31)).grownBy w4 (Value.slice A0 out.length cap0).ownBlock := hg'
    have hb5 : Below w.heap.size w w4 := (hb4.alloc hb4.size _).grown hg2 (by have := hb4.size; simp; omega) (fun g hg => (HW3.out.1.lt g hg).1)
    clear hg'
    have HN : Hid (RowsAt w4 w.heap.size v' (out ++ [((⟨kd, nm, l, rn, rm, rf, rt, rb, ra, ri⟩ : Ru), ln, Value.slice B2 l.length c2)])) := by
     have hB : Below w3.heap.size w3 (w3.alloc (.cells #[.int .i64 kd, .string (bs nm), .slice B2 l.length c2, .int .i64 rn, .int .i64 rm, .string (bs rf), .string (bs rt), .string (bs rb), .string (bs ra), .string (bs ri), .int .i64 ln] 31)) := (Below.refl _ _).alloc (Nat.le_refl _) _
     have hba := hb4.size
     have hO := own_below HW3.out.1 hB hba
     refine ⟨?_, fun x hx => ?_⟩
     ·rw [rcells_snoc, List.length_append]
      exact hown'
     ·have hxo : OwnL w3 w.heap.size x.2.2 x.1.list := by
       rcases List.mem_append.1 hx with hx | hx
       ·exact HW3.out.2 x hx
       ·rw [List.mem_singleton.1 hx]; exact HL3.out
      exact (own_below hxo hB hba).kept hg2 (own_apart (own_below hxo hB hba) hO)
    clear hown' HW3 HL3
    go_roundw
    case rel => exact ⟨k + 1, _, by omega, by go_num, by simp; omega, (by show _ = _; rw [← HE.out]; simp [er]), HN.out, hb5⟩
    case measure => simp [intOf]; omega
   ·have HE : Hid (out.map er = ((acc.take (k + 1)).map er).filter (kindIn ks)) := by
     show _ = _
     rw [HSN.out, List.map_append, List.filter_append, HO.out]
     simp [kindIn, er, hm]
    rw [decide_eq_false hm] at HC
    clear hm HO HSN
    go_wp2_with (go_at_call 140; refine HC.out.mono ?_; rintro e w2 ⟨rfl, rfl⟩)
    go_roundw
    case rel => exact ⟨k + 1, out, by omega, by go_num, by omega, HE.out, HW.out.below hb1 hbz, below_then hbw hb1 hbz⟩
    case measure => simp [intOf]; omega
  ·have HE : Hid (out.map er = (acc.map er).filter (kindIn ks)) := by have := HO.out; rw [List.take_of_length_le (by omega)] at this; exact this
   clear HO
   go_wp2
   go_ret
   exact ofTo_mk HE.out HW.out hbw
end Go.Proofs.YtgffbgmieppckaaGreatDoor
namespace Go.Proofs.YtgffbgmieppckaaGreatDoor
set_option maxRecDepth 100000
inductive Rs (α : Type) where
 | bad (line : Nat) (k : Int)
 | ok (a : α)
structure Rt where
 users : List (Tx × Nat) := []
 perms : List (Tx × Nat) := []
 stat : List (Int × Nat) := []
 dyn : List (Int × Nat) := []
 apart : List (List Tx) := []
 loans : List (Tx × Int × Int) := []
def rtSet (names : List Tx) : List Tx → Nat → Option Nat
 | [], s => some s
 | x :: r, s => if x ∈ names then rtSet names r (s ||| bitN (nix names x)) else none
def rtNames : List (Ru × Nat) → List Tx → Rs (List Tx)
 | [], ns => .ok ns
 | x :: r, ns => if x.1.name ∈ ns then .bad x.2 4 else if 24 ≤ ns.length then .bad x.2 5 else rtNames r (ns ++ [x.1.name])
def rtJun (names : List Tx) (s : Tx) : List Tx → List Pr → Option (List Pr)
 | [], ps => some ps
 | j :: r, ps => if j ∈ names then rtJun names s r (ps ++ [(s, j)]) else none
def rtPairs (names : List Tx) : List (Ru × Nat) → List Pr → Rs (List Pr)
 | [], ps => .ok ps
 | x :: r, ps => match rtJun names x.1.name x.1.list ps with
  | none => .bad x.2 3
  | some qs => rtPairs names r qs
def circB (names : List Tx) (ps : List Pr) (x : Tx) : Bool := rel (folL names ps) (nix names x) (nix names x)
def rtCirc (names : List Tx) (ps : List Pr) : List (Ru × Nat) → Rs Unit
 | [] => .ok ()
 | x :: r => if circB names ps x.1.name = true then .bad x.2 6 else rtCirc names ps r
def rtHier (roles : List (Ru × Nat)) : Rs (List Tx × List Pr) := match rtNames roles [] with
 | .bad a b => .bad a b
 | .ok ns => match rtPairs ns roles [] with
  | .bad a b => .bad a b
  | .ok ps => match rtCirc ns ps roles with
   | .bad a b => .bad a b
   | .ok _ => .ok (ns, ps)
def rtHas (l : List (Tx × Nat)) (x : Tx) : Nat := match l.find? fun h => h.1 == x with
 | some h => h.2
 | none => 0
def hldE (names : List Tx) (l : List (Tx × Nat)) (x : Ru) (most : Nat) : Int :=
 if x.name ∈ l.map (·.1) then 4 else if most ≤ l.length then 5 else if (rtSet names x.list 0).isNone then 3 else 0
def sttE (names : List Tx) (l : List (Int × Nat)) (x : Ru) : Int := if 8 ≤ l.length then 5 else if (rtSet names x.list 0).isNone then 3 else 0
def rtE (names : List Tx) (r : Rt) (x : Ru) : Int :=
 if x.kind = 2 then hldE names r.users x 12
 else if x.kind = 3 then hldE names r.perms x 24
 else if x.kind = 4 then sttE names r.stat x
 else if x.kind = 5 then sttE names r.dyn x
 else if x.kind = 6 then (if 8 ≤ r.apart.length then 5 else 0)
 else if x.kind = 7 then (if x.name ∉ names then 3 else if x.name ∈ r.loans.map (·.1) then 4 else 0)
 else 0
def rtN (names : List Tx) (r : Rt) (x : Ru) : Rt :=
 if x.kind = 2 then { r with users := r.users ++ [(x.name, (rtSet names x.list 0).getD 0)] }
 else if x.kind = 3 then { r with perms := r.perms ++ [(x.name, (rtSet names x.list 0).getD 0)] }
 else if x.kind = 4 then { r with stat := r.stat ++ [(x.n, (rtSet names x.list 0).getD 0)] }
 else if x.kind = 5 then { r with dyn := r.dyn ++ [(x.n, (rtSet names x.list 0).getD 0)] }
 else if x.kind = 6 then { r with apart := r.apart ++ [x.list] }
 else if x.kind = 7 then { r with loans := r.loans ++ [(x.name, x.n, x.m)] }
 else r
def rtTake (names : List Tx) : List (Ru × Nat) → Rt → Rs Rt
 | [], r => .ok r
 | x :: l, r => if rtE names r x.1 ≠ 0 then .bad x.2 (rtE names r x.1) else rtTake names l (rtN names r x.1)
def rtDuty (bl : List Nat) (n : Nat) (r : Rt) : List (Ru × Nat) → Rs Unit
 | [] => .ok ()
 | x :: l => if 0 ≤ fstI (downTo bl (rtHas r.users x.1.name) n) r.stat then .bad x.2 7 else rtDuty bl n r l
def rtBl (names : List Tx) (ps : List Pr) : List Nat := selfTo (folL names ps) names.length
def rtL (l : List (Ru × Nat)) : Rs (List Tx × List Pr × Rt) := match rtHier (l.filter (kindIn [1])) with
 | .bad a b => .bad a b
 | .ok (ns, ps) => match rtTake ns l {} with
  | .bad a b => .bad a b
  | .ok r => match rtDuty (rtBl ns ps) ns.length r (l.filter (kindIn [2])) with
   | .bad a b => .bad a b
   | .ok _ => .ok (ns, ps, r)
inductive Leads (ps : List Pr) : Tx → Tx → Prop where
 | one {x y : Tx} : (x, y) ∈ ps → Leads ps x y
 | more {x y z : Tx} : Leads ps x y → (y, z) ∈ ps → Leads ps x z
theorem Leads.trans {ps : List Pr} {x y z : Tx} (h : Leads ps x y) (h2 : Leads ps y z) : Leads ps x z := by
 induction h2 with
 | one h3 => exact .more h h3
 | more _ h3 ih => exact .more ih h3
theorem fol_way {names : List Tx} {ps : List Pr} (hl : names.length ≤ 24) (hp : ∀ p ∈ ps, inN names p = true) (i j : Nat) : rel (folL names ps) i j = way (prel names ps) names.length i j := by
 unfold folL
 rw [folTo_rel]
 have h := (psL_all names hl ps hp).2.2
 have e : rel (psL names ps) = prel names ps := by funext a b; exact h a b
 rw [e]
theorem circ_leads {names : List Tx} {ps : List Pr} (hl : names.length ≤ 24) (hp : ∀ p ∈ ps, inN names p = true) {x : Tx} (hx : x ∈ names) : circB names ps x = true ↔ Leads ps x x := by
 unfold circB
 rw [fol_way hl hp]
 constructor
 ·intro h
  have key := way_least (R := prel names ps) (T := fun i j => ∃ a b, a ∈ names ∧ b ∈ names ∧ nix names a = i ∧ nix names b = j ∧ Leads ps a b) (fun i k j ⟨a, b, ha, hb, h1, h2, h3⟩ ⟨b', c, hb', hc, h4, h5, h6⟩ => by
   have e : b = b' := by rw [← get_idx hb, ← get_idx hb']; congr 1; rw [h2, h4]
   subst e
   exact ⟨a, c, ha, hc, h1, h5, h3.trans h6⟩) (fun i j hij => by
   unfold prel at hij
   rw [List.any_eq_true] at hij
   obtain ⟨p, hm, e⟩ := hij
   have h2 := hp p hm
   simp only [Bool.and_eq_true, beq_iff_eq, inN, decide_eq_true_eq] at e h2
   exact ⟨p.1, p.2, h2.1, h2.2, e.1, e.2, .one hm⟩) _ h
  obtain ⟨a, b, ha, hb, h1, h2, h3⟩ := key
  have e1 : a = x := by rw [← get_idx ha, ← get_idx hx]; congr 1
  have e2 : b = x := by rw [← get_idx hb, ← get_idx hx]; congr 1
  subst e1; subst e2
  exact h3
 ·have key : ∀ y z, Leads ps y z → way (prel names ps) names.length (nix names y) (nix names z) = true := fun y z h => by
   induction h with
   | one hm =>
    refine way_base ?_
    unfold prel
    rw [List.any_eq_true]
    exact ⟨_, hm, by simp⟩
   | more _ hm ih =>
    have h2 := hp _ hm
    simp only [Bool.and_eq_true, inN, decide_eq_true_eq] at h2
    refine way_trans _ (idx_lt h2.1) ih (way_base ?_)
    unfold prel
    rw [List.any_eq_true]
    exact ⟨_, hm, by simp⟩
  exact key x x
theorem circ_none {names : List Tx} {ps : List Pr} (h : ∀ x ∈ names, circB names ps x = false) (hn : names.Nodup) : circ (folL names ps) = false := by
 unfold circ
 rw [List.any_eq_false]
 intro i hi
 have hi2 : i < names.length := by
  have := List.mem_range.1 hi
  rw [folL, folTo_length] at this
  have e : (psL names ps).length = names.length := by
   unfold psL
   suffices H : ∀ (ps : List Pr) (bl : List Nat), (ps.foldl (pset names) bl).length = bl.length from by rw [H]; simp
   intro ps
   induction ps with
   | nil => intro bl; rfl
   | cons p r ih => intro bl; rw [List.foldl_cons, ih]; simp [pset]
  omega
 have h1 := h _ (List.getElem_mem hi2)
 unfold circB at h1
 rw [nix_get hn hi2] at h1
 rw [h1]; simp
end Go.Proofs.YtgffbgmieppckaaGreatDoor
