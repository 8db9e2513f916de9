import Derived.Test.YtgffbgmieppckaaGreatDoorRtJ
import Derived.Deep.Upon
import Derived.Lib.SliceRun
import Derived.Test.YtgffbgmieppckaaGreatDoorDT0
namespace Go.Proofs.YtgffbgmieppckaaGreatDoor
set_option maxRecDepth 100000
open Go.ChangeShapes Go.WideShapes Go.ChangeAt Go.RowKit
theorem wpList_append_none {Pg : Program} {w : World} {ops : Array Oper} {rest : List Oper} {o : Oper} {a : Act} {Q : Exit → Act → World → Prop} (hgd : o.guard = none) (s x : Operand) (t : TypeId)
  (ho : o.op = .call { callee := .builtin .append, args := #[s, x], argTypes := #[t, t] })
  (e : TypeId) (i : TypeInfo) (ht : Pg.underlying t = some (.slice e)) (hi : Pg.info? e = some i)
  (A : Option Addr) (n c : Nat) (hs : a.eval s = .slice A n c) (hnc : n ≤ c) (B : Option Addr) (L d : Nat) (hx : a.eval x = .slice B L d) (hL : L = 0)
  (h : wpList Pg ops Q rest (a.put o.dst (.slice A n c)) w) : wpList Pg ops Q (o :: rest) a w := by
 subst hL
 refine wpList_plain hgd fun K hK => ?_
 have src : Src Pg i.size t (.slice B 0 d) 0 [] w := by
  refine ⟨.inl ⟨e, ht⟩, fun _ => rfl, ?_, ?_, by simp, fun _ h => by cases h⟩
  ·cases B with
   | none => exact run_firstCells_none w i.size 0 0 d
   | some b => exact run_firstCells_some w i.size 0 b 0 d [] (by simp) (fun j v h => by simp at h)
  ·cases B with
   | none => exact run_firstCells_none w.drew i.size 0 0 d
   | some b => exact run_firstCells_some w.drew i.size 0 b 0 d [] (by simp) (fun j v h => by simp at h)
 have hrun := run_append_nothing w t t o.type e i ht hi A n c hnc _ src
 unfold Oper.wp
 simp [execOp, ho, resolve, invoke, builtin, hs, hx, hrun, Result.andThen]
 exact hK _ _ h
def DsTo (l : List (Int × Nat)) (w : World) (e : Ending) (w' : World) : Prop := ∃ A c, e = .returned (.slice A l.length c) ∧ StAt w' A c l ∧ Below w.heap.size w w'
theorem dsTo_mk {l : List (Int × Nat)} {n c : Nat} {A : Option Addr} {w w' : World} (hn : n = l.length) (h : StAt w' A c l) (hb : Below w.heap.size w w') : DsTo l w (.returned (.slice A n c)) w' := by subst hn; exact ⟨A, c, rfl, h, hb⟩
theorem stAt_nil (w : World) (A : Option Addr) (c : Nat) : StAt w A c [] := ⟨Nat.zero_le _, fun j hj => by simp at hj⟩
theorem ds_one (l : List (Int × Nat)) : ∀ u ∈ dsCells l, u.oneCell' = true := by
 intro u hu
 simp only [dsCells, List.mem_flatMap] at hu
 obtain ⟨p, _, hu⟩ := hu
 simp at hu
 rcases hu with rfl | rfl <;> rfl
theorem ds_cells {w : World} {g c : Nat} {l : List (Int × Nat)} (h : StAt w (some ⟨g, 0, none⟩) c l) : ∀ j u, (dsCells l)[j]? = some u → w.cell? ((⟨g, 0, none⟩ : Addr).add j) = some u := fun j u hu => by
 have hadd : (⟨g, 0, none⟩ : Addr).add j = ⟨g, j, none⟩ := by unfold Addr.add; split <;> simp_all
 rw [hadd]
 have hj : j < l.length * 2 := by rw [← dsCells_length]; exact (List.getElem?_eq_some_iff.1 hu).1
 have hk : j / 2 < l.length := by omega
 obtain ⟨g', e, _, h1, h2, _⟩ := h.2 (j / 2) hk
 obtain rfl : g' = g := by have := Option.some.inj e; injection this with e1; exact e1.symm
 obtain ⟨a1, a2⟩ := dsCells_at l (j / 2) hk
 rcases (by omega : j % 2 = 0 ∨ j % 2 = 1) with r | r
 ·have e3 : j = j / 2 * 2 := by omega
  rw [← e3] at a1 h1
  rw [h1, ← hu, a1]
 ·have e3 : j = j / 2 * 2 + 1 := by omega
  rw [← e3] at a2 h2
  rw [h2, ← hu, a2]
set_option maxHeartbeats 1000000 in
theorem CloneDS_any (l : List (Int × Nat)) (A : Option Addr) (c : Nat) (w : World) (h : StAt w A c l) (hl : l.length ≤ 1000) : Calls Tryz.prog 109 #[.slice A l.length c] w (DsTo l w) := by
 obtain ⟨i0, hi, hz0, hz1, hz2⟩ := info_parts Tryz.infoDSet
 have hcc := h.1
 have qT : ∀ (w : World) (a : Option Addr) (n c n' c' : Nat), (binOp .eql 83 (.slice a n c) (.slice none n' c')).run Tryz.prog w = .ok (.bool a.isNone) w := fun w a n c n' c' => Lib.run_eql_slice_nil w _ _ a n c n' c' Tryz.underlying83
 cases A with
 | none =>
  have h0 : l = [] := by
   cases l with
   | nil => rfl
   | cons a r => obtain ⟨g, e, _⟩ := h.2 0 (by simp); cases e
  subst h0
  clear h
  go_enter Tryz.func109, Tryz.ntmps109
  go_wp2
  go_ret
  exact dsTo_mk rfl (stAt_nil _ _ _) (Below.refl _ _)
 | some a =>
  by_cases h0 : l.length = 0
  ·have e0 : l = [] := List.length_eq_zero_iff.1 h0
   subst e0
   clear h h0
   go_enter Tryz.func109, Tryz.ntmps109
   go_wp2_with (at_builtin; go_must (refine wpList_append_none rfl (.tmp 5) (.tmp 6) 83 rfl 171 i0 Tryz.underlying83 hi (some ⟨w.heap.size, 0, none⟩) 0 0 rfl (Nat.le_refl _) _ _ _ rfl rfl ?_))
   go_ret
   exact dsTo_mk rfl (stAt_nil _ _ _) (rbox w _)
  ·have hpos : 0 < l.length := by omega
   obtain ⟨g, e, hgl, _⟩ := h.2 0 hpos
   obtain rfl := Option.some.inj e
   have HC : Hid (∀ O, ∀ j u, (dsCells l)[j]? = some u → (w.alloc O).cell? ((⟨g, 0, none⟩ : Addr).add j) = some u) := fun O => ds_cells (h.below (rbox w O))
   have HL := Lib.hid (dsCells_length l)
   have HO0 : Hid ((w.alloc (.cells #[] 171)).ownsRow w.heap.size 171 2 (.slice (some ⟨w.heap.size, 0, none⟩) 0 0) 0 []) := World.ownsRow_lit w #[] 0 (Nat.le_refl _) (Nat.zero_le _) (by simp)
   have HR : Hid (∀ p ∈ l, p.2 < 4294967296) := fun p hp => by
    obtain ⟨j, hj, rfl⟩ := List.mem_iff_getElem.1 hp
    obtain ⟨_, _, _, _, _, h9⟩ := h.2 j hj
    exact h9
   clear h e h0
   go_enter Tryz.func109, Tryz.ntmps109
   go_wp2_with (at_builtin; go_must (refine wpList_append_lies _ rfl (.tmp 5) (.tmp 6) 83 rfl w.heap.size 171 i0 _ 2 16 Tryz.underlying83 hi hz0 hz1 hz2 rfl (by decide) (.slice (some ⟨w.heap.size, 0, none⟩) 0 0) 0 [] rfl HO0.out ⟨g, 0, none⟩ l.length c (dsCells l) rfl HL.out (HC.out _) (ds_one l) hpos (by unfold maxLen; omega) (by omega) (by simp) _ rfl ?_); intro g9 cp9 w9 hown9 hg9 hat9 hlt9)
   go_ret
   have hown : OwnDS w9 w.heap.size (.slice (some ⟨g9, 0, none⟩) l.length cp9) l := by
    show World.ownsRow _ _ _ _ _ _ _
    simpa using hown9
   exact dsTo_mk (by simp) (dsAt_of hown HR.out) (((rbox w _)).grown hg9 (by simp) (fun j e => by cases e; exact Nat.le_refl _))
section
variable (b : Nat) (w : World)
theorem Order_any (o : Nat) (hc : w.cell? ⟨b, 0, none⟩ = some (.pointer (some ⟨o, 0, none⟩))) :
  Calls Tryz.prog 41 #[.pointer (some ⟨b, 0, none⟩)] w fun e w' => e = .returned (.pointer (some ⟨o, 0, none⟩)) ∧ w = w' := by
 go_enter Tryz.func41, Tryz.ntmps41
 go_wp2
 go_ret
 exact ⟨rfl, rfl⟩
theorem Static_any (l : List (Int × Nat)) (A : Option Addr) (c : Nat) (hc : w.cell? ⟨b, 3, none⟩ = some (.slice A l.length c)) (h : StAt w A c l) (hl : l.length ≤ 1000) :
  Calls Tryz.prog 38 #[.pointer (some ⟨b, 0, none⟩)] w (DsTo l w) := by
 have RO := Lib.hid (CloneDS_any l A c w h hl)
 clear h
 go_enter Tryz.func38, Tryz.ntmps38
 go_wp2_with (go_at_call 109; refine RO.out.mono ?_; rintro e w2 ⟨A2, c2, rfl, hs2, hb2⟩)
 go_ret
 exact dsTo_mk rfl hs2 hb2
set_option maxHeartbeats 1000000 in
theorem Gives_any (l : List (Tx × Nat)) (x : Tx) (A : Option Addr) (c o : Nat) (names : List Tx) (bl : List Nat) (hc0 : w.cell? ⟨b, 0, none⟩ = some (.pointer (some ⟨o, 0, none⟩))) (hc : w.cell? ⟨b, 2, none⟩ = some (.slice A l.length c)) (hb : b < w.heap.size) (h : HAt w A c l) (hl : l.length ≤ 1000) (hO : OrdAt w o names bl) (hs : ∀ p ∈ l, p.2 < 16777216) :
  Calls Tryz.prog 66 #[.pointer (some ⟨b, 0, none⟩), .string (bs x)] w fun e w' => e = .returned (.int .u32 (upperTo bl (rtHas l x) names.length : Nat)) ∧ Below w.heap.size w w' := by
 have RO : Hid (∀ W, Below w.heap.size w W → Calls Tryz.prog 110 #[.slice A l.length c, .string (bs x)] W fun e w' => e = .returned (.int .u32 (rtHas l x : Nat)) ∧ Below W.heap.size W w') := fun W hW => rolesOf_any l x A c W (h.below hW) hl
 have hlt := rtHas_lt hs x
 have UP : Hid (∀ W, Below w.heap.size w W → Calls Tryz.prog 127 #[.pointer (some ⟨o, 0, none⟩), .int .u32 (rtHas l x : Nat)] W fun e w' => e = .returned (.int .u32 (upperTo bl (rtHas l x) names.length : Nat)) ∧ W = w') := fun W hW => Up_any o names bl W (rtHas l x) (by omega) (hO.below hW)
 clear h hO hlt hs
 generalize upperTo bl (rtHas l x) names.length = up at *
 generalize rtHas l x = hv at *
 go_enter Tryz.func66, Tryz.ntmps66
 go_upto_region 1 with fail
 go_region_with (first
  | (go_at_call 110; refine (RO.out _ (by first | exact Below.refl _ _ | exact below_drew (Below.refl _ _))).mono ?_; rintro e W2 ⟨rfl, hb2'⟩; have hb2 : Below w.heap.size w W2 := (by first | exact hb2' | exact below_then (below_drew (Below.refl _ _)) hb2' (Nat.le_refl _)); have s3 := (hb2.cell (p := ⟨b, 0, none⟩) hb).trans hc0)
  | (go_at_call 127; refine (UP.out _ hb2).mono ?_; rintro e W3 ⟨rfl, rfl⟩))
 all_goals
  go_wp2
  go_ret
  first | exact ⟨rfl, hb2⟩ | exact ⟨rfl, below_drew hb2⟩
end
structure Gr where
 num : Int
 fro : Tx
 rcv : Tx
 role : Tx
 til : Int
 dep : Int
 way : Int
def gFind (gs : List Gr) (n : Int) : Option Gr := gs.find? fun g => g.num == n
def oneP (ns : List Tx) (x : Tx) : Nat := if x ∈ ns then bitN (nix ns x) else 0
def holdS (ns : List Tx) (u : Tx) : List Gr → Nat → Nat
 | [], s => s
 | g :: gs, s => holdS ns u gs (if g.rcv = u then s ||| oneP ns g.role else s)
def holdsP (ns : List Tx) (bl : List Nat) (r : Rt) (gs : List Gr) (u : Tx) : Nat := downTo bl (holdS ns u gs (rtHas r.users u)) ns.length
def lnP (l : List (Tx × Int × Int)) (x : Tx) : Option (Int × Int) := (l.reverse.find? fun h => h.1 == x).map fun h => h.2
def lnV (l : List (Tx × Int × Int)) (x : Tx) : Int × Int := (lnP l x).getD (0, 0)
def knownP (ns : List Tx) (r : Rt) (x : Gr) : Bool := decide (x.fro ∈ hnm r.users) && decide (x.rcv ∈ hnm r.users) && decide (x.role ∈ ns)
def wayP (ns : List Tx) (bl : List Nat) (r : Rt) (gs : List Gr) (x : Gr) : Bool :=
 if x.way = 0 then decide (downTo bl (rtHas r.users x.fro) ns.length &&& oneP ns x.role ≠ 0) else
 match gFind gs x.way with
 | none => false
 | some y => decide (y.rcv = x.fro) && aboveP ns bl y.role x.role
def allowP (ns : List Tx) (bl : List Nat) (r : Rt) (gs : List Gr) (x : Gr) : Bool := (lnP r.loans x.role).isSome && !decide ((lnV r.loans x.role).1 < x.dep) && wayP ns bl r gs x
def argP (r : Rt) (x : Gr) (now time : Int) : Bool := decide (x.fro = x.rcv) || decide (time < 1) || ((lnP r.loans x.role).isSome && decide ((lnV r.loans x.role).2 < time)) || decide (now < 0) || decide (1073741824 < now)
def thereP (gs : List Gr) (u role : Tx) : Bool := gs.any fun y => y.rcv == u && y.role == role
def dutyP (ns : List Tx) (bl : List Nat) (r : Rt) (gs : List Gr) (x : Gr) : Bool := decide (fstI (holdsP ns bl r gs x.rcv ||| downTo bl (oneP ns x.role) ns.length) r.stat < 0)
def giveE (ns : List Tx) (bl : List Nat) (r : Rt) (gs : List Gr) (x : Gr) (now time : Int) : Int :=
 if knownP ns r x = false then 3 else if argP r x now time = true then 1 else if allowP ns bl r gs x = false then 8 else if 1073741824 < now + time then 11 else
 if thereP gs x.rcv x.role = true then 4 else if 20 ≤ gs.length then 5 else if dutyP ns bl r gs x = false then 7 else 0
def giveX (gs : List Gr) (last : Int) (fro rcv role : Tx) (way : Int) : Gr :=
 { num := last + 1, fro := fro, rcv := rcv, role := role, til := 0, dep := (match gFind gs way with | some y => y.dep + 1 | none => 1), way := way }
def giveG (gs : List Gr) (x : Gr) (now time : Int) : Gr := { x with til := match gFind gs x.way with | some y => min (now + time) y.til | none => now + time }
def remStep (over : Gr → Bool) (s : List Gr × List Int) (x : Gr) : List Gr × List Int := if over x || decide (x.way ∈ s.2) then (s.1, s.2 ++ [x.num]) else (s.1 ++ [x], s.2)
def remP (over : Gr → Bool) (gs : List Gr) : List Gr × List Int := gs.foldl (remStep over) ([], [])
structure GrI (gs : List Gr) (last : Int) : Prop where
 few : gs.length ≤ 20
 lo : 0 ≤ last
 hi : last ≤ 1000000
 num : ∀ g ∈ gs, 1 ≤ g.num ∧ g.num ≤ last
 dep : ∀ g ∈ gs, 1 ≤ g.dep ∧ g.dep ≤ 1073741824
 til : ∀ g ∈ gs, 0 ≤ g.til ∧ g.til ≤ 1073741824
def gcell (g : Gr) : List Value := [.int .i64 g.num, .string (bs g.fro), .string (bs g.rcv), .string (bs g.role), .int .i64 g.til, .int .i64 g.dep, .int .i64 g.way]
def gcells (l : List Gr) : List Value := l.flatMap gcell
def gval (g : Gr) : Value := .agg #[.int .i64 g.num, .string (bs g.fro), .string (bs g.rcv), .string (bs g.role), .int .i64 g.til, .int .i64 g.dep, .int .i64 g.way]
theorem gcells_snoc (l : List Gr) (p : Gr) : gcells (l ++ [p]) = gcells l ++ gcell p := by simp [gcells]
theorem gcells_at : ∀ (l : List Gr) (j f : Nat) (h : j < l.length), f < 7 → (gcells l)[j * 7 + f]? = (gcell l[j])[f]?
 | x :: r, 0, f, _, hf => by
  show (gcell x ++ gcells r)[_]? = _
  rw [List.getElem?_append_left (by show _ < 7; omega)]; simp
 | x :: r, j + 1, f, h, hf => by
  show (gcell x ++ gcells r)[_]? = _
  rw [List.getElem?_append_right (by show 7 ≤ _; omega), show (gcell x).length = 7 from rfl, show (j + 1) * 7 + f - 7 = j * 7 + f by omega]
  exact gcells_at r j f (by simpa using h) hf
theorem gcells_one (l : List Gr) : ∀ u ∈ gcells l, u.oneCell' = true := by
 intro u hu
 simp only [gcells, List.mem_flatMap] at hu
 obtain ⟨p, _, hu⟩ := hu
 simp [gcell] at hu
 rcases hu with rfl | rfl | rfl | rfl | rfl | rfl | rfl <;> rfl
def OwnG (w : World) (base : Nat) (v : Value) (l : List Gr) : Prop := w.ownsRow base 87 7 v l.length (gcells l)
def GAt (w : World) (A : Option Addr) (c : Nat) (l : List Gr) : Prop := l.length ≤ c ∧ ∀ j (hj : j < l.length), ∃ g, A = some ⟨g, 0, none⟩ ∧ g < w.heap.size ∧ ∀ f u, f < 7 → (gcell l[j])[f]? = some u → w.cell? ⟨g, j * 7 + f, none⟩ = some u
theorem GAt.below {w w' : World} {A : Option Addr} {c : Nat} {l : List Gr} (h : GAt w A c l) (hb : Below w.heap.size w w') : GAt w' A c l :=
 ⟨h.1, fun j hj => let ⟨g, e, hl, hc⟩ := h.2 j hj; ⟨g, e, Nat.lt_of_lt_of_le hl hb.size, fun f u hf hu => (hb.cell (p := ⟨g, j * 7 + f, none⟩) hl).trans (hc f u hf hu)⟩⟩
theorem gAt_of {w : World} {base c : Nat} {A : Option Addr} {l : List Gr} (h : OwnG w base (.slice A l.length c) l) : GAt w A c l :=
 ⟨own_cap h, fun j hj => by
  obtain ⟨g, cap', e, _, hl, _, hc⟩ := own_form h (by omega)
  have eA : A = some ⟨g, 0, none⟩ := by injection e
  exact ⟨g, eA, hl, fun f u hf hu => hc _ _ (by rw [gcells_at l j f hj hf]; exact hu)⟩⟩
theorem Tryz.infoGrant : (Tryz.prog.info? 87).map (fun i => (i.zero, i.size, i.bytes)) = some (some (.agg #[.int .i64 0, .string ⟨#[]⟩, .string ⟨#[]⟩, .string ⟨#[]⟩, .int .i64 0, .int .i64 0, .int .i64 0]), 7, 80) := by kernel_rfl
structure GrM (W : World) (b : Nat) (v : Value) (gs : List Gr) (last : Int) : Prop where
 row : W.heap[b]? = some (.cells #[v, .int .i64 last] 181 (0, 0))
 own : OwnG W 0 v gs
theorem GrM.lt {W : World} {b : Nat} {v : Value} {gs : List Gr} {last : Int} (h : GrM W b v gs last) : b < W.heap.size := (Array.getElem?_eq_some_iff.1 h.row).1
theorem GrM.below {W W' : World} {b : Nat} {v : Value} {gs : List Gr} {last : Int} (h : GrM W b v gs last) (hb : Below W.heap.size W W') : GrM W' b v gs last :=
 ⟨(hb.block _ h.lt).trans h.row, own_below h.own hb (Nat.zero_le _)⟩
theorem GrM.q0 {W : World} {b : Nat} {v : Value} {gs : List Gr} {last : Int} (h : GrM W b v gs last) : W.cell? ⟨b, 0, none⟩ = some v := by rw [cell_of_row _ _ _ _ _ _ h.row]; rfl
theorem GrM.q1 {W : World} {b : Nat} {v : Value} {gs : List Gr} {last : Int} (h : GrM W b v gs last) : W.cell? ⟨b, 1, none⟩ = some (.int .i64 last) := by rw [cell_of_row _ _ _ _ _ _ h.row]; rfl
theorem GrM.fz {W : World} {b : Nat} {v : Value} {gs : List Gr} {last : Int} (h : GrM W b v gs last) (j : Nat) : W.frozen? ⟨b, j, none⟩ = false := by simp [World.frozen?, h.row]
structure Chg (S : Nat → Prop) (w w' : World) : Prop where
 os : w'.os = w.os
 tape : w'.tape = w.tape
 output : w'.output = w.output
 size : w.heap.size ≤ w'.heap.size
 block : ∀ k, k < w.heap.size → ¬ S k → w'.heap[k]? = w.heap[k]?
theorem Chg.trans {S : Nat → Prop} {a b c : World} (h : Chg S a b) (k : Chg S b c) : Chg S a c :=
 ⟨k.os.trans h.os, k.tape.trans h.tape, k.output.trans h.output, Nat.le_trans h.size k.size, fun i hi hn => (k.block i (Nat.lt_of_lt_of_le hi h.size) hn).trans (h.block i hi hn)⟩
theorem Chg.of_below {S : Nat → Prop} {a b : World} (h : Below a.heap.size a b) : Chg S a b := ⟨h.os, h.tape, h.output, h.size, fun k hk _ => h.block k hk⟩
theorem Chg.of_grown {S : Nat → Prop} {a b : World} {row : Option Nat} (h : a.grownBy b row) (hr : ∀ k, row = some k → S k) : Chg S a b :=
 ⟨h.os, h.tape, h.output, h.size, fun k hk hn => h.block k hk fun e => hn (hr k e.symm)⟩
theorem Chg.below {S : Nat → Prop} {a b : World} {B : Nat} (h : Chg S a b) (hB : B ≤ a.heap.size) (hS : ∀ k, S k → B ≤ k) : Below B a b :=
 ⟨h.os, h.tape, h.output, h.size, fun k hk => h.block k (by omega) fun hs => by have := hS k hs; omega⟩
theorem Chg.mono {S T : Nat → Prop} {a b : World} (h : Chg S a b) (hT : ∀ k, k < a.heap.size → S k → T k) : Chg T a b := ⟨h.os, h.tape, h.output, h.size, fun k hk hn => h.block k hk fun hs => hn (hT k hk hs)⟩
def gOwn (b : Nat) (v : Value) (k : Nat) : Prop := k = b ∨ v.ownBlock = some k
def GrTo (w0 : World) (b : Nat) (v : Value) (gs : List Gr) (last : Int) (w : World) : Prop := ∃ v', GrM w b v' gs last ∧ Chg (gOwn b v) w0 w ∧ ∀ k, v'.ownBlock = some k → v.ownBlock = some k ∨ w0.heap.size ≤ k
end Go.Proofs.YtgffbgmieppckaaGreatDoor
namespace Go.Proofs.YtgffbgmieppckaaGreatDoor
set_option maxRecDepth 100000
open Go.ChangeShapes Go.WideShapes Go.ChangeAt Go.RowKit Go.Maps Go.WideMaps Go.ChangeMaps
theorem lnP_snoc (l : List (Tx × Int × Int)) (h : Tx × Int × Int) (x : Tx) : lnP (l ++ [h]) x = if h.1 = x then some h.2 else lnP l x := by
 unfold lnP
 rw [List.reverse_append, List.reverse_singleton, List.singleton_append, List.find?_cons]
 by_cases e : h.1 = x
 ·simp [e]
 ·have : (h.1 == x) = false := by simpa using e
  simp [this, e]
theorem loan_all (x : Tx) : ∀ m : List (Tx × Int × Int), (loanD m.reverse).atKey (.string x) (.agg [.lit (.int .i64 0), .lit (.int .i64 0)]) = .agg [.lit (.int .i64 (lnV m.reverse x).1), .lit (.int .i64 (lnV m.reverse x).2)]
  ∧ decide (x ∈ m.reverse.map (·.1)) = (lnP m.reverse x).isSome
 | [] => ⟨rfl, rfl⟩
 | a :: m => by
  obtain ⟨h1, h2⟩ := loan_all x m
  rw [List.reverse_cons, loanD_snoc]
  unfold lnV
  rw [lnP_snoc]
  by_cases e : a.1 = x
  ·rw [if_pos e, ← e]
   refine ⟨atKey_put_same (loanD_map _) (by exact trivial) _ _, ?_⟩
   simp
  ·rw [if_neg e]
   refine ⟨(atKey_put_other (by intro e2; injection e2 with e3; exact e e3.symm) _ _).trans h1, ?_⟩
   rw [← h2, decide_eq_decide, List.map_append, List.mem_append]
   exact ⟨fun h => h.resolve_right (by simpa using fun h => e h.symm), .inl⟩
theorem loan_at (l : List (Tx × Int × Int)) (x : Tx) : (loanD l).atKey (.string x) (.agg [.lit (.int .i64 0), .lit (.int .i64 0)]) = .agg [.lit (.int .i64 (lnV l x).1), .lit (.int .i64 (lnV l x).2)] := by
 have := (loan_all x l.reverse).1
 rwa [List.reverse_reverse] at this
theorem loan_has (l : List (Tx × Int × Int)) (x : Tx) : Maps.has (loanD l) (.string x) = (lnP l x).isSome := by
 have := (loan_all x l.reverse).2
 rw [List.reverse_reverse] at this
 rw [loanD_has, this]
theorem loan_look2 (m n : Nat) (l : List (Tx × Int × Int)) (x : Tx) (hx : x.length ≤ 1048576) (W : World) (h : W.ownsMap Tryz.prog 9 loanR m n (loanD l)) :
  (Instr.lookup 145 (.map (some m)) (.string (bs x)) true).run Tryz.prog W = .ok (.tuple #[.agg #[.int .i64 (lnV l x).1, .int .i64 (lnV l x).2], .bool (lnP l x).isSome]) W := by
 have hkey := loan_key hx
 obtain ⟨v, ps, hr, hv⟩ := h.look_ok Tryz.lawS Tryz.underlying145 (Tryz.zeroLoan W) (loanR_mk 0 0) hkey
 rw [loan_at] at hv
 rw [loanR_inv hv, loan_has] at hr
 exact hr
theorem run_cellG {P : Program} {fn : Func} {p u : Tmp} {ty : TypeId} (h : fn.results = #[.cell p ty, .tmp u]) (tmps : Array Value) (w : World) (g : Nat) (t : TypeId) (cs : Array Value) (fr : Nat × Nat) (d : TypeDesc)
  (hp : tmps.getD p undef = .pointer (some ⟨g, 0, none⟩)) (hg : w.heap[g]? = some (.cells cs t fr))
  (hu : P.underlying ty = some d) (hd : (match d with | .struct _ | .array _ _ => true | _ => false) = true) (hi : (P.info? ty).map (·.size) = some cs.size) :
  (results fn tmps).run P w = .ok (.tuple #[.agg cs, tmps.getD u undef]) w := by
 have hp' : tmps[p]?.getD undef = .pointer (some ⟨g, 0, none⟩) := by simpa using hp
 simp [results, h, hp', asAddr, run_loadVar_row w g t ty cs fr d hg hu hd hi]
theorem gq0 {W : World} {b : Nat} {a0 a1 a2 a3 a4 a5 a6 : Value} {t : TypeId} {fz : Nat × Nat} (h : W.heap[b]? = some (.cells #[a0, a1, a2, a3, a4, a5, a6] t fz)) : W.cell? ⟨b, 0, none⟩ = some a0 := by rw [cell_of_row _ _ _ _ _ _ h]; rfl
theorem gq1 {W : World} {b : Nat} {a0 a1 a2 a3 a4 a5 a6 : Value} {t : TypeId} {fz : Nat × Nat} (h : W.heap[b]? = some (.cells #[a0, a1, a2, a3, a4, a5, a6] t fz)) : W.cell? ⟨b, 1, none⟩ = some a1 := by rw [cell_of_row _ _ _ _ _ _ h]; rfl
theorem gq2 {W : World} {b : Nat} {a0 a1 a2 a3 a4 a5 a6 : Value} {t : TypeId} {fz : Nat × Nat} (h : W.heap[b]? = some (.cells #[a0, a1, a2, a3, a4, a5, a6] t fz)) : W.cell? ⟨b, 2, none⟩ = some a2 := by rw [cell_of_row _ _ _ _ _ _ h]; rfl
theorem gq3 {W : World} {b : Nat} {a0 a1 a2 a3 a4 a5 a6 : Value} {t : TypeId} {fz : Nat × Nat} (h : W.heap[b]? = some (.cells #[a0, a1, a2, a3, a4, a5, a6] t fz)) : W.cell? ⟨b, 3, none⟩ = some a3 := by rw [cell_of_row _ _ _ _ _ _ h]; rfl
theorem gq4 {W : World} {b : Nat} {a0 a1 a2 a3 a4 a5 a6 : Value} {t : TypeId} {fz : Nat × Nat} (h : W.heap[b]? = some (.cells #[a0, a1, a2, a3, a4, a5, a6] t fz)) : W.cell? ⟨b, 4, none⟩ = some a4 := by rw [cell_of_row _ _ _ _ _ _ h]; rfl
theorem gq5 {W : World} {b : Nat} {a0 a1 a2 a3 a4 a5 a6 : Value} {t : TypeId} {fz : Nat × Nat} (h : W.heap[b]? = some (.cells #[a0, a1, a2, a3, a4, a5, a6] t fz)) : W.cell? ⟨b, 5, none⟩ = some a5 := by rw [cell_of_row _ _ _ _ _ _ h]; rfl
theorem gq6 {W : World} {b : Nat} {a0 a1 a2 a3 a4 a5 a6 : Value} {t : TypeId} {fz : Nat × Nat} (h : W.heap[b]? = some (.cells #[a0, a1, a2, a3, a4, a5, a6] t fz)) : W.cell? ⟨b, 6, none⟩ = some a6 := by rw [cell_of_row _ _ _ _ _ _ h]; rfl
theorem lq0 {W : World} {b : Nat} {a0 a1 : Value} {t : TypeId} {fz : Nat × Nat} (h : W.heap[b]? = some (.cells #[a0, a1] t fz)) : W.cell? ⟨b, 0, none⟩ = some a0 := by rw [cell_of_row _ _ _ _ _ _ h]; rfl
theorem lq1 {W : World} {b : Nat} {a0 a1 : Value} {t : TypeId} {fz : Nat × Nat} (h : W.heap[b]? = some (.cells #[a0, a1] t fz)) : W.cell? ⟨b, 1, none⟩ = some a1 := by rw [cell_of_row _ _ _ _ _ _ h]; rfl
theorem sets2_row {W : World} {b : Nat} {a0 a1 : Value} {t : TypeId} (h : W.heap[b]? = some (.cells #[a0, a1] t (0, 0))) (v0 v1 : Value) : ((W.setCell ⟨b, 0, none⟩ v0).setCell ⟨b, 1, none⟩ v1).heap[b]? = some (.cells #[v0, v1] t (0, 0)) := by
 have e := heap_set (j := 1) (heap_set (j := 0) h v0) v1
 simpa using e
theorem fzG {W : World} {t : Nat} {cs : Array Value} {ty : TypeId} (R : W.heap[t]? = some (.cells cs ty (0, 0))) (j : Nat) : W.frozen? ⟨t, j, none⟩ = false := by simp [World.frozen?, R]
def LenTo (l : List (Tx × Int × Int)) (x : Tx) (w : World) (e : Ending) (w' : World) : Prop := e = .returned (.tuple #[.agg #[.int .i64 (lnV l x).1, .int .i64 (lnV l x).2], .bool (lnP l x).isSome]) ∧ Below w.heap.size w w'
set_option maxHeartbeats 1000000 in
theorem Lends_any (m n : Nat) (l : List (Tx × Int × Int)) (x : Tx) (hx : x.length ≤ 1048576) (b : Nat) (w : World) (hc : w.cell? ⟨b, 6, none⟩ = some (.map (some m))) (hb : b < w.heap.size) (h : w.ownsMap Tryz.prog 9 loanR m n (loanD l)) :
  Calls Tryz.prog 40 #[.pointer (some ⟨b, 0, none⟩), .string (bs x)] w (LenTo l x w) := by
 have L1 := loan_look2 m n l x hx w.drew (World.ownsMap.drew h)
 have L0 := loan_look2 m n l x hx w h
 have L2 := fun O => loan_look2 m n l x hx (w.alloc O).drew (World.ownsMap.drew (World.ownsMap.alloc h O))
 have L3 := fun O => loan_look2 m n l x hx (w.alloc O) (World.ownsMap.alloc h O)
 have c1 : w.drew.cell? ⟨b, 6, none⟩ = some (.map (some m)) := hc
 have c2 : ∀ O, (w.alloc O).drew.cell? ⟨b, 6, none⟩ = some (.map (some m)) := fun O => (World.cell?_alloc_lt _ _ _ hb).trans hc
 have c3 : ∀ O, (w.alloc O).cell? ⟨b, 6, none⟩ = some (.map (some m)) := fun O => (World.cell?_alloc_lt _ _ _ hb).trans hc
 unfold LenTo
 generalize (lnV l x).1 = la at *
 generalize (lnV l x).2 = lb at *
 generalize (lnP l x).isSome = ls at *
 clear h hb
 go_enter Tryz.func40, Tryz.ntmps40
 have HR := Lib.hid (heap_alloc_new w (.cells #[.int .i64 0, .int .i64 0] 89))
 have HB := Lib.hid (rbox w (.cells #[.int .i64 0, .int .i64 0] 89))
 have d1 := c3 (.cells #[.int .i64 0, .int .i64 0] 89)
 have M1 := L3 (.cells #[.int .i64 0, .int .i64 0] 89)
 have hlt : w.heap.size < (w.alloc (.cells #[.int .i64 0, .int .i64 0] 89)).heap.size := by simp
 clear c1 c2 c3 L1 L0 L2 L3
 go_upto_region 1 with fail
 generalize w.alloc (.cells #[.int .i64 0, .int .i64 0] 89) = w1 at *
 go_upto_region 2 with fail
 have HB2 := Lib.hid (rbox w1 (.cells #[.int .i64 la, .int .i64 lb] 89))
 have HL := Lib.hid (heap_alloc_new w1 (.cells #[.int .i64 la, .int .i64 lb] 89))
 have HR2 := Lib.hid ((HB2.out.block _ hlt).trans HR.out)
 have HB3 := Lib.hid (below_then HB.out HB2.out HB.out.size)
 generalize w1.alloc (.cells #[.int .i64 la, .int .i64 lb] 89) = w2 at *
 generalize w1.heap.size = gl at *
 have x0 := lq0 HL.out; have x1 := lq1 HL.out
 have z0 := lq0 HR2.out; have z1 := lq1 HR2.out
 have f0 := fzG HR2.out 0; have f1 := fzG HR2.out 1
 go_wp2
 (try simp only [Exit.inBlock, Exit.then])
 refine bodyPost_ret (run_cellG rfl _ _ w.heap.size _ _ _ _ rfl (sets2_row HR2.out _ _) Tryz.underlying89 rfl (by kernel_rfl)) rfl ?_
 exact ⟨rfl, (HB3.out.setCell (Nat.le_refl _) _).setCell (Nat.le_refl _) _⟩
structure RtB (w4 : World) (rb o : Nat) (ns : List Tx) (bl : List Nat) (r : Rt) : Prop where
 OR : ∀ W, Below w4.heap.size w4 W → Calls Tryz.prog 41 #[.pointer (some ⟨rb, 0, none⟩)] W fun e w' => e = .returned (.pointer (some ⟨o, 0, none⟩)) ∧ W = w'
 US : ∀ W, Below w4.heap.size w4 W → Calls Tryz.prog 36 #[.pointer (some ⟨rb, 0, none⟩)] W (NmTo2 (hnm r.users) W)
 HS : ∀ x W, Below w4.heap.size w4 W → Calls Tryz.prog 39 #[.pointer (some ⟨rb, 0, none⟩), .string (bs x)] W fun e w' => e = .returned (.int .u32 (rtHas r.users x : Nat)) ∧ Below W.heap.size W w'
 DN : ∀ (s : Nat) W, s < 4294967296 → Below w4.heap.size w4 W → Calls Tryz.prog 75 #[.pointer (some ⟨o, 0, none⟩), .int .u32 (s : Nat)] W fun e w' => e = .returned (.int .u32 (downTo bl s ns.length : Nat)) ∧ W = w'
 IX : ∀ x W, Below w4.heap.size w4 W → Calls Tryz.prog 92 #[.pointer (some ⟨o, 0, none⟩), .string (bs x)] W fun e w' => e = .returned (.int .i64 (idxI ns x)) ∧ W = w'
 AB : ∀ x y W, Below w4.heap.size w4 W → Calls Tryz.prog 42 #[.pointer (some ⟨o, 0, none⟩), .string (bs x), .string (bs y)] W fun e w' => e = .returned (.bool (aboveP ns bl x y)) ∧ W = w'
 ST : ∀ W, Below w4.heap.size w4 W → Calls Tryz.prog 38 #[.pointer (some ⟨rb, 0, none⟩)] W (DsTo r.stat W)
 LN : ∀ x W, x.length ≤ 1048576 → Below w4.heap.size w4 W → Calls Tryz.prog 40 #[.pointer (some ⟨rb, 0, none⟩), .string (bs x)] W (LenTo r.loans x W)
 few : ns.length ≤ 24
 lo : Lo bl
 nu : r.users.length ≤ 12
 ns8 : r.stat.length ≤ 8
 su : ∀ x, rtHas r.users x < 16777216
 ss : ∀ p ∈ r.stat, p.2 < 16777216
theorem RtB.later {w4 w5 : World} {rb o : Nat} {ns : List Tx} {bl : List Nat} {r : Rt} (h : RtB w4 rb o ns bl r) (hb : Below w4.heap.size w4 w5) : RtB w5 rb o ns bl r :=
 have k : ∀ {W : World}, Below w5.heap.size w5 W → Below w4.heap.size w4 W := fun q => below_then hb q hb.size
 ⟨fun W q => h.OR W (k q), fun W q => h.US W (k q), fun x W q => h.HS x W (k q), fun s W hs q => h.DN s W hs (k q), fun x W q => h.IX x W (k q), fun x y W q => h.AB x y W (k q), fun W q => h.ST W (k q), fun x W hx q => h.LN x W hx (k q), h.few, h.lo, h.nu, h.ns8, h.su, h.ss⟩
end Go.Proofs.YtgffbgmieppckaaGreatDoor
