import Derived.Test.YtgffbgmieppckaaGreatDoorOrd2
import Derived.Test.YtgffbgmieppckaaGreatDoorRt1
import Derived.Deep.DeepMust
import Derived.Test.YtgffbgmieppckaaGreatDoorSplit
import Derived.Deep.RegionWith
import Derived.StillTailTactics
import Derived.Test.YtgffbgmieppckaaGreatDoorOwn
import Derived.Test.YtgffbgmieppckaaGreatDoorDT0
import Derived.Deep.RegionHeld3
import Derived.Deep.AppendLies
import Derived.BigQuiet
namespace Go.Proofs.YtgffbgmieppckaaGreatDoor
set_option maxRecDepth 100000
theorem nodup_le : ∀ {l m : List Tx}, l.Nodup → (∀ x ∈ l, x ∈ m) → l.length ≤ m.length
 | [], _, _, _ => Nat.zero_le _
 | a :: l, m, hn, hs => by
  have ha := hs a List.mem_cons_self
  obtain ⟨h1, h2⟩ := List.nodup_cons.1 hn
  have ih := nodup_le (m := m.erase a) h2 fun x hx => (List.mem_erase_of_ne (by rintro rfl; exact h1 hx)).2 (hs x (List.mem_cons_of_mem _ hx))
  rw [List.length_erase_of_mem ha] at ih
  have := List.length_pos_of_mem ha
  rw [List.length_cons]
  omega
structure Cir (ps : List Pr) (x : Tx) (R : List Tx) (k : Nat) (qs : List Pr) : Prop where
 nd : R.Nodup
 mem : x ∈ R
 lead : ∀ y ∈ R, y = x ∨ Leads ps x y
 done : ∀ i (h : i < R.length), i < k → ∀ p ∈ ps, p.1 = R[i] → p.2 ∈ R ∧ p.2 ≠ x
 part : ∀ (h : k < R.length), ∀ p ∈ qs, p.1 = R[k] → p.2 ∈ R ∧ p.2 ≠ x
section
variable {ps qs : List Pr} {x : Tx} {R : List Tx} {k : Nat}
theorem Cir.start (ps : List Pr) (x : Tx) : Cir ps x [x] 0 [] := ⟨by simp, by simp, fun y hy => .inl (List.mem_singleton.1 hy), fun i _ h => absurd h (by omega), fun _ p hp => by cases hp⟩
theorem Cir.skip (h : Cir ps x R k qs) (hk : k < R.length) {p : Pr} (hp : p.1 ≠ R[k]) : Cir ps x R k (qs ++ [p]) :=
 ⟨h.nd, h.mem, h.lead, h.done, fun hk' q hq e => by
  rcases List.mem_append.1 hq with hq | hq
  ·exact h.part hk' q hq e
  ·rw [List.mem_singleton.1 hq] at e; exact absurd e hp⟩
theorem Cir.old (h : Cir ps x R k qs) {p : Pr} (h1 : p.2 ≠ x) (h2 : p.2 ∈ R) : Cir ps x R k (qs ++ [p]) :=
 ⟨h.nd, h.mem, h.lead, h.done, fun hk' q hq e => by
  rcases List.mem_append.1 hq with hq | hq
  ·exact h.part hk' q hq e
  ·rw [List.mem_singleton.1 hq]; exact ⟨h2, h1⟩⟩
theorem Cir.leads (h : Cir ps x R k qs) (hk : k < R.length) {p : Pr} (hp : p ∈ ps) (he : p.1 = R[k]) : Leads ps x p.2 := by
 rcases h.lead _ (List.getElem_mem hk) with e | e
 ·exact .one (by rw [← e, ← he]; exact hp)
 ·exact .more e (by rw [← he]; exact hp)
theorem Cir.new (h : Cir ps x R k qs) (hk : k < R.length) {p : Pr} (hp : p ∈ ps) (he : p.1 = R[k]) (h1 : p.2 ≠ x) (h2 : p.2 ∉ R) : Cir ps x (R ++ [p.2]) k (qs ++ [p]) := by
 refine ⟨?_, List.mem_append_left _ h.mem, fun y hy => ?_, fun i hi hik q hq e => ?_, fun hk' q hq e => ?_⟩
 ·rw [List.nodup_append]
  exact ⟨h.nd, by simp, fun a ha b hb e => h2 (by rw [← List.mem_singleton.1 hb, ← e]; exact ha)⟩
 ·rcases List.mem_append.1 hy with hy | hy
  ·exact h.lead y hy
  ·rw [List.mem_singleton.1 hy]; exact .inr (h.leads hk hp he)
 ·rw [List.getElem_append_left (by omega)] at e
  have := h.done i (by omega) hik q hq e
  exact ⟨List.mem_append_left _ this.1, this.2⟩
 ·rw [List.getElem_append_left hk] at e
  rcases List.mem_append.1 hq with hq | hq
  ·have := h.part hk q hq e
   exact ⟨List.mem_append_left _ this.1, this.2⟩
  ·rw [List.mem_singleton.1 hq]; exact ⟨List.mem_append_right _ (List.mem_singleton.2 rfl), h1⟩
theorem Cir.next (h : Cir ps x R k ps) : Cir ps x R (k + 1) [] :=
 ⟨h.nd, h.mem, h.lead, fun i hi hik q hq e => by
  by_cases hk : i < k
  ·exact h.done i hi hk q hq e
  ·obtain rfl : i = k := by omega
   exact h.part hi q hq e, fun _ p hp => by cases hp⟩
theorem Cir.no (h : Cir ps x R k qs) (hk : R.length ≤ k) : ¬ Leads ps x x := fun hl => by
 have key : ∀ y z, Leads ps y z → y = x → z ∈ R ∧ z ≠ x := fun y z hyz => by
  induction hyz with
  | one hm =>
   intro e
   subst e
   obtain ⟨i, hi, e⟩ := List.mem_iff_getElem.1 h.mem
   exact h.done i hi (by omega) _ hm e.symm
  | more _ hm ih =>
   intro e
   obtain ⟨h1, _⟩ := ih e
   obtain ⟨i, hi, e⟩ := List.mem_iff_getElem.1 h1
   exact h.done i hi (by omega) _ hm e.symm
 exact (key x x hl rfl).2 rfl
theorem Cir.len (h : Cir ps x R k qs) : R.length ≤ ps.length + 1 := by
 have := nodup_le (m := x :: ps.map (·.2)) h.nd fun y hy => by
  rcases h.lead y hy with e | e
  ·rw [e]; exact List.mem_cons_self
  ·have key : ∀ y z, Leads ps y z → z ∈ ps.map (·.2) := fun y z hyz => by
    cases hyz with
    | one hm => exact List.mem_map.2 ⟨_, hm, rfl⟩
    | more _ hm => exact List.mem_map.2 ⟨_, hm, rfl⟩
   exact List.mem_cons_of_mem _ (key _ _ e)
 simpa using this
end
end Go.Proofs.YtgffbgmieppckaaGreatDoor
namespace Go.Proofs.YtgffbgmieppckaaGreatDoor
set_option maxRecDepth 100000
open Go.ChangeShapes Go.WideShapes Go.ChangeAt Go.RowKit
def hI (l : List (Tx × Nat)) (x : Tx) : Int := fI (fun h => h.1 == x) l
theorem hI_ge (l : List (Tx × Nat)) (x : Tx) : decide (0 ≤ hI l x) = decide (x ∈ l.map (·.1)) := by
 unfold hI
 rw [fI_any, Bool.eq_iff_iff, List.any_eq_true, decide_eq_true_eq, List.mem_map]
 constructor
 ·rintro ⟨h, hm, e⟩
  exact ⟨h, hm, by simpa using e⟩
 ·rintro ⟨h, hm, e⟩
  exact ⟨h, hm, by simpa using e⟩
theorem fnd_clo (h : Tx × Nat) (x : Tx) (b : Nat) (w : World) (hb : b < w.heap.size) (hc : w.cell? ⟨b, 0, none⟩ = some (.string (bs x))) :
  Calls Tryz.prog 204 #[.agg #[.string (bs h.1), .int .u32 (h.2 : Nat)], .pointer (some ⟨b, 0, none⟩)] w fun e w' => e = .returned (.bool (h.1 == x)) ∧ Below w.heap.size w w' := by
 obtain ⟨n, r⟩ := h
 have HE : Hid (((bs n).toList == (bs x).toList) = (n == x)) := beq_tx n x
 have R := heap_alloc_new w (.cells #[.string (bs n), .int .u32 (r : Nat)] 265)
 have x0 : (w.alloc (.cells #[.string (bs n), .int .u32 (r : Nat)] 265)).cell? ⟨b, 0, none⟩ = some (.string (bs x)) := (World.cell?_alloc_lt _ _ _ hb).trans hc
 have x1 : (w.alloc (.cells #[.string (bs n), .int .u32 (r : Nat)] 265)).cell? ⟨w.heap.size, 0, none⟩ = some (.string (bs n)) := by rw [cell_of_row _ _ _ _ _ _ R]; rfl
 have HZ : Hid (Below w.heap.size w (w.alloc (.cells #[.string (bs n), .int .u32 (r : Nat)] 265))) := (Below.refl _ _).alloc (Nat.le_refl _) _
 clear R hc
 dsimp only
 generalize bs n = bn at *
 generalize bs x = bx at *
 go_enter Tryz.func204, Tryz.ntmps204
 go_wp2
 go_ret
 exact ⟨ret_bool HE.out, HZ.out⟩
section
variable (l : List (Tx × Nat)) (x : Tx) (A : Option Addr) (c : Nat) (w : World)
set_option maxHeartbeats 1000000 in
theorem fnd_idx (b : Nat) (h : HAt w A c l) (hl : l.length ≤ 1000000) (hb : b < w.heap.size) (hc : w.cell? ⟨b, 0, none⟩ = some (.string (bs x))) :
  Calls Tryz.prog 203 #[.slice A l.length c, .func (.func 204) #[] #[.pointer (some ⟨b, 0, none⟩)]] w fun e w' => e = .returned (.int .i64 (hI l x)) ∧ Below w.heap.size w w' := by
 have HS := Lib.hid h
 have hcc := h.1
 clear h
 go_enter Tryz.func203, Tryz.ntmps203
 go_wp2
 go_loopw [5, 8] (fun _ i wr => ∃ k : Nat, k ≤ l.length ∧ i = .int .i64 k ∧ Hid (Below w.heap.size w wr) ∧ Hid (∀ j (_ : j < k) (h : j < l.length), (l[j].1 == x) = false)) (fun _ i _ => l.length - (intOf i).toNat)
 case atStart => exact ⟨0, Nat.zero_le _, rfl, Below.refl _ _, fun j hj _ => by omega⟩
 case round =>
  obtain ⟨k, hk, rfl, HB, HI⟩ := hrel
  by_cases hlt : k < l.length
  ·obtain ⟨g, rfl, hgl, x1, x2⟩ := (HS.out.below HB.out).2 k hlt
   have hb2 : b < wr.heap.size := Nat.lt_of_lt_of_le hb HB.out.size
   have hc2 := (HB.out.cell (p := ⟨b, 0, none⟩) hb).trans hc
   have CL := Lib.hid (fnd_clo l[k] x b wr hb2 hc2)
   have HH : Hid ((l[k].1 == x) = true → hI l x = k) := fun hb => by unfold hI; exact fI_hit (p := fun h : Tx × Nat => h.1 == x) hlt hb fun j hj => HI.out j hj (by omega)
   have HT : Hid ((l[k].1 == x) = false → ∀ j (_ : j < k + 1) (h : j < l.length), (l[j].1 == x) = false) := fun hb j hj h => by
    by_cases e : j = k
    ·subst e; exact hb
    ·exact HI.out j (by omega) h
   clear hc2 hb2
   generalize l[k] = a at *
   cases hq : a.1 == x
   ·have HT2 := Lib.hid (HT.out hq)
    rw [hq] at CL
    clear hq HH HT HI
    go_wp2_with (go_at_call 204; refine CL.out.mono ?_; rintro e w2 ⟨rfl, hb2⟩)
    have HB2 := Lib.hid (below_then HB.out hb2 HB.out.size)
    go_roundw
    case rel => exact ⟨k + 1, by omega, by go_num, HB2, HT2⟩
    case measure => simp [intOf]; omega
   ·have HE := Lib.hid (HH.out hq)
    rw [hq] at CL
    clear hq HH HT HI
    go_wp2_with (go_at_call 204; refine CL.out.mono ?_; rintro e w2 ⟨rfl, hb2⟩)
    go_ret
    exact ⟨ret_int HE.out.symm, below_then HB.out hb2 HB.out.size⟩
  ·have HE : Hid (hI l x = -1) := by show hI l x = -1; unfold hI; exact fI_miss (p := fun h : Tx × Nat => h.1 == x) fun j hj => HI.out j (by omega) hj
   clear HI
   go_wp2
   go_ret
   exact ⟨ret_int HE.out.symm, HB.out⟩
theorem fnd_any (h : HAt w A c l) (hl : l.length ≤ 1000000) :
  Calls Tryz.prog 164 #[.slice A l.length c, .string (bs x)] w fun e w' => e = .returned (.int .i64 (hI l x)) ∧ Below w.heap.size w w' := by
 have R := heap_alloc_new w (.cells #[.string (bs x)] 9)
 have hbz : Below w.heap.size w (w.alloc (.cells #[.string (bs x)] 9)) := (Below.refl _ _).alloc (Nat.le_refl _) _
 have IX := Lib.hid (fnd_idx l x A c (w.alloc (.cells #[.string (bs x)] 9)) w.heap.size (h.below hbz) hl (by simp) (by rw [cell_of_row _ _ _ _ _ _ R]; rfl))
 have HB := Lib.hid hbz
 have hmf : ∀ (fn : Fn) (first cap : Array Value) (w : World), (Instr.makeFunc fn first cap).run Tryz.prog w = .ok (.func fn first cap) w := fun _ _ _ _ => rfl
 clear h R hbz
 go_enter Tryz.func164, Tryz.ntmps164
 go_wp2_with (go_at_call 203; refine IX.out.mono ?_; rintro e w2 ⟨rfl, hb2⟩)
 go_ret
 exact ⟨rfl, below_then HB.out hb2 HB.out.size⟩
end
theorem rtSet_in {names : List Tx} {x : Tx} {r : List Tx} {s : Nat} (h : x ∈ names) : rtSet names (x :: r) s = rtSet names r (s ||| bitN (nix names x)) := by rw [rtSet, if_pos h]
theorem rtSet_out {names : List Tx} {x : Tx} {r : List Tx} {s : Nat} (h : x ∉ names) : rtSet names (x :: r) s = none := by rw [rtSet, if_neg h]
theorem rtSet_lt {names : List Tx} (hn : names.length ≤ 24) : ∀ {l : List Tx} {s z : Nat}, s < 16777216 → rtSet names l s = some z → z < 16777216
 | [], s, z, h, e => by rw [rtSet] at e; cases e; exact h
 | x :: r, s, z, h, e => by
  by_cases hx : x ∈ names
  ·rw [rtSet_in hx] at e
   have := idx_lt hx
   exact rtSet_lt hn (or_lo h (pow_lo (by omega))) e
  ·rw [rtSet_out hx] at e; cases e
def RsetTo (o : Option Nat) (w : World) (e : Ending) (w' : World) : Prop := (match o with
 | some s => e = .returned (.tuple #[.int .u32 (s : Nat), .bool true])
 | none => e = .returned (.tuple #[.int .u32 0, .bool false])) ∧ w = w'
theorem rsetTo_some {o : Option Nat} {s : Nat} (h : o = some s) (w : World) : RsetTo o w (.returned (.tuple #[.int .u32 (s : Nat), .bool true])) w := by subst h; exact ⟨rfl, rfl⟩
theorem rsetTo_none {o : Option Nat} (h : o = none) (w : World) : RsetTo o w (.returned (.tuple #[.int .u32 0, .bool false])) w := by subst h; exact ⟨rfl, rfl⟩
set_option maxHeartbeats 2000000 in
theorem rset_any (names : List Tx) (bl : List Nat) (l : List Tx) (A : Option Addr) (c b o : Nat) (w : World) (hc : w.cell? ⟨b, 0, none⟩ = some (.pointer (some ⟨o, 0, none⟩))) (hO : OrdAt w o names bl) (hL : ListAt w A c l) (hl : l.length ≤ 1000000) :
  Calls Tryz.prog 199 #[.pointer (some ⟨b, 0, none⟩), .slice A l.length c] w (RsetTo (rtSet names l 0) w) := by
 have HL := Lib.hid hL
 have hcc := hL.1
 have hn := hO.few
 have IX := Lib.hid (fun x => OIndex_any o names bl w x hO)
 clear hL hO
 go_enter Tryz.func199, Tryz.ntmps199
 go_wp2
 go_loop [4, 11] (fun z i => ∃ k s : Nat, k ≤ l.length ∧ z = .int .u32 (s : Nat) ∧ i = .int .i64 k ∧ s < 16777216 ∧ Hid (rtSet names l 0 = rtSet names (l.drop k) s)) (fun _ i => l.length - (intOf i).toNat)
 case atStart => exact ⟨0, 0, Nat.zero_le _, rfl, rfl, by omega, rfl⟩
 case round =>
  obtain ⟨k, s, hk, rfl, rfl, hs, HI⟩ := hrel
  by_cases hlt : k < l.length
  ·obtain ⟨g, rfl, hgl, hx⟩ := HL.out.2 k hlt
   have hdr : l.drop k = l[k] :: l.drop (k + 1) := List.drop_eq_getElem_cons hlt
   have hI := HI.out
   rw [hdr] at hI
   clear hdr HI
   generalize l[k] = x at *
   by_cases hm : x ∈ names
   ·rw [rtSet_in hm] at hI
    have hlx := idx_lt hm
    have CI := Lib.hid (IX.out x)
    rw [idxI_in hm] at CI
    have HI2 := Lib.hid hI
    clear hm hI
    generalize nix names x = n at *
    have hb := or_val s (bitN n) hs (pow_lo (by omega))
    have hbv := bit_val (i := n) (by omega)
    have hs2 := or_lo hs (pow_lo (i := n) (by omega))
    have hn0 : ¬ ((n : Int) < 0) := by omega
    generalize s ||| bitN n = z at *
    go_wp2_with (go_at_call 92; refine CI.out.mono ?_; rintro e w1 ⟨rfl, rfl⟩)
    go_round
    case rel => exact ⟨k + 1, z, by omega, by go_num, by go_num, hs2, HI2⟩
    case measure => simp [intOf]; omega
   ·rw [rtSet_out hm] at hI
    have CI := Lib.hid (IX.out x)
    rw [idxI_out hm] at CI
    have HI2 := Lib.hid hI
    clear hm hI
    go_wp2_with (go_at_call 92; refine CI.out.mono ?_; rintro e w1 ⟨rfl, rfl⟩)
    go_ret2
    exact rsetTo_none HI2.out _
  ·have hI := HI.out
   rw [List.drop_eq_nil_of_le (by omega), rtSet] at hI
   have HI2 := Lib.hid hI
   clear hI HI
   go_wp2
   go_ret2
   exact rsetTo_some HI2.out _
def FltR (ln k : Int) (w : World) (e : Ending) (w' : World) : Prop := ∃ b, e = .returned (.iface 175 (.pointer (some ⟨b, 0, none⟩))) ∧ w.heap.size ≤ b ∧ b < w'.heap.size ∧ FaultAt w' b ln 1 k ∧ Below w.heap.size w w'
theorem rfault_any (kd rn rm : Int) (nm rf rt rb ra ri : ByteArray) (A : Option Addr) (n c : Nat) (ln k : Int) (w : World) :
  Calls Tryz.prog 74 #[.agg #[.int .i64 kd, .string nm, .slice A n c, .int .i64 rn, .int .i64 rm, .string rf, .string rt, .string rb, .string ra, .string ri, .int .i64 ln], .iface 39 (.int .i64 k)] w (FltR ln k w) := by
 have R := heap_alloc_new w (.cells #[.int .i64 kd, .string nm, .slice A n c, .int .i64 rn, .int .i64 rm, .string rf, .string rt, .string rb, .string ra, .string ri, .int .i64 ln] 31)
 have p10 := row_q10 R
 have hb := rbox w (.cells #[.int .i64 kd, .string nm, .slice A n c, .int .i64 rn, .int .i64 rm, .string rf, .string rt, .string rb, .string ra, .string ri, .int .i64 ln] 31)
 have HB := Lib.hid hb
 have hs : (w.alloc (.cells #[.int .i64 kd, .string nm, .slice A n c, .int .i64 rn, .int .i64 rm, .string rf, .string rt, .string rb, .string ra, .string ri, .int .i64 ln] 31)).heap.size = w.heap.size + 1 := by simp
 have HS := Lib.hid hs
 clear R hb hs
 go_enter Tryz.func74, Tryz.ntmps74
 go_upto_region 1 with fail
 generalize w.alloc (.cells #[.int .i64 kd, .string nm, .slice A n c, .int .i64 rn, .int .i64 rm, .string rf, .string rt, .string rb, .string ra, .string ri, .int .i64 ln] 31) = w1 at *
 go_wp2
 go_ret
 have R2 := heap_alloc_new w1 (.cells #[.int .i64 ln, .int .i64 1, .iface 39 (.int .i64 k)] 179)
 have hs := HS.out
 refine ⟨w1.heap.size, rfl, by omega, by simp, ⟨?_, ?_, ?_⟩, below_then HB.out (rbox _ _) HB.out.size⟩
 ·rw [cell_of_row _ _ _ _ _ _ R2]; rfl
 ·rw [cell_of_row _ _ _ _ _ _ R2]; rfl
 ·rw [cell_of_row _ _ _ _ _ _ R2]; rfl
def NmsTo (p : Rs (List Tx)) (w : World) (e : Ending) (w' : World) : Prop := Below w.heap.size w w' ∧ match p with
 | .bad ln k => ∃ b, e = .returned (.tuple #[.slice none 0 0, .iface 175 (.pointer (some ⟨b, 0, none⟩))]) ∧ w.heap.size ≤ b ∧ b < w'.heap.size ∧ FaultAt w' b ln 1 k
 | .ok ns => ∃ A c, e = .returned (.tuple #[.slice A ns.length c, .nilIface]) ∧ OwnL w' w.heap.size (.slice A ns.length c) ns
theorem nmsTo_bad {p : Rs (List Tx)} {ln : Nat} {k : Int} {b : Nat} {w w' : World} (h : p = .bad ln k) (hb : Below w.heap.size w w') (h1 : w.heap.size ≤ b) (h2 : b < w'.heap.size) (h3 : FaultAt w' b ln 1 k) :
  NmsTo p w (.returned (.tuple #[.slice none 0 0, .iface 175 (.pointer (some ⟨b, 0, none⟩))])) w' := by subst h; exact ⟨hb, b, rfl, h1, h2, h3⟩
theorem nmsTo_ok {p : Rs (List Tx)} {ns : List Tx} {A : Option Addr} {c : Nat} {w w' : World} (h : p = .ok ns) (hb : Below w.heap.size w w') (h1 : OwnL w' w.heap.size (.slice A ns.length c) ns) :
  NmsTo p w (.returned (.tuple #[.slice A ns.length c, .nilIface])) w' := by subst h; exact ⟨hb, A, c, rfl, h1⟩
theorem rtNames_there {x : Ru × Nat} {r : List (Ru × Nat)} {ns : List Tx} (h : x.1.name ∈ ns) : rtNames (x :: r) ns = .bad x.2 4 := by rw [rtNames, if_pos h]
theorem rtNames_limit {x : Ru × Nat} {r : List (Ru × Nat)} {ns : List Tx} (h : x.1.name ∉ ns) (h2 : 24 ≤ ns.length) : rtNames (x :: r) ns = .bad x.2 5 := by rw [rtNames, if_neg h, if_pos h2]
theorem rtNames_next {x : Ru × Nat} {r : List (Ru × Nat)} {ns : List Tx} (h : x.1.name ∉ ns) (h2 : ¬ 24 ≤ ns.length) : rtNames (x :: r) ns = rtNames r (ns ++ [x.1.name]) := by rw [rtNames, if_neg h, if_neg h2]
set_option maxHeartbeats 4000000 in
theorem roleNames_any (acc : List RL) (A : Option Addr) (cap : Nat) (w : World) (hR : RIn w A acc) (ha : acc.length ≤ 1000) :
  Calls Tryz.prog 136 #[.slice A acc.length cap] w (NmsTo (rtNames (acc.map er) []) w) := by
 have HR := Lib.hid hR
 clear hR
 obtain ⟨i0, hi, hz0, hz1, hz2⟩ := info_parts Tryz.infoString
 go_enter Tryz.func136, Tryz.ntmps136
 go_upto_region 3 with fail
 go_loopw [4, 9] (fun l i wr => ∃ (k : Nat) (ns : List Tx), k ≤ acc.length ∧ i = .int .i64 k ∧ ns.length ≤ 24 ∧ Hid (rtNames (acc.map er) [] = rtNames ((acc.map er).drop k) ns) ∧ Hid (OwnL wr w.heap.size l ns) ∧ Below w.heap.size w wr) (fun _ i _ => acc.length - (intOf i).toNat)
 case atStart => exact ⟨0, [], Nat.zero_le _, rfl, Nat.zero_le _, rfl, World.ownsRow_nil _ _ _ _, Below.refl _ _⟩
 case round =>
  obtain ⟨k, ns, hkk, rfl, hnl, HP, HO, hbw⟩ := hrel
  have hbz := hbw.size
  by_cases hlt : k < acc.length
  ·obtain ⟨g, rfl, hgl, hc, B, c, e2, hL⟩ := HR.out k hlt
   have hdr : (acc.map er).drop k = er acc[k] :: (acc.map er).drop (k + 1) := by rw [List.drop_eq_getElem_cons (by simpa using hlt)]; simp
   have hP := HP.out
   rw [hdr] at hP
   have q := fun f u hf hu => (hbw.cell (p := ⟨g, k * 11 + f, none⟩) hgl).trans (hc f u hf hu)
   clear hc hL hdr HP
   generalize acc[k] = x at *
   obtain ⟨⟨kd, nm, l, rn, rm, rf, rt, rb, ra, ri⟩, ln, L⟩ := x
   obtain rfl : L = .slice B l.length c := e2
   have q0 := q 0 _ (by omega) rfl; have q1 := q 1 _ (by omega) rfl; have q2 := q 2 _ (by omega) rfl; have q3 := q 3 _ (by omega) rfl; have q4 := q 4 _ (by omega) rfl; have q5 := q 5 _ (by omega) rfl; have q6 := q 6 _ (by omega) rfl; have q7 := q 7 _ (by omega) rfl; have q8 := q 8 _ (by omega) rfl; have q9 := q 9 _ (by omega) rfl; have q10 := q 10 _ (by omega) rfl
   simp only [Nat.add_zero] at q0
   clear q
   go_upto_region 5 with fail
   have RA := heap_alloc_new wr (.cells #[.int .i64 kd, .string (bs nm), .slice B l.length c, .int .i64 rn, .int .i64 rm, .string (bs rf), .string (bs rt), .string (bs rb), .string (bs ra), .string (bs ri), .int .i64 ln] 31)
   have hb1 := rbox wr (.cells #[.int .i64 kd, .string (bs nm), .slice B l.length c, .int .i64 rn, .int .i64 rm, .string (bs rf), .string (bs rt), .string (bs rb), .string (bs ra), .string (bs ri), .int .i64 ln] 31)
   have ho1 := own_below HO.out hb1 hbz
   have hb2 := below_then hbw hb1 hbz
   clear q0 q1 q2 q3 q4 q5 q6 q7 q8 q9 q10 hb1
   generalize wr.alloc (.cells #[.int .i64 kd, .string (bs nm), .slice B l.length c, .int .i64 rn, .int .i64 rm, .string (bs rf), .string (bs rt), .string (bs rb), .string (bs ra), .string (bs ri), .int .i64 ln] 31) = w1 at *
   obtain ⟨AN, cN, rfl⟩ := own_slice HO.out
   have CO := Lib.hid (Contains_str ns nm AN cN w1 (listAt_of ho1) (by omega))
   have HO1 := Lib.hid ho1
   have HB2 := Lib.hid hb2
   have q1 := row_q1 RA
   have hbz2 := hb2.size
   clear ho1 hb2 HO
   by_cases hm : nm ∈ ns
   ·have HE : Hid (rtNames (acc.map er) [] = .bad ln 4) := hP.trans (rtNames_there (x := (_, _)) hm)
    rw [decide_eq_true hm] at CO
    have q0 := row_q0 RA; obtain ⟨q2, q3, q4, q5, q6, q7, q8, q9, q10⟩ := row_qs2 RA
    have FL := Lib.hid (rfault_any kd rn rm (bs nm) (bs rf) (bs rt) (bs rb) (bs ra) (bs ri) B l.length c ln 4 w1)
    clear hm hP RA
    go_wp2_with (first
     | (go_at_call 117; refine CO.out.mono ?_; rintro e w2 ⟨rfl, rfl⟩)
     | (go_at_call 74; refine FL.out.mono ?_; rintro e w3 ⟨fb, rfl, hf1, hf2, hF, hb3⟩; have HF := Lib.hid hF; clear hF))
    go_ret2
    exact nmsTo_bad HE.out (below_then HB2.out hb3 hbz2) (by omega) hf2 HF.out
   ·rw [decide_eq_false hm] at CO
    by_cases h24 : 24 ≤ ns.length
    ·have HE : Hid (rtNames (acc.map er) [] = .bad ln 5) := hP.trans (rtNames_limit (x := (_, _)) hm h24)
     have q0 := row_q0 RA; obtain ⟨q2, q3, q4, q5, q6, q7, q8, q9, q10⟩ := row_qs2 RA
     have FL := Lib.hid (rfault_any kd rn rm (bs nm) (bs rf) (bs rt) (bs rb) (bs ra) (bs ri) B l.length c ln 5 w1)
     have h24i : (24 : Int) ≤ ns.length := by omega
     clear hm hP RA
     go_wp2_with (first
      | (go_at_call 117; refine CO.out.mono ?_; rintro e w2 ⟨rfl, rfl⟩)
      | (go_at_call 74; refine FL.out.mono ?_; rintro e w3 ⟨fb, rfl, hf1, hf2, hF, hb3⟩; have HF := Lib.hid hF; clear hF))
     go_ret2
     exact nmsTo_bad HE.out (below_then HB2.out hb3 hbz2) (by omega) hf2 HF.out
    ·have HE : Hid (rtNames (acc.map er) [] = rtNames ((acc.map er).drop (k + 1)) (ns ++ [nm])) := hP.trans (rtNames_next (x := (_, _)) hm h24)
     have h24i : ¬ (24 : Int) ≤ ns.length := by omega
     clear hm hP RA
     go_wp2_with (first
      | (go_at_call 117; refine CO.out.mono ?_; rintro e w2 ⟨rfl, rfl⟩)
      | (at_builtin; go_must (refine wpList_append_own _ rfl (.tmp 26) (.tmp 29) 29 rfl w.heap.size 9 i0 _ 1 16 Tryz.underlying29 hi hz0 hz1 hz2 rfl (by decide) _ ns.length (scells ns) rfl (World.ownsRow.alloc HO1.out _) ⟨w1.heap.size, 0, none⟩ 1 1 [.string (bs nm)] rfl rfl (cells_new _ _ _) (by intro u hu; simp at hu; subst hu; rfl) (by unfold maxLen; omega) (by omega) (by simp; omega) ?_); intro v' w4 hown' hg' _; obtain ⟨A5, c5, rfl⟩ := own_slice hown'))
     have HO4 : Hid (OwnL w4 w.heap.size (.slice A5 (ns.length + 1) c5) (ns ++ [nm])) := by
      show World.ownsRow _ _ _ _ _ _ _
      rw [List.length_append]
      have e : scells (ns ++ [nm]) = scells ns ++ [.string (bs nm)] := by simp [scells]
      rw [e]; exact hown'
     have HB4 : Hid (Below w.heap.size w w4) := (HB2.out.alloc HB2.out.size _).grown hg' (Nat.le_trans HB2.out.size (by simp)) (fun j e => (HO1.out.lt j e).1)
     go_roundw
     case rel => exact ⟨k + 1, ns ++ [nm], by omega, by go_num, by simp; omega, HE, HO4, HB4.out⟩
     case measure => simp [intOf]; omega
  ·have hP := HP.out
   rw [List.drop_eq_nil_of_le (by simp; omega), rtNames] at hP
   have HE := Lib.hid hP
   obtain ⟨AN, cN, rfl⟩ := own_slice HO.out
   clear hP HP
   go_wp2
   go_ret2
   exact nmsTo_ok HE.out hbw HO.out
def pcells (ps : List Pr) : List Value := ps.flatMap fun p => [.string (bs p.1), .string (bs p.2)]
theorem pcells_snoc (ps : List Pr) (p : Pr) : pcells (ps ++ [p]) = pcells ps ++ [.string (bs p.1), .string (bs p.2)] := by simp [pcells]
theorem pcells_at : ∀ (ps : List Pr) (j : Nat) (h : j < ps.length), (pcells ps)[j * 2]? = some (.string (bs ps[j].1)) ∧ (pcells ps)[j * 2 + 1]? = some (.string (bs ps[j].2))
 | p :: r, 0, _ => ⟨rfl, rfl⟩
 | p :: r, j + 1, h => by
  have ih := pcells_at r j (by simpa using h)
  have e : pcells (p :: r) = .string (bs p.1) :: .string (bs p.2) :: pcells r := rfl
  rw [e, show (j + 1) * 2 = j * 2 + 1 + 1 by omega]
  simpa using ih
def OwnP (w : World) (base : Nat) (v : Value) (ps : List Pr) : Prop := w.ownsRow base 303 2 v ps.length (pcells ps)
theorem pAt_of {w : World} {base c : Nat} {A : Option Addr} {ps : List Pr} (h : OwnP w base (.slice A ps.length c) ps) : PAt w A c ps :=
 ⟨own_cap h, fun j hj => by
  obtain ⟨g, cap', e, _, hl, _, hc⟩ := own_form h (by omega)
  have eA : A = some ⟨g, 0, none⟩ := by injection e
  exact ⟨g, eA, hl, hc _ _ (pcells_at ps j hj).1, hc _ _ (pcells_at ps j hj).2⟩⟩
theorem Tryz.infoPair : (Tryz.prog.info? 303).map (fun i => (i.zero, i.size, i.bytes)) = some (some (.agg #[.string ⟨#[]⟩, .string ⟨#[]⟩]), 2, 32) := by kernel_rfl
theorem own_one (w : World) (x : Tx) : OwnL (w.alloc (.cells #[.string (bs x)] 9)) w.heap.size (.slice (some ⟨w.heap.size, 0, none⟩) 1 1) [x] :=
 World.ownsRow_lit w #[.string (bs x)] 1 (Nat.le_refl _) (by unfold maxLen; omega) (by simp)
def CircTo (names : List Tx) (ps : List Pr) (x : Tx) (w : World) (e : Ending) (w' : World) : Prop := e = .returned (.bool (circB names ps x)) ∧ Below w.heap.size w w'
theorem circTo_yes {names : List Tx} {ps : List Pr} {x : Tx} {w w' : World} (h : circB names ps x = true) (hb : Below w.heap.size w w') : CircTo names ps x w (.returned (.bool true)) w' := ⟨by rw [h], hb⟩
theorem circTo_no {names : List Tx} {ps : List Pr} {x : Tx} {w w' : World} (h : circB names ps x = false) (hb : Below w.heap.size w w') : CircTo names ps x w (.returned (.bool false)) w' := ⟨by rw [h], hb⟩
set_option maxHeartbeats 4000000 in
theorem circles_any (names : List Tx) (ps : List Pr) (x : Tx) (B : Option Addr) (d : Nat) (w : World) (hP : PAt w B d ps) (hpl : ps.length ≤ 900000) (hl : names.length ≤ 24) (hin : ∀ p ∈ ps, inN names p = true) (hx : x ∈ names) :
  Calls Tryz.prog 138 #[.slice B ps.length d, .string (bs x)] w (CircTo names ps x w) := by
 have HL := Lib.hid (circ_leads hl hin hx)
 have HP := Lib.hid hP
 have hpd := hP.1
 clear hin hx hP hl
 generalize hcb : circB names ps x = cb at HL
 have HCB := Lib.hid hcb
 clear hcb
 obtain ⟨i0, hi, hz0, hz1, hz2⟩ := info_parts Tryz.infoString
 go_enter Tryz.func138, Tryz.ntmps138
 go_upto_region 3 with fail
 have HO0 := Lib.hid (own_one w x)
 have HB0 := Lib.hid (rbox w (.cells #[.string (bs x)] 9))
 generalize w.alloc (.cells #[.string (bs x)] 9) = w1 at *
 go_loopw [5, 6] (fun v i wr => ∃ (k : Nat) (R : List Tx), k ≤ R.length ∧ R.length ≤ ps.length + 1 ∧ i = .int .i64 k ∧ Hid (Cir ps x R k []) ∧ Hid (OwnL wr w.heap.size v R) ∧ Below w.heap.size w wr) (fun _ i _ => ps.length + 2 - (intOf i).toNat)
 case atStart => exact ⟨0, [x], Nat.zero_le _, by simp, rfl, Cir.start ps x, HO0.out, HB0.out⟩
 case round =>
  obtain ⟨k, R, hkR, hRl, rfl, HC, HO, hbw⟩ := hrel
  obtain ⟨AR, cR, rfl⟩ := own_slice HO.out
  have hbz := hbw.size
  clear HO0 HB0
  by_cases hlt : k < R.length
  ·have hli : (k : Int) < R.length := by omega
   obtain ⟨w2, rfl⟩ : ∃ X : World, X = wr := ⟨_, rfl⟩
   go_upto_region 6 with fail
   go_loopw [5, 19] (fun v i wr => ∃ (j : Nat) (R : List Tx), j ≤ ps.length ∧ k < R.length ∧ R.length ≤ ps.length + 1 ∧ i = .int .i64 j ∧ Hid (Cir ps x R k (ps.take j)) ∧ Hid (OwnL wr w.heap.size v R) ∧ Below w.heap.size w wr) (fun _ i _ => ps.length - (intOf i).toNat)
   case atStart => exact ⟨0, R, Nat.zero_le _, hlt, hRl, rfl, HC.out, HO.out, hbw⟩
   case round =>
    clear HC HO hbw hbz hlt hli hkR hRl
    obtain ⟨j, R, hj, hlt, hRl, rfl, HC, HO, hbw⟩ := hrel
    obtain ⟨AR, cR, rfl⟩ := own_slice HO.out
    have hbz := hbw.size
    have hli : (k : Int) < R.length := by omega
    by_cases hjl : j < ps.length
    ·obtain ⟨g, rfl, hgl, hc1, hc2⟩ := (HP.out.below hbw).2 j hjl
     have hsn : ps.take (j + 1) = ps.take j ++ [ps[j]] := by rw [List.take_succ_eq_append_getElem hjl]
     have hpm : ps[j] ∈ ps := List.getElem_mem hjl
     have hL := listAt_of HO.out
     obtain ⟨g5, e5, hg5, hck⟩ := hL.2 k hlt
     subst e5
     go_upto_region 8 with fail
     have hb1 := rbox wr (.cells #[.string (bs ps[j].1), .string (bs ps[j].2)] 303)
     have RA := heap_alloc_new wr (.cells #[.string (bs ps[j].1), .string (bs ps[j].2)] 303)
     have hck1 := (hb1.cell (p := ⟨g5, k, none⟩) hg5).trans hck
     have ho1 := own_below HO.out hb1 hbz
     have hb2 := below_then hbw hb1 hbz
     clear hc1 hc2 hb1 hck HO
     have a0 : (wr.alloc (.cells #[.string (bs ps[j].1), .string (bs ps[j].2)] 303)).cell? ⟨wr.heap.size, 0, none⟩ = some (.string (bs ps[j].1)) := by rw [cell_of_row _ _ _ _ _ _ RA]; rfl
     have a1 : (wr.alloc (.cells #[.string (bs ps[j].1), .string (bs ps[j].2)] 303)).cell? ⟨wr.heap.size, 1, none⟩ = some (.string (bs ps[j].2)) := by rw [cell_of_row _ _ _ _ _ _ RA]; rfl
     generalize wr.alloc (.cells #[.string (bs ps[j].1), .string (bs ps[j].2)] 303) = w3 at *
     have hbz3 := hb2.size
     have CO := Lib.hid (fun n => Contains_str R ps[j].2 (some ⟨g5, 0, none⟩) cR (w3.drewN n) ((listAt_of ho1).below (below_drewN (Below.refl _ _) n)) (by omega))
     have HO1 := Lib.hid ho1
     have HB2 := Lib.hid hb2
     have KS : Hid (ps[j].1 ≠ R[k] → Cir ps x R k (ps.take (j + 1))) := fun h => by rw [hsn]; exact HC.out.skip hlt h
     have KY : Hid (ps[j].1 = R[k] → ps[j].2 = x → Leads ps x x) := fun h h2 => by have := HC.out.leads hlt hpm h; rwa [h2] at this
     have KO : Hid (ps[j].2 ≠ x → ps[j].2 ∈ R → Cir ps x R k (ps.take (j + 1))) := fun h h2 => by rw [hsn]; exact HC.out.old h h2
     have KN : Hid (ps[j].1 = R[k] → ps[j].2 ≠ x → ps[j].2 ∉ R → Cir ps x (R ++ [ps[j].2]) k (ps.take (j + 1))) := fun h h1 h2 => by rw [hsn]; exact HC.out.new hlt hpm h h1 h2
     have e1 := beq_tx ps[j].1 R[k]
     have e2 := beq_tx ps[j].2 x
     clear hsn hpm hL ho1 hb2 HC RA
     generalize ps[j] = p at *
     generalize R[k] = y at *
     obtain ⟨sn, jn⟩ := p
     simp only at a0 a1 CO e1 e2 KS KY KO KN
     by_cases h1 : sn = y
     ·have g1 : ((bs sn).toList == (bs y).toList) = true := by rw [e1]; simpa using h1
      have g2 : ((bs sn).toList != (bs y).toList) = false := by unfold bne; rw [g1]; rfl
      by_cases h2 : jn = x
      ·have g3 : ((bs jn).toList == (bs x).toList) = true := by rw [e2]; simpa using h2
       have HE : Hid (circB names ps x = true) := HCB.out.trans (by have := HL.out.2 (KY.out h1 h2); exact this)
       clear KS KY KO KN HL HCB e1 e2 h1 h2 CO
       go_upto_region 8 with fail
       go_quiet (fail)
       go_wp2
       go_ret
       exact circTo_yes HE.out (below_drewN HB2.out _)
      ·have g3 : ((bs jn).toList == (bs x).toList) = false := by rw [e2]; simpa using h2
       by_cases h3 : jn ∈ R
       ·have HN := Lib.hid (KO.out h2 h3)
        have CO2 : Hid (∀ n, Calls Tryz.prog 117 #[.slice (some ⟨g5, 0, none⟩) R.length cR, .string (bs jn)] (w3.drewN n) fun e w' => e = .returned (.bool true) ∧ w3.drewN n = w') := fun n => by have := CO.out n; rwa [decide_eq_true h3] at this
        clear KS KY KO KN HL HCB e1 e2 h1 h2 h3 CO
        go_upto_region 8 with fail
        go_quiet (fail)
        go_wp2_with (go_at_call 117; refine (CO2.out _).mono ?_; rintro e w4 ⟨rfl, rfl⟩)
        go_roundw
        case rel => exact ⟨j + 1, R, by omega, hlt, hRl, by go_num, HN, own_below HO1.out (below_drewN (Below.refl _ _) nq) hbz3, below_drewN HB2.out nq⟩
        case measure => simp [intOf]; omega
       ·have HN := Lib.hid (KN.out h1 h2 h3)
        have CO2 : Hid (∀ n, Calls Tryz.prog 117 #[.slice (some ⟨g5, 0, none⟩) R.length cR, .string (bs jn)] (w3.drewN n) fun e w' => e = .returned (.bool false) ∧ w3.drewN n = w') := fun n => by have := CO.out n; rwa [decide_eq_false h3] at this
        have hRn := HN.out.len
        rw [List.length_append] at hRn
        simp only [List.length_singleton] at hRn
        clear KS KY KO KN HL HCB e1 e2 h1 h2 h3 CO
        go_upto_region 8 with fail
        go_quiet (fail)
        have CO3 := Lib.hid (CO2.out nq)
        clear CO2
        have HO2 := Lib.hid (own_below HO1.out (below_drewN (Below.refl _ _) nq) hbz3)
        have HB3 := Lib.hid (below_drewN HB2.out nq)
        have hbz4 := HB3.out.size
        have a2 : (w3.drewN nq).cell? ⟨wr.heap.size, 1, none⟩ = some (.string (bs jn)) := a1
        generalize w3.drewN nq = w5 at *
        go_wp2_with (first
         | (go_at_call 117; refine CO3.out.mono ?_; rintro e w4 ⟨rfl, rfl⟩)
         | (at_builtin; go_must (refine wpList_append_own _ rfl (.tmp 42) (.tmp 45) 29 rfl w.heap.size 9 i0 _ 1 16 Tryz.underlying29 hi hz0 hz1 hz2 rfl (by decide) _ R.length (scells R) rfl (World.ownsRow.alloc HO2.out _) ⟨w5.heap.size, 0, none⟩ 1 1 [.string (bs jn)] rfl rfl (cells_new _ _ _) (by intro u hu; simp at hu; subst hu; rfl) (by unfold maxLen; omega) (by omega) (by simp; omega) ?_); intro v' w6 hown' hg' _; obtain ⟨A6, c6, rfl⟩ := own_slice hown'))
        have HO4 : Hid (OwnL w6 w.heap.size (.slice A6 (R.length + 1) c6) (R ++ [jn])) := by
         show World.ownsRow _ _ _ _ _ _ _
         rw [List.length_append]
         have e : scells (R ++ [jn]) = scells R ++ [.string (bs jn)] := by simp [scells]
         rw [e]; exact hown'
        have HB4 : Hid (Below w.heap.size w w6) := (HB3.out.alloc HB3.out.size _).grown hg' (Nat.le_trans HB3.out.size (by simp)) (fun j e => (HO2.out.lt j e).1)
        go_roundw
        case rel => exact ⟨j + 1, R ++ [jn], by omega, by simp; omega, by simp; omega, by go_num, HN, HO4, HB4.out⟩
        case measure => simp [intOf]; omega
     ·have g1 : ((bs sn).toList == (bs y).toList) = false := by rw [e1]; simpa using h1
      have g2 : ((bs sn).toList != (bs y).toList) = true := by unfold bne; rw [g1]; rfl
      have HN := Lib.hid (KS.out h1)
      clear KS KY KO KN HL HCB e1 e2 h1 CO
      go_upto_region 8 with fail
      go_quiet (fail)
      go_wp2
      go_roundw
      case rel => exact ⟨j + 1, R, by omega, hlt, hRl, by go_num, HN, own_below HO1.out (below_drewN (Below.refl _ _) nq) hbz3, below_drewN HB2.out nq⟩
      case measure => simp [intOf]; omega
    ·have HC2 : Hid (Cir ps x R (k + 1) []) := by have := HC.out; rw [List.take_of_length_le (by omega)] at this; exact this.next
     clear HC
     go_wp2
     go_roundw
     case rel => exact ⟨k + 1, R, by omega, hRl, by go_num, HC2, HO.out, hbw⟩
     case measure => simp [intOf]; omega
  ·have hli : ¬ (k : Int) < R.length := by omega
   have HE : Hid (circB names ps x = false) := by
    show _ = _
    rw [HCB.out]
    have h9 := HC.out.no (by omega)
    cases hcb : cb
    ·rfl
    ·exact absurd (HL.out.1 hcb) h9
   go_wp2
   go_ret
   exact circTo_no HE.out hbw
end Go.Proofs.YtgffbgmieppckaaGreatDoor
