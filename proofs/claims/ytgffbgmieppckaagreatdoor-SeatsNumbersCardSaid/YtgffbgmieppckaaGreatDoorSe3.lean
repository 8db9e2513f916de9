import Derived.Test.YtgffbgmieppckaaGreatDoorInts
import Derived.Deep.AppendLies
import Derived.Lib.SliceRun
import Derived.Deep.RegionLaw
namespace Go.Proofs.YtgffbgmieppckaaGreatDoor
set_option maxRecDepth 100000
open Go.ChangeShapes Go.WideShapes Go.ChangeAt Go.RowKit
structure Se where
 num : Int
 user : Tx
 act : Nat
def sAt (ss : List Se) (n : Int) : Nat := ss.findIdx fun s => s.num == n
def sIx (ss : List Se) (n : Int) : Int := if sAt ss n < ss.length then (sAt ss n : Int) else -1
theorem sAt_hit {ss : List Se} {n : Int} {k : Nat} (h : k < ss.length) (e : ss[k].num = n) (hb : ∀ j (_ : j < k) (h : j < ss.length), ss[j].num ≠ n) : sAt ss n = k := by
 unfold sAt
 rw [List.findIdx_eq h]
 exact ⟨by simpa using e, fun j hj => by have := hb j hj (by omega); simpa using this⟩
theorem sAt_miss {ss : List Se} {n : Int} (hb : ∀ j (h : j < ss.length), ss[j].num ≠ n) : ¬ sAt ss n < ss.length := by
 intro h
 have h2 : (ss[sAt ss n].num == n) = true := List.findIdx_getElem (w := h)
 exact hb _ h (by simpa using h2)
theorem sIx_hit {ss : List Se} {n : Int} {k : Nat} (h : k < ss.length) (e : ss[k].num = n) (hb : ∀ j (_ : j < k) (h : j < ss.length), ss[j].num ≠ n) : sIx ss n = k := by
 unfold sIx
 rw [sAt_hit h e hb, if_pos h]
theorem sIx_miss {ss : List Se} {n : Int} (hb : ∀ j (h : j < ss.length), ss[j].num ≠ n) : sIx ss n = -1 := if_neg (sAt_miss hb)
def scell (s : Se) : List Value := [.int .i64 s.num, .string (bs s.user), .int .u32 (s.act : Nat)]
def secells (l : List Se) : List Value := l.flatMap scell
def sval (s : Se) : Value := .agg #[.int .i64 s.num, .string (bs s.user), .int .u32 (s.act : Nat)]
theorem secells_length (l : List Se) : (secells l).length = l.length * 3 := by
 induction l with
 | nil => rfl
 | cons a l ih => show (scell a ++ secells l).length = _; rw [List.length_append, ih, List.length_cons]; show 3 + _ = _; omega
theorem secells_snoc (l : List Se) (p : Se) : secells (l ++ [p]) = secells l ++ scell p := by simp [secells]
theorem secells_app (l m : List Se) : secells (l ++ m) = secells l ++ secells m := by simp [secells]
theorem secells_at : ∀ (l : List Se) (j f : Nat) (h : j < l.length), f < 3 → (secells l)[j * 3 + f]? = (scell l[j])[f]?
 | x :: r, 0, f, _, hf => by
  show (scell x ++ secells r)[_]? = _
  rw [List.getElem?_append_left (by show _ < 3; omega)]; simp
 | x :: r, j + 1, f, h, hf => by
  show (scell x ++ secells r)[_]? = _
  rw [List.getElem?_append_right (by show 3 ≤ _; omega), show (scell x).length = 3 from rfl, show (j + 1) * 3 + f - 3 = j * 3 + f by omega]
  exact secells_at r j f (by simpa using h) hf
theorem secells_one (l : List Se) : ∀ u ∈ secells l, u.oneCell' = true := by
 intro u hu
 simp only [secells, List.mem_flatMap] at hu
 obtain ⟨p, _, hu⟩ := hu
 simp [scell] at hu
 rcases hu with rfl | rfl | rfl <;> rfl
theorem secells_take (l : List Se) (k : Nat) : secells (l.take k) = (secells l).take (k * 3) := by
 by_cases h : k ≤ l.length
 ·have e := secells_app (l.take k) (l.drop k)
  rw [List.take_append_drop] at e
  rw [e, List.take_left' (by rw [secells_length, List.length_take]; omega)]
 ·rw [List.take_of_length_le (by omega), List.take_of_length_le (by rw [secells_length]; omega)]
theorem secells_drop (l : List Se) (k : Nat) : secells (l.drop k) = (secells l).drop (k * 3) := by
 by_cases h : k ≤ l.length
 ·have e := secells_app (l.take k) (l.drop k)
  rw [List.take_append_drop] at e
  rw [e, List.drop_left' (by rw [secells_length, List.length_take]; omega)]
 ·rw [List.drop_of_length_le (by omega), List.drop_of_length_le (by rw [secells_length]; omega)]; rfl
def OwnSe (w : World) (base : Nat) (v : Value) (l : List Se) : Prop := w.ownsRow base 106 3 v l.length (secells l)
def SeAt (w : World) (A : Option Addr) (c : Nat) (l : List Se) : Prop := l.length ≤ c ∧ ∀ j (hj : j < l.length), ∃ g, A = some ⟨g, 0, none⟩ ∧ g < w.heap.size ∧ ∀ f u, f < 3 → (scell l[j])[f]? = some u → w.cell? ⟨g, j * 3 + f, none⟩ = some u
theorem SeAt.below {w w' : World} {A : Option Addr} {c : Nat} {l : List Se} (h : SeAt w A c l) (hb : Below w.heap.size w w') : SeAt w' A c l :=
 ⟨h.1, fun j hj => let ⟨g, e, hl, hc⟩ := h.2 j hj; ⟨g, e, Nat.lt_of_lt_of_le hl hb.size, fun f u hf hu => (hb.cell (p := ⟨g, j * 3 + f, none⟩) hl).trans (hc f u hf hu)⟩⟩
theorem seAt_of {w : World} {base c : Nat} {A : Option Addr} {l : List Se} (h : OwnSe w base (.slice A l.length c) l) : SeAt w A c l :=
 ⟨own_cap h, fun j hj => by
  obtain ⟨g, cap', e, _, hl, _, hc⟩ := own_form h (by omega)
  have eA : A = some ⟨g, 0, none⟩ := by injection e
  exact ⟨g, eA, hl, fun f u hf hu => hc _ _ (by rw [secells_at l j f hj hf]; exact hu)⟩⟩
theorem sat_cells {w : World} {g c : Nat} {l : List Se} (h : SeAt w (some ⟨g, 0, none⟩) c l) : ∀ j u, (secells l)[j]? = some u → w.cell? ((⟨g, 0, none⟩ : Addr).add j) = some u := fun j u hu => by
 have hadd : (⟨g, 0, none⟩ : Addr).add j = ⟨g, j, none⟩ := by unfold Addr.add; split <;> simp_all
 rw [hadd]
 have hj : j < l.length * 3 := by rw [← secells_length]; exact (List.getElem?_eq_some_iff.1 hu).1
 have hk : j / 3 < l.length := by omega
 obtain ⟨g', e, _, hc⟩ := h.2 (j / 3) hk
 obtain rfl : g' = g := by have := Option.some.inj e; injection this with e1; exact e1.symm
 have e3 : j = j / 3 * 3 + j % 3 := by omega
 have h7 : j % 3 < 3 := Nat.mod_lt _ (by omega)
 rw [e3, secells_at l (j / 3) (j % 3) hk h7] at hu
 rw [e3]
 exact hc _ _ h7 hu
theorem Tryz.infoSeat : (Tryz.prog.info? 106).map (fun i => (i.zero, i.size, i.bytes)) = some (some (.agg #[.int .i64 0, .string ⟨#[]⟩, .int .u32 0]), 3, 32) := by kernel_rfl
structure SeM (W : World) (b : Nat) (v : Value) (ss : List Se) (last : Int) : Prop where
 row : W.heap[b]? = some (.cells #[v, .int .i64 last] 203 (0, 0))
 own : OwnSe W 0 v ss
theorem SeM.lt {W : World} {b : Nat} {v : Value} {ss : List Se} {last : Int} (h : SeM W b v ss last) : b < W.heap.size := (Array.getElem?_eq_some_iff.1 h.row).1
theorem SeM.below {W W' : World} {b : Nat} {v : Value} {ss : List Se} {last : Int} (h : SeM W b v ss last) (hb : Below W.heap.size W W') : SeM W' b v ss last :=
 ⟨(hb.block _ h.lt).trans h.row, own_below h.own hb (Nat.zero_le _)⟩
theorem SeM.q0 {W : World} {b : Nat} {v : Value} {ss : List Se} {last : Int} (h : SeM W b v ss last) : W.cell? ⟨b, 0, none⟩ = some v := by rw [cell_of_row _ _ _ _ _ _ h.row]; rfl
theorem SeM.q1 {W : World} {b : Nat} {v : Value} {ss : List Se} {last : Int} (h : SeM W b v ss last) : W.cell? ⟨b, 1, none⟩ = some (.int .i64 last) := by rw [cell_of_row _ _ _ _ _ _ h.row]; rfl
theorem SeM.fz {W : World} {b : Nat} {v : Value} {ss : List Se} {last : Int} (h : SeM W b v ss last) (j : Nat) : W.frozen? ⟨b, j, none⟩ = false := by simp [World.frozen?, h.row]
theorem SeM.ne {w : World} {b : Nat} {v : Value} {ss : List Se} {last : Int} (h : SeM w b v ss last) : v.ownBlock ≠ some b := by
 intro e
 rcases h.own.2 with ⟨rfl, _⟩ | ⟨g, cap, cur, rfl, _, hg, _⟩
 ·simp [Value.ownBlock] at e
 ·simp [Value.ownBlock] at e
  subst e
  rw [h.row] at hg
  injection hg with hg
  injection hg with _ ht _
  exact absurd ht (by decide)
def SeTo (w0 : World) (b : Nat) (v : Value) (ss : List Se) (last : Int) (w : World) : Prop := ∃ v', SeM w b v' ss last ∧ Chg (gOwn b v) w0 w ∧ ∀ k, v'.ownBlock = some k → v.ownBlock = some k ∨ w0.heap.size ≤ k
theorem seTo_same {w w' : World} {b : Nat} {v : Value} {ss : List Se} {last : Int} (h : SeM w b v ss last) (hb : Below w.heap.size w w') : SeTo w b v ss last w' := ⟨v, h.below hb, Chg.of_below hb, fun _ e => .inl e⟩
theorem seTo_on {B b : Nat} {v : Value} {ss : List Se} {last : Int} {w1 W W' : World} (hb : Below B w1 W) (hB : B ≤ W.heap.size) (h : SeTo W b v ss last W') (hbB : B ≤ b) (hv : ∀ k, v.ownBlock = some k → B ≤ k) :
  ∃ v', SeM W' b v' ss last ∧ Below B w1 W' ∧ (∀ k, v'.ownBlock = some k → v.ownBlock = some k ∨ W.heap.size ≤ k) ∧ Chg (gOwn b v) W W' := by
 obtain ⟨v', h1, h2, h3⟩ := h
 exact ⟨v', h1, hb.trans (h2.below hB fun k hk => hk.elim (fun e => by omega) (hv k)), h3, h2⟩
theorem setCells_rowS (g : Nat) (e : TypeId) : ∀ (vs : List Value) (o : Nat) (w : World) (cur : Array Value), w.heap[g]? = some (.cells cur e (0, 0)) → o + vs.length ≤ cur.size →
  ∃ cur', (w.setCells g o vs).heap[g]? = some (.cells cur' e (0, 0)) ∧ cur'.size = cur.size ∧ cur'.toList = cur.toList.take o ++ vs ++ cur.toList.drop (o + vs.length)
 | [], o, w, cur, h, _ => ⟨cur, h, rfl, by simp⟩
 | v :: r, o, w, cur, h, hl => by
  simp only [List.length_cons] at hl
  obtain ⟨cur', h1, h2, h3⟩ := setCells_rowS g e r (o + 1) (w.setCell ⟨g, o, none⟩ v) _ (heap_set (j := o) h v) (by simp; omega)
  refine ⟨cur', h1, by rw [h2]; simp, ?_⟩
  rw [h3]
  have ho : o < cur.toList.length := by simp; omega
  simp only [List.length_cons, Array.toList_setIfInBounds]
  rw [List.take_set, List.drop_set_of_lt (by omega), List.take_add_one, List.set_append_right _ _ (by rw [List.length_take]; omega), show o + 1 + r.length = o + (r.length + 1) by omega]
  rw [List.getElem?_eq_getElem ho]
  have : o - (cur.toList.take o).length = 0 := by rw [List.length_take]; omega
  rw [this]
  simp
theorem setCells_grownS (g : Nat) : ∀ (vs : List Value) (o : Nat) (w : World), w.grownBy (w.setCells g o vs) (some g)
 | [], _, w => ⟨rfl, rfl, rfl, Nat.le_refl _, fun _ _ _ => rfl⟩
 | v :: r, o, w => by
  have h1 := grown_setCell w g o v
  have h2 := setCells_grownS g r (o + 1) (w.setCell ⟨g, o, none⟩ v)
  exact ⟨h2.os.trans h1.os, h2.tape.trans h1.tape, h2.output.trans h1.output, Nat.le_trans h1.size h2.size, fun k hk hn => (h2.block k (Nat.lt_of_lt_of_le hk h1.size) hn).trans (h1.block k hk hn)⟩
theorem own_moved {w : World} {g base n cap s m o : Nat} {e : TypeId} {xs news : List Value} (h : w.ownsRow base e s (.slice (some ⟨g, 0, none⟩) n cap) n xs) (ho : o ≤ n * s) (hm : o + news.length = m * s) (hmn : m ≤ n) :
  (w.setCells g o news).ownsRow base e s (.slice (some ⟨g, 0, none⟩) m cap) m (xs.take o ++ news) := by
 obtain ⟨hx, h0 | ⟨g', cap', cur, e1, hb, hg, hn, hc, hs, ht⟩⟩ := h
 ·cases h0.1
 ·injection e1 with ea eb ec
  injection ea with ea
  injection ea with ea
  subst ea; subst ec
  have hms : m * s ≤ cap * s := Nat.mul_le_mul_right _ (by omega)
  have hns : n * s ≤ cap * s := Nat.mul_le_mul_right _ hn
  obtain ⟨cur', k1, k2, k3⟩ := setCells_rowS g e news o w cur hg (by omega)
  refine ⟨by rw [List.length_append, List.length_take]; omega, .inr ⟨g, cap, cur', rfl, hb, k1, by omega, hc, by omega, ?_⟩⟩
  rw [k3, ← hm, List.take_left' (by rw [List.length_append, List.length_take, Array.length_toList]; omega), ← ht, List.take_take]
  congr 2
  omega
theorem own_beyond {w : World} {g base n cap s o : Nat} {e : TypeId} {xs vs : List Value} (h : w.ownsRow base e s (.slice (some ⟨g, 0, none⟩) n cap) n xs) (ho : n * s ≤ o) (hm : o + vs.length ≤ cap * s) :
  (w.setCells g o vs).ownsRow base e s (.slice (some ⟨g, 0, none⟩) n cap) n xs := by
 obtain ⟨hx, h0 | ⟨g', cap', cur, e1, hb, hg, hn, hc, hs, ht⟩⟩ := h
 ·cases h0.1
 ·injection e1 with ea eb ec
  injection ea with ea
  injection ea with ea
  subst ea; subst ec
  obtain ⟨cur', k1, k2, k3⟩ := setCells_rowS g e vs o w cur hg (by omega)
  refine ⟨hx, .inr ⟨g, cap, cur', rfl, hb, k1, hn, hc, by omega, ?_⟩⟩
  have hns : n * s ≤ cap * s := Nat.mul_le_mul_right _ hn
  rw [k3, List.append_assoc, List.take_append_of_le_length (by rw [List.length_take, Array.length_toList]; omega), List.take_take, Nat.min_eq_left (by omega), ht]
theorem Dynamic_any (b : Nat) (w : World) (l : List (Int × Nat)) (A : Option Addr) (c : Nat) (hc : w.cell? ⟨b, 4, none⟩ = some (.slice A l.length c)) (h : StAt w A c l) (hl : l.length ≤ 1000) :
  Calls Tryz.prog 64 #[.pointer (some ⟨b, 0, none⟩)] w (DsTo l w) := by
 have RO := Lib.hid (CloneDS_any l A c w h hl)
 clear h
 go_enter Tryz.func64, Tryz.ntmps64
 go_wp2_with (go_at_call 109; refine RO.out.mono ?_; rintro e w2 ⟨A2, c2, rfl, hs2, hb2⟩)
 go_ret
 exact dsTo_mk rfl hs2 hb2
structure RtS (w4 : World) (rb o : Nat) (ns : List Tx) (bl : List Nat) (r : Rt) : Prop where
 B : RtB w4 rb o ns bl r
 GV : ∀ x W, Below w4.heap.size w4 W → Calls Tryz.prog 66 #[.pointer (some ⟨rb, 0, none⟩), .string (bs x)] W fun e w' => e = .returned (.int .u32 (upperTo bl (rtHas r.perms x) ns.length : Nat)) ∧ Below W.heap.size W w'
 DY : ∀ W, Below w4.heap.size w4 W → Calls Tryz.prog 64 #[.pointer (some ⟨rb, 0, none⟩)] W (DsTo r.dyn W)
 nd8 : r.dyn.length ≤ 8
 sd : ∀ p ∈ r.dyn, p.2 < 16777216
 sp : ∀ p ∈ r.perms, p.2 < 16777216
theorem RtS.later {w4 w5 : World} {rb o : Nat} {ns : List Tx} {bl : List Nat} {r : Rt} (h : RtS w4 rb o ns bl r) (hb : Below w4.heap.size w4 w5) : RtS w5 rb o ns bl r :=
 have k : ∀ {W : World}, Below w5.heap.size w5 W → Below w4.heap.size w4 W := fun q => below_then hb q hb.size
 ⟨h.B.later hb, fun x W q => h.GV x W (k q), fun W q => h.DY W (k q), h.nd8, h.sd, h.sp⟩
theorem rtS_of {base : Nat} {w4 : World} {rb : Nat} {ns : List Tx} {bl : List Nat} {r : Rt} (h : RtM base w4 rb ns bl r) : ∃ o, RtS w4 rb o ns bl r := by
 obtain ⟨w0, o, vU, vP, vS, vD, vA, m, hlo, hA, hO0, hI⟩ := h
 have hO := hO0.below hA.be
 obtain ⟨AU, cU, rfl⟩ := own_slice hA.oU
 obtain ⟨AP, cP, rfl⟩ := own_slice hA.oP
 obtain ⟨AS, cS, rfl⟩ := own_slice hA.oS
 obtain ⟨AD, cD, rfl⟩ := own_slice hA.oD
 refine ⟨o, ⟨?_, ?_, ?_, ?_, ?_, ?_, ?_, ?_, hO.few, hO.lo, hI.nu, hI.ns, fun x => rtHas_lt hI.su x, hI.ss⟩, ?_, ?_, hI.nd, hI.sd, hI.sp⟩
 ·exact fun W hW => Order_any rb W o (hA.below hW).q0
 ·exact fun W hW => Users_any r.users AU cU rb W (hA.below hW).q1 (hAt_of (hA.below hW).oU) (by have := hI.nu; omega)
 ·exact fun x W hW => Has_any r.users x AU cU rb W (hA.below hW).q1 (hAt_of (hA.below hW).oU) (by have := hI.nu; omega)
 ·exact fun s W hs hW => Down_any o ns bl W s hs (hO.below hW)
 ·exact fun x W hW => OIndex_any o ns bl W x (hO.below hW)
 ·exact fun x y W hW => Above_any o ns bl W x y (hO.below hW)
 ·exact fun W hW => Static_any rb W r.stat AS cS (hA.below hW).q3 (dsAt_of (hA.below hW).oS (fun p hp => by have := hI.ss p hp; omega)) (by have := hI.ns; omega)
 ·exact fun x W hx hW => Lends_any m r.loans.length r.loans x hx rb W (hA.below hW).q6 (hA.below hW).lt (hA.below hW).mp
 ·exact fun x W hW => Gives_any rb W r.perms x AP cP o ns bl (hA.below hW).q0 (hA.below hW).q2 (hA.below hW).lt (hAt_of (hA.below hW).oP) (by have := hI.np; omega) (hO.below hW) hI.sp
 ·exact fun W hW => Dynamic_any rb W r.dyn AD cD (hA.below hW).q4 (dsAt_of (hA.below hW).oD (fun p hp => by have := hI.sd p hp; omega)) (by have := hI.nd; omega)
theorem tq0 {W : World} {b : Nat} {a0 a1 a2 : Value} {t : TypeId} {fz : Nat × Nat} (h : W.heap[b]? = some (.cells #[a0, a1, a2] t fz)) : W.cell? ⟨b, 0, none⟩ = some a0 := by rw [cell_of_row _ _ _ _ _ _ h]; rfl
theorem sfind_clo (s : Se) (n : Int) (b1 : Nat) (w : World) (h1 : b1 < w.heap.size) (c1 : w.cell? ⟨b1, 0, none⟩ = some (.int .i64 n)) :
  Calls Tryz.prog 167 #[sval s, .pointer (some ⟨b1, 0, none⟩)] w fun e w' => e = .returned (.bool (s.num == n)) ∧ Below w.heap.size w w' := by
 obtain ⟨xn, xu, xa⟩ := s
 have HX := heap_alloc_new w (.cells #[.int .i64 xn, .string (bs xu), .int .u32 (xa : Nat)] 106)
 have HB := Lib.hid (rbox w (.cells #[.int .i64 xn, .string (bs xu), .int .u32 (xa : Nat)] 106))
 have y1 := (HB.out.cell (p := ⟨b1, 0, none⟩) h1).trans c1
 have x0 := tq0 HX
 clear HX c1
 dsimp only [sval]
 go_enter Tryz.func167, Tryz.ntmps167
 go_upto_region 1 with fail
 generalize w.alloc (.cells #[.int .i64 xn, .string (bs xu), .int .u32 (xa : Nat)] 106) = w1 at *
 go_wp2
 go_ret
 exact ⟨rfl, HB.out⟩
set_option maxHeartbeats 2000000 in
theorem sfind_idx (ss : List Se) (n : Int) (A : Option Addr) (c b1 : Nat) (w : World) (h : SeAt w A c ss) (hl : ss.length ≤ 1000) (h1 : b1 < w.heap.size) (c1 : w.cell? ⟨b1, 0, none⟩ = some (.int .i64 n)) :
  Calls Tryz.prog 166 #[.slice A ss.length c, .func (.func 167) #[] #[.pointer (some ⟨b1, 0, none⟩)]] w fun e w' => e = .returned (.int .i64 (sIx ss n)) ∧ Below w.heap.size w w' := by
 have HS := Lib.hid h
 have hcc := h.1
 have HC := Lib.hid (fun W (hW : Below w.heap.size w W) (s : Se) => sfind_clo s n b1 W (Nat.lt_of_lt_of_le h1 hW.size) ((hW.cell (p := ⟨b1, 0, none⟩) h1).trans c1))
 clear h c1 h1
 go_enter Tryz.func166, Tryz.ntmps166
 go_wp2
 go_loopw [5, 8] (fun _ i wr => ∃ k : Nat, k ≤ ss.length ∧ i = .int .i64 k ∧ Hid (Below w.heap.size w wr) ∧ Hid (∀ j (_ : j < k) (h : j < ss.length), ss[j].num ≠ n)) (fun _ i _ => ss.length - (intOf i).toNat)
 case atStart => exact ⟨0, Nat.zero_le _, rfl, Below.refl _ _, fun j hj _ => by omega⟩
 case round =>
  obtain ⟨k, hk, rfl, HB, HI⟩ := hrel
  by_cases hlt : k < ss.length
  ·obtain ⟨g, rfl, hgl, hc⟩ := (HS.out.below HB.out).2 k hlt
   have q0 := hc 0 _ (by omega) rfl; have q1 := hc 1 _ (by omega) rfl; have q2 := hc 2 _ (by omega) rfl
   simp only [Nat.add_zero] at q0
   have CL := Lib.hid (HC.out wr HB.out ss[k])
   have HH : Hid (ss[k].num = n → sIx ss n = k) := fun e => sIx_hit hlt e HI.out
   have HT : Hid (ss[k].num ≠ n → ∀ j (_ : j < k + 1) (h : j < ss.length), ss[j].num ≠ n) := fun hb j hj h => by
    by_cases e : j = k
    ·subst e; exact hb
    ·exact HI.out j (by omega) h
   clear hc
   generalize ss[k] = a at *
   dsimp only [sval] at CL
   by_cases he : a.num = n
   ·have HE := Lib.hid (HH.out he)
    have hb9 : (a.num == n) = true := by simpa using he
    rw [hb9] at CL
    clear HH HT HI he hb9
    go_wp2_with (go_at_call 167; refine CL.out.mono ?_; rintro e w2 ⟨rfl, hb2⟩)
    go_ret
    exact ⟨ret_int HE.out.symm, below_then HB.out hb2 HB.out.size⟩
   ·have HT2 := Lib.hid (HT.out he)
    have hb9 : (a.num == n) = false := by simpa using he
    rw [hb9] at CL
    clear HH HT HI he hb9
    go_wp2_with (go_at_call 167; refine CL.out.mono ?_; rintro e w2 ⟨rfl, hb2⟩)
    have HB2 := Lib.hid (below_then HB.out hb2 HB.out.size)
    go_roundw
    case rel => exact ⟨k + 1, by omega, by go_num, HB2, HT2⟩
    case measure => simp [intOf]; omega
  ·have HE : Hid (sIx ss n = -1) := sIx_miss fun j hj => HI.out j (by omega) hj
   clear HI
   go_wp2
   go_ret
   exact ⟨ret_int HE.out.symm, HB.out⟩
section
variable {b : Nat} {v : Value} {ss : List Se} {last : Int} {w : World}
theorem sfind_any (h : SeM w b v ss last) (hl : ss.length ≤ 1000) (n : Int) :
  Calls Tryz.prog 115 #[.pointer (some ⟨b, 0, none⟩), .int .i64 n] w fun e w' => e = .returned (.int .i64 (sIx ss n)) ∧ Below w.heap.size w w' := by
 obtain ⟨A, c, rfl⟩ := own_slice h.own
 have hb1 := rbox w (.cells #[.int .i64 n] 3)
 have R1 := heap_alloc_new w (.cells #[.int .i64 n] 3)
 have IX := Lib.hid (sfind_idx ss n A c w.heap.size (w.alloc (.cells #[.int .i64 n] 3)) ((seAt_of h.own).below hb1) hl (by simp) (by rw [cell_of_row _ _ _ _ _ _ R1]; rfl))
 have HB := Lib.hid hb1
 have q0 := (hb1.cell (p := ⟨b, 0, none⟩) h.lt).trans h.q0
 have hmf : ∀ (fn : Fn) (first cap : Array Value) (w : World), (Instr.makeFunc fn first cap).run Tryz.prog w = .ok (.func fn first cap) w := fun _ _ _ _ => rfl
 clear h R1 hb1
 go_enter Tryz.func115, Tryz.ntmps115
 go_upto_region 1 with fail
 generalize w.alloc (.cells #[.int .i64 n] 3) = w1 at *
 go_wp2_with (go_at_call 166; refine IX.out.mono ?_; rintro e w2 ⟨rfl, hb2⟩)
 go_ret
 exact ⟨rfl, below_then HB.out hb2 HB.out.size⟩
end
theorem run_clear_one {P : Program} (w : World) (t e ty : TypeId) (z : Value) (cs : List Value) (ht : P.underlying t = some (.slice e)) (hv : ∀ w, (zeroValue e).run P w = .ok z w) (hz : z.cells = cs.toArray) (h1 : ∀ u ∈ cs, u.oneCell' = true) (b o c : Nat)
  (hc : ∀ j, j < cs.length → (w.cell? ⟨b, o + j, none⟩).isSome = true) (hf : ∀ j, j < cs.length → w.frozen? ⟨b, o + j, none⟩ = false) :
  (Builtin.clear_ #[t] ty #[.slice (some ⟨b, o, none⟩) 1 c]).run P w = .ok (.tuple #[]) (w.setCells b o cs) := by
 have hzc : (Builtin.zeroCells z.cells 1).toList = cs := by
  rw [hz]
  simp only [Builtin.zeroCells]
  apply List.ext_getElem
  ·simp
  ·intro i h1 h2
   simp [Nat.mod_eq_of_lt h2, List.getElem?_eq_getElem h2]
 have hst := run_storeCells_cells (P := P) b o cs 0 w (by simpa using hc) (by simpa using hf) h1
 simp only [Nat.add_zero] at hst
 simp [Builtin.clear_, run_underlying ht, hv, hzc, hst]
section
variable {w : World} {g c base : Nat} {ss : List Se} {k : Nat}
theorem own_cellsS {w : World} {g c base n : Nat} {e : TypeId} {xs : List Value} {s : Nat} (h : w.ownsRow base e s (.slice (some ⟨g, 0, none⟩) n c) n xs) (j : Nat) (hj : j < n * s) : ∃ u, xs[j]? = some u ∧ w.cell? ⟨g, j, none⟩ = some u ∧ w.frozen? ⟨g, j, none⟩ = false := by
 have hl := h.1
 have hj2 : j < xs.length := by omega
 have hc := h.cells (g := g) rfl j _ (List.getElem?_eq_getElem hj2)
 have hadd : (⟨g, 0, none⟩ : Addr).add j = ⟨g, j, none⟩ := by unfold Addr.add; split <;> simp_all
 rw [hadd] at hc
 refine ⟨_, List.getElem?_eq_getElem hj2, hc, ?_⟩
 rcases h.2 with ⟨h0, _⟩ | ⟨g', cap, cur, e1, _, hg, _⟩
 ·cases h0
 ·injection e1 with ea
  injection ea with ea
  injection ea with ea
  subst ea
  simp [World.frozen?, hg]
theorem secells_erase (ss : List Se) (k : Nat) : secells (ss.eraseIdx k) = (secells ss).take (k * 3) ++ (secells ss).drop ((k + 1) * 3) := by
 rw [List.eraseIdx_eq_take_drop_succ, secells_app, secells_take, secells_drop]
theorem Tryz.zeroSeat (w : World) : (zeroValue 106).run Tryz.prog w = .ok (.agg #[.int .i64 0, .string ⟨#[]⟩, .int .u32 0]) w := by kernel_rfl
def DelTo (ss : List Se) (k g c base : Nat) (w : World) (e : Ending) (w' : World) : Prop := e = .returned (.slice (some ⟨g, 0, none⟩) (ss.eraseIdx k).length c) ∧ OwnSe w' base (.slice (some ⟨g, 0, none⟩) (ss.eraseIdx k).length c) (ss.eraseIdx k) ∧ w.grownBy w' (some g)
set_option maxHeartbeats 4000000 in
theorem sDel_any (h : OwnSe w base (.slice (some ⟨g, 0, none⟩) ss.length c) ss) (hk : k < ss.length) (hl : ss.length ≤ 1000) :
  Calls Tryz.prog 116 #[.slice (some ⟨g, 0, none⟩) ss.length c, .int .i64 k, .int .i64 ((k + 1 : Nat) : Int)] w (DelTo ss k g c base w) := by
 obtain ⟨i0, hi, hz0, hz1, hz2⟩ := info_parts Tryz.infoSeat
 have hcc : ss.length ≤ c := own_cap h
 have hcm : c ≤ 9223372036854775807 := by
  rcases h.2 with ⟨h0, _⟩ | ⟨g', cap, cur, e1, _, _, _, hm, _⟩
  ·cases h0
  ·injection e1 with _ _ ec; subst ec; exact hm
 obtain ⟨news, hnews⟩ : ∃ news, news = (secells ss).drop ((k + 1) * 3) := ⟨_, rfl⟩
 have hlen : news.length = (ss.length - (k + 1)) * 3 := by rw [hnews, List.length_drop, secells_length]; omega
 have hEL : (ss.eraseIdx k).length = k + (ss.length - (k + 1)) := by rw [List.length_eraseIdx_of_lt hk]; omega
 obtain ⟨A, hA, hsrc⟩ : ∃ A : Addr, (if c = k + 1 then (some ⟨g, 0, none⟩ : Option Addr) else some ⟨g, (k + 1) * 3, none⟩) = some A ∧ Hid (∀ t u, news[t]? = some u → w.drew.cell? (A.add t) = some u) := by
  by_cases h9 : c = k + 1
  ·refine ⟨⟨g, 0, none⟩, by simp [h9], fun t u hu => ?_⟩
   have h0 : news.length = 0 := by rw [hlen]; omega
   rw [List.length_eq_zero_iff.1 h0] at hu
   simp at hu
  ·refine ⟨⟨g, (k + 1) * 3, none⟩, by simp [h9], fun t u hu => ?_⟩
   rw [hnews, List.getElem?_drop] at hu
   have ht := (List.getElem?_eq_some_iff.1 hu).1
   rw [secells_length] at ht
   obtain ⟨v, hv, hcv, _⟩ := own_cellsS h ((k + 1) * 3 + t) ht
   rw [hu] at hv
   injection hv with hv
   rw [hv]
   have hadd : (⟨g, (k + 1) * 3, none⟩ : Addr).add t = ⟨g, (k + 1) * 3 + t, none⟩ := by unfold Addr.add; split <;> simp_all
   rw [hadd]
   exact hcv
 have s1 : Hid (news.length = (ss.length - (k + 1)) * 3) := hlen
 have s2 : Hid (∀ u ∈ news, u.oneCell' = true) := by
  intro u hu
  rw [hnews] at hu
  exact secells_one ss u (List.mem_of_mem_drop hu)
 have s3 : Hid (∀ t, t < news.length → (w.drew.cell? ⟨g, 0 + k * 3 + t, none⟩).isSome = true ∧ w.drew.frozen? ⟨g, 0 + k * 3 + t, none⟩ = false) := by
  intro t ht
  rw [hlen] at ht
  obtain ⟨v, _, hcv, hfz⟩ := own_cellsS h (0 + k * 3 + t) (by omega)
  exact ⟨by show (w.cell? _).isSome = true; rw [hcv]; rfl, hfz⟩
 obtain ⟨W1, hW1⟩ : ∃ W1, W1 = w.drew.setCells g (0 + k * 3) news := ⟨_, rfl⟩
 have hdr : w.drew.ownsRow base 106 3 (.slice (some ⟨g, 0, none⟩) ss.length c) ss.length (secells ss) := h
 have ho1 : W1.ownsRow base 106 3 (.slice (some ⟨g, 0, none⟩) (ss.eraseIdx k).length c) (ss.eraseIdx k).length (secells (ss.eraseIdx k)) := by
  rw [hW1, secells_erase, ← hnews, show (0 : Nat) + k * 3 = k * 3 by omega]
  exact own_moved hdr (by omega) (by rw [hlen, hEL]; omega) (by omega)
 obtain ⟨hx1, hn1 | ⟨g1, cap1, cur1, e1, hb1, hg1, hle1, hmx1, hs1, ht1⟩⟩ := ho1
 ·exact absurd hn1.1 (by intro h; cases h)
 injection e1 with ea eb ec
 injection ea with ea
 injection ea with ea
 subst ea; subst ec
 have ho1 : W1.ownsRow base 106 3 (.slice (some ⟨g, 0, none⟩) (ss.eraseIdx k).length c) (ss.eraseIdx k).length (secells (ss.eraseIdx k)) := ⟨hx1, .inr ⟨g, c, cur1, rfl, hb1, hg1, hle1, hmx1, hs1, ht1⟩⟩
 have hcl : ∀ ty cp, (Builtin.clear_ #[102] ty #[.slice (some ⟨g, (k + (ss.length - (k + 1))) * 3, none⟩) 1 cp]).run Tryz.prog W1 = .ok (.tuple #[]) (W1.setCells g ((k + (ss.length - (k + 1))) * 3) [.int .i64 0, .string ⟨#[]⟩, .int .u32 0]) :=
  fun ty cp => run_clear_one W1 _ _ ty _ [.int .i64 0, .string ⟨#[]⟩, .int .u32 0] Tryz.underlying102 Tryz.zeroSeat rfl (by intro u hu; simp at hu; rcases hu with rfl | rfl | rfl <;> rfl) g _ cp
   (fun j hj => by
     simp at hj
     rw [cell_of_row _ _ _ _ _ _ hg1, Array.getElem?_eq_getElem (by rw [hs1]; omega)]; rfl)
   (fun j hj => by simp [World.frozen?, hg1])
 have HF : Hid (DelTo ss k g c base w (.returned (.slice (some ⟨g, 0, none⟩) (k + (ss.length - (k + 1))) c)) (W1.setCells g ((k + (ss.length - (k + 1))) * 3) [.int .i64 0, .string ⟨#[]⟩, .int .u32 0])) := by
  refine ⟨by rw [hEL], own_beyond ho1 (by rw [hEL]; omega) (by simp; omega), ?_⟩
  have h1 := setCells_grownS g news (0 + k * 3) w.drew
  have h2 := setCells_grownS g [.int .i64 0, .string ⟨#[]⟩, .int .u32 0] ((k + (ss.length - (k + 1))) * 3) W1
  rw [← hW1] at h1
  exact ⟨h2.os.trans h1.os, h2.tape.trans h1.tape, h2.output.trans h1.output, Nat.le_trans h1.size h2.size, fun j hj hn => (h2.block j (Nat.lt_of_lt_of_le hj h1.size) hn).trans (h1.block j hj hn)⟩
 have hW : Hid (W1 = w.drew.setCells g (0 + k * 3) news) := hW1
 have hkc : k ≤ c := by omega
 have hk1 : k + 1 ≤ c := by omega
 have hlt : k + (ss.length - (k + 1)) + 1 = ss.length := by omega
 generalize ss.length = n at *
 have hb2 : ((k + 1 : Nat) : Int) ≤ (n : Int) := by omega
 have hb3 : (((k : Nat) : Int) == ((k + 1 : Nat) : Int)) = false := beq_eq_false_iff_ne.2 (by omega)
 have hb4 : (k : Int) ≤ ((k + 1 : Nat) : Int) := by omega
 have hb5 : k + (n - (k + 1)) ≤ n := by omega
 have hb6 : n - (k + (n - (k + 1))) = 1 := by omega
 generalize k + 1 = j at *
 clear hW1 hnews h hdr ho1 hlen hEL hx1 hg1 hle1 hmx1 hs1 ht1 hb1
 go_enter Tryz.func116, Tryz.ntmps116
 go_wp2_with fail
 go_region_law (refine step_append_room rfl (.tmp 22) (.tmp 25) 102 rfl 106 i0 3 Tryz.underlying102 hi hz1 g 0 k c (by simp [Act.eval, Act.put]) A (n - j) (c - j) news (by simp [Act.eval, Act.put]) s1.out hsrc.out s2.out (by omega) s3.out ?_; rw [← hW.out])
 go_wp2
 go_ret
 exact HF.out
end
end Go.Proofs.YtgffbgmieppckaaGreatDoor
