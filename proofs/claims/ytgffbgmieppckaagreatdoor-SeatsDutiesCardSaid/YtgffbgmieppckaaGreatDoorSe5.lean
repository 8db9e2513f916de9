import Derived.Test.YtgffbgmieppckaaGreatDoorSe1
import Derived.Deep.AppendLies
import Derived.Lib.SliceRun
import Derived.Deep.RegionLaw
import Derived.Test.YtgffbgmieppckaaGreatDoorGr7
namespace Go.Proofs.YtgffbgmieppckaaGreatDoor
set_option maxRecDepth 100000
open Go.ChangeShapes Go.WideShapes Go.ChangeAt Go.RowKit
theorem tq0 {W : World} {b : Nat} {a0 a1 a2 : Value} {t : TypeId} {fz : Nat × Nat} (h : W.heap[b]? = some (.cells #[a0, a1, a2] t fz)) : W.cell? ⟨b, 0, none⟩ = some a0 := by rw [cell_of_row _ _ _ _ _ _ h]; rfl
theorem tq1 {W : World} {b : Nat} {a0 a1 a2 : Value} {t : TypeId} {fz : Nat × Nat} (h : W.heap[b]? = some (.cells #[a0, a1, a2] t fz)) : W.cell? ⟨b, 1, none⟩ = some a1 := by rw [cell_of_row _ _ _ _ _ _ h]; rfl
theorem tq2 {W : World} {b : Nat} {a0 a1 a2 : Value} {t : TypeId} {fz : Nat × Nat} (h : W.heap[b]? = some (.cells #[a0, a1, a2] t fz)) : W.cell? ⟨b, 2, none⟩ = some a2 := by rw [cell_of_row _ _ _ _ _ _ h]; rfl
theorem sfind_clo (s : Se) (n : Int) (b1 : Nat) (w : World) (h1 : b1 < w.heap.size) (c1 : w.cell? ⟨b1, 0, none⟩ = some (.int .i64 n)) :
  Calls Tryz.prog 167 #[sval s, .pointer (some ⟨b1, 0, none⟩)] w fun e w' => e = .returned (.bool (s.num == n)) ∧ Below w.heap.size w w' := by
 obtain ⟨xn, xu, xa⟩ := s
 have HX := heap_alloc_new w (.cells #[.int .i64 xn, .string (bs xu), .int .u32 (xa : Nat)] 106)
 have HB := Lib.hid (rbox w (.cells #[.int .i64 xn, .string (bs xu), .int .u32 (xa : Nat)] 106))
 have y1 := (HB.out.cell (p := ⟨b1, 0, none⟩) h1).trans c1
 have x0 := tq0 HX
 clear HX c1
 dsimp only [sval]
 go_enter Tryz.func167, Tryz.ntmps167
 go_upto_region 1 with fail
 generalize w.alloc (.cells #[.int .i64 xn, .string (bs xu), .int .u32 (xa : Nat)] 106) = w1 at *
 go_wp2
 go_ret
 exact ⟨rfl, HB.out⟩
set_option maxHeartbeats 2000000 in
theorem sfind_idx (ss : List Se) (n : Int) (A : Option Addr) (c b1 : Nat) (w : World) (h : SeAt w A c ss) (hl : ss.length ≤ 1000) (h1 : b1 < w.heap.size) (c1 : w.cell? ⟨b1, 0, none⟩ = some (.int .i64 n)) :
  Calls Tryz.prog 166 #[.slice A ss.length c, .func (.func 167) #[] #[.pointer (some ⟨b1, 0, none⟩)]] w fun e w' => e = .returned (.int .i64 (sIx ss n)) ∧ Below w.heap.size w w' := by
 have HS := Lib.hid h
 have hcc := h.1
 have HC := Lib.hid (fun W (hW : Below w.heap.size w W) (s : Se) => sfind_clo s n b1 W (Nat.lt_of_lt_of_le h1 hW.size) ((hW.cell (p := ⟨b1, 0, none⟩) h1).trans c1))
 clear h c1 h1
 go_enter Tryz.func166, Tryz.ntmps166
 go_wp2
 go_loopw [5, 8] (fun _ i wr => ∃ k : Nat, k ≤ ss.length ∧ i = .int .i64 k ∧ Hid (Below w.heap.size w wr) ∧ Hid (∀ j (_ : j < k) (h : j < ss.length), ss[j].num ≠ n)) (fun _ i _ => ss.length - (intOf i).toNat)
 case atStart => exact ⟨0, Nat.zero_le _, rfl, Below.refl _ _, fun j hj _ => by omega⟩
 case round =>
  obtain ⟨k, hk, rfl, HB, HI⟩ := hrel
  by_cases hlt : k < ss.length
  ·obtain ⟨g, rfl, hgl, hc⟩ := (HS.out.below HB.out).2 k hlt
   have q0 := hc 0 _ (by omega) rfl; have q1 := hc 1 _ (by omega) rfl; have q2 := hc 2 _ (by omega) rfl
   simp only [Nat.add_zero] at q0
   have CL := Lib.hid (HC.out wr HB.out ss[k])
   have HH : Hid (ss[k].num = n → sIx ss n = k) := fun e => sIx_hit hlt e HI.out
   have HT : Hid (ss[k].num ≠ n → ∀ j (_ : j < k + 1) (h : j < ss.length), ss[j].num ≠ n) := fun hb j hj h => by
    by_cases e : j = k
    ·subst e; exact hb
    ·exact HI.out j (by omega) h
   clear hc
   generalize ss[k] = a at *
   dsimp only [sval] at CL
   by_cases he : a.num = n
   ·have HE := Lib.hid (HH.out he)
    have hb9 : (a.num == n) = true := by simpa using he
    rw [hb9] at CL
    clear HH HT HI he hb9
    go_wp2_with (go_at_call 167; refine CL.out.mono ?_; rintro e w2 ⟨rfl, hb2⟩)
    go_ret
    exact ⟨ret_int HE.out.symm, below_then HB.out hb2 HB.out.size⟩
   ·have HT2 := Lib.hid (HT.out he)
    have hb9 : (a.num == n) = false := by simpa using he
    rw [hb9] at CL
    clear HH HT HI he hb9
    go_wp2_with (go_at_call 167; refine CL.out.mono ?_; rintro e w2 ⟨rfl, hb2⟩)
    have HB2 := Lib.hid (below_then HB.out hb2 HB.out.size)
    go_roundw
    case rel => exact ⟨k + 1, by omega, by go_num, HB2, HT2⟩
    case measure => simp [intOf]; omega
  ·have HE : Hid (sIx ss n = -1) := sIx_miss fun j hj => HI.out j (by omega) hj
   clear HI
   go_wp2
   go_ret
   exact ⟨ret_int HE.out.symm, HB.out⟩
section
variable {b : Nat} {v : Value} {ss : List Se} {last : Int} {w : World}
theorem sfind_any (h : SeM w b v ss last) (hl : ss.length ≤ 1000) (n : Int) :
  Calls Tryz.prog 115 #[.pointer (some ⟨b, 0, none⟩), .int .i64 n] w fun e w' => e = .returned (.int .i64 (sIx ss n)) ∧ Below w.heap.size w w' := by
 obtain ⟨A, c, rfl⟩ := own_slice h.own
 have hb1 := rbox w (.cells #[.int .i64 n] 3)
 have R1 := heap_alloc_new w (.cells #[.int .i64 n] 3)
 have IX := Lib.hid (sfind_idx ss n A c w.heap.size (w.alloc (.cells #[.int .i64 n] 3)) ((seAt_of h.own).below hb1) hl (by simp) (by rw [cell_of_row _ _ _ _ _ _ R1]; rfl))
 have HB := Lib.hid hb1
 have q0 := (hb1.cell (p := ⟨b, 0, none⟩) h.lt).trans h.q0
 have hmf : ∀ (fn : Fn) (first cap : Array Value) (w : World), (Instr.makeFunc fn first cap).run Tryz.prog w = .ok (.func fn first cap) w := fun _ _ _ _ => rfl
 clear h R1 hb1
 go_enter Tryz.func115, Tryz.ntmps115
 go_upto_region 1 with fail
 generalize w.alloc (.cells #[.int .i64 n] 3) = w1 at *
 go_wp2_with (go_at_call 166; refine IX.out.mono ?_; rintro e w2 ⟨rfl, hb2⟩)
 go_ret
 exact ⟨rfl, below_then HB.out hb2 HB.out.size⟩
end
theorem run_clear_one {P : Program} (w : World) (t e ty : TypeId) (z : Value) (cs : List Value) (ht : P.underlying t = some (.slice e)) (hv : ∀ w, (zeroValue e).run P w = .ok z w) (hz : z.cells = cs.toArray) (h1 : ∀ u ∈ cs, u.oneCell' = true) (b o c : Nat)
  (hc : ∀ j, j < cs.length → (w.cell? ⟨b, o + j, none⟩).isSome = true) (hf : ∀ j, j < cs.length → w.frozen? ⟨b, o + j, none⟩ = false) :
  (Builtin.clear_ #[t] ty #[.slice (some ⟨b, o, none⟩) 1 c]).run P w = .ok (.tuple #[]) (w.setCells b o cs) := by
 have hzc : (Builtin.zeroCells z.cells 1).toList = cs := by
  rw [hz]
  simp only [Builtin.zeroCells]
  apply List.ext_getElem
  ·simp
  ·intro i h1 h2
   simp [Nat.mod_eq_of_lt h2, List.getElem?_eq_getElem h2]
 have hst := run_storeCells_cells (P := P) b o cs 0 w (by simpa using hc) (by simpa using hf) h1
 simp only [Nat.add_zero] at hst
 simp [Builtin.clear_, run_underlying ht, hv, hzc, hst]
section
variable {w : World} {g c base : Nat} {ss : List Se} {k : Nat}
theorem own_cellsS {w : World} {g c base n : Nat} {e : TypeId} {xs : List Value} {s : Nat} (h : w.ownsRow base e s (.slice (some ⟨g, 0, none⟩) n c) n xs) (j : Nat) (hj : j < n * s) : ∃ u, xs[j]? = some u ∧ w.cell? ⟨g, j, none⟩ = some u ∧ w.frozen? ⟨g, j, none⟩ = false := by
 have hl := h.1
 have hj2 : j < xs.length := by omega
 have hc := h.cells (g := g) rfl j _ (List.getElem?_eq_getElem hj2)
 have hadd : (⟨g, 0, none⟩ : Addr).add j = ⟨g, j, none⟩ := by unfold Addr.add; split <;> simp_all
 rw [hadd] at hc
 refine ⟨_, List.getElem?_eq_getElem hj2, hc, ?_⟩
 rcases h.2 with ⟨h0, _⟩ | ⟨g', cap, cur, e1, _, hg, _⟩
 ·cases h0
 ·injection e1 with ea
  injection ea with ea
  injection ea with ea
  subst ea
  simp [World.frozen?, hg]
theorem secells_erase (ss : List Se) (k : Nat) : secells (ss.eraseIdx k) = (secells ss).take (k * 3) ++ (secells ss).drop ((k + 1) * 3) := by
 rw [List.eraseIdx_eq_take_drop_succ, secells_app, secells_take, secells_drop]
theorem Tryz.zeroSeat (w : World) : (zeroValue 106).run Tryz.prog w = .ok (.agg #[.int .i64 0, .string ⟨#[]⟩, .int .u32 0]) w := by kernel_rfl
def DelTo (ss : List Se) (k g c base : Nat) (w : World) (e : Ending) (w' : World) : Prop := e = .returned (.slice (some ⟨g, 0, none⟩) (ss.eraseIdx k).length c) ∧ OwnSe w' base (.slice (some ⟨g, 0, none⟩) (ss.eraseIdx k).length c) (ss.eraseIdx k) ∧ w.grownBy w' (some g)
set_option maxHeartbeats 4000000 in
theorem sDel_any (h : OwnSe w base (.slice (some ⟨g, 0, none⟩) ss.length c) ss) (hk : k < ss.length) (hl : ss.length ≤ 1000) :
  Calls Tryz.prog 116 #[.slice (some ⟨g, 0, none⟩) ss.length c, .int .i64 k, .int .i64 ((k + 1 : Nat) : Int)] w (DelTo ss k g c base w) := by
 obtain ⟨i0, hi, hz0, hz1, hz2⟩ := info_parts Tryz.infoSeat
 have hcc : ss.length ≤ c := own_cap h
 have hcm : c ≤ 9223372036854775807 := by
  rcases h.2 with ⟨h0, _⟩ | ⟨g', cap, cur, e1, _, _, _, hm, _⟩
  ·cases h0
  ·injection e1 with _ _ ec; subst ec; exact hm
 obtain ⟨news, hnews⟩ : ∃ news, news = (secells ss).drop ((k + 1) * 3) := ⟨_, rfl⟩
 have hlen : news.length = (ss.length - (k + 1)) * 3 := by rw [hnews, List.length_drop, secells_length]; omega
 have hEL : (ss.eraseIdx k).length = k + (ss.length - (k + 1)) := by rw [List.length_eraseIdx_of_lt hk]; omega
 obtain ⟨A, hA, hsrc⟩ : ∃ A : Addr, (if c = k + 1 then (some ⟨g, 0, none⟩ : Option Addr) else some ⟨g, (k + 1) * 3, none⟩) = some A ∧ Hid (∀ t u, news[t]? = some u → w.drew.cell? (A.add t) = some u) := by
  by_cases h9 : c = k + 1
  ·refine ⟨⟨g, 0, none⟩, by simp [h9], fun t u hu => ?_⟩
   have h0 : news.length = 0 := by rw [hlen]; omega
   rw [List.length_eq_zero_iff.1 h0] at hu
   simp at hu
  ·refine ⟨⟨g, (k + 1) * 3, none⟩, by simp [h9], fun t u hu => ?_⟩
   rw [hnews, List.getElem?_drop] at hu
   have ht := (List.getElem?_eq_some_iff.1 hu).1
   rw [secells_length] at ht
   obtain ⟨v, hv, hcv, _⟩ := own_cellsS h ((k + 1) * 3 + t) ht
   rw [hu] at hv
   injection hv with hv
   rw [hv]
   have hadd : (⟨g, (k + 1) * 3, none⟩ : Addr).add t = ⟨g, (k + 1) * 3 + t, none⟩ := by unfold Addr.add; split <;> simp_all
   rw [hadd]
   exact hcv
 have s1 : Hid (news.length = (ss.length - (k + 1)) * 3) := hlen
 have s2 : Hid (∀ u ∈ news, u.oneCell' = true) := by
  intro u hu
  rw [hnews] at hu
  exact secells_one ss u (List.mem_of_mem_drop hu)
 have s3 : Hid (∀ t, t < news.length → (w.drew.cell? ⟨g, 0 + k * 3 + t, none⟩).isSome = true ∧ w.drew.frozen? ⟨g, 0 + k * 3 + t, none⟩ = false) := by
  intro t ht
  rw [hlen] at ht
  obtain ⟨v, _, hcv, hfz⟩ := own_cellsS h (0 + k * 3 + t) (by omega)
  exact ⟨by show (w.cell? _).isSome = true; rw [hcv]; rfl, hfz⟩
 obtain ⟨W1, hW1⟩ : ∃ W1, W1 = w.drew.setCells g (0 + k * 3) news := ⟨_, rfl⟩
 have hdr : w.drew.ownsRow base 106 3 (.slice (some ⟨g, 0, none⟩) ss.length c) ss.length (secells ss) := h
 have ho1 : W1.ownsRow base 106 3 (.slice (some ⟨g, 0, none⟩) (ss.eraseIdx k).length c) (ss.eraseIdx k).length (secells (ss.eraseIdx k)) := by
  rw [hW1, secells_erase, ← hnews, show (0 : Nat) + k * 3 = k * 3 by omega]
  exact own_moved hdr (by omega) (by rw [hlen, hEL]; omega) (by omega)
 obtain ⟨hx1, hn1 | ⟨g1, cap1, cur1, e1, hb1, hg1, hle1, hmx1, hs1, ht1⟩⟩ := ho1
 ·exact absurd hn1.1 (by intro h; cases h)
 injection e1 with ea eb ec
 injection ea with ea
 injection ea with ea
 subst ea; subst ec
 have ho1 : W1.ownsRow base 106 3 (.slice (some ⟨g, 0, none⟩) (ss.eraseIdx k).length c) (ss.eraseIdx k).length (secells (ss.eraseIdx k)) := ⟨hx1, .inr ⟨g, c, cur1, rfl, hb1, hg1, hle1, hmx1, hs1, ht1⟩⟩
 have hcl : ∀ ty cp, (Builtin.clear_ #[102] ty #[.slice (some ⟨g, (k + (ss.length - (k + 1))) * 3, none⟩) 1 cp]).run Tryz.prog W1 = .ok (.tuple #[]) (W1.setCells g ((k + (ss.length - (k + 1))) * 3) [.int .i64 0, .string ⟨#[]⟩, .int .u32 0]) :=
  fun ty cp => run_clear_one W1 _ _ ty _ [.int .i64 0, .string ⟨#[]⟩, .int .u32 0] Tryz.underlying102 Tryz.zeroSeat rfl (by intro u hu; simp at hu; rcases hu with rfl | rfl | rfl <;> rfl) g _ cp
   (fun j hj => by
     simp at hj
     rw [cell_of_row _ _ _ _ _ _ hg1, Array.getElem?_eq_getElem (by rw [hs1]; omega)]; rfl)
   (fun j hj => by simp [World.frozen?, hg1])
 have HF : Hid (DelTo ss k g c base w (.returned (.slice (some ⟨g, 0, none⟩) (k + (ss.length - (k + 1))) c)) (W1.setCells g ((k + (ss.length - (k + 1))) * 3) [.int .i64 0, .string ⟨#[]⟩, .int .u32 0])) := by
  refine ⟨by rw [hEL], own_beyond ho1 (by rw [hEL]; omega) (by simp; omega), ?_⟩
  have h1 := setCells_grownS g news (0 + k * 3) w.drew
  have h2 := setCells_grownS g [.int .i64 0, .string ⟨#[]⟩, .int .u32 0] ((k + (ss.length - (k + 1))) * 3) W1
  rw [← hW1] at h1
  exact ⟨h2.os.trans h1.os, h2.tape.trans h1.tape, h2.output.trans h1.output, Nat.le_trans h1.size h2.size, fun j hj hn => (h2.block j (Nat.lt_of_lt_of_le hj h1.size) hn).trans (h1.block j hj hn)⟩
 have hW : Hid (W1 = w.drew.setCells g (0 + k * 3) news) := hW1
 have hkc : k ≤ c := by omega
 have hk1 : k + 1 ≤ c := by omega
 have hlt : k + (ss.length - (k + 1)) + 1 = ss.length := by omega
 generalize ss.length = n at *
 have hb2 : ((k + 1 : Nat) : Int) ≤ (n : Int) := by omega
 have hb3 : (((k : Nat) : Int) == ((k + 1 : Nat) : Int)) = false := beq_eq_false_iff_ne.2 (by omega)
 have hb4 : (k : Int) ≤ ((k + 1 : Nat) : Int) := by omega
 have hb5 : k + (n - (k + 1)) ≤ n := by omega
 have hb6 : n - (k + (n - (k + 1))) = 1 := by omega
 generalize k + 1 = j at *
 clear hW1 hnews h hdr ho1 hlen hEL hx1 hg1 hle1 hmx1 hs1 ht1 hb1
 go_enter Tryz.func116, Tryz.ntmps116
 go_wp2_with fail
 go_region_law (refine step_append_room rfl (.tmp 22) (.tmp 25) 102 rfl 106 i0 3 Tryz.underlying102 hi hz1 g 0 k c (by simp [Act.eval, Act.put]) A (n - j) (c - j) news (by simp [Act.eval, Act.put]) s1.out hsrc.out s2.out (by omega) s3.out ?_; rw [← hW.out])
 go_wp2
 go_ret
 exact HF.out
end
theorem NewSe_any (w : World) : Calls Tryz.prog 46 #[] w fun e w' => e = .returned (.pointer (some ⟨w.heap.size, 0, none⟩)) ∧ SeM w' w.heap.size (.slice none 0 0) [] 0 ∧ Below w.heap.size w w' := by
 go_enter Tryz.func46, Tryz.ntmps46
 go_wp2
 go_ret
 exact ⟨rfl, ⟨heap_alloc_new w _, World.ownsRow_nil _ _ _ _⟩, rbox w _⟩
def SlTo (l : List Se) (w : World) (e : Ending) (w' : World) : Prop := ∃ A c, e = .returned (.slice A l.length c) ∧ OwnSe w' w.heap.size (.slice A l.length c) l ∧ Below w.heap.size w w'
theorem slTo_mk {l m : List Se} {n c : Nat} {A : Option Addr} {w w' : World} (hm : m = l) (hn : n = l.length) (h : OwnSe w' w.heap.size (.slice A n c) m) (hb : Below w.heap.size w w') : SlTo l w (.returned (.slice A n c)) w' := by subst hm; subst hn; exact ⟨A, c, rfl, h, hb⟩
set_option maxHeartbeats 1000000 in
theorem CloneSe_any (l : List Se) (A : Option Addr) (c : Nat) (w : World) (h : SeAt w A c l) (hl : l.length ≤ 1000) : Calls Tryz.prog 114 #[.slice A l.length c] w (SlTo l w) := by
 obtain ⟨i0, hi, hz0, hz1, hz2⟩ := info_parts Tryz.infoSeat
 have hcc := h.1
 have qT : ∀ (w : World) (a : Option Addr) (n c n' c' : Nat), (binOp .eql 102 (.slice a n c) (.slice none n' c')).run Tryz.prog w = .ok (.bool a.isNone) w := fun w a n c n' c' => Lib.run_eql_slice_nil w _ _ a n c n' c' Tryz.underlying102
 cases A with
 | none =>
  have h0 : l = [] := by
   cases l with
   | nil => rfl
   | cons a r => obtain ⟨g, e, _⟩ := h.2 0 (by simp); cases e
  subst h0
  clear h
  go_enter Tryz.func114, Tryz.ntmps114
  go_wp2
  go_ret
  exact slTo_mk rfl rfl (World.ownsRow_nil _ _ _ _) (Below.refl _ _)
 | some a =>
  by_cases h0 : l.length = 0
  ·have e0 : l = [] := List.length_eq_zero_iff.1 h0
   subst e0
   clear h h0
   go_enter Tryz.func114, Tryz.ntmps114
   go_wp2_with (at_builtin; go_must (refine wpList_append_none rfl (.tmp 5) (.tmp 6) 102 rfl 106 i0 Tryz.underlying102 hi (some ⟨w.heap.size, 0, none⟩) 0 0 rfl (Nat.le_refl _) _ _ _ rfl rfl ?_))
   go_ret
   exact slTo_mk rfl rfl (World.ownsRow_lit w #[] 0 (Nat.le_refl _) (Nat.zero_le _) (by simp)) (rbox w _)
  ·have hpos : 0 < l.length := by omega
   obtain ⟨g, e, hgl, _⟩ := h.2 0 hpos
   obtain rfl := Option.some.inj e
   have HC : Hid (∀ O, ∀ j u, (secells l)[j]? = some u → (w.alloc O).cell? ((⟨g, 0, none⟩ : Addr).add j) = some u) := fun O => sat_cells (h.below (rbox w O))
   have HL := Lib.hid (secells_length l)
   have HO0 : Hid ((w.alloc (.cells #[] 106)).ownsRow w.heap.size 106 3 (.slice (some ⟨w.heap.size, 0, none⟩) 0 0) 0 []) := World.ownsRow_lit w #[] 0 (Nat.le_refl _) (Nat.zero_le _) (by simp)
   clear h e h0
   go_enter Tryz.func114, Tryz.ntmps114
   go_wp2_with (at_builtin; go_must (refine wpList_append_lies _ rfl (.tmp 5) (.tmp 6) 102 rfl w.heap.size 106 i0 _ 3 32 Tryz.underlying102 hi hz0 hz1 hz2 rfl (by decide) (.slice (some ⟨w.heap.size, 0, none⟩) 0 0) 0 [] rfl HO0.out ⟨g, 0, none⟩ l.length c (secells l) rfl HL.out (HC.out _) (secells_one l) hpos (by unfold maxLen; omega) (by omega) (by simp) _ rfl ?_); intro g9 cp9 w9 hown9 hg9 hat9 hlt9)
   go_ret
   have hown : OwnSe w9 w.heap.size (.slice (some ⟨g9, 0, none⟩) l.length cp9) l := by
    show World.ownsRow _ _ _ _ _ _ _
    simpa using hown9
   exact slTo_mk rfl (by simp) (by simpa using hown) (((rbox w _)).grown hg9 (by simp) (fun j e => by cases e; exact Nat.le_refl _))
section
variable {b : Nat} {v : Value} {ss : List Se} {last : Int} {w : World}
theorem ListSe_any (h : SeM w b v ss last) (hl : ss.length ≤ 1000) : Calls Tryz.prog 47 #[.pointer (some ⟨b, 0, none⟩)] w (SlTo ss w) := by
 obtain ⟨A, c, rfl⟩ := own_slice h.own
 have q0 := h.q0
 have CL := Lib.hid (CloneSe_any ss A c w (seAt_of h.own) hl)
 clear h
 go_enter Tryz.func47, Tryz.ntmps47
 go_wp2_with (go_at_call 114; refine CL.out.mono ?_; rintro e w2 ⟨A2, c2, rfl, ho2, hb2⟩)
 go_ret
 exact slTo_mk rfl rfl ho2 hb2
theorem seTo_chg {w w1 w' : World} {b : Nat} {v v1 : Value} {ss : List Se} {last : Int} (hc : Chg (gOwn b v) w w1) (h1 : ∀ k, v1.ownBlock = some k → v.ownBlock = some k ∨ w.heap.size ≤ k) (h : SeTo w1 b v1 ss last w') : SeTo w b v ss last w' := by
 obtain ⟨v', k1, k2, k3⟩ := h
 refine ⟨v', k1, ⟨k2.os.trans hc.os, k2.tape.trans hc.tape, k2.output.trans hc.output, Nat.le_trans hc.size k2.size, fun i hi hn => ?_⟩, fun k e => (k3 k e).elim (h1 k) (fun h => .inr (Nat.le_trans hc.size h))⟩
 refine (k2.block i (Nat.lt_of_lt_of_le hi hc.size) fun h9 => ?_).trans (hc.block i hi hn)
 rcases h9 with h9 | h9
 ·exact hn (.inl h9)
 ·rcases h1 i h9 with h8 | h8
  ·exact hn (.inr h8)
  ·omega
theorem seM_put {wa w' : World} {v' : Value} {ss' : List Se} (h : SeM w b v ss last) (hb : Below w.heap.size w wa) (hg : wa.grownBy w' v.ownBlock) (ho : OwnSe w' 0 v' ss') (hn : ∀ k, v'.ownBlock = some k → v.ownBlock = some k ∨ w.heap.size ≤ k) :
  SeTo w b v ss' last (w'.setCell ⟨b, 0, none⟩ v') := by
 have ha := h.below hb
 have hr : w'.heap[b]? = some (.cells #[v, .int .i64 last] 203 (0, 0)) := (hg.block b ha.lt (fun e => ha.ne e.symm)).trans ha.row
 have hne : v'.ownBlock = none ∨ v'.ownBlock ≠ some b := by
  right
  intro e
  rcases hn b e with e2 | e2
  ·exact h.ne e2
  ·have := h.lt; omega
 have e := heap_set (j := 0) hr v'
 refine ⟨v', ⟨by simpa using e, ?_⟩, ?_, hn⟩
 ·exact World.ownsRow.kept ho (grown_setCell _ _ _ _) hne
 ·have c1 : Chg (gOwn b v) w wa := Chg.of_below hb
  have c2 : Chg (gOwn b v) wa w' := Chg.of_grown hg fun _ e => .inr e
  have c3 : Chg (gOwn b v) w' (w'.setCell ⟨b, 0, none⟩ v') := Chg.of_grown (grown_setCell _ _ _ _) fun k e => by cases e; exact .inl rfl
  exact (c1.trans c2).trans c3
theorem sIx_neg {ss : List Se} {n : Int} (h : ¬ sAt ss n < ss.length) : sIx ss n = -1 := if_neg h
theorem sIx_pos {ss : List Se} {n : Int} (h : sAt ss n < ss.length) : sIx ss n = (sAt ss n : Nat) := if_pos h
theorem Close_none (h : SeM w b v ss last) (hl : ss.length ≤ 1000) (n : Int) (hn : ¬ sAt ss n < ss.length) :
  Calls Tryz.prog 48 #[.pointer (some ⟨b, 0, none⟩), .int .i64 n] w fun e w' => e = .returned (.iface 39 (.int .i64 3)) ∧ Below w.heap.size w w' := by
 have FI := Lib.hid (sfind_any h hl n)
 rw [sIx_neg hn] at FI
 clear h hn
 go_enter Tryz.func48, Tryz.ntmps48
 go_wp2_with (go_at_call 115; refine FI.out.mono ?_; rintro e w2 ⟨rfl, hb2⟩)
 go_ret
 exact ⟨rfl, hb2⟩
set_option maxHeartbeats 1000000 in
theorem Close_ok (h : SeM w b v ss last) (hl : ss.length ≤ 1000) (n : Int) (hn : sAt ss n < ss.length) :
  Calls Tryz.prog 48 #[.pointer (some ⟨b, 0, none⟩), .int .i64 n] w fun e w' => e = .returned .nilIface ∧ SeTo w b v (ss.eraseIdx (sAt ss n)) last w' := by
 have FI := Lib.hid (sfind_any h hl n)
 rw [sIx_pos hn] at FI
 have HM := Lib.hid h
 obtain ⟨g, c, hv⟩ : ∃ g c, v = .slice (some ⟨g, 0, none⟩) ss.length c := by
  obtain ⟨A, c, rfl⟩ := own_slice h.own
  obtain ⟨g, cap', e, _⟩ := own_form h.own (by omega)
  exact ⟨g, cap', e⟩
 subst hv
 generalize hk : sAt ss n = k at *
 have DL := Lib.hid (fun W (hW : Below w.heap.size w W) => sDel_any (h.below hW).own hn hl)
 have hk0 : ¬ ((k : Nat) : Int) < 0 := by omega
 have hwk : IntKind.i64.wrap ((k : Int) + 1) = ((k + 1 : Nat) : Int) := by rw [IntKind.wrap_i64]; omega
 clear h hk
 go_enter Tryz.func48, Tryz.ntmps48
 go_upto_region 4 with (go_at_call 115; refine FI.out.mono ?_; rintro e w2 ⟨rfl, hb2⟩; have HB2 := Lib.hid hb2; clear hb2)
 have HM2 := Lib.hid (HM.out.below HB2.out)
 have q0 := HM2.out.q0
 have D2 := Lib.hid (DL.out w2 HB2.out)
 clear DL FI
 go_wp2_with (go_at_call 116; refine D2.out.mono ?_; rintro e w3 ⟨rfl, ho3, hg3⟩; have HO3 := Lib.hid ho3; have HG3 := Lib.hid hg3; have hr3 := (hg3.block b HM2.out.lt (fun e => HM2.out.ne e.symm)).trans HM2.out.row; have f0 := fzG hr3 0; have p0 := lq0 hr3; clear ho3 hg3 hr3)
 go_ret
 exact ⟨rfl, seM_put HM.out HB2.out HG3.out HO3.out (fun k e => .inl (by simpa [Value.ownBlock] using e))⟩
end
def opE (us : List Tx) (x : Tx) (n : Nat) : Int := if x ∈ us then if 12 ≤ n then 5 else 0 else 3
def OpTo (k : Int) (x : Tx) (w0 : World) (b : Nat) (v : Value) (ss : List Se) (last : Int) (e : Ending) (w' : World) : Prop :=
 if k = 0 then e = .returned (.tuple #[.int .i64 (last + 1), .nilIface]) ∧ SeTo w0 b v (ss ++ [⟨last + 1, x, 0⟩]) (last + 1) w' else e = .returned (.tuple #[.int .i64 0, .iface 39 (.int .i64 k)]) ∧ SeTo w0 b v ss last w'
theorem opTo_no {k j : Int} {x : Tx} {w w' : World} {b : Nat} {v : Value} {ss : List Se} {last : Int} (hk : k = j) (hj : j ≠ 0) (h : SeM w b v ss last) (hb : Below w.heap.size w w') : OpTo k x w b v ss last (.returned (.tuple #[.int .i64 0, .iface 39 (.int .i64 j)])) w' := by
 subst hk; unfold OpTo; rw [if_neg hj]; exact ⟨rfl, seTo_same h hb⟩
theorem opTo_ok {k n : Int} {x : Tx} {w w' : World} {b : Nat} {v : Value} {ss : List Se} {last : Int} (hk : k = 0) (hn : n = last + 1) (h : SeTo w b v (ss ++ [⟨last + 1, x, 0⟩]) (last + 1) w') : OpTo k x w b v ss last (.returned (.tuple #[.int .i64 n, .nilIface])) w' := by
 subst hk; subst hn; unfold OpTo; rw [if_pos rfl]; exact ⟨rfl, h⟩
section
variable {w4 : World} {rb o : Nat} {ns : List Tx} {bl : List Nat} {r : Rt} (R : RtB w4 rb o ns bl r) {b : Nat} {v : Value} {ss : List Se} {last : Int} {w : World}
set_option maxHeartbeats 4000000 in
include R in
theorem Open_any (h : SeM w b v ss last) (hw : Below w4.heap.size w4 w) (hl : ss.length ≤ 1000) (h0 : 0 ≤ last) (h1 : last ≤ 1000000000) (x : Tx) :
  Calls Tryz.prog 49 #[.pointer (some ⟨b, 0, none⟩), .pointer (some ⟨rb, 0, none⟩), .string (bs x)] w (OpTo (opE (hnm r.users) x ss.length) x w b v ss last) := by
 have US : Hid (∀ W, Below w.heap.size w W → Calls Tryz.prog 36 #[.pointer (some ⟨rb, 0, none⟩)] W (NmTo2 (hnm r.users) W)) := fun W hW => R.US W (below_then hw hW hw.size)
 have hul : (hnm r.users).length ≤ 12 := by have := R.nu; unfold hnm; rw [List.length_map]; exact this
 have HM := Lib.hid h
 clear R hw
 generalize hnm r.users = us at *
 have HC : Hid (∀ A c W, ListAt W A c us → Calls Tryz.prog 117 #[.slice A us.length c, .string (bs x)] W fun e w' => e = .returned (.bool (decide (x ∈ us))) ∧ W = w') := fun A c W hL => Contains_str us x A c W hL (by omega)
 have HE : Hid (opE us x ss.length = if x ∈ us then if 12 ≤ ss.length then 5 else 0 else 3) := rfl
 generalize opE us x ss.length = k at *
 have hwl : IntKind.i64.wrap (last + 1) = last + 1 := by rw [IntKind.wrap_i64]; omega
 clear h
 by_cases hx : x ∈ us
 ·have hd := decide_eq_true hx
  have HE1 : Hid (k = if 12 ≤ ss.length then 5 else 0) := by show _ = _; rw [HE.out, if_pos hx]
  clear HE hx
  generalize decide (x ∈ us) = dx at *
  subst hd
  have cells0 := HM.out.q0
  by_cases hf : 12 ≤ ss.length
  ·have HK : Hid (k = 5) := by show _ = _; rw [HE1.out, if_pos hf]
   have hfi : (12 : Int) ≤ ss.length := by omega
   clear HE1 hf
   obtain ⟨A, c, rfl⟩ := own_slice HM.out.own
   clear cells0
   go_enter Tryz.func49, Tryz.ntmps49
   go_upto_region 3 with (first
    | (go_at_call 36; refine (US.out _ (Below.refl _ _)).mono ?_; rintro e w2 ⟨v2, rfl, ho2, hb2⟩; obtain ⟨A2, c2, rfl⟩ := own_slice ho2; have HL2 := Lib.hid (listAt_of ho2); have HB2 := Lib.hid hb2; have q0 := (HM.out.below hb2).q0; clear ho2 hb2)
    | (go_at_call 117; refine (HC.out A2 c2 _ HL2.out).mono ?_; rintro e w3 ⟨rfl, rfl⟩))
   go_wp2
   go_ret2
   exact opTo_no HK.out (by decide) HM.out HB2.out
  ·have HK : Hid (k = 0) := by show _ = _; rw [HE1.out, if_neg hf]
   have hfi : ¬ (12 : Int) ≤ ss.length := by omega
   clear HE1 hf cells0
   obtain ⟨A, c, rfl⟩ := own_slice HM.out.own
   obtain ⟨i0, hi, hz0, hz1, hz2⟩ := info_parts Tryz.infoSeat
   go_enter Tryz.func49, Tryz.ntmps49
   go_upto_region 3 with (first
    | (go_at_call 36; refine (US.out _ (Below.refl _ _)).mono ?_; rintro e w2 ⟨v2, rfl, ho2, hb2⟩; obtain ⟨A2, c2, rfl⟩ := own_slice ho2; have HL2 := Lib.hid (listAt_of ho2); have HB2 := Lib.hid hb2; have q0 := (HM.out.below hb2).q0; have q1 := (HM.out.below hb2).q1; have f1 := (HM.out.below hb2).fz 1; clear ho2 hb2)
    | (go_at_call 117; refine (HC.out A2 c2 _ HL2.out).mono ?_; rintro e w3 ⟨rfl, rfl⟩))
   go_upto_region 6 with fail
   have HM2 := HM.out.below HB2.out
   have e7 := heap_set (j := 1) HM2.row (.int .i64 (last + 1))
   have hg7 := grown_setCell w2 b 1 (.int .i64 (last + 1))
   have HM7 : Hid (SeM (w2.setCell ⟨b, 1, none⟩ (.int .i64 (last + 1))) b (.slice A ss.length c) ss (last + 1)) := ⟨by simpa using e7, World.ownsRow.kept HM2.own hg7 (.inr HM2.ne)⟩
   have HC7 : Hid (Chg (gOwn b (.slice A ss.length c)) w (w2.setCell ⟨b, 1, none⟩ (.int .i64 (last + 1)))) := (Chg.of_below HB2.out).trans (Chg.of_grown hg7 fun k e => by cases e; exact .inl rfl)
   clear q0 q1 f1 HM2 e7 hg7 HL2 HC US
   generalize w2.setCell ⟨b, 1, none⟩ (.int .i64 (last + 1)) = w7 at *
   have p0 := HM7.out.q0
   have p1 := HM7.out.q1
   have p0a : ∀ O, (w7.alloc O).cell? ⟨b, 0, none⟩ = some (.slice A ss.length c) := fun O => (World.cell?_alloc_lt _ _ _ HM7.out.lt).trans p0
   have p1a : ∀ O, (w7.alloc O).cell? ⟨b, 1, none⟩ = some (.int .i64 (last + 1)) := fun O => (World.cell?_alloc_lt _ _ _ HM7.out.lt).trans p1
   have t1 : (w7.alloc (.cells #[.int .i64 (last + 1), .string (bs x), .int .u32 0] 106)).drew.ownsRow 0 106 3 (.slice A ss.length c) ss.length (secells ss) := World.ownsRow.alloc HM7.out.own _
   have t3 : ∀ j u, ([.int .i64 (last + 1), .string (bs x), .int .u32 0] : List Value)[j]? = some u → (w7.alloc (.cells #[.int .i64 (last + 1), .string (bs x), .int .u32 0] 106)).drew.cell? ((⟨w7.heap.size, 0, none⟩ : Addr).add j) = some u := cells_newGd w7 [.int .i64 (last + 1), .string (bs x), .int .u32 0] 106
   have t5 : ss.length + 1 ≤ maxLen := by unfold maxLen; omega
   have t6 : (ss.length + 1) * 32 ≤ 140737488355328 := by omega
   have HG1 : Hid (∀ u ∈ ([.int .i64 (last + 1), .string (bs x), .int .u32 0] : List Value), u.oneCell' = true) := by intro u hu; simp at hu; rcases hu with rfl | rfl | rfl <;> rfl
   go_region_law (
    (refine step_append_lies _ rfl (.tmp 34) (.tmp 41) 102 rfl 0 106 i0 _ 3 32 Tryz.underlying102 hi hz0 hz1 hz2 rfl (by decide) (.slice A ss.length c) ss.length (secells ss) (by simp [Act.eval]) t1 ⟨w7.heap.size, 0, none⟩ 1 1 [.int .i64 (last + 1), .string (bs x), .int .u32 0] (by simp [Act.eval]) rfl t3 HG1.out (by decide) t5 t6 (Nat.zero_le _) _ rfl ?_; intro g1 cp1 X1 hown1 hg1 hat1 hlt1
     have hMa : SeM (w7.alloc (.cells #[.int .i64 (last + 1), .string (bs x), .int .u32 0] 106)).drew b (.slice A ss.length c) ss (last + 1) := HM7.out.below (below_drew (rbox w7 _))
     have hr9 : X1.heap[b]? = some (.cells #[.slice A ss.length c, .int .i64 (last + 1)] 203 (0, 0)) := (hg1.block b hMa.lt (fun e => hMa.ne e.symm)).trans hMa.row
     have z1 : X1.frozen? ⟨b, 0, none⟩ = false := by simp [World.frozen?, hr9]
     have z2 := lq0 hr9
     have HR9 := Lib.hid hr9
     have HOW : Hid (OwnSe X1 0 (.slice (some ⟨g1, 0, none⟩) (ss.length + 1) cp1) (ss ++ [⟨last + 1, x, 0⟩])) := by show World.ownsRow _ _ _ _ _ _ _; rw [List.length_append, secells_snoc]; exact hown1
     have HGR := Lib.hid hg1
     have HAT : Hid (Value.ownBlock (.slice A ss.length c) = some g1 ∨ w7.heap.size ≤ g1) := hat1.imp id (fun e => by have e2 : g1 = (w7.alloc (.cells #[.int .i64 (last + 1), .string (bs x), .int .u32 0] 106)).heap.size := e; have h9 := (rbox w7 (.cells #[.int .i64 (last + 1), .string (bs x), .int .u32 0] 106)).size; omega)
     clear hown1 hg1 hat1 hr9 hMa))
   all_goals
    have x1 : (X1.setCell ⟨b, 0, none⟩ (.slice (some ⟨g1, 0, none⟩) (ss.length + 1) cp1)).cell? ⟨b, 1, none⟩ = some (.int .i64 (last + 1)) := lq1 (by simpa using heap_set (j := 0) HR9.out (.slice (some ⟨g1, 0, none⟩) (ss.length + 1) cp1))
    go_wp2
    go_ret2
    refine opTo_ok HK.out rfl (seTo_chg HC7.out (fun k e => .inl e) ?_)
    have hp := seM_put (v' := .slice (some ⟨g1, 0, none⟩) (ss.length + 1) cp1) HM7.out (below_drew (rbox w7 _)) HGR.out HOW.out (fun k e => by simp only [Value.ownBlock, Option.some.injEq] at e; subst e; exact HAT.out)
    exact hp
 ·have hd := decide_eq_false hx
  have HK : Hid (k = 3) := by show _ = _; rw [HE.out, if_neg hx]
  clear HE hx
  generalize decide (x ∈ us) = dx at *
  subst hd
  go_enter Tryz.func49, Tryz.ntmps49
  go_wp2_with (first
   | (go_at_call 36; refine (US.out _ (Below.refl _ _)).mono ?_; rintro e w2 ⟨v2, rfl, ho2, hb2⟩; obtain ⟨A2, c2, rfl⟩ := own_slice ho2; have HL2 := Lib.hid (listAt_of ho2); have HB2 := Lib.hid hb2; clear ho2 hb2)
   | (go_at_call 117; refine (HC.out A2 c2 _ HL2.out).mono ?_; rintro e w3 ⟨rfl, rfl⟩))
  go_ret2
  exact opTo_no HK.out (by decide) HM.out HB2.out
end
end Go.Proofs.YtgffbgmieppckaaGreatDoor
