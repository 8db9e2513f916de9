import Derived.Test.YtaoinedndnleoaaGreatSt1
import Derived.Deep.RegionHeld3
namespace Go.Proofs.YtaoinedndnleoaaGreat
set_option maxRecDepth 100000
open Go.ChangeShapes Go.WideShapes Go.ChangeAt Go.RowKit
theorem icells_set (l : List Int) (k : Nat) (v : Int) : icells (l.set k v) = (icells l).set k (.int .i64 v) := by simp [icells, List.map_set]
theorem row_set {W : World} {g : Nat} {l : List Int} {k : Nat} {v : Int} (h : W.heap[g]? = some (.cells (icells l).toArray 3 (0, 0))) : (W.setCell ⟨g, k, none⟩ (.int .i64 v)).heap[g]? = some (.cells (icells (l.set k v)).toArray 3 (0, 0)) := by
 rw [heap_set (j := k) h, icells_set]
 simp
theorem entC_past (now : Int) : ∀ (l : List Nat) (x : Cf), (entC now x l).past = x.past
 | [], _ => rfl
 | k :: l, x => entC_past now l (ent1 now x k)
section
variable {W X : World} {gS : Nat}
theorem ints_frame {A : Option Addr} {n c : Nat} {zs : List Int} (h : IntsAt W (.slice A n c) zs) (hf : ∀ g, g < W.heap.size → g ≠ gS → X.heap[g]? = W.heap[g]?) (hA : ∀ b off, A = some ⟨b, off, none⟩ → b ≠ gS) (hs : W.heap.size ≤ X.heap.size) : IntsAt X (.slice A n c) zs := by
 obtain ⟨A', c', e, hl, hc⟩ := h
 refine ⟨A', c', e, hl, fun k hk => ?_⟩
 obtain ⟨b, off, e2, hb, hx, hw⟩ := hc k hk
 injection e with e1
 exact ⟨b, off, e2, by omega, (World.cell?_of_block (a := ⟨b, off + k, none⟩) (hf b hb (hA b off (by rw [e1, e2])))).trans hx, hw⟩
theorem u32s_frame {v : Value} {rs : List Nat} {l : List Int} (h : U32sAt W v rs) (hS : W.heap[gS]? = some (.cells (icells l).toArray 3 (0, 0))) (hf : ∀ g, g < W.heap.size → g ≠ gS → X.heap[g]? = W.heap[g]?) (hs : W.heap.size ≤ X.heap.size) : U32sAt X v rs := by
 obtain ⟨A, c, e, hl, hc⟩ := h
 refine ⟨A, c, e, hl, fun k hk => ?_⟩
 obtain ⟨b, off, e2, hb, hx, hw⟩ := hc k hk
 have hne : b ≠ gS := fun e9 => by
  subst e9
  rw [cell_of_row _ _ _ _ _ _ hS] at hx
  simp only [icells, List.getElem?_toArray, List.getElem?_map] at hx
  cases h9 : l[off + k]? with
  | none => rw [h9] at hx; cases hx
  | some z => rw [h9] at hx; simp at hx
 exact ⟨b, off, e2, by omega, (World.cell?_of_block (a := ⟨b, off + k, none⟩) (hf b hb hne)).trans hx, hw⟩
end
set_option maxHeartbeats 4000000 in
theorem entered_any (n : Nat) (x : Cf) (vP : Value) (gS base : Nat) (l : List Nat) (A : Option Addr) (cap : Nat) (now : Int) (w : World) (hn : n ≤ 24) (hR : CfR base w n x vP gS) (hb : base ≤ w.heap.size) (hl : IntsAt w (.slice A l.length cap) (l.map fun k : Nat => (k : Int))) (hk : ∀ k ∈ l, k < n)
  (hA : ∀ b off, A = some ⟨b, off, none⟩ → b ≠ gS) (hll : l.length ≤ 1000) (hw : (Lit.int .i64 now).wf = true) :
  Calls Tryz.prog 73 #[cfV x vP gS n, .slice A l.length cap, .int .i64 now] w (fun e w' => Below base w w' ∧ e = .returned (cfV (entC now x l) vP gS n) ∧ CfR base w' n (entC now x l) vP gS) := by
 obtain ⟨AP, cP, rfl⟩ : ∃ AP cP, vP = .slice AP n cP := by obtain ⟨a, c, e⟩ := u32s_form hR.uP; rw [hR.ok.lp] at e; exact ⟨a, c, e⟩
 have R0 : ((w.alloc (.cells #[.int .u32 (x.set : Nat), .slice AP n cP, .slice (some ⟨gS, 0, none⟩) n n] 40)).alloc (.cells #[.int .u32 0, .slice none 0 0, .slice none 0 0] 40)).heap[w.heap.size]? = _ := (heap_alloc_old _ _ (by simp)).trans (heap_alloc_new _ _)
 have R1 : ((w.alloc (.cells #[.int .u32 (x.set : Nat), .slice AP n cP, .slice (some ⟨gS, 0, none⟩) n n] 40)).alloc (.cells #[.int .u32 0, .slice none 0 0, .slice none 0 0] 40)).heap[w.heap.size + 1]? = some (.cells #[.int .u32 0, .slice none 0 0, .slice none 0 0] 40 (0, 0)) := by
  have := heap_alloc_new (w.alloc (.cells #[.int .u32 (x.set : Nat), .slice AP n cP, .slice (some ⟨gS, 0, none⟩) n n] 40)) (.cells #[.int .u32 0, .slice none 0 0, .slice none 0 0] 40)
  simpa using this
 have hB0 : Below w.heap.size w ((w.alloc (.cells #[.int .u32 (x.set : Nat), .slice AP n cP, .slice (some ⟨gS, 0, none⟩) n n] 40)).alloc (.cells #[.int .u32 0, .slice none 0 0, .slice none 0 0] 40)) := ((Below.refl _ _).alloc (Nat.le_refl _) _).alloc (by simp) _
 have HF0 : Hid (∀ g, g < w.heap.size → g ≠ gS → ((w.alloc (.cells #[.int .u32 (x.set : Nat), .slice AP n cP, .slice (some ⟨gS, 0, none⟩) n n] 40)).alloc (.cells #[.int .u32 0, .slice none 0 0, .slice none 0 0] 40)).heap[g]? = w.heap[g]?) := fun g hg _ => hB0.block g hg
 have HB0 := Lib.hid (hB0.mono hb)
 have hgw := (Array.getElem?_eq_some_iff.1 hR.rS).1
 have HS0 := Lib.hid ((hB0.block _ hgw).trans hR.rS)
 have HL := Lib.hid hl
 have HR := Lib.hid hR
 have HK := Lib.hid hk
 have HA := Lib.hid hA
 have HOK : Hid (∀ j, CfOk n (entC now x (l.take j))) := fun j => hR.ok.entC hw fun k h => hk k (List.mem_of_mem_take h)
 have HP : Hid ((entC now x l).past = x.past) := entC_past now l x
 have hlo := hR.lo
 clear hR hl hB0 hk hA
 go_enter Tryz.func73, Tryz.ntmps73
 go_upto_region 2 with fail
 generalize (w.alloc (.cells #[.int .u32 (x.set : Nat), .slice AP n cP, .slice (some ⟨gS, 0, none⟩) n n] 40)).alloc (.cells #[.int .u32 0, .slice none 0 0, .slice none 0 0] 40) = w0 at *
 go_loopw [11] (fun i wr => ∃ j : Nat, j ≤ l.length ∧ i = .int .i64 j ∧ Hid (wr.heap[w.heap.size]? = some (.cells #[.int .u32 ((entC now x (l.take j)).set : Nat), .slice AP n cP, .slice (some ⟨gS, 0, none⟩) n n] 40 (0, 0))) ∧ Hid (wr.heap[w.heap.size + 1]? = some (.cells #[.int .u32 0, .slice none 0 0, .slice none 0 0] 40 (0, 0))) ∧
  Hid (wr.heap[gS]? = some (.cells (icells (entC now x (l.take j)).since).toArray 3 (0, 0))) ∧ Hid (∀ g, g < w.heap.size → g ≠ gS → wr.heap[g]? = w.heap[g]?) ∧ Hid (Below base w wr)) (fun i _ => l.length - (intOf i).toNat)
 case atStart => exact ⟨0, Nat.zero_le _, rfl, R0, R1, HS0.out, HF0.out, HB0.out⟩
 case round =>
  obtain ⟨j, hj, rfl, HX, HZ, HS, HF, HB⟩ := hrel
  have hxs : w.heap.size + 1 < wr.heap.size := (Array.getElem?_eq_some_iff.1 HZ.out).1
  have hok := HOK.out j
  by_cases hlt : j < l.length
  ·have hji : (j : Int) < l.length := by omega
   obtain ⟨b9, off9, rfl, hb9, hx9⟩ := nat_cell (ints_frame HL.out HF.out HA.out (by omega)) hlt
   have hsn : entC now x (l.take (j + 1)) = ⟨(entC now x (l.take j)).set ||| 2 ^ l[j], (entC now x (l.take j)).past, (entC now x (l.take j)).since.set l[j] now⟩ := by rw [List.take_succ_eq_append_getElem hlt, entC_snoc]; rfl
   have hkn := HK.out _ (List.getElem_mem hlt)
   have HSN := Lib.hid hsn
   clear hsn
   generalize entC now x (l.take j) = y at *
   generalize l[j] = k at *
   have hy32 : y.set < 4294967296 := Nat.lt_of_lt_of_le hok.st (Nat.pow_le_pow_right (n := 2) (by omega) (show n ≤ 32 by omega))
   have h2 := two_lt (k := k) (by omega)
   have hor := u32_or_nat y.set (2 ^ k) hy32 h2
   have hsh := two_val (i := k) (by omega)
   generalize 2 ^ k = p at *
   have x0 := cell_of_row _ _ 0 _ _ _ HX.out
   have f0 := fzc_of HX.out 0
   have hkI : (k : Int) < n := by omega
   have hls := hok.ls
   have HB4 : Hid (Below base w (wr.setCell ⟨w.heap.size, 0, none⟩ (.int .u32 ((y.set ||| p : Nat) : Int))).drew) := below_drew (set_below HB.out (by omega) hb)
   have HX4 : Hid ((wr.setCell ⟨w.heap.size, 0, none⟩ (.int .u32 ((y.set ||| p : Nat) : Int))).drew.heap[w.heap.size]? = some (.cells #[.int .u32 ((y.set ||| p : Nat) : Int), .slice AP n cP, .slice (some ⟨gS, 0, none⟩) n n] 40 (0, 0))) := by
    have := heap_set (j := 0) HX.out (.int .u32 ((y.set ||| p : Nat) : Int))
    show (wr.setCell ⟨w.heap.size, 0, none⟩ (.int .u32 ((y.set ||| p : Nat) : Int))).heap[w.heap.size]? = _
    simpa using this
   have HO4 : Hid (∀ g, g < wr.heap.size → g ≠ w.heap.size → (wr.setCell ⟨w.heap.size, 0, none⟩ (.int .u32 ((y.set ||| p : Nat) : Int))).drew.heap[g]? = wr.heap[g]?) := fun g hg h9 => (grown_setCell _ _ _ _).block g hg (by simpa using h9)
   have HS4 : Hid ((wr.setCell ⟨w.heap.size, 0, none⟩ (.int .u32 ((y.set ||| p : Nat) : Int))).drew.heap.size = wr.heap.size) := by show (wr.setCell _ _).heap.size = _; simp [World.setCell]
   go_upto_region 4 with fail
   go_region
   go_upto_region 5 with fail
   generalize (wr.setCell ⟨w.heap.size, 0, none⟩ (.int .u32 ((y.set ||| p : Nat) : Int))).drew = X at *
   have hXs := HS4.out
   have rZ := (HO4.out _ hxs (by omega)).trans HZ.out
   have rS := (HO4.out gS (by omega) (by omega)).trans HS.out
   have rF : ∀ g, g < w.heap.size → g ≠ gS → X.heap[g]? = w.heap[g]? := fun g hg h9 => (HO4.out g (by omega) (by omega)).trans (HF.out g hg h9)
   have HRZ := Lib.hid rZ
   have HRF := Lib.hid rF
   have HRS := Lib.hid rS
   clear x0 f0 HO4 HS4 HX HZ HS HF HB rF rZ
   have x2 := cell_of_row _ _ 2 _ _ _ HX4.out
   have hkc : X.cell? ⟨gS, k, none⟩ = some (.int .i64 (y.since.getD k 0)) := by rw [cell_of_row _ _ _ _ _ _ rS]; simp [icells, List.getD_eq_getElem?_getD, hls, hkn]
   have f9 := fzc_of rS k
   clear rS
   go_wp2
   have gb : ∀ g, g < X.heap.size → g ≠ gS → (X.setCell ⟨gS, k, none⟩ (.int .i64 now)).heap[g]? = X.heap[g]? := fun g hg h9 => (grown_setCell _ _ _ _).block g hg (by simpa using h9)
   have HGB := Lib.hid gb
   clear gb
   go_roundw
   case rel =>
    refine ⟨j + 1, by omega, by go_num, ?_, ?_, ?_, ?_, ?_⟩
    ·show _ = _
     rw [HGB.out _ (by omega) (by omega), HX4.out, HSN.out]
    ·exact (HGB.out _ (by omega) (by omega)).trans HRZ.out
    ·show _ = _
     rw [HSN.out]
     exact row_set HRS.out
    ·exact fun g hg h9 => (HGB.out g (by omega) h9).trans (HRF.out g hg h9)
    ·exact set_below HB4.out (by omega) hlo
   case measure => simp [intOf]; omega
  ·have ej : j = l.length := by omega
   subst ej
   rw [List.take_length] at HX HS hok
   obtain ⟨y, hy⟩ : ∃ y, y = entC now x l := ⟨_, rfl⟩
   rw [← hy] at HX HS hok HP
   have HY := Lib.hid hy
   clear hy
   have x0 := cell_of_row _ _ 0 _ _ _ HX.out
   have x1 := cell_of_row _ _ 1 _ _ _ HX.out
   have x2 := cell_of_row _ _ 2 _ _ _ HX.out
   have d0 := cell_of_row _ _ 0 _ _ _ HZ.out
   have d1 := cell_of_row _ _ 1 _ _ _ HZ.out
   have d2 := cell_of_row _ _ 2 _ _ _ HZ.out
   have f0 := fzc_of HZ.out 0
   have f1 := fzc_of HZ.out 1
   have f2 := fzc_of HZ.out 2
   go_wp2
   have e := heap_set (j := 2) (heap_set (j := 1) (heap_set (j := 0) HZ.out (.int .u32 (y.set : Nat))) (.slice AP n cP)) (.slice (some ⟨gS, 0, none⟩) n n)
   have ho : ∀ g, g < wr.heap.size → g ≠ w.heap.size + 1 → (((wr.setCell ⟨w.heap.size + 1, 0, none⟩ (.int .u32 (y.set : Nat))).setCell ⟨w.heap.size + 1, 1, none⟩ (.slice AP n cP)).setCell ⟨w.heap.size + 1, 2, none⟩ (.slice (some ⟨gS, 0, none⟩) n n)).heap[g]? = wr.heap[g]? := fun g hg hne => by
    rw [(grown_setCell _ _ _ _).block g (by simpa [World.setCell] using hg) (by simpa using hne), (grown_setCell _ _ _ _).block g (by simpa [World.setCell] using hg) (by simpa using hne), (grown_setCell _ _ _ _).block g hg (by simpa using hne)]
   (try simp only [Exit.inBlock, Exit.then])
   refine bodyPost_ret (results_cell_row rfl _ _ (w.heap.size + 1) _ _ _ _ rfl (by simpa using e) Tryz.underlying40 rfl (by kernel_rfl)) rfl ?_
   have hy := HY.out
   subst hy
   have hzz : wr.heap.size ≤ (((wr.setCell ⟨w.heap.size + 1, 0, none⟩ (.int .u32 ((entC now x l).set : Nat))).setCell ⟨w.heap.size + 1, 1, none⟩ (.slice AP n cP)).setCell ⟨w.heap.size + 1, 2, none⟩ (.slice (some ⟨gS, 0, none⟩) n n)).heap.size := by simp [World.setCell]
   refine ⟨?_, rfl, hok, ?_, hlo, ?_⟩
   ·exact set_below (set_below (set_below HB.out (by omega) (by omega)) (by simp [World.setCell]; omega) (by omega)) (by simp [World.setCell]; omega) (by omega)
   ·have hp : (entC now x l).past = x.past := HP.out
    rw [hp]
    exact u32s_frame HR.out.uP HR.out.rS (fun g hg h9 => (ho g (by omega) (by omega)).trans (HF.out g hg h9)) (by omega)
   ·exact (ho gS (by omega) (by omega)).trans HS.out
theorem rows4 (w : World) (o1 o2 o3 o4 : Obj) : ((((w.alloc o1).alloc o2).alloc o3).alloc o4).heap[w.heap.size]? = some o1 ∧ ((((w.alloc o1).alloc o2).alloc o3).alloc o4).heap[w.heap.size + 1]? = some o2 ∧ ((((w.alloc o1).alloc o2).alloc o3).alloc o4).heap[w.heap.size + 2]? = some o3 ∧ ((((w.alloc o1).alloc o2).alloc o3).alloc o4).heap[w.heap.size + 3]? = some o4 ∧ Below w.heap.size w ((((w.alloc o1).alloc o2).alloc o3).alloc o4) := by
 have s1 : (w.alloc o1).heap.size = w.heap.size + 1 := by simp
 have s2 : ((w.alloc o1).alloc o2).heap.size = w.heap.size + 2 := by simp
 have s3 : (((w.alloc o1).alloc o2).alloc o3).heap.size = w.heap.size + 3 := by simp
 refine ⟨?_, ?_, ?_, ?_, ((((Below.refl _ _).alloc (Nat.le_refl _) _).alloc (by simp) _).alloc (by simp; omega) _).alloc (by simp; omega) _⟩
 ·exact (heap_alloc_old _ o4 (by omega)).trans ((heap_alloc_old _ o3 (by omega)).trans ((heap_alloc_old _ o2 (by omega)).trans (heap_alloc_new w o1)))
 ·have h := (heap_alloc_old _ o4 (by omega)).trans ((heap_alloc_old _ o3 (by omega)).trans (heap_alloc_new (w.alloc o1) o2))
  rwa [s1] at h
 ·have h := (heap_alloc_old _ o4 (by omega)).trans (heap_alloc_new ((w.alloc o1).alloc o2) o3)
  rwa [s2] at h
 ·have h := heap_alloc_new (((w.alloc o1).alloc o2).alloc o3) o4
  rwa [s3] at h
def ListB (l : List Nat) (w : World) (e : Ending) (w' : World) : Prop := ∃ A c, e = .returned (.slice A l.length c) ∧ IntsAt w' (.slice A l.length c) (l.map fun k : Nat => (k : Int)) ∧ (∀ b off, A = some ⟨b, off, none⟩ → w.heap.size ≤ b) ∧ Below w.heap.size w w'
theorem KidsTo.listB {l : List Nat} {w : World} {e : Ending} {w' : World} (h : KidsTo l w e w') (hk : ∀ k ∈ l, k < 1000) (hl : l.length ≤ 1000) : ListB l w e w' := by
 obtain ⟨v, rfl, ho, hb⟩ := h
 obtain ⟨A, c, rfl, hi⟩ := kids_ints ho hk hl
 exact ⟨A, c, rfl, hi, fun b off e => (World.ownsRow.lt ho b (by rw [e]; rfl)).1, hb⟩
section
variable {ks ps : List Int} {A B : Option Addr} {n c d : Nat}
theorem Leave_B (s : Nat) (t : Int) (w : World) (h : IntsAt w (.slice A n c) ks ∧ IntsAt w (.slice B n d) ps) (hf : ShF ks ps n) (h0 : 0 < n) (hn : n ≤ 24) (hs : s < 4294967296) :
  Calls Tryz.prog 71 #[.agg #[.slice A n c, .slice B n d], .int .u32 s, .int .i64 t] w (ListB (leaveL ps n s t) w) :=
 (Leave_any s t w h hf h0 hn hs).mono fun _ _ hk => hk.listB (fun k hm => by have := leave_lt hf k hm; omega) (by have := leave_len hf s t; omega)
theorem Enter_B (t : Nat) (dm : Int) (v : Value) (rs : List Nat) (w : World) (h : IntsAt w (.slice A n c) ks ∧ IntsAt w (.slice B n d) ps) (hf : ShF ks ps n) (hn : n ≤ 24) (hu : U32sAt w v rs) (hp : PastOk ks ps n (pfun rs))
  (ht : t < n) (htd : Und ps t dm) (hne : (t : Int) ≠ dm) :
  Calls Tryz.prog 74 #[.agg #[.slice A n c, .slice B n d], .int .i64 dm, .int .i64 t, v] w (ListB (enterL ks ps n (pfun rs) dm t) w) :=
 (Enter_any t dm v rs w h hf hn hu hp ht htd hne).mono fun _ _ hk => hk.listB (fun k hm => by have := (enter_in hf hp ht htd hne hm).1; omega) (by have := enter_len hf hp ht htd hne; omega)
theorem Start_B (w : World) (h : IntsAt w (.slice A n c) ks ∧ IntsAt w (.slice B n d) ps) (hf : ShF ks ps n) (h0 : 0 < n) (hn : n ≤ 24) :
  Calls Tryz.prog 78 #[.agg #[.slice A n c, .slice B n d]] w (ListB (inS ks ps n (iniN ks ps n (-1))) w) := by
 have hik := iniN_kid hf.tp
 exact (Start_any w h hf h0 hn).mono fun _ _ hk => hk.listB (fun k hm => by have := (inS_und hf hik.1 (kid_hl hik.2) hm).1; omega) (by have := inS_len hf hik.1 (kid_hl hik.2); omega)
end
theorem lefC_past : ∀ (l : List Nat) (x : Cf), (lefC x l).past = x.past
 | [], _ => rfl
 | k :: l, x => lefC_past l (lef1 x k)
theorem sets3_cell (W : World) (b g j : Nat) (v0 v1 v2 : Value) (hg : g < W.heap.size) (hne : g ≠ b) : (((W.setCell ⟨b, 0, none⟩ v0).setCell ⟨b, 1, none⟩ v1).setCell ⟨b, 2, none⟩ v2).cell? ⟨g, j, none⟩ = W.cell? ⟨g, j, none⟩ := by
 refine World.cell?_of_block (a := ⟨g, j, none⟩) ?_
 show _ = W.heap[g]?
 rw [(grown_setCell _ _ _ _).block g (by simpa [World.setCell] using hg) (by simpa using hne), (grown_setCell _ _ _ _).block g (by simpa [World.setCell] using hg) (by simpa using hne), (grown_setCell _ _ _ _).block g hg (by simpa using hne)]
def MovTo (n : Nat) (y : Cf) (w : World) (e : Ending) (w' : World) : Prop := Below w.heap.size w w' ∧ ∃ g3 gS, e = .returned (cfV y (.slice (some ⟨g3, 0, none⟩) n n) gS n) ∧ w.heap.size ≤ g3 ∧ CfR w.heap.size w' n y (.slice (some ⟨g3, 0, none⟩) n n) gS
section
variable {ks ps : List Int} {n : Nat}
set_option maxHeartbeats 8000000 in
theorem moved_any (AN AK AP AT : Option Addr) (nN cN cK cP nT cT : Nat) (x : Cf) (A7 A8 : Option Addr) (c7 c8 : Nat) (kd ti now : Int) (f t : Nat) (ev pe ta : ByteArray) (w : World)
  (hI : IntsAt w (.slice AK n cK) ks ∧ IntsAt w (.slice AP n cP) ps) (hf : ShF ks ps n) (h0 : 0 < n) (hn : n ≤ 24) (hx : CfOk n x) (hU : U32sAt w (.slice A7 n c7) x.past) (hS : IntsAt w (.slice A8 n c8) x.since) (hfn : f < n) (htn : t < n)
  (hw : (Lit.int .i64 now).wf = true) (hp : PastOk ks ps n (pfun (rememL ks ps n x.set x.past (leaveL ps n x.set (domL ks ps n f t))))) :
  Calls Tryz.prog 39 #[chV AN AK AP AT nN cN n cK n cP nT cT, .agg #[.int .u32 (x.set : Nat), .slice A7 n c7, .slice A8 n c8], .agg #[.int .i64 kd, .int .i64 f, .int .i64 t, .string ev, .string pe, .string ta, .int .i64 ti], .int .i64 now] w (MovTo n (movC ks ps n x f t now) w) := by
 obtain ⟨RC, RX, RT, RR, hB0⟩ := rows4 w (.cells #[.slice AN nN cN, .slice AK n cK, .slice AP n cP, .slice AT nT cT] 30) (.cells #[.int .u32 (x.set : Nat), .slice A7 n c7, .slice A8 n c8] 40) (.cells #[.int .i64 kd, .int .i64 f, .int .i64 t, .string ev, .string pe, .string ta, .int .i64 ti] 52) (.cells #[.int .u32 0, .slice none 0 0, .slice none 0 0] 40)
 have hmov : movC ks ps n x f t now = entC now (lefC ⟨x.set, rememL ks ps n x.set x.past (leaveL ps n x.set (domL ks ps n f t)), x.since⟩ (leaveL ps n x.set (domL ks ps n f t))) (enterL ks ps n (pfun (rememL ks ps n x.set x.past (leaveL ps n x.set (domL ks ps n f t)))) (domL ks ps n f t) t) := rfl
 have hds := domL_spec hf hfn htn
 have DM := Lib.hid (Domain_any f t _ ⟨hI.1.below hB0, hI.2.below hB0⟩ hf (by omega) hfn htn)
 have HI := Lib.hid hI
 have HF := Lib.hid hf
 have HU := Lib.hid hU
 have HS := Lib.hid hS
 have HX := Lib.hid hx
 have HB0 := Lib.hid hB0
 rw [hmov]
 have hs32 : x.set < 4294967296 := Nat.lt_of_lt_of_le hx.st (Nat.pow_le_pow_right (n := 2) (by omega) (show n ≤ 32 by omega))
 clear hmov hI hf hU hS hx hB0
 generalize domL ks ps n f t = d at *
 obtain ⟨_, hd2, hd3, _, _⟩ := hds
 have HD := Lib.hid (And.intro hd2 hd3)
 clear hd2 hd3
 have hLlt := leave_lt HF.out (s := x.set) (d := d)
 have hLle := leave_len HF.out x.set d
 have LV := Lib.hid (fun W (hW : Below w.heap.size w W) => Leave_B x.set d W ⟨HI.out.1.below hW, HI.out.2.below hW⟩ HF.out h0 hn hs32)
 generalize leaveL ps n x.set d = L at *
 have RM := Lib.hid (fun W (hW : Below w.heap.size w W) (A2 : Option Addr) (c2 : Nat) (hL : IntsAt W (.slice A2 L.length c2) (L.map fun k : Nat => (k : Int))) => Remember_B x.set A2 c2 L (.slice A7 n c7) x.past W ⟨HI.out.1.below hW, HI.out.2.below hW⟩ HF.out h0 hn hs32 hL hLlt (by omega) (HU.out.below hW) (by rw [HX.out.lp]; exact Nat.le_refl _) HX.out.pl)
 rw [padL_self HX.out.lp] at RM
 have hMl : (rememL ks ps n x.set x.past L).length = n := by rw [rememL_len, HX.out.lp]
 have hMt : ∀ p ∈ rememL ks ps n x.set x.past L, p < 2 ^ n := rememL_lt L _ HX.out.pl
 have OW := Lib.hid (fun W (hW : Below w.heap.size w W) => by have := own_any AN AK AP AT nN cN n cK n cP nT cT x.set A7 A8 c7 c8 x.past x.since W hn (by rw [HX.out.lp]; exact HU.out.below hW) (by rw [HX.out.ls]; exact HS.out.below hW) (by rw [HX.out.lp]; exact Nat.le_refl _) (by rw [HX.out.ls]; exact Nat.le_refl _); rwa [padL_self HX.out.lp, padI_self HX.out.ls, HX.out.lp, HX.out.ls] at this)
 generalize rememL ks ps n x.set x.past L = M at *
 have EN := Lib.hid (fun W (hW : Below w.heap.size w W) (v : Value) (hv : U32sAt W v M) => Enter_B t d v M W ⟨HI.out.1.below hW, HI.out.2.below hW⟩ HF.out hn hv hp htn HD.out.1 HD.out.2)
 have hEl : ∀ k ∈ enterL ks ps n (pfun M) d t, k < n := fun k hk => (enter_in HF.out hp htn HD.out.1 HD.out.2 hk).1
 have hEn := enter_len HF.out hp htn HD.out.1 HD.out.2
 generalize enterL ks ps n (pfun M) d t = E at *
 have HLLT := Lib.hid hLlt
 have HMT := Lib.hid hMt
 have HEL := Lib.hid hEl
 clear hLlt hMt hEl hp
 go_enter Tryz.func39, Tryz.ntmps39
 go_upto_region 1 with fail
 generalize (((w.alloc (.cells #[.slice AN nN cN, .slice AK n cK, .slice AP n cP, .slice AT nT cT] 30)).alloc (.cells #[.int .u32 (x.set : Nat), .slice A7 n c7, .slice A8 n c8] 40)).alloc (.cells #[.int .i64 kd, .int .i64 f, .int .i64 t, .string ev, .string pe, .string ta, .int .i64 ti] 52)).alloc (.cells #[.int .u32 0, .slice none 0 0, .slice none 0 0] 40) = w0 at *
 have hl3 : w.heap.size + 3 < w0.heap.size := (Array.getElem?_eq_some_iff.1 RR).1
 have HRX := Lib.hid RX
 have HRW : Hid (∀ W, Below w0.heap.size w0 W → W.heap[w.heap.size]? = some (.cells #[.slice AN nN cN, .slice AK n cK, .slice AP n cP, .slice AT nT cT] 30 (0, 0)) ∧ W.heap[w.heap.size + 1]? = some (.cells #[.int .u32 (x.set : Nat), .slice A7 n c7, .slice A8 n c8] 40 (0, 0)) ∧ W.heap[w.heap.size + 2]? = some (.cells #[.int .i64 kd, .int .i64 f, .int .i64 t, .string ev, .string pe, .string ta, .int .i64 ti] 52 (0, 0)) ∧ W.heap[w.heap.size + 3]? = some (.cells #[.int .u32 0, .slice none 0 0, .slice none 0 0] 40 (0, 0)) ∧ Below w.heap.size w W) := fun W hW =>
  ⟨(hW.block _ (by omega)).trans RC, (hW.block _ (by omega)).trans RX, (hW.block _ (by omega)).trans RT, (hW.block _ hl3).trans RR, below_then HB0.out hW HB0.out.size⟩
 have c1 := cell_of_row _ _ 1 _ _ _ RC
 have c2 := cell_of_row _ _ 2 _ _ _ RC
 have t1 := cell_of_row _ _ 1 _ _ _ RT
 have t2 := cell_of_row _ _ 2 _ _ _ RT
 clear RC RX RT RR HB0
 go_upto_region 2 with (go_at_call 70; refine DM.out.mono ?_; rintro e w1 ⟨rfl, hb1⟩; obtain ⟨rc1, rx1, rt1, _, hw1⟩ := HRW.out w1 hb1; have HB1 := Lib.hid hb1; have HW1 := Lib.hid hw1; clear hb1 hw1)
 clear c1 c2 t1 t2 DM
 have c1 := cell_of_row _ _ 1 _ _ _ rc1
 have c2 := cell_of_row _ _ 2 _ _ _ rc1
 have x0 := cell_of_row _ _ 0 _ _ _ rx1
 clear rc1 rx1 rt1
 go_upto_region 3 with (go_at_call 71; refine (LV.out w1 HW1.out).mono ?_; rintro e w2 ⟨A2, k2, rfl, hi2, ha2, hb2⟩; have HB2 := Lib.hid (below_then HB1.out hb2 HB1.out.size); obtain ⟨rc1, rx1, rt1, _, hw2⟩ := HRW.out w2 HB2.out; have HW2 := Lib.hid hw2; have HI2 := Lib.hid hi2; have HA2 := Lib.hid ha2; clear hb2 hw2 hi2 ha2)
 clear c1 c2 x0 LV
 have c1 := cell_of_row _ _ 1 _ _ _ rc1
 have c2 := cell_of_row _ _ 2 _ _ _ rc1
 have x0 := cell_of_row _ _ 0 _ _ _ rx1
 have x1 := cell_of_row _ _ 1 _ _ _ rx1
 clear rc1 rx1 rt1
 go_upto_region 4 with (go_at_call 72; refine (RM.out w2 HW2.out A2 k2 HI2.out).mono ?_; rintro e w3 ⟨g3, rfl, hg3, hu3, hb3⟩; have HB3 := Lib.hid (below_then HB2.out hb3 HB2.out.size); obtain ⟨rc1, rx1, rt1, _, hw3⟩ := HRW.out w3 HB3.out; have HW3 := Lib.hid hw3; have HU3 := Lib.hid hu3; have HI3 := Lib.hid (HI2.out.below hb3); clear hb3 hw3 hu3)
 clear c1 c2 x0 x1 RM
 have c0 := cell_of_row _ _ 0 _ _ _ rc1
 have c1 := cell_of_row _ _ 1 _ _ _ rc1
 have c2 := cell_of_row _ _ 2 _ _ _ rc1
 have c3 := cell_of_row _ _ 3 _ _ _ rc1
 have x0 := cell_of_row _ _ 0 _ _ _ rx1
 have x1 := cell_of_row _ _ 1 _ _ _ rx1
 have x2 := cell_of_row _ _ 2 _ _ _ rx1
 have hl33 := HB3.out.size
 go_upto_region 5 with (go_at_call 52; refine (OW.out w3 HW3.out).mono ?_; rintro e w4 ⟨hb4, gP, gS, rfl, ⟨hlP, hlS⟩, hrP, hrS⟩; have HB4 := Lib.hid hb4; have r4 := (hb4.block _ (by omega : w.heap.size + 1 < w3.heap.size)).trans rx1; have d0 := cell_of_row _ _ 0 _ _ _ r4; have d1 := cell_of_row _ _ 1 _ _ _ r4; have d2 := cell_of_row _ _ 2 _ _ _ r4; have f0 := fzc_of r4 0; have f1 := fzc_of r4 1; have f2 := fzc_of r4 2; have HR4 := Lib.hid r4; have HRS := Lib.hid hrS; clear hb4 hrP hrS r4)
 have hb12 := HB1.out.size
 have hb22 := HB2.out.size
 have hl34 := HB4.out.size
 have hHF : ∀ g, g < w4.heap.size → g ≠ w.heap.size + 1 → ((((w4.setCell ⟨w.heap.size + 1, 0, none⟩ (.int .u32 (x.set : Nat))).setCell ⟨w.heap.size + 1, 1, none⟩ (.slice (some ⟨gP, 0, none⟩) n n)).setCell ⟨w.heap.size + 1, 2, none⟩ (.slice (some ⟨gS, 0, none⟩) n n)).setCell ⟨w.heap.size + 1, 1, none⟩ (.slice (some ⟨g3, 0, none⟩) n n)).heap[g]? = w4.heap[g]? := fun g hg hne => by
  rw [(grown_setCell _ _ _ _).block g (by simpa [World.setCell] using hg) (by simpa using hne), (grown_setCell _ _ _ _).block g (by simpa [World.setCell] using hg) (by simpa using hne), (grown_setCell _ _ _ _).block g (by simpa [World.setCell] using hg) (by simpa using hne), (grown_setCell _ _ _ _).block g hg (by simpa using hne)]
 have hX5 := heap_set (j := 1) (heap_set (j := 2) (heap_set (j := 1) (heap_set (j := 0) HR4.out (.int .u32 (x.set : Nat))) (.slice (some ⟨gP, 0, none⟩) n n)) (.slice (some ⟨gS, 0, none⟩) n n)) (.slice (some ⟨g3, 0, none⟩) n n)
 have hs5 : ((((w4.setCell ⟨w.heap.size + 1, 0, none⟩ (.int .u32 (x.set : Nat))).setCell ⟨w.heap.size + 1, 1, none⟩ (.slice (some ⟨gP, 0, none⟩) n n)).setCell ⟨w.heap.size + 1, 2, none⟩ (.slice (some ⟨gS, 0, none⟩) n n)).setCell ⟨w.heap.size + 1, 1, none⟩ (.slice (some ⟨g3, 0, none⟩) n n)).heap.size = w4.heap.size := by simp [World.setCell]
 have hb04 : Below w.heap.size w w4 := below_then HW3.out HB4.out HW3.out.size
 have HB5 : Hid (Below w.heap.size w ((((w4.setCell ⟨w.heap.size + 1, 0, none⟩ (.int .u32 (x.set : Nat))).setCell ⟨w.heap.size + 1, 1, none⟩ (.slice (some ⟨gP, 0, none⟩) n n)).setCell ⟨w.heap.size + 1, 2, none⟩ (.slice (some ⟨gS, 0, none⟩) n n)).setCell ⟨w.heap.size + 1, 1, none⟩ (.slice (some ⟨g3, 0, none⟩) n n))) :=
  set_below (set_below (set_below (set_below hb04 hb04.size (by omega)) (by simpa [World.setCell] using hb04.size) (by omega)) (by simpa [World.setCell] using hb04.size) (by omega)) (by simpa [World.setCell] using hb04.size) (by omega)
 have HFF : Hid _ := hHF
 have HX5 : Hid (((((w4.setCell ⟨w.heap.size + 1, 0, none⟩ (.int .u32 (x.set : Nat))).setCell ⟨w.heap.size + 1, 1, none⟩ (.slice (some ⟨gP, 0, none⟩) n n)).setCell ⟨w.heap.size + 1, 2, none⟩ (.slice (some ⟨gS, 0, none⟩) n n)).setCell ⟨w.heap.size + 1, 1, none⟩ (.slice (some ⟨g3, 0, none⟩) n n)).heap[w.heap.size + 1]? = some (.cells #[.int .u32 (x.set : Nat), .slice (some ⟨g3, 0, none⟩) n n, .slice (some ⟨gS, 0, none⟩) n n] 40 (0, 0))) := by show _ = _; simpa using hX5
 have HS5 := Lib.hid hs5
 clear hHF hX5 hs5 hb04
 go_upto_region 7 with fail
 clear c0 c1 c2 c3 x0 x1 x2 d0 d1 d2 f0 f1 f2 HR4 rc1 rx1 rt1
 generalize (((w4.setCell ⟨w.heap.size + 1, 0, none⟩ (.int .u32 (x.set : Nat))).setCell ⟨w.heap.size + 1, 1, none⟩ (.slice (some ⟨gP, 0, none⟩) n n)).setCell ⟨w.heap.size + 1, 2, none⟩ (.slice (some ⟨gS, 0, none⟩) n n)).setCell ⟨w.heap.size + 1, 1, none⟩ (.slice (some ⟨g3, 0, none⟩) n n) = w5 at *
 have hgSl : gS < w4.heap.size := (Array.getElem?_eq_some_iff.1 HRS.out).1
 have hs5 := HS5.out
 have HRS5 : Hid (w5.heap[gS]? = some (.cells (icells x.since).toArray 3 (0, 0))) := (HFF.out gS hgSl (by omega)).trans HRS.out
 have HO3 : Hid (∀ g, g < w3.heap.size → g ≠ w.heap.size + 1 → w5.heap[g]? = w3.heap[g]?) := fun g hg h9 => (HFF.out g (by omega) h9).trans (HB4.out.block g hg)
 have HOK : Hid (∀ j, CfOk n (lefC ⟨x.set, M, x.since⟩ (L.take j))) := fun j => CfOk.lefC ⟨hMl, HX.out.ls, HX.out.st, HMT.out, HX.out.si⟩
 have hx0 : (⟨x.set, M, x.since⟩ : Cf).set = x.set := rfl
 clear HFF HRS HS5
 go_loopw [42] (fun i wr => ∃ j : Nat, j ≤ L.length ∧ i = .int .i64 j ∧ Hid (wr.heap[w.heap.size + 1]? = some (.cells #[.int .u32 ((lefC ⟨x.set, M, x.since⟩ (L.take j)).set : Nat), .slice (some ⟨g3, 0, none⟩) n n, .slice (some ⟨gS, 0, none⟩) n n] 40 (0, 0))) ∧
  Hid (wr.heap[gS]? = some (.cells (icells (lefC ⟨x.set, M, x.since⟩ (L.take j)).since).toArray 3 (0, 0))) ∧ Hid (∀ g, g < w3.heap.size → g ≠ w.heap.size + 1 → wr.heap[g]? = w3.heap[g]?) ∧ Hid (w5.heap.size ≤ wr.heap.size) ∧ Hid (Below w.heap.size w wr)) (fun i _ => L.length - (intOf i).toNat)
 case atStart => exact ⟨0, Nat.zero_le _, rfl, HX5.out, HRS5.out, HO3.out, Nat.le_refl _, HB5.out⟩
 case round =>
  obtain ⟨j, hj, rfl, HXr, HSr, HFr, HZr, HBr⟩ := hrel
  have hzr := HZr.out
  have hok := HOK.out j
  by_cases hlt : j < L.length
  ·have hji : (j : Int) < L.length := by omega
   obtain ⟨b9, off9, rfl, hb9, hx9⟩ := nat_cell HI3.out hlt
   have hb91 := HA2.out b9 off9 rfl
   have hx9r := (World.cell?_of_block (a := ⟨b9, off9 + j, none⟩) (HFr.out b9 hb9 (by omega))).trans hx9
   have hsn : lefC ⟨x.set, M, x.since⟩ (L.take (j + 1)) = ⟨adn (lefC ⟨x.set, M, x.since⟩ (L.take j)).set (2 ^ L[j]), (lefC ⟨x.set, M, x.since⟩ (L.take j)).past, (lefC ⟨x.set, M, x.since⟩ (L.take j)).since.set L[j] 0⟩ := by rw [List.take_succ_eq_append_getElem hlt, lefC_snoc]; rfl
   have hkn := HLLT.out _ (List.getElem_mem hlt)
   have HSN := Lib.hid hsn
   clear hsn hx9
   generalize lefC ⟨x.set, M, x.since⟩ (L.take j) = y at *
   generalize L[j] = k at *
   have hy32 : y.set < 4294967296 := Nat.lt_of_lt_of_le hok.st (Nat.pow_le_pow_right (n := 2) (by omega) (show n ≤ 32 by omega))
   have h2 := two_lt (k := k) (by omega)
   have had := adn_u32 hy32 h2
   have hsh := two_val (i := k) (by omega)
   generalize 2 ^ k = p at *
   have x0 := cell_of_row _ _ 0 _ _ _ HXr.out
   have f0 := fzc_of HXr.out 0
   have hkI : (k : Int) < n := by omega
   have hls := hok.ls
   have HB4' : Hid (Below w.heap.size w (wr.setCell ⟨w.heap.size + 1, 0, none⟩ (.int .u32 ((adn y.set p : Nat) : Int))).drew) := below_drew (set_below HBr.out HBr.out.size (by omega))
   have HX4 : Hid ((wr.setCell ⟨w.heap.size + 1, 0, none⟩ (.int .u32 ((adn y.set p : Nat) : Int))).drew.heap[w.heap.size + 1]? = some (.cells #[.int .u32 ((adn y.set p : Nat) : Int), .slice (some ⟨g3, 0, none⟩) n n, .slice (some ⟨gS, 0, none⟩) n n] 40 (0, 0))) := by
    have := heap_set (j := 0) HXr.out (.int .u32 ((adn y.set p : Nat) : Int))
    show (wr.setCell ⟨w.heap.size + 1, 0, none⟩ (.int .u32 ((adn y.set p : Nat) : Int))).heap[w.heap.size + 1]? = _
    simpa using this
   have HO4 : Hid (∀ g, g < wr.heap.size → g ≠ w.heap.size + 1 → (wr.setCell ⟨w.heap.size + 1, 0, none⟩ (.int .u32 ((adn y.set p : Nat) : Int))).drew.heap[g]? = wr.heap[g]?) := fun g hg h9 => (grown_setCell _ _ _ _).block g hg (by simpa using h9)
   have HS4 : Hid ((wr.setCell ⟨w.heap.size + 1, 0, none⟩ (.int .u32 ((adn y.set p : Nat) : Int))).drew.heap.size = wr.heap.size) := by show (wr.setCell _ _).heap.size = _; simp [World.setCell]
   go_upto_region 9 with fail
   go_region
   go_upto_region 10 with fail
   generalize (wr.setCell ⟨w.heap.size + 1, 0, none⟩ (.int .u32 ((adn y.set p : Nat) : Int))).drew = X at *
   have hXs := HS4.out
   have rS := (HO4.out gS (by omega) (by omega)).trans HSr.out
   have HRF : Hid (∀ g, g < w3.heap.size → g ≠ w.heap.size + 1 → X.heap[g]? = w3.heap[g]?) := fun g hg h9 => (HO4.out g (by omega) h9).trans (HFr.out g hg h9)
   have HRS := Lib.hid rS
   clear x0 f0 HO4 HS4 HXr HSr HFr HBr hx9r
   have x2 := cell_of_row _ _ 2 _ _ _ HX4.out
   have hkc : X.cell? ⟨gS, k, none⟩ = some (.int .i64 (y.since.getD k 0)) := by rw [cell_of_row _ _ _ _ _ _ rS]; simp [icells, List.getD_eq_getElem?_getD, hls, hkn]
   have f9 := fzc_of rS k
   clear rS
   go_wp2
   have HGB : Hid (∀ g, g < X.heap.size → g ≠ gS → (X.setCell ⟨gS, k, none⟩ (.int .i64 0)).heap[g]? = X.heap[g]?) := fun g hg h9 => (grown_setCell _ _ _ _).block g hg (by simpa using h9)
   go_roundw
   case rel =>
    refine ⟨j + 1, by omega, by go_num, ?_, ?_, ?_, ?_, ?_⟩
    ·show _ = _
     rw [HGB.out _ (by omega) (by omega), HX4.out, HSN.out]
    ·show _ = _
     rw [HSN.out]
     exact row_set HRS.out
    ·exact fun g hg h9 => (HGB.out g (by omega) (by omega)).trans (HRF.out g hg h9)
    ·show _ ≤ _
     simp [World.setCell]; omega
    ·exact set_below HB4'.out HB4'.out.size (by omega)
   case measure => simp [intOf]; omega
  ·have ej : j = L.length := by omega
   subst ej
   rw [List.take_length] at HXr HSr hok
   have hpast := lefC_past L ⟨x.set, M, x.since⟩
   generalize lefC ⟨x.set, M, x.since⟩ L = y at *
   have hxr1 := (Array.getElem?_eq_some_iff.1 HXr.out).1
   have rC := (HFr.out w.heap.size (by omega) (by omega)).trans (HRW.out w3 HB3.out).1
   have rT := (HFr.out (w.heap.size + 2) (by omega) (by omega)).trans (HRW.out w3 HB3.out).2.2.1
   have rR := (HFr.out (w.heap.size + 3) (by omega) (by omega)).trans (HRW.out w3 HB3.out).2.2.2.1
   have HRR := Lib.hid rR
   have hul : U32sAt wr (.slice (some ⟨g3, 0, none⟩) n n) M := by
    obtain ⟨A, c, e, hl, hc⟩ := HU3.out
    refine ⟨A, c, e, hl, fun k hk => ?_⟩
    obtain ⟨b, off, e2, hb, hx, hwf⟩ := hc k hk
    injection e with e1
    have hb3 : b = g3 := by rw [e2] at e1; injection e1 with e1; injection e1 with e1; exact e1.symm
    exact ⟨b, off, e2, by omega, (World.cell?_of_block (a := ⟨b, off + k, none⟩) (HFr.out b hb (by omega))).trans hx, hwf⟩
   have hCR : CfR w3.heap.size wr n y (.slice (some ⟨g3, 0, none⟩) n n) gS := ⟨hok, by rw [hpast]; exact hul, hlS, HSr.out⟩
   have EN' := Lib.hid (fun W (hW : Below wr.heap.size wr W) => EN.out W (below_then HBr.out hW HBr.out.size) (.slice (some ⟨g3, 0, none⟩) n n) (hul.below hW))
   have ET := Lib.hid (fun W (hW : Below wr.heap.size wr W) (A9 : Option Addr) (c9 : Nat) (hl9 : IntsAt W (.slice A9 E.length c9) (E.map fun k : Nat => (k : Int))) (ha9 : ∀ b off, A9 = some ⟨b, off, none⟩ → wr.heap.size ≤ b) =>
    entered_any n y (.slice (some ⟨g3, 0, none⟩) n n) gS w3.heap.size E A9 c9 now W hn (hCR.below hW) (by have := hW.size; omega) hl9 HEL.out (fun b off e => by have := ha9 b off e; omega) (by omega) hw)
   have HCR := Lib.hid hCR
   have x0 := cell_of_row _ _ 0 _ _ _ HXr.out
   have x1 := cell_of_row _ _ 1 _ _ _ HXr.out
   have x2 := cell_of_row _ _ 2 _ _ _ HXr.out
   have c1 := cell_of_row _ _ 1 _ _ _ rC
   have c2 := cell_of_row _ _ 2 _ _ _ rC
   have t2 := cell_of_row _ _ 2 _ _ _ rT
   have hL0 : w.heap.size < wr.heap.size := by omega
   have hm0 : w.heap.size ≠ w.heap.size + 1 + 1 + 1 := by omega
   have hm1 : w.heap.size + 1 ≠ w.heap.size + 1 + 1 + 1 := by omega
   have hm2 : w.heap.size + 2 ≠ w.heap.size + 1 + 1 + 1 := by omega
   have hK3 : w.heap.size + 3 < w3.heap.size := by omega
   have hL3 : w.heap.size + 3 < wr.heap.size := by omega
   have hK0 : w.heap.size < w3.heap.size := by omega
   have hK1 : w.heap.size + 1 < w3.heap.size := by omega
   have hK2 : w.heap.size + 2 < w3.heap.size := by omega
   have hL1 : w.heap.size + 1 < wr.heap.size := by omega
   have hL2 : w.heap.size + 2 < wr.heap.size := by omega
   clear hul hCR rR
   go_upto_region 12 with fail
   go_region_held3 (fun w' => w'.cell? ⟨w.heap.size + 1, 0, none⟩ = some (.int .u32 (y.set : Nat)) ∧ w'.cell? ⟨w.heap.size + 1, 1, none⟩ = some (.slice (some ⟨g3, 0, none⟩) n n) ∧ w'.cell? ⟨w.heap.size + 1, 2, none⟩ = some (.slice (some ⟨gS, 0, none⟩) n n) ∧ w'.cell? ⟨w.heap.size, 1, none⟩ = some (.slice AK n cK) ∧ w'.cell? ⟨w.heap.size, 2, none⟩ = some (.slice AP n cP) ∧ w'.cell? ⟨w.heap.size + 2, 2, none⟩ = some (.int .i64 t))
    (first | exact ⟨x0, x1, x2, c1, c2, t2⟩ | exact ⟨(hb6.cell (p := ⟨w.heap.size + 1, 0, none⟩) hL1).trans x0, (hb6.cell (p := ⟨w.heap.size + 1, 1, none⟩) hL1).trans x1, (hb6.cell (p := ⟨w.heap.size + 1, 2, none⟩) hL1).trans x2, (hb6.cell (p := ⟨w.heap.size, 1, none⟩) hL0).trans c1, (hb6.cell (p := ⟨w.heap.size, 2, none⟩) hL0).trans c2, (hb6.cell (p := ⟨w.heap.size + 2, 2, none⟩) hL2).trans t2⟩ | exact ⟨(hb7.cell (p := ⟨w.heap.size + 1, 0, none⟩) hK1).trans ((hb6.cell (p := ⟨w.heap.size + 1, 0, none⟩) hL1).trans x0), (hb7.cell (p := ⟨w.heap.size + 1, 1, none⟩) hK1).trans ((hb6.cell (p := ⟨w.heap.size + 1, 1, none⟩) hL1).trans x1), (hb7.cell (p := ⟨w.heap.size + 1, 2, none⟩) hK1).trans ((hb6.cell (p := ⟨w.heap.size + 1, 2, none⟩) hL1).trans x2), (hb7.cell (p := ⟨w.heap.size, 1, none⟩) hK0).trans ((hb6.cell (p := ⟨w.heap.size, 1, none⟩) hL0).trans c1), (hb7.cell (p := ⟨w.heap.size, 2, none⟩) hK0).trans ((hb6.cell (p := ⟨w.heap.size, 2, none⟩) hL0).trans c2), (hb7.cell (p := ⟨w.heap.size + 2, 2, none⟩) hK2).trans ((hb6.cell (p := ⟨w.heap.size + 2, 2, none⟩) hL2).trans t2)⟩ | exact ⟨(sets3_cell w7 _ _ 0 _ _ _ hz1 hm1).trans ((hb7.cell (p := ⟨w.heap.size + 1, 0, none⟩) hK1).trans ((hb6.cell (p := ⟨w.heap.size + 1, 0, none⟩) hL1).trans x0)), (sets3_cell w7 _ _ 1 _ _ _ hz1 hm1).trans ((hb7.cell (p := ⟨w.heap.size + 1, 1, none⟩) hK1).trans ((hb6.cell (p := ⟨w.heap.size + 1, 1, none⟩) hL1).trans x1)), (sets3_cell w7 _ _ 2 _ _ _ hz1 hm1).trans ((hb7.cell (p := ⟨w.heap.size + 1, 2, none⟩) hK1).trans ((hb6.cell (p := ⟨w.heap.size + 1, 2, none⟩) hL1).trans x2)), (sets3_cell w7 _ _ 1 _ _ _ hz0 hm0).trans ((hb7.cell (p := ⟨w.heap.size, 1, none⟩) hK0).trans ((hb6.cell (p := ⟨w.heap.size, 1, none⟩) hL0).trans c1)), (sets3_cell w7 _ _ 2 _ _ _ hz0 hm0).trans ((hb7.cell (p := ⟨w.heap.size, 2, none⟩) hK0).trans ((hb6.cell (p := ⟨w.heap.size, 2, none⟩) hL0).trans c2)), (sets3_cell w7 _ _ 2 _ _ _ hz2 hm2).trans ((hb7.cell (p := ⟨w.heap.size + 2, 2, none⟩) hK2).trans ((hb6.cell (p := ⟨w.heap.size + 2, 2, none⟩) hL2).trans t2))⟩ | go_keep)
    (first
      | (go_at_call 74; refine (EN'.out _ (by first | exact Below.refl _ _ | exact below_drew (Below.refl _ _))).mono ?_; rintro e w6 ⟨A9, c9, rfl, hi9, ha9, hb6⟩)
      | (go_at_call 73; refine (ET.out _ (by first | exact hb6 | exact below_then (below_drew (Below.refl _ _)) hb6 (Nat.le_refl _)) A9 c9 hi9 ha9).mono ?_; rintro e w7 ⟨hb7, rfl, hR7⟩; have rr7 := (hb7.block _ hK3).trans ((hb6.block _ hL3).trans HRR.out); have d0 := cell_of_row _ _ 0 _ _ _ rr7; have d1 := cell_of_row _ _ 1 _ _ _ rr7; have d2 := cell_of_row _ _ 2 _ _ _ rr7; have f0 := fzc_of rr7 0; have f1 := fzc_of rr7 1; have f2 := fzc_of rr7 2; have hz3 := (Array.getElem?_eq_some_iff.1 rr7).1; have hz0 : w.heap.size < w7.heap.size := (by omega); have hz1 : w.heap.size + 1 < w7.heap.size := (by omega); have hz2 : w.heap.size + 2 < w7.heap.size := (by omega)))
   go_wp2
   have e := heap_set (j := 2) (heap_set (j := 1) (heap_set (j := 0) rr7 (.int .u32 ((entC now y E).set : Nat))) (.slice (some ⟨g3, 0, none⟩) n n)) (.slice (some ⟨gS, 0, none⟩) n n)
   have ho : ∀ g, g < w7.heap.size → g ≠ w.heap.size + 3 → (((w7.setCell ⟨w.heap.size + 3, 0, none⟩ (.int .u32 ((entC now y E).set : Nat))).setCell ⟨w.heap.size + 3, 1, none⟩ (.slice (some ⟨g3, 0, none⟩) n n)).setCell ⟨w.heap.size + 3, 2, none⟩ (.slice (some ⟨gS, 0, none⟩) n n)).heap[g]? = w7.heap[g]? := fun g hg hne => by
    rw [(grown_setCell _ _ _ _).block g (by simpa [World.setCell] using hg) (by simpa using hne), (grown_setCell _ _ _ _).block g (by simpa [World.setCell] using hg) (by simpa using hne), (grown_setCell _ _ _ _).block g hg (by simpa using hne)]
   have hss : (((w7.setCell ⟨w.heap.size + 3, 0, none⟩ (.int .u32 ((entC now y E).set : Nat))).setCell ⟨w.heap.size + 3, 1, none⟩ (.slice (some ⟨g3, 0, none⟩) n n)).setCell ⟨w.heap.size + 3, 2, none⟩ (.slice (some ⟨gS, 0, none⟩) n n)).heap.size = w7.heap.size := by simp [World.setCell]
   have hb67 : Below w.heap.size w w7 := (below_then (below_drew HBr.out) hb6 HBr.out.size).trans (hb7.mono HW3.out.size)
   have hg3w := HB2.out.size
   (try simp only [Exit.inBlock, Exit.then])
   refine bodyPost_ret (results_cell_row rfl _ _ (w.heap.size + 3) _ _ _ _ rfl (by simpa using e) Tryz.underlying40 rfl (by kernel_rfl)) rfl ?_
   refine ⟨set_below (set_below (set_below hb67 hb67.size (by omega)) (by simpa [World.setCell] using hb67.size) (by omega)) (by simpa [World.setCell] using hb67.size) (by omega), g3, gS, rfl, by omega, hR7.ok, ?_, by omega, ?_⟩
   ·obtain ⟨A, c, e9, hl, hc⟩ := hR7.uP
    refine ⟨A, c, e9, hl, fun k hk => ?_⟩
    obtain ⟨b, off, e2, hb, hx9, hwf⟩ := hc k hk
    injection e9 with e1
    have hbg : b = g3 := by rw [e2] at e1; injection e1 with e1; injection e1 with e1; exact e1.symm
    exact ⟨b, off, e2, Nat.lt_of_lt_of_eq hb hss.symm, (World.cell?_of_block (a := ⟨b, off + k, none⟩) (ho b hb (by omega))).trans hx9, hwf⟩
   ·exact (ho gS (Array.getElem?_eq_some_iff.1 hR7.rS).1 (by omega)).trans hR7.rS
end
end Go.Proofs.YtaoinedndnleoaaGreat
