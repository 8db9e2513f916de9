import Derived.Test.YtaoinedndnleoaaGreatEn5
import Derived.Test.YtaoinedndnleoaaGreatShelf2
import Derived.Lib.OwnBridge
import Derived.Test.YtaoinedndnleoaaGreatCh3
namespace Go.Proofs.YtaoinedndnleoaaGreat
set_option maxRecDepth 100000
open Go.ChangeShapes Go.WideShapes Go.ChangeAt Go.RowKit
theorem rev_own {w : World} {base c : Nat} {A : Option Addr} {l : List Nat} (h : OwnN w base (.slice A l.length c) l) (hl : l.length ≤ 1000) :
  Calls Tryz.prog 104 #[.slice A l.length c] w fun e w' => e = .returned (.tuple #[]) ∧ OwnN w' base (.slice A l.length c) l.reverse ∧ ∀ W0, Below base W0 w → Below base W0 w' := by
 by_cases h0 : l.length = 0
 ·have e : l = [] := List.eq_nil_of_length_eq_zero h0
  subst e
  refine (Tryz.slices_Reverse_int_empty A c w).mono fun e w' ⟨he, hw⟩ => ⟨he, ?_, fun _ hb => ?_⟩
  ·rw [hw]; exact h
  ·rw [hw]; exact hb
 ·have hne : Value.slice A l.length c ≠ .slice none 0 0 := fun e => by injection e; omega
  obtain ⟨g, cap, e, hbg, hlt, hn, hm, hzl, hH⟩ := Lib.holds_of_ownsRow (enc := Value.int .i64) (zs := l.map fun k : Nat => (k : Int)) h hne
  injection e with e1 _ e3
  subst e1; subst e3
  have hR := Tryz.slices_Reverse_int g 0 c (l.map fun k : Nat => (k : Int)) w hH (by rw [List.length_map]; omega)
  rw [List.length_map] at hR
  refine hR.mono fun e w' ⟨he, q, hw⟩ => ⟨he, ?_, fun W0 hb => ?_⟩
  ·have h5 := Lib.ownsRow_putRow (enc := Value.int .i64) (q := q) (k := l.length) (ys := (l.map fun k : Nat => (k : Int)).reverse) (zs := l.map fun k : Nat => (k : Int)) h (by rw [List.length_reverse, List.length_map]) (Nat.le_refl _)
   rw [List.take_of_length_le (by rw [List.length_reverse, List.length_map]; exact Nat.le_refl _)] at h5
   rw [hw]
   unfold OwnN icells
   rw [List.length_reverse, List.map_reverse]
   exact h5
  ·rw [hw]
   exact Lib.below_putRow hb hbg
def setMany : Array Value → Nat → List Value → Array Value
 | cs, _, [] => cs
 | cs, o, v :: r => setMany (cs.setIfInBounds o v) (o + 1) r
theorem setMany_size : ∀ (vs : List Value) (o : Nat) (cs : Array Value), (setMany cs o vs).size = cs.size
 | [], _, _ => rfl
 | v :: r, o, cs => by rw [setMany, setMany_size r, Array.size_setIfInBounds]
theorem setMany_out : ∀ (vs : List Value) (o : Nat) (cs : Array Value) (j : Nat), j < o ∨ o + vs.length ≤ j → (setMany cs o vs)[j]? = cs[j]?
 | [], _, _, _, _ => rfl
 | v :: r, o, cs, j, h => by
  rw [List.length_cons] at h
  rw [setMany, setMany_out r (o + 1) _ j (by omega), Array.getElem?_setIfInBounds_ne (by omega)]
theorem setMany_in : ∀ (vs : List Value) (o : Nat) (cs : Array Value) (j : Nat) (hj : j < vs.length), o + vs.length ≤ cs.size → (setMany cs o vs)[o + j]? = some vs[j]
 | [], _, _, j, hj, _ => by simp at hj
 | v :: r, o, cs, 0, _, h => by
  rw [List.length_cons] at h
  rw [setMany, setMany_out r (o + 1) _ (o + 0) (by omega)]
  rw [Nat.add_zero, Array.getElem?_setIfInBounds_self_of_lt (by omega)]
  rfl
 | v :: r, o, cs, j + 1, hj, h => by
  rw [List.length_cons] at h hj
  rw [setMany, show o + (j + 1) = o + 1 + j by omega, setMany_in r (o + 1) _ j (by omega) (by rw [Array.size_setIfInBounds]; omega)]
  rfl
theorem setCells_row {g : Nat} {t : TypeId} {f : Nat × Nat} : ∀ (vs : List Value) (o : Nat) (w : World) (cur : Array Value), w.heap[g]? = some (.cells cur t f) → (w.setCells g o vs).heap[g]? = some (.cells (setMany cur o vs) t f)
 | [], _, _, _, h => h
 | v :: r, o, w, cur, h => setCells_row r (o + 1) _ _ (heap_set h v)
theorem setCells_grows {g : Nat} : ∀ (vs : List Value) (o : Nat) (w : World), w.grownBy (w.setCells g o vs) (some g)
 | [], _, _ => ⟨rfl, rfl, rfl, Nat.le_refl _, fun _ _ _ => rfl⟩
 | v :: r, o, w => (grown_setCell w g o v).andThen (setCells_grows r (o + 1) _) (fun j e => .inr e)
theorem grows_two (w : World) (o : Obj) (a b : Nat) (vs vs' : List Value) (row : Option Nat) : w.grownBy ((((w.alloc o).drew.setCells w.heap.size a vs).drew).setCells w.heap.size b vs') row := by
 have h1 : (w.alloc o).grownBy (w.alloc o).drew (some w.heap.size) := ⟨rfl, rfl, rfl, Nat.le_refl _, fun _ _ _ => rfl⟩
 have h2 := h1.andThen (setCells_grows (g := w.heap.size) vs a _) (fun j e => .inr e)
 have h3 : ((w.alloc o).drew.setCells w.heap.size a vs).grownBy (((w.alloc o).drew.setCells w.heap.size a vs).drew) (some w.heap.size) := ⟨rfl, rfl, rfl, Nat.le_refl _, fun _ _ _ => rfl⟩
 have h4 := (h2.andThen h3 (fun j e => .inr e)).andThen (setCells_grows (g := w.heap.size) vs' b _) (fun j e => .inr e)
 exact (World.grownBy_alloc w o row).andThen h4 (fun j e => .inl (by injection e with e; omega))
theorem own_row {w : World} {base g gc : Nat} {cur : Array Value} {l : List Nat} (hb : base ≤ g) (hg : w.heap[g]? = some (.cells cur 3 (0, 0))) (hs : cur.size = gc) (hle : l.length ≤ gc) (hm : gc ≤ maxLen)
  (hc : ∀ j (hj : j < l.length), cur[j]? = some (.int .i64 (l[j] : Nat))) : OwnN w base (.slice (some ⟨g, 0, none⟩) l.length gc) l := by
 refine ⟨by rw [icells_length, List.length_map, Nat.mul_one], .inr ⟨g, gc, cur, rfl, hb, hg, hle, hm, by rw [Nat.mul_one]; exact hs, ?_⟩⟩
 apply List.ext_getElem?
 intro j
 rw [Nat.mul_one, List.getElem?_take]
 by_cases hj : j < l.length
 ·rw [if_pos hj, Array.getElem?_toList, hc j hj]
  simp [icells, hj]
 ·rw [if_neg hj]
  have : (icells (l.map fun k : Nat => (k : Int)))[j]? = none := List.getElem?_eq_none (by rw [icells_length, List.length_map]; omega)
  rw [this]
theorem nat_cells (l : List Nat) (j : Nat) (hj : j < l.length) : (icells (l.map fun k : Nat => (k : Int)))[j]? = some (.int .i64 (l[j] : Nat)) := by simp [icells, hj]
set_option maxHeartbeats 1000000 in
theorem ins_own {w : World} {base b x c : Nat} {v : Value} {l : List Nat} (h : OwnN w base v l) (hl0 : 0 < l.length) (hl : l.length ≤ 900) (hbase : base ≤ w.heap.size)
  (hu : w.heap[b]? = some (.cells #[.int .i64 (x : Int)] 3 (0, 0))) (hb : v.ownBlock ≠ some b) :
  Calls Tryz.prog 109 #[v, .int .i64 0, .slice (some ⟨b, 0, none⟩) 1 c] w fun e w' => ∃ v', e = .returned v' ∧ OwnN w' base v' (x :: l) ∧ w.grownBy w' v.ownBlock := by
 have hcl : (icells (l.map fun k : Nat => (k : Int))).length = l.length := by rw [icells_length, List.length_map]
 rcases h.2 with ⟨_, h0⟩ | ⟨g, cap, cur, rfl, hbg, hg, hnc, hcm, hcs, htk⟩
 ·omega
 ·rw [Nat.mul_one] at hcs htk
  have hm2 : cap ≤ 9223372036854775807 := by unfold maxLen at hcm; omega
  have hbg' : b ≠ g := fun e => hb (by rw [e]; rfl)
  have hcell : ∀ j, w.cell? ⟨g, j, none⟩ = cur[j]? := fun j => cell_of_row w g j cur _ _ hg
  have hcc : ∀ j v, (icells (l.map fun k : Nat => (k : Int)))[j]? = some v → w.cell? ⟨g, 0 + j, none⟩ = some v := fun j v hv => by
   have hj : j < l.length := by have := (List.getElem?_eq_some_iff.1 hv).1; omega
   rw [Nat.zero_add, hcell, ← Array.getElem?_toList]
   rw [← htk, List.getElem?_take, if_pos hj] at hv
   exact hv
  have hvv : ∀ j v, ([.int .i64 (x : Int)] : List Value)[j]? = some v → w.cell? ⟨b, 0 + j, none⟩ = some v := fun j v hv => by
   have hj : j = 0 := by have := (List.getElem?_eq_some_iff.1 hv).1; simp at this; exact this
   subst hj
   rw [cell_of_row w b _ _ _ _ hu]; exact hv
  have h1v : ∀ v ∈ ([.int .i64 (x : Int)] : List Value), v.oneCell' = true := by
   intro u hu; simp at hu; subst hu; rfl
  by_cases hroom : l.length + 1 ≤ cap
  ·have hI := Any2.slices_Insert_int_shift Tryz.layIns g 0 l.length cap 0 b 0 1 c (icells (l.map fun k : Nat => (k : Int))) [.int .i64 (x : Int)] w hl0 (by omega) hroom hm2 hbg' hcl rfl hcc
    (fun j hj => by rw [Nat.zero_add, hcell, Array.getElem?_eq_getElem (by omega)]; rfl) (fun j hj => by simp [World.frozen?, hg]) hvv (icells_one _) h1v
    3 3 1 cap (by simp [World.shape?, hu]) (by simp [World.shape?, hg, hcs]) (by omega) (by simp [World.frozen?, hu]) (by simp [World.frozen?, hu])
   refine Calls.mono (show Calls Tryz.prog 109 _ w _ from hI) fun e w' ⟨he, hw⟩ => ⟨_, he, ?_, ?_⟩
   ·have h1 : w'.heap[g]? = some (.cells (setMany (setMany cur (0 + (0 + 1)) ((icells (l.map fun k : Nat => (k : Int))).drop 0)) (0 + 0) [.int .i64 (x : Int)]) 3 (0, 0)) := by
     rw [hw]
     exact setCells_row _ _ _ _ (setCells_row _ _ _ _ hg)
    have := own_row (w := w') (base := base) (l := x :: l) hbg h1 (by rw [setMany_size, setMany_size]; exact hcs) (by rw [List.length_cons]; exact hroom) hcm (fun j hj => by
     cases j with
     | zero =>
      have := setMany_in [.int .i64 (x : Int)] (0 + 0) (setMany cur (0 + (0 + 1)) ((icells (l.map fun k : Nat => (k : Int))).drop 0)) 0 (by simp) (by rw [setMany_size]; simp; omega)
      simpa using this
     | succ j =>
      rw [List.length_cons] at hj
      rw [setMany_out _ _ _ _ (.inr (by simp)), List.drop_zero]
      have := setMany_in (icells (l.map fun k : Nat => (k : Int))) (0 + (0 + 1)) cur j (by omega) (by omega)
      rw [List.getElem_cons_succ, show j + 1 = 0 + (0 + 1) + j by omega, this]
      have h9 := nat_cells l j (by omega)
      rw [List.getElem?_eq_getElem (by omega)] at h9
      exact h9)
    rw [List.length_cons] at this
    exact this
   ·rw [hw]
    have h0 : w.grownBy w.drew (some g) := ⟨rfl, rfl, rfl, Nat.le_refl _, fun _ _ _ => rfl⟩
    exact (h0.andThen (setCells_grows _ _ _) (fun j e => .inr e)).andThen (setCells_grows _ _ _) (fun j e => .inr e)
  ·have hI := Any2.slices_Insert_int_grow Tryz.layIns g 0 l.length cap 0 b 0 1 c (icells (l.map fun k : Nat => (k : Int))) [.int .i64 (x : Int)] w hl0 (by omega) hnc (by omega) (by omega) hcl rfl hcc hvv (icells_one _) h1v
   refine Calls.mono (show Calls Tryz.prog 109 _ w _ from hI) fun e w' ⟨he, hw⟩ => ⟨_, he, ?_, ?_⟩
   ·have hge := grownCap_ge w (l.length + 1) cap 3
    have hcm2 := grownCap_le_maxLen w (l.length + 1) cap 3 (by unfold maxLen; omega)
    have hw1 : w'.heap[w.heap.size]? = some (.cells (setMany (setMany ((((icells (l.map fun k : Nat => (k : Int))).take 0).toArray ++ Builtin.zeroCells (Value.int .i64 0).cells (l.length + 1 - 0) ++ Builtin.zeroCells (Value.int .i64 0).cells (grownCap w (l.length + 1) cap 3 - (l.length + 1)))) 0 [.int .i64 (x : Int)]) (0 + 1) ((icells (l.map fun k : Nat => (k : Int))).drop 0)) 3 (0, 0)) := by
     rw [hw]
     exact setCells_row _ _ _ _ (setCells_row _ _ _ _ (heap_alloc_new w _))
    have hsz : (((icells (l.map fun k : Nat => (k : Int))).take 0).toArray ++ Builtin.zeroCells (Value.int .i64 0).cells (l.length + 1 - 0) ++ Builtin.zeroCells (Value.int .i64 0).cells (grownCap w (l.length + 1) cap 3 - (l.length + 1))).size = grownCap w (l.length + 1) cap 3 := by
     simp only [Array.size_append, List.size_toArray, size_zeroCells, List.take_zero, List.length_nil]
     have : (Value.int .i64 0).cells.size = 1 := rfl
     rw [this]
     omega
    have := own_row (w := w') (base := base) (l := x :: l) hbase hw1 (by rw [setMany_size, setMany_size]; exact hsz) (by rw [List.length_cons]; exact hge) hcm2 (fun j hj => by
     cases j with
     | zero =>
      rw [setMany_out _ _ _ _ (.inl (by omega))]
      have := setMany_in [.int .i64 (x : Int)] 0 _ 0 (by simp) (Nat.le_trans (by simp) (Nat.le_trans hge (Nat.le_of_eq hsz.symm)))
      simpa using this
     | succ j =>
      rw [List.length_cons] at hj
      rw [List.drop_zero]
      have := setMany_in (icells (l.map fun k : Nat => (k : Int))) (0 + 1) (setMany _ 0 [.int .i64 (x : Int)]) j (by omega) (by rw [setMany_size, hsz]; omega)
      rw [List.getElem_cons_succ, show j + 1 = 0 + 1 + j by omega, this]
      have h9 := nat_cells l j (by omega)
      rw [List.getElem?_eq_getElem (by omega)] at h9
      exact h9)
    rw [List.length_cons] at this
    exact this
   ·rw [hw]
    exact grows_two w _ _ _ _ _ _
theorem nil_u32 (w : World) : U32sAt w (.slice none 0 0) [] := ⟨none, 0, rfl, Nat.zero_le _, fun k h => by simp at h⟩
section
variable {ks ps : List Int} {A B : Option Addr} {n c d : Nat}
theorem val_any (w : World) (h : IntsAt w (.slice A n c) ks ∧ IntsAt w (.slice B n d) ps) (hf : ShF ks ps n) (h0 : 0 < n) (hn : n ≤ 24) :
  Calls Tryz.prog 102 #[.agg #[.slice A n c, .slice B n d]] w fun e w' => e = .returned (.bool true) ∧ Below w.heap.size w w' := by
 have := Valid_any ks ps A B n c n d w h hf.kl.symm hf.pl.symm (by omega) (by omega)
 rwa [hf.val h0 hn] at this
set_option maxHeartbeats 2000000 in
theorem Leave_any (s : Nat) (t : Int) (w : World) (h : IntsAt w (.slice A n c) ks ∧ IntsAt w (.slice B n d) ps) (hf : ShF ks ps n) (h0 : 0 < n) (hn : n ≤ 24) (hs : s < 4294967296) :
  Calls Tryz.prog 71 #[.agg #[.slice A n c, .slice B n d], .int .u32 s, .int .i64 t] w (KidsTo (leaveL ps n s t) w) := by
 have x0 := box_0 w 27 (.slice A n c) (.slice B n d)
 have x1 := box_1 w 27 (.slice A n c) (.slice B n d)
 have hz := box_b w (.cells #[.slice A n c, .slice B n d] 27)
 have hlt0 : w.heap.size < (w.alloc (.cells #[.slice A n c, .slice B n d] 27)).heap.size := by simp
 have S1 := Lib.hid (shp_below h hz)
 have HZ := Lib.hid hz
 have HF := Lib.hid hf
 have HLV := Lib.hid (leave_ins ps n s t)
 have hil := insL_len ps s t n
 clear h hz hf
 go_enter Tryz.func71, Tryz.ntmps71
 go_upto_region 1 with (fail)
 generalize w.alloc (.cells #[.slice A n c, .slice B n d] 27) = w0 at *
 have VA := Lib.hid (val_any w0 S1.out HF.out h0 hn)
 have ID := Lib.hid (fun W (hW : Below w0.heap.size w0 W) => inside_any s t W (shp_below S1.out hW) HF.out hn hs)
 generalize insL ps s t n = l at *
 go_wp2_with (first
  | (go_at_call 102; refine VA.out.mono ?_; rintro e w1 ⟨rfl, hb1⟩; have y0 := (hb1.cell (p := ⟨w.heap.size, 0, none⟩) hlt0).trans x0; have y1 := (hb1.cell (p := ⟨w.heap.size, 1, none⟩) hlt0).trans x1)
  | (go_at_call 103; refine (ID.out _ hb1).mono ?_; rintro e w2 ⟨v2, rfl, hO2, hb2⟩; have HB2 := Lib.hid (below_then HZ.out (below_then hb1 hb2 hb1.size) HZ.out.size); have hO3 : OwnN w2 w.heap.size v2 l := own_mono2 (OwnN.of hO2) (by have := hb1.size; have := HZ.out.size; omega); obtain ⟨A9, c9, rfl⟩ := own_slice hO3; clear hb2 hO2)
  | (go_at_call 104; refine (rev_own hO3 (by omega)).mono ?_; rintro e w3 ⟨rfl, hO4, hb4⟩))
 go_ret
 have e9 : l.reverse.length = l.length := List.length_reverse ..
 exact kidsTo_mk HLV.out.symm (OwnN.ints hO4) (hb4 _ HB2.out)
set_option maxHeartbeats 2000000 in
theorem Start_any (w : World) (h : IntsAt w (.slice A n c) ks ∧ IntsAt w (.slice B n d) ps) (hf : ShF ks ps n) (h0 : 0 < n) (hn : n ≤ 24) :
  Calls Tryz.prog 78 #[.agg #[.slice A n c, .slice B n d]] w (KidsTo (inS ks ps n (iniN ks ps n (-1))) w) := by
 have x0 := box_0 w 27 (.slice A n c) (.slice B n d)
 have x1 := box_1 w 27 (.slice A n c) (.slice B n d)
 have hz := box_b w (.cells #[.slice A n c, .slice B n d] 27)
 have hlt0 : w.heap.size < (w.alloc (.cells #[.slice A n c, .slice B n d] 27)).heap.size := by simp
 have S1 := Lib.hid (shp_below h hz)
 have HZ := Lib.hid hz
 have HF := Lib.hid hf
 have hsz : szN ks ps = n := by unfold szN; rw [hf.kl, hf.pl]; omega
 have hik := iniN_kid hf.tp
 have hit := ini_iniN hf.tp
 clear h hz hf
 go_enter Tryz.func78, Tryz.ntmps78
 go_upto_region 1 with (fail)
 generalize w.alloc (.cells #[.slice A n c, .slice B n d] 27) = w0 at *
 have VA := Lib.hid (val_any w0 S1.out HF.out h0 hn)
 have IN := Lib.hid (fun W (hW : Below w0.heap.size w0 W) => Initial_any ks ps A B n c n d W (-1) (shp_below S1.out hW) HF.out.kl.symm HF.out.pl.symm (by omega) (by omega))
 rw [hsz, hit] at IN
 have CK := Lib.hid (fun W (hW : Below w0.heap.size w0 W) => complete_any (.slice none 0 0) [] HF.out hn n (iniN ks ps n (-1)) W (by omega) hik.1 (kid_hl hik.2) (shp_below S1.out hW) (nil_u32 W))
 clear hit hsz
 generalize inS ks ps n (iniN ks ps n (-1)) = L at *
 generalize iniN ks ps n (-1) = i at *
 go_upto_region 3 with (go_at_call 102; refine VA.out.mono ?_; rintro e w1 ⟨rfl, hb1⟩)
 have y0 := (hb1.cell (p := ⟨w.heap.size, 0, none⟩) hlt0).trans x0
 have y1 := (hb1.cell (p := ⟨w.heap.size, 1, none⟩) hlt0).trans x1
 have HB1 := Lib.hid hb1
 clear hb1
 go_region_held3 (fun w' => w'.cell? ⟨w.heap.size, 0, none⟩ = some (.slice A n c) ∧ w'.cell? ⟨w.heap.size, 1, none⟩ = some (.slice B n d))
  (first | exact ⟨y0, y1⟩ | exact ⟨x0'', x1''⟩ | exact ⟨x03, x13⟩ | go_keep)
  (first
    | (go_at_call 114; refine (IN.out _ (by first | exact HB1.out | exact below_drew HB1.out)).mono ?_; rintro e w3 ⟨rfl, hb3⟩; have hb3' : Below w0.heap.size w0 w3 := (by first | exact below_then HB1.out hb3 HB1.out.size | exact below_then (below_drew HB1.out) hb3 HB1.out.size); have x0'' := (hb3'.cell (p := ⟨w.heap.size, 0, none⟩) hlt0).trans x0; have x1'' := (hb3'.cell (p := ⟨w.heap.size, 1, none⟩) hlt0).trans x1)
    | (go_at_call 107; refine (CK.out _ (by first | exact hb3' | exact below_drew hb3')).mono ?_; rintro e w4 ⟨v4, rfl, hO4, hb4⟩; have hb4' : Below w0.heap.size w0 w4 := (by first | exact below_then hb3' hb4 hb3'.size | exact below_then (below_drew hb3') hb4 hb3'.size); have hO4' : OwnI w4 w.heap.size _ _ := own_mono2 hO4 (by have := hb3'.size; have := HZ.out.size; first | omega | (show w.heap.size ≤ w3.heap.size; omega)); have x03 := (hb4'.cell (p := ⟨w.heap.size, 0, none⟩) hlt0).trans x0; have x13 := (hb4'.cell (p := ⟨w.heap.size, 1, none⟩) hlt0).trans x1))
 go_wp2
 go_ret
 exact kidsTo_mk rfl hO4' (below_then HZ.out hb4' HZ.out.size)
def keepsB (ks ps : List Int) (n : Nat) (p : Int) : Bool := (kidsTo ps p n).any fun k => ks.getD k 0 == 3 || ks.getD k 0 == 4
theorem keeps_pred (w : World) (b : Nat) (hb : b < w.heap.size) (hc : w.cell? ⟨b, 0, none⟩ = some (.slice A n c)) (hk : IntsAt w (.slice A n c) ks) (hl : ks.length = n) :
  PredAt Tryz.prog 134 #[.pointer (some ⟨b, 0, none⟩)] (fun x : {k : Nat // k < n} => Value.int .i64 (x.val : Int)) (fun x => ks.getD x.val 0 == 3 || ks.getD x.val 0 == 4) w := fun W x hW => by
 have hc' := (hW.cell (p := ⟨b, 0, none⟩) hb).trans hc
 obtain ⟨x, hx⟩ := x
 obtain ⟨b1, off1, rfl, hb1, hx1, _⟩ := ints_cell (hk.below hW) (k := x) (by omega)
 have hxi : (x : Int) < n := by omega
 unfold FnGives
 show Calls Tryz.prog 134 #[.int .i64 (x : Int), .pointer (some ⟨b, 0, none⟩)] W fun e w' => e = .returned (.bool (ks.getD x 0 == 3 || ks.getD x 0 == 4)) ∧ ∃ q, w' = W.drewN q
 clear hc hk hl
 generalize ks.getD x 0 = z at *
 rcases bor_cases (a := z == 3) with g | g
 ·rw [g, Bool.true_or]
  go_enter Tryz.func134, Tryz.ntmps134
  go_wp2
  go_ret
  exact ⟨rfl, 0, rfl⟩
 ·rw [g, Bool.false_or]
  generalize hg4 : (z == 4) = g4
  go_enter Tryz.func134, Tryz.ntmps134
  go_wp2
  go_ret
  exact ⟨rfl, 0, rfl⟩
set_option maxHeartbeats 2000000 in
theorem remembers_any (p : Int) (w : World) (h : IntsAt w (.slice A n c) ks ∧ IntsAt w (.slice B n d) ps) (hf : ShF ks ps n) (h0 : 0 < n) (hn : n ≤ 24) :
  Calls Tryz.prog 105 #[.agg #[.slice A n c, .slice B n d], .int .i64 p] w fun e w' => e = .returned (.bool (keepsB ks ps n p)) ∧ Below w.heap.size w w' := by
 have x0 := box_0 w 27 (.slice A n c) (.slice B n d)
 have x1 := box_1 w 27 (.slice A n c) (.slice B n d)
 have hz := box_b w (.cells #[.slice A n c, .slice B n d] 27)
 have hlt0 : w.heap.size < (w.alloc (.cells #[.slice A n c, .slice B n d] 27)).heap.size := by simp
 have S1 := Lib.hid (shp_below h hz)
 have HZ := Lib.hid hz
 have HF := Lib.hid hf
 have hsz : szN ks ps = n := by unfold szN; rw [hf.kl, hf.pl]; omega
 have HKB : Hid (keepsB ks ps n p = (kidsTo ps p n).any fun k => ks.getD k 0 == 3 || ks.getD k 0 == 4) := rfl
 have eg : ∀ args w, (callFunc 134 args).run Tryz.prog w = .ok (.enter 134 args) w := enters_of Tryz.func134 (by kernel_rfl) rfl
 have EG := Lib.hid eg
 clear h hz hf eg
 go_enter Tryz.func105, Tryz.ntmps105
 go_upto_region 1 with (fail)
 generalize w.alloc (.cells #[.slice A n c, .slice B n d] 27) = w0 at *
 have KD := Kids_any ks ps A B n c n d w0 p S1.out HF.out.kl.symm HF.out.pl.symm (by omega) (by omega)
 rw [hsz] at KD
 have KD := Lib.hid KD
 have HMX : Hid (∀ k ∈ kidsTo ps p n, k < n) := fun k hk => (mem_kidsTo.1 hk).1
 have hlen := kidsTo_len ps p n
 generalize kidsTo ps p n = l at *
 have CON : Hid (∀ (W : World) (v : Value), Below w0.heap.size w0 W → OwnN W w0.heap.size v l → Calls Tryz.prog 133 #[v, .func (.func 134) #[] #[.pointer (some ⟨w.heap.size, 0, none⟩)]] W fun e w' => e = .returned (.bool (keepsB ks ps n p)) ∧ ∃ q, w' = W.drewN q) := by
  intro W v hW hO
  rw [HKB.out]
  by_cases hl0 : l.length = 0
  ·have e : l = [] := List.eq_nil_of_length_eq_zero hl0
   subst e
   obtain ⟨A9, c9, rfl⟩ := own_slice hO
   have : Inhabited {k : Nat // k < n} := ⟨⟨0, h0⟩⟩
   exact (Tryz.slices_ContainsFunc_empty_f133 (α := {k : Nat // k < n}) A9 c9 _ W).mono fun e w' ⟨he, hw⟩ => ⟨he, 0, hw⟩
  ·have : Inhabited {k : Nat // k < n} := ⟨⟨0, h0⟩⟩
   obtain ⟨g, cap, rfl, _, _, _, hc⟩ := own_form hO (by omega)
   have hzv : (l.attach.map fun x => (⟨x.1, HMX.out x.1 x.2⟩ : {k : Nat // k < n})).map (fun x => x.val) = l := by
    rw [List.map_map]
    exact List.attach_map_subtype_val l
   generalize (l.attach.map fun x => (⟨x.1, HMX.out x.1 x.2⟩ : {k : Nat // k < n})) = zs at hzv
   have hzl : zs.length = l.length := by rw [← hzv, List.length_map]
   have hC := Tryz.slices_ContainsFunc_f133 (fun x : {k : Nat // k < n} => Value.int .i64 (x.val : Int)) (fun x => ks.getD x.val 0 == 3 || ks.getD x.val 0 == 4) 134 #[.pointer (some ⟨w.heap.size, 0, none⟩)] EG.out g 0 l.length cap zs W
    (keeps_pred (A := A) (c := c) (n := n) W w.heap.size (Nat.lt_of_lt_of_le hlt0 hW.size) ((hW.cell (p := ⟨w.heap.size, 0, none⟩) hlt0).trans x0) (shp_below S1.out hW).1 HF.out.kl) (by omega) (by omega)
    (fun j hj => by
      rw [Nat.zero_add]
      have h9 := hc j _ (nat_cells l j (by omega))
      rw [h9, getElem!_pos zs j hj]
      have : l[j]'(by omega) = zs[j].val := by simp [← hzv]
      rw [this])
   rw [List.take_of_length_le (by omega)] at hC
   have he : (zs.any fun x => ks.getD x.val 0 == 3 || ks.getD x.val 0 == 4) = l.any fun k => ks.getD k 0 == 3 || ks.getD k 0 == 4 := by
    conv => rhs; rw [← hzv]
    rw [List.any_map]; rfl
   rw [he] at hC
   exact hC
 go_wp2_with (first
  | (go_at_call 131; refine KD.out.mono ?_; rintro e w2 ⟨v2, rfl, hO2, hb2⟩)
  | (go_at_call 133; refine (CON.out _ _ hb2 (OwnN.of hO2)).mono ?_; rintro e w3 ⟨rfl, q, rfl⟩))
 go_ret
 exact ⟨rfl, below_drewN (below_then HZ.out hb2 HZ.out.size) _⟩
end
section
variable {ks ps : List Int} {n : Nat}
theorem wayF_stab (h : ShF ks ps n) (past : Nat → Nat) {t : Nat} : ∀ (f f' a : Nat), n - a ≤ f → n - a ≤ f' → a < n → wayF ks ps n past f a t = wayF ks ps n past f' a t
 | 0, _, a, h1, _, ha => by omega
 | _ + 1, 0, a, _, h1, ha => by omega
 | f + 1, f' + 1, a, h1, h2, ha => by
  unfold wayF
  cases hf : (kidsTo ps a n).find? fun k : Nat => undB ps t k with
  | none => rfl
  | some k =>
   have hk := mem_kidsTo.1 (List.mem_of_find?_eq_some hf)
   have hlt := h.lt hk.1 hk.2
   show (if a = t then _ else a :: (wayF ks ps n past f k t ++ _)) = (if a = t then _ else a :: (wayF ks ps n past f' k t ++ _))
   rw [wayF_stab h past f f' k (by omega) (by omega) hk.1]
theorem wayF_succ (past : Nat → Nat) (f a t : Nat) : wayF ks ps n past (f + 1) a t = if a = t then intoH ks ps n past t
  else a :: ((match (kidsTo ps a n).find? fun k : Nat => undB ps t k with
   | some k => wayF ks ps n past f k t
   | none => []) ++ if ks.getD a 0 = 2 then ((kidsTo ps a n).filter fun k : Nat => !undB ps t k).flatMap (inS ks ps n) else []) := rfl
theorem way_step (h : ShF ks ps n) (past : Nat → Nat) {t k q : Nat} (ht : t < n) (hk : k < n) (hu : Und ps t k) (e : ps.getD k 0 = q) :
  wayF ks ps n past (n - q) q t = q :: (wayF ks ps n past (n - k) k t ++ if ks.getD q 0 = 2 then otherL ks ps n q k else []) := by
 have hqk := h.lt hk e
 have hkt := und_le h hu ht
 have huniq : ∀ j ∈ kidsTo ps q n, undB ps t j = decide (j = k) := fun j hj => by
  obtain ⟨h1, h2⟩ := mem_kidsTo.1 hj
  rw [Bool.eq_iff_iff, undB_iff h ht, decide_eq_true_eq]
  constructor
  ·intro h3; exact und_kids h ht h3 hu (by rw [h2, e])
  ·intro h3; subst h3; exact hu
 have hfind : (kidsTo ps q n).find? (fun j : Nat => undB ps t j) = some k := by
  cases hf : (kidsTo ps q n).find? fun j : Nat => undB ps t j with
  | none =>
   rw [List.find?_eq_none] at hf
   have := hf k (mem_kidsTo.2 ⟨hk, e⟩)
   rw [huniq k (mem_kidsTo.2 ⟨hk, e⟩)] at this
   simp at this
  | some j =>
   have h1 := List.mem_of_find?_eq_some hf
   have h2 : undB ps t j = true := by simpa using List.find?_some hf
   rw [huniq j h1, decide_eq_true_eq] at h2
   rw [h2]
 obtain ⟨f, hf⟩ : ∃ f, n - q = f + 1 := ⟨n - q - 1, by omega⟩
 rw [hf, wayF_succ, if_neg (by omega), hfind]
 show q :: (wayF ks ps n past f k t ++ _) = _
 rw [wayF_stab h past f (n - k) k (by omega) (Nat.le_refl _) hk]
 congr 2
 by_cases h2 : ks.getD q 0 = 2
 ·rw [if_pos h2, if_pos h2]
  unfold otherL
  congr 1
  apply List.filter_congr
  intro j hj
  rw [huniq j hj]
  by_cases e9 : j = k
  ·subst e9; simp
  ·rw [decide_eq_false e9, Bool.not_false, eq_comm, decide_eq_true_eq]; omega
 ·rw [if_neg h2, if_neg h2]
theorem way_top (h : ShF ks ps n) (past : Nat → Nat) {t k : Nat} {d : Int} (ht : t < n) (hk : k < n) (hu : Und ps t k) (e : ps.getD k 0 = d) (htd : Und ps t d) (hne : (t : Int) ≠ d) : wayF ks ps n past (n - k) k t = enterL ks ps n past d t := by
 obtain ⟨h1, h2, h3⟩ := topF_spec h t t ht (Nat.le_refl _) htd hne
 unfold enterL
 have := und_kids h ht hu h3 (by rw [e, h2])
 rw [← this]
theorem way_len (h : ShF ks ps n) {past : Nat → Nat} (hp : PastOk ks ps n past) {t a : Nat} (ht : t < n) (ha : a < n) (hu : Und ps t a) : (wayF ks ps n past (n - a) a t).length ≤ n ∧ 0 < (wayF ks ps n past (n - a) a t).length := by
 have hwl := wayF_list h hp ht (n - a) a (Nat.le_refl _) ha hu
 have key : ∃ j, LC ks ps n (fun k => k ∈ wayF ks ps n past (n - a) a t) j := by
  by_cases e : a = t
  ·subst e
   rw [wayF_self]
   cases hh : hl ks a
   ·obtain ⟨q, e, _⟩ := hist h ha hh
    obtain ⟨j, _, _, hlc⟩ := intoH_hist h hp ha hh e
    exact ⟨j, hlc⟩
   ·have := wayF_LC h hp ht (n - a) a (Nat.le_refl _) ha hh hu
    rw [wayF_self] at this
    exact ⟨_, this⟩
  ·obtain ⟨j, hj, ej, _⟩ := und_down h ht hu (by omega)
   exact ⟨_, wayF_LC h hp ht (n - a) a (Nat.le_refl _) ha (h.up j a hj ej) hu⟩
 obtain ⟨j, hlc⟩ := key
 exact ⟨nodup_len n _ hwl.1 fun k hk => (hlc.un k hk).1, List.length_pos_of_mem hlc.me⟩
end
section
variable {ks ps : List Int} {A B : Option Addr} {n c d : Nat}
theorem properly_same (t : Int) (w : World) :
  Calls Tryz.prog 108 #[.agg #[.slice A n c, .slice B n d], .int .i64 t, .int .i64 t] w fun e w' => e = .returned (.bool false) ∧ Below w.heap.size w w' := by
 have HZ := Lib.hid (box_b w (.cells #[.slice A n c, .slice B n d] 27))
 have g1 : (t != t) = false := by simp
 go_enter Tryz.func108, Tryz.ntmps108
 go_wp2
 go_ret
 exact ⟨rfl, HZ.out⟩
set_option maxHeartbeats 8000000 in
theorem Enter_any (t : Nat) (dm : Int) (v : Value) (rs : List Nat) (w : World) (h : IntsAt w (.slice A n c) ks ∧ IntsAt w (.slice B n d) ps) (hf : ShF ks ps n) (hn : n ≤ 24) (hu : U32sAt w v rs) (hp : PastOk ks ps n (pfun rs))
  (ht : t < n) (htd : Und ps t dm) (hne : (t : Int) ≠ dm) :
  Calls Tryz.prog 74 #[.agg #[.slice A n c, .slice B n d], .int .i64 dm, .int .i64 t, v] w (KidsTo (enterL ks ps n (pfun rs) dm t) w) := by
 obtain ⟨A7, c7, rfl⟩ := u32s_form hu
 have x0 := box_0 w 27 (.slice A n c) (.slice B n d)
 have x1 := box_1 w 27 (.slice A n c) (.slice B n d)
 have hz := box_b w (.cells #[.slice A n c, .slice B n d] 27)
 have hlt0 : w.heap.size < (w.alloc (.cells #[.slice A n c, .slice B n d] 27)).heap.size := by simp
 have S1 := Lib.hid (shp_below h hz)
 have HU := Lib.hid (hu.below hz)
 have HZ := Lib.hid hz
 have HF := Lib.hid hf
 have HP := Lib.hid hp
 have HTD := Lib.hid htd
 have hti : (t : Int) < n := by omega
 clear h hz hf hu hp htd
 go_enter Tryz.func74, Tryz.ntmps74
 go_upto_region 1 with (fail)
 generalize w.alloc (.cells #[.slice A n c, .slice B n d] 27) = w0 at *
 have VA := Lib.hid (val_any w0 S1.out HF.out (by omega) hn)
 have UN : Hid (∀ W, Below w0.heap.size w0 W → Calls Tryz.prog 101 #[.agg #[.slice A n c, .slice B n d], .int .i64 t, .int .i64 (-1)] W fun e w' => e = .returned (.bool true) ∧ Below W.heap.size W w') := fun W hW => by
  have := Under_any t (-1) W (shp_below S1.out hW) HF.out (by omega) ht
  rwa [undB_top] at this
 have CK := Lib.hid (fun W (hW : Below w0.heap.size w0 W) => completeH_any _ rs HF.out hn HP.out t W ht (shp_below S1.out hW) (HU.out.below hW))
 have OT := Lib.hid (fun W (hW : Below w0.heap.size w0 W) (q k : Nat) (hq : q < n) (h2 : ks.getD q 0 = 2) => others_any q (k : Int) _ rs W (shp_below S1.out hW) HF.out hn (HU.out.below hW) hq h2
  fun k W' _ hk hh hS hU => complete_any _ rs HF.out hn n k W' (by omega) hk hh hS hU)
 have PR := Lib.hid (fun W (hW : Below w0.heap.size w0 W) (k : Nat) (hk : k < n) => properly_any k dm W (shp_below S1.out hW) HF.out (by omega) hk)
 have hcellp := fun W (hW : Below w0.heap.size w0 W) (k : Nat) (hk : k < n) => ints_cell (shp_below S1.out hW).2 (k := k) (by rw [HF.out.pl]; exact hk)
 have hcellk := fun W (hW : Below w0.heap.size w0 W) (k : Nat) (hk : k < n) => ints_cell (shp_below S1.out hW).1 (k := k) (by rw [HF.out.kl]; exact hk)
 have HCP := Lib.hid hcellp
 have HCK := Lib.hid hcellk
 clear hcellp hcellk
 go_upto_region 4 with (first
  | (go_at_call 102; refine VA.out.mono ?_; rintro e w1 ⟨rfl, hb1⟩; have y0 := (hb1.cell (p := ⟨w.heap.size, 0, none⟩) hlt0).trans x0; have y1 := (hb1.cell (p := ⟨w.heap.size, 1, none⟩) hlt0).trans x1)
  | (go_at_call 101; refine (UN.out _ hb1).mono ?_; rintro e w2 ⟨rfl, hb2⟩; have hb2' := below_then hb1 hb2 hb1.size; have y20 := (hb2'.cell (p := ⟨w.heap.size, 0, none⟩) hlt0).trans x0; have y21 := (hb2'.cell (p := ⟨w.heap.size, 1, none⟩) hlt0).trans x1)
  | (go_at_call 107; refine (CK.out _ hb2').mono ?_; rintro e w3 ⟨v3, rfl, hO3, hb3⟩; have HB3 := Lib.hid (below_then hb2' hb3 hb2'.size); have HO3 : Hid (OwnN w3 w0.heap.size v3 _) := own_mono2 (OwnN.of hO3) hb2'.size; clear hO3 hb3 hb2 hb1 hb2'))
 have y30 := (HB3.out.cell (p := ⟨w.heap.size, 0, none⟩) hlt0).trans x0
 have y31 := (HB3.out.cell (p := ⟨w.heap.size, 1, none⟩) hlt0).trans x1
 obtain ⟨bp, offp, hBp, hbp, hcp, _⟩ := HCP.out w3 HB3.out t ht
 have hpt := HF.out.pa t ht
 have HPT := Lib.hid hpt
 clear hpt
 subst hBp
 go_quiet (fail)
 go_wp2
 go_loopw [9, 10, 11] (fun u i j wr => ∃ (k : Nat) (a : Int), i = .int .i64 k ∧ j = .int .i64 a ∧ Hid (k < n ∧ Und ps t k ∧ Und ps k dm ∧ (k : Int) ≠ dm ∧ ps.getD k 0 = a) ∧ Hid (OwnN wr w0.heap.size u (wayF ks ps n (pfun rs) (n - k) k t)) ∧ Hid (Below w0.heap.size w0 wr)) (fun _ _ j _ => (intOf j + 1).toNat)
 case atStart =>
  refine ⟨t, ps.getD t 0, rfl, rfl, ⟨ht, .self t, HTD.out, hne, rfl⟩, ?_, below_drewN HB3.out _⟩
  show OwnN _ _ _ _
  rw [wayF_self]
  exact own_below HO3.out (below_drewN (Below.refl _ _) _) HB3.out.size
 case round =>
  obtain ⟨k, a, rfl, rfl, HK, HO, HB⟩ := hrel
  have hbz := HB.out.size
  have z0 := (HB.out.cell (p := ⟨w.heap.size, 0, none⟩) hlt0).trans x0
  have z1 := (HB.out.cell (p := ⟨w.heap.size, 1, none⟩) hlt0).trans x1
  have HWL := Lib.hid (way_len HF.out HP.out ht HK.out.1 HK.out.2.1)
  by_cases had : a = dm
  ·have HE := Lib.hid (way_top HF.out (pfun rs) ht HK.out.1 HK.out.2.1 (HK.out.2.2.2.2.trans had) HTD.out hne)
   subst had
   clear HK HWL
   go_wp2_with (go_at_call 108; refine (properly_same a wr).mono ?_; rintro e w4 ⟨rfl, hb4⟩)
   go_ret
   exact kidsTo_mk HE.out (OwnN.ints (own_below (own_mono2 HO.out (by have := HZ.out.size; omega)) hb4 (by have := HZ.out.size; omega))) (below_then HZ.out (below_then HB.out hb4 hbz) HZ.out.size)
  ·have hq : ∃ q : Nat, a = q ∧ Und ps q dm := by
    obtain ⟨h1, h2, h3, h4, h5⟩ := HK.out
    have hpk := HF.out.pa k h1
    cases h3 with
    | self => exact absurd rfl h4
    | top => exact ⟨a.toNat, by omega, .top _⟩
    | up _ q _ e h' => exact ⟨q, by omega, h'⟩
   obtain ⟨q, rfl, hqd⟩ := hq
   have hqk := HF.out.lt HK.out.1 HK.out.2.2.2.2
   have hqn : q < n := by have := HK.out.1; omega
   have hqi : (q : Int) < n := by omega
   have PQ : Hid (Calls Tryz.prog 108 #[.agg #[.slice A n c, .slice (some ⟨bp, offp, none⟩) n d], .int .i64 q, .int .i64 dm] wr fun e w' => e = .returned (.bool true) ∧ Below wr.heap.size wr w') := by
    have := PR.out wr HB.out q hqn
    rwa [decide_eq_true had, (undB_iff HF.out hqn).2 hqd, Bool.true_and] at this
   have HS := Lib.hid (way_step HF.out (pfun rs) ht HK.out.1 HK.out.2.1 HK.out.2.2.2.2)
   have HQD := Lib.hid hqd
   have HTQ : Hid (Und ps t q) := und_trans HK.out.2.1 (und_kid HK.out.2.2.2.2)
   obtain ⟨bk, offk, hBk, hbk, hck, _⟩ := HCK.out wr HB.out q hqn
   subst hBk
   obtain ⟨A5, c5, rfl⟩ := own_slice HO.out
   have hol := other_len (ks := ks) (ps := ps) (n := n) HF.out hn (x := q)
   have OTq := Lib.hid (fun W hW h2 => OT.out W hW q k hqn h2)
   clear hqd
   generalize hz9 : ks.getD q 0 = z at *
   have hone : ∀ W : World, wr.heap.size ≤ W.heap.size → (Value.slice A5 (wayF ks ps n (pfun rs) (n - k) k t).length c5).ownBlock ≠ some W.heap.size := fun W hW e => by
    have := (HO.out.lt _ e).2; omega
   go_upto_region 8 with (first
    | (go_at_call 108; refine PQ.out.mono ?_; rintro e w4 ⟨rfl, hb4⟩; have HB4 := Lib.hid (below_then HB.out hb4 hbz); have HO4 := Lib.hid (own_below HO.out hb4 hbz); have hb4s := hb4.size)
    | (go_at_call 109; refine (ins_own (HO4.out.alloc _) HWL.out.2 (by have := HWL.out.1; omega) (by have := HB4.out.size; simp; omega) (heap_alloc_new _ _) (hone w4 hb4s)).mono ?_; rintro e w5 ⟨v5, rfl, hO5, hg5⟩))
   have hB5 : Below w0.heap.size w0 w5 := (HB4.out.alloc HB4.out.size _).grown hg5 (by have := HB4.out.size; simp; omega) (fun j e => (HO4.out.lt j e).1)
   have HB5 := Lib.hid hB5
   have HO5 := Lib.hid hO5
   have y50 := (hB5.cell (p := ⟨w.heap.size, 0, none⟩) hlt0).trans x0
   have y51 := (hB5.cell (p := ⟨w.heap.size, 1, none⟩) hlt0).trans x1
   obtain ⟨bk2, offk2, eK, hbk2, hck2, _⟩ := HCK.out w5 hB5 q hqn
   injection eK with eK
   injection eK with eK1 eK2
   subst eK1; subst eK2
   rw [hz9] at hck2
   clear hO5 hg5 hB5 hone
   by_cases h2 : z = 2
   ·subst h2
    have HS2 : Hid (wayF ks ps n (pfun rs) (n - q) q t = (q :: wayF ks ps n (pfun rs) (n - k) k t) ++ otherL ks ps n q k) := by show _ = _; rw [HS.out, if_pos rfl]; rfl
    have HOLn := Lib.hid (hol rfl (k : Int))
    have OTk := Lib.hid (OTq.out w5 HB5.out rfl)
    clear HS hol OTq
    go_upto_region 6 with (first
     | (go_at_call 110; refine OTk.out.mono ?_; rintro e w6 ⟨v6, rfl, hO6, hb6⟩; have HO6 := Lib.hid (own_below HO5.out hb6 HB5.out.size); have HB6 := Lib.hid (below_then HB5.out hb6 HB5.out.size))
     | (at_builtin; go_must (refine wpList_append_nn rfl (.tmp 51) (.tmp 56) rfl rfl HO6.out rfl (OwnN.of hO6) (by have := HOLn.out; have := HWL.out.1; rw [List.length_cons]; omega) HB6.out.size ?_; intro v' w7 hown' hg')))
    have HB7 := Lib.hid (HB6.out.grown hg' HB6.out.size (fun j e => (HO6.out.lt j e).1))
    have HO7 : Hid (OwnN w7 w0.heap.size v' (wayF ks ps n (pfun rs) (n - q) q t)) := by show OwnN _ _ _ _; rw [HS2.out]; exact hown'
    clear hown' hg' hO6 hb6
    have y70 := (HB7.out.cell (p := ⟨w.heap.size, 0, none⟩) hlt0).trans x0
    have y71 := (HB7.out.cell (p := ⟨w.heap.size, 1, none⟩) hlt0).trans x1
    obtain ⟨bp2, offp2, eP, hbp2, hcp2, _⟩ := HCP.out w7 HB7.out q hqn
    injection eP with eP
    injection eP with eP1 eP2
    subst eP1; subst eP2
    have hpq := HF.out.pa q hqn
    generalize hp9 : ps.getD q 0 = p at *
    go_quiet (fail)
    go_wp2
    go_roundw
    case rel => exact ⟨q, p, rfl, rfl, ⟨hqn, HTQ.out, HQD.out, had, hp9⟩, own_below HO7.out (below_drewN (Below.refl _ _) _) HB7.out.size, below_drewN HB7.out _⟩
    case measure => simp [intOf]; omega
   ·have HS2 : Hid (wayF ks ps n (pfun rs) (n - q) q t = q :: wayF ks ps n (pfun rs) (n - k) k t) := by show _ = _; rw [HS.out, if_neg h2, List.append_nil]
    have g2 : (z == 2) = false := by simpa using h2
    clear HS hol OTq
    go_upto_region 6 with (fail)
    obtain ⟨bp2, offp2, eP, hbp2, hcp2, _⟩ := HCP.out w5 HB5.out q hqn
    injection eP with eP
    injection eP with eP1 eP2
    subst eP1; subst eP2
    have hpq := HF.out.pa q hqn
    generalize hp9 : ps.getD q 0 = p at *
    go_quiet (fail)
    go_wp2
    go_roundw
    case rel => exact ⟨q, p, rfl, rfl, ⟨hqn, HTQ.out, HQD.out, had, hp9⟩, (show OwnN _ _ _ _ by rw [HS2.out]; exact own_below HO5.out (below_drewN (Below.refl _ _) _) HB5.out.size), below_drewN HB5.out _⟩
    case measure => simp [intOf]; omega
end
end Go.Proofs.YtaoinedndnleoaaGreat
