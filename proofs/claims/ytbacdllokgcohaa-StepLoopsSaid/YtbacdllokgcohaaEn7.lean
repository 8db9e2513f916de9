/-
  Package enter: Leave, Start, remembers.
-/
import Derived.Test.YtbacdllokgcohaaEn6
import Derived.Test.YtbacdllokgcohaaSh5
namespace Go.Proofs.Ytbacdllokgcohaa
set_option maxRecDepth 100000
open Go.ChangeShapes Go.WideShapes Go.ChangeAt Go.RowKit

theorem nil_u32 (w : World) : U32sAt w (.slice none 0 0) [] := ⟨none, 0, rfl, Nat.zero_le _, fun k h => by simp at h⟩
theorem past_nil (ks ps : List Int) (n : Nat) : PastOk ks ps n (pfun []) := PastOk.start
section
variable {ks ps : List Int} {A B : Option Addr} {n c d : Nat}
theorem val_any (w : World) (h : IntsAt w (.slice A n c) ks ∧ IntsAt w (.slice B n d) ps) (hf : ShF ks ps n) (h0 : 0 < n) (hn : n ≤ 24) :
    Calls Try.prog 55 #[.agg #[.slice A n c, .slice B n d]] w fun e w' => e = .returned (.bool true) ∧ Below w.heap.size w w' := by
  have := Valid_any ks ps A B n c n d w h hf.kl.symm hf.pl.symm (by omega) (by omega)
  rwa [hf.val h0 hn] at this
set_option maxHeartbeats 2000000 in
theorem Leave_any (s : Nat) (t : Int) (w : World) (h : IntsAt w (.slice A n c) ks ∧ IntsAt w (.slice B n d) ps) (hf : ShF ks ps n) (h0 : 0 < n) (hn : n ≤ 24) (hs : s < 4294967296) :
    Calls Try.prog 66 #[.agg #[.slice A n c, .slice B n d], .int .u32 s, .int .i64 t] w (KidsTo (leaveL ps n s t) w) := by
  have x0 := box_0 w 25 (.slice A n c) (.slice B n d)
  have x1 := box_1 w 25 (.slice A n c) (.slice B n d)
  have hz := box_b w (.cells #[.slice A n c, .slice B n d] 25)
  have hlt0 : w.heap.size < (w.alloc (.cells #[.slice A n c, .slice B n d] 25)).heap.size := by simp
  have S1 := Lib.hid (shp_below h hz)
  have HZ := Lib.hid hz
  have HF := Lib.hid hf
  have HLV := Lib.hid (leave_ins ps n s t)
  have hil := insL_len ps s t n
  clear h hz hf
  go_enter Try.func66, Try.ntmps66
  go_upto_region 1 with (fail)
  generalize w.alloc (.cells #[.slice A n c, .slice B n d] 25) = w0 at *
  have VA := Lib.hid (val_any w0 S1.out HF.out h0 hn)
  have ID := Lib.hid (fun W (hW : Below w0.heap.size w0 W) => inside_any s t W (shp_below S1.out hW) HF.out hn hs)
  generalize insL ps s t n = l at *
  go_wp2_with (first
    | (go_at_call 55; refine VA.out.mono ?_; rintro e w1 ⟨rfl, hb1⟩; have y0 := (hb1.cell (p := ⟨w.heap.size, 0, none⟩) hlt0).trans x0; have y1 := (hb1.cell (p := ⟨w.heap.size, 1, none⟩) hlt0).trans x1)
    | (go_at_call 102; refine (ID.out _ hb1).mono ?_; rintro e w2 ⟨v2, rfl, hO2, hb2⟩; have HB2 := Lib.hid (below_then HZ.out (below_then hb1 hb2 hb1.size) HZ.out.size); have hO3 : OwnN w2 w.heap.size v2 l := own_mono2 (OwnN.of hO2) (by have := hb1.size; have := HZ.out.size; omega); obtain ⟨A9, c9, rfl⟩ := own_slice hO3; clear hb2 hO2)
    | (go_at_call 103; refine (rev_own hO3 (by omega)).mono ?_; rintro e w3 ⟨rfl, hO4, hb4⟩))
  go_ret
  have e9 : l.reverse.length = l.length := List.length_reverse ..
  exact kidsTo_mk HLV.out.symm (OwnN.ints hO4) (hb4 _ HB2.out)
set_option maxHeartbeats 2000000 in
theorem Start_any (w : World) (h : IntsAt w (.slice A n c) ks ∧ IntsAt w (.slice B n d) ps) (hf : ShF ks ps n) (h0 : 0 < n) (hn : n ≤ 24) :
    Calls Try.prog 35 #[.agg #[.slice A n c, .slice B n d]] w (KidsTo (inS ks ps n (iniN ks ps n (-1))) w) := by
  have x0 := box_0 w 25 (.slice A n c) (.slice B n d)
  have x1 := box_1 w 25 (.slice A n c) (.slice B n d)
  have hz := box_b w (.cells #[.slice A n c, .slice B n d] 25)
  have hlt0 : w.heap.size < (w.alloc (.cells #[.slice A n c, .slice B n d] 25)).heap.size := by simp
  have S1 := Lib.hid (shp_below h hz)
  have HZ := Lib.hid hz
  have HF := Lib.hid hf
  have hsz : szN ks ps = n := by unfold szN; rw [hf.kl, hf.pl]; omega
  have hik := iniN_kid hf.tp
  have hit := ini_iniN hf.tp
  clear h hz hf
  go_enter Try.func35, Try.ntmps35
  go_upto_region 1 with (fail)
  generalize w.alloc (.cells #[.slice A n c, .slice B n d] 25) = w0 at *
  have VA := Lib.hid (val_any w0 S1.out HF.out h0 hn)
  have IN := Lib.hid (fun W (hW : Below w0.heap.size w0 W) => Initial_any ks ps A B n c n d W (-1) (shp_below S1.out hW) HF.out.kl.symm HF.out.pl.symm (by omega) (by omega))
  rw [hsz, hit] at IN
  have CK := Lib.hid (fun W (hW : Below w0.heap.size w0 W) => complete_any (.slice none 0 0) [] HF.out hn n (iniN ks ps n (-1)) W (by omega) hik.1 (kid_hl hik.2) (shp_below S1.out hW) (nil_u32 W))
  clear hit hsz
  generalize inS ks ps n (iniN ks ps n (-1)) = L at *
  generalize iniN ks ps n (-1) = i at *
  go_upto_region 3 with (go_at_call 55; refine VA.out.mono ?_; rintro e w1 ⟨rfl, hb1⟩)
  have y0 := (hb1.cell (p := ⟨w.heap.size, 0, none⟩) hlt0).trans x0
  have y1 := (hb1.cell (p := ⟨w.heap.size, 1, none⟩) hlt0).trans x1
  have HB1 := Lib.hid hb1
  clear hb1
  go_region_held3 (fun w' => w'.cell? ⟨w.heap.size, 0, none⟩ = some (.slice A n c) ∧ w'.cell? ⟨w.heap.size, 1, none⟩ = some (.slice B n d))
    (first | exact ⟨y0, y1⟩ | exact ⟨x0'', x1''⟩ | exact ⟨x03, x13⟩ | go_keep)
    (first
      | (go_at_call 60; refine (IN.out _ (by first | exact HB1.out | exact below_drew HB1.out)).mono ?_; rintro e w3 ⟨rfl, hb3⟩; have hb3' : Below w0.heap.size w0 w3 := (by first | exact below_then HB1.out hb3 HB1.out.size | exact below_then (below_drew HB1.out) hb3 HB1.out.size); have x0'' := (hb3'.cell (p := ⟨w.heap.size, 0, none⟩) hlt0).trans x0; have x1'' := (hb3'.cell (p := ⟨w.heap.size, 1, none⟩) hlt0).trans x1)
      | (go_at_call 59; refine (CK.out _ (by first | exact hb3' | exact below_drew hb3')).mono ?_; rintro e w4 ⟨v4, rfl, hO4, hb4⟩; have hb4' : Below w0.heap.size w0 w4 := (by first | exact below_then hb3' hb4 hb3'.size | exact below_then (below_drew hb3') hb4 hb3'.size); have hO4' : OwnI w4 w.heap.size _ _ := own_mono2 hO4 (by have := hb3'.size; have := HZ.out.size; first | omega | (show w.heap.size ≤ w3.heap.size; omega)); have x03 := (hb4'.cell (p := ⟨w.heap.size, 0, none⟩) hlt0).trans x0; have x13 := (hb4'.cell (p := ⟨w.heap.size, 1, none⟩) hlt0).trans x1))
  go_wp2
  go_ret
  exact kidsTo_mk rfl hO4' (below_then HZ.out hb4' HZ.out.size)
/-- has a state a history? -/
def keepsB (ks ps : List Int) (n : Nat) (p : Int) : Bool := (kidsTo ps p n).any fun k => ks.getD k 0 == 3 || ks.getD k 0 == 4
theorem keeps_pred (w : World) (b : Nat) (hb : b < w.heap.size) (hc : w.cell? ⟨b, 0, none⟩ = some (.slice A n c)) (hk : IntsAt w (.slice A n c) ks) (hl : ks.length = n) :
    PredAt Try.prog 138 #[.pointer (some ⟨b, 0, none⟩)] (fun x : {k : Nat // k < n} => Value.int .i64 (x.val : Int)) (fun x => ks.getD x.val 0 == 3 || ks.getD x.val 0 == 4) w := fun W x hW => by
  have hc' := (hW.cell (p := ⟨b, 0, none⟩) hb).trans hc
  obtain ⟨x, hx⟩ := x
  obtain ⟨b1, off1, rfl, hb1, hx1, _⟩ := ints_cell (hk.below hW) (k := x) (by omega)
  have hxi : (x : Int) < n := by omega
  unfold FnGives
  show Calls Try.prog 138 #[.int .i64 (x : Int), .pointer (some ⟨b, 0, none⟩)] W fun e w' => e = .returned (.bool (ks.getD x 0 == 3 || ks.getD x 0 == 4)) ∧ ∃ q, w' = W.drewN q
  clear hc hk hl
  generalize ks.getD x 0 = z at *
  rcases bor_cases (a := z == 3) with g | g
  · rw [g, Bool.true_or]
    go_enter Try.func138, Try.ntmps138
    go_wp2
    go_ret
    exact ⟨rfl, 0, rfl⟩
  · rw [g, Bool.false_or]
    generalize hg4 : (z == 4) = g4
    go_enter Try.func138, Try.ntmps138
    go_wp2
    go_ret
    exact ⟨rfl, 0, rfl⟩
set_option maxHeartbeats 2000000 in
theorem remembers_any (p : Int) (w : World) (h : IntsAt w (.slice A n c) ks ∧ IntsAt w (.slice B n d) ps) (hf : ShF ks ps n) (h0 : 0 < n) (hn : n ≤ 24) :
    Calls Try.prog 104 #[.agg #[.slice A n c, .slice B n d], .int .i64 p] w fun e w' => e = .returned (.bool (keepsB ks ps n p)) ∧ Below w.heap.size w w' := by
  have x0 := box_0 w 25 (.slice A n c) (.slice B n d)
  have x1 := box_1 w 25 (.slice A n c) (.slice B n d)
  have hz := box_b w (.cells #[.slice A n c, .slice B n d] 25)
  have hlt0 : w.heap.size < (w.alloc (.cells #[.slice A n c, .slice B n d] 25)).heap.size := by simp
  have S1 := Lib.hid (shp_below h hz)
  have HZ := Lib.hid hz
  have HF := Lib.hid hf
  have hsz : szN ks ps = n := by unfold szN; rw [hf.kl, hf.pl]; omega
  have HKB : Hid (keepsB ks ps n p = (kidsTo ps p n).any fun k => ks.getD k 0 == 3 || ks.getD k 0 == 4) := rfl
  have eg : ∀ args w, (callFunc 138 args).run Try.prog w = .ok (.enter 138 args) w := enters_of Try.func138 (by kernel_rfl) rfl
  have EG := Lib.hid eg
  clear h hz hf eg
  go_enter Try.func104, Try.ntmps104
  go_upto_region 1 with (fail)
  generalize w.alloc (.cells #[.slice A n c, .slice B n d] 25) = w0 at *
  have KD := Kids_any ks ps A B n c n d w0 p S1.out HF.out.kl.symm HF.out.pl.symm (by omega) (by omega)
  rw [hsz] at KD
  have KD := Lib.hid KD
  have HMX : Hid (∀ k ∈ kidsTo ps p n, k < n) := fun k hk => (mem_kidsTo.1 hk).1
  have hlen := kidsTo_len ps p n
  generalize kidsTo ps p n = l at *
  have CON : Hid (∀ (W : World) (v : Value), Below w0.heap.size w0 W → OwnN W w0.heap.size v l → Calls Try.prog 137 #[v, .func (.func 138) #[] #[.pointer (some ⟨w.heap.size, 0, none⟩)]] W fun e w' => e = .returned (.bool (keepsB ks ps n p)) ∧ ∃ q, w' = W.drewN q) := by
    intro W v hW hO
    rw [HKB.out]
    by_cases hl0 : l.length = 0
    · have e : l = [] := List.eq_nil_of_length_eq_zero hl0
      subst e
      obtain ⟨A9, c9, rfl⟩ := own_slice hO
      have : Inhabited {k : Nat // k < n} := ⟨⟨0, h0⟩⟩
      exact (Try.slices_ContainsFunc_empty (α := {k : Nat // k < n}) A9 c9 _ W).mono fun e w' ⟨he, hw⟩ => ⟨he, 0, hw⟩
    · have : Inhabited {k : Nat // k < n} := ⟨⟨0, h0⟩⟩
      obtain ⟨g, cap, rfl, _, _, _, hc⟩ := own_form hO (by omega)
      have hzv : (l.attach.map fun x => (⟨x.1, HMX.out x.1 x.2⟩ : {k : Nat // k < n})).map (fun x => x.val) = l := by
        rw [List.map_map]
        exact List.attach_map_subtype_val l
      generalize (l.attach.map fun x => (⟨x.1, HMX.out x.1 x.2⟩ : {k : Nat // k < n})) = zs at hzv
      have hzl : zs.length = l.length := by rw [← hzv, List.length_map]
      have hC := Try.slices_ContainsFunc (fun x : {k : Nat // k < n} => Value.int .i64 (x.val : Int)) (fun x => ks.getD x.val 0 == 3 || ks.getD x.val 0 == 4) 138 #[.pointer (some ⟨w.heap.size, 0, none⟩)] EG.out g 0 l.length cap zs W
        (keeps_pred (A := A) (c := c) (n := n) W w.heap.size (Nat.lt_of_lt_of_le hlt0 hW.size) ((hW.cell (p := ⟨w.heap.size, 0, none⟩) hlt0).trans x0) (shp_below S1.out hW).1 HF.out.kl) (by omega) (by omega)
        (fun j hj => by
          rw [Nat.zero_add]
          have h9 := hc j _ (nat_cells l j (by omega))
          rw [h9, getElem!_pos zs j hj]
          have : l[j]'(by omega) = zs[j].val := by simp [← hzv]
          rw [this])
      rw [List.take_of_length_le (by omega)] at hC
      have he : (zs.any fun x => ks.getD x.val 0 == 3 || ks.getD x.val 0 == 4) = l.any fun k => ks.getD k 0 == 3 || ks.getD k 0 == 4 := by
        conv => rhs; rw [← hzv]
        rw [List.any_map]; rfl
      rw [he] at hC
      exact hC
  go_wp2_with (first
    | (go_at_call 88; refine KD.out.mono ?_; rintro e w2 ⟨v2, rfl, hO2, hb2⟩)
    | (go_at_call 137; refine (CON.out _ _ hb2 (OwnN.of hO2)).mono ?_; rintro e w3 ⟨rfl, q, rfl⟩))
  go_ret
  exact ⟨rfl, below_drewN (below_then HZ.out hb2 HZ.out.size) _⟩
end
end Go.Proofs.Ytbacdllokgcohaa
