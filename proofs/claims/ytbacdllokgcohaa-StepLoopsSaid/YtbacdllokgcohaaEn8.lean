/-
  Package enter: Enter.
-/
import Derived.Test.YtbacdllokgcohaaEn7
namespace Go.Proofs.Ytbacdllokgcohaa
set_option maxRecDepth 100000
open Go.ChangeShapes Go.WideShapes Go.ChangeAt Go.RowKit

section
variable {ks ps : List Int} {n : Nat}
theorem wayF_stab (h : ShF ks ps n) (past : Nat → Nat) {t : Nat} : ∀ (f f' a : Nat), n - a ≤ f → n - a ≤ f' → a < n → wayF ks ps n past f a t = wayF ks ps n past f' a t
  | 0, _, a, h1, _, ha => by omega
  | _ + 1, 0, a, _, h1, ha => by omega
  | f + 1, f' + 1, a, h1, h2, ha => by
    unfold wayF
    cases hf : (kidsTo ps a n).find? fun k : Nat => undB ps t k with
    | none => rfl
    | some k =>
      have hk := mem_kidsTo.1 (List.mem_of_find?_eq_some hf)
      have hlt := h.lt hk.1 hk.2
      show (if a = t then _ else a :: (wayF ks ps n past f k t ++ _)) = (if a = t then _ else a :: (wayF ks ps n past f' k t ++ _))
      rw [wayF_stab h past f f' k (by omega) (by omega) hk.1]
theorem wayF_succ (past : Nat → Nat) (f a t : Nat) : wayF ks ps n past (f + 1) a t = if a = t then intoH ks ps n past t
    else a :: ((match (kidsTo ps a n).find? fun k : Nat => undB ps t k with
      | some k => wayF ks ps n past f k t
      | none => []) ++ if ks.getD a 0 = 2 then ((kidsTo ps a n).filter fun k : Nat => !undB ps t k).flatMap (inS ks ps n) else []) := rfl
theorem way_step (h : ShF ks ps n) (past : Nat → Nat) {t k q : Nat} (ht : t < n) (hk : k < n) (hu : Und ps t k) (e : ps.getD k 0 = q) :
    wayF ks ps n past (n - q) q t = q :: (wayF ks ps n past (n - k) k t ++ if ks.getD q 0 = 2 then otherL ks ps n q k else []) := by
  have hqk := h.lt hk e
  have hkt := und_le h hu ht
  have huniq : ∀ j ∈ kidsTo ps q n, undB ps t j = decide (j = k) := fun j hj => by
    obtain ⟨h1, h2⟩ := mem_kidsTo.1 hj
    rw [Bool.eq_iff_iff, undB_iff h ht, decide_eq_true_eq]
    constructor
    · intro h3; exact und_kids h ht h3 hu (by rw [h2, e])
    · intro h3; subst h3; exact hu
  have hfind : (kidsTo ps q n).find? (fun j : Nat => undB ps t j) = some k := by
    cases hf : (kidsTo ps q n).find? fun j : Nat => undB ps t j with
    | none =>
      rw [List.find?_eq_none] at hf
      have := hf k (mem_kidsTo.2 ⟨hk, e⟩)
      rw [huniq k (mem_kidsTo.2 ⟨hk, e⟩)] at this
      simp at this
    | some j =>
      have h1 := List.mem_of_find?_eq_some hf
      have h2 : undB ps t j = true := by simpa using List.find?_some hf
      rw [huniq j h1, decide_eq_true_eq] at h2
      rw [h2]
  obtain ⟨f, hf⟩ : ∃ f, n - q = f + 1 := ⟨n - q - 1, by omega⟩
  rw [hf, wayF_succ, if_neg (by omega), hfind]
  show q :: (wayF ks ps n past f k t ++ _) = _
  rw [wayF_stab h past f (n - k) k (by omega) (Nat.le_refl _) hk]
  congr 2
  by_cases h2 : ks.getD q 0 = 2
  · rw [if_pos h2, if_pos h2]
    unfold otherL
    congr 1
    apply List.filter_congr
    intro j hj
    rw [huniq j hj]
    by_cases e9 : j = k
    · subst e9; simp
    · rw [decide_eq_false e9, Bool.not_false, eq_comm, decide_eq_true_eq]; omega
  · rw [if_neg h2, if_neg h2]
theorem way_top (h : ShF ks ps n) (past : Nat → Nat) {t k : Nat} {d : Int} (ht : t < n) (hk : k < n) (hu : Und ps t k) (e : ps.getD k 0 = d) (htd : Und ps t d) (hne : (t : Int) ≠ d) : wayF ks ps n past (n - k) k t = enterL ks ps n past d t := by
  obtain ⟨h1, h2, h3⟩ := topF_spec h t t ht (Nat.le_refl _) htd hne
  unfold enterL
  have := und_kids h ht hu h3 (by rw [e, h2])
  rw [← this]
theorem way_len (h : ShF ks ps n) {past : Nat → Nat} (hp : PastOk ks ps n past) {t a : Nat} (ht : t < n) (ha : a < n) (hu : Und ps t a) : (wayF ks ps n past (n - a) a t).length ≤ n ∧ 0 < (wayF ks ps n past (n - a) a t).length := by
  have hwl := wayF_list h hp ht (n - a) a (Nat.le_refl _) ha hu
  have key : ∃ j, LC ks ps n (fun k => k ∈ wayF ks ps n past (n - a) a t) j := by
    by_cases e : a = t
    · subst e
      rw [wayF_self]
      cases hh : hl ks a
      · obtain ⟨q, e, _⟩ := hist h ha hh
        obtain ⟨j, _, _, hlc⟩ := intoH_hist h hp ha hh e
        exact ⟨j, hlc⟩
      · have := wayF_LC h hp ht (n - a) a (Nat.le_refl _) ha hh hu
        rw [wayF_self] at this
        exact ⟨_, this⟩
    · obtain ⟨j, hj, ej, _⟩ := und_down h ht hu (by omega)
      exact ⟨_, wayF_LC h hp ht (n - a) a (Nat.le_refl _) ha (h.up j a hj ej) hu⟩
  obtain ⟨j, hlc⟩ := key
  exact ⟨nodup_len n _ hwl.1 fun k hk => (hlc.un k hk).1, List.length_pos_of_mem hlc.me⟩
end
section
variable {ks ps : List Int} {A B : Option Addr} {n c d : Nat}
theorem properly_same (t : Int) (w : World) :
    Calls Try.prog 106 #[.agg #[.slice A n c, .slice B n d], .int .i64 t, .int .i64 t] w fun e w' => e = .returned (.bool false) ∧ Below w.heap.size w w' := by
  have HZ := Lib.hid (box_b w (.cells #[.slice A n c, .slice B n d] 25))
  have g1 : (t != t) = false := by simp
  go_enter Try.func106, Try.ntmps106
  go_wp2
  go_ret
  exact ⟨rfl, HZ.out⟩
set_option maxHeartbeats 8000000 in
theorem Enter_any (t : Nat) (dm : Int) (v : Value) (rs : List Nat) (w : World) (h : IntsAt w (.slice A n c) ks ∧ IntsAt w (.slice B n d) ps) (hf : ShF ks ps n) (hn : n ≤ 24) (hu : U32sAt w v rs) (hp : PastOk ks ps n (pfun rs))
    (ht : t < n) (htd : Und ps t dm) (hne : (t : Int) ≠ dm) :
    Calls Try.prog 68 #[.agg #[.slice A n c, .slice B n d], .int .i64 dm, .int .i64 t, v] w (KidsTo (enterL ks ps n (pfun rs) dm t) w) := by
  obtain ⟨A7, c7, rfl⟩ := u32s_form hu
  have x0 := box_0 w 25 (.slice A n c) (.slice B n d)
  have x1 := box_1 w 25 (.slice A n c) (.slice B n d)
  have hz := box_b w (.cells #[.slice A n c, .slice B n d] 25)
  have hlt0 : w.heap.size < (w.alloc (.cells #[.slice A n c, .slice B n d] 25)).heap.size := by simp
  have S1 := Lib.hid (shp_below h hz)
  have HU := Lib.hid (hu.below hz)
  have HZ := Lib.hid hz
  have HF := Lib.hid hf
  have HP := Lib.hid hp
  have HTD := Lib.hid htd
  have hti : (t : Int) < n := by omega
  clear h hz hf hu hp htd
  go_enter Try.func68, Try.ntmps68
  go_upto_region 1 with (fail)
  generalize w.alloc (.cells #[.slice A n c, .slice B n d] 25) = w0 at *
  have VA := Lib.hid (val_any w0 S1.out HF.out (by omega) hn)
  have UN : Hid (∀ W, Below w0.heap.size w0 W → Calls Try.prog 101 #[.agg #[.slice A n c, .slice B n d], .int .i64 t, .int .i64 (-1)] W fun e w' => e = .returned (.bool true) ∧ Below W.heap.size W w') := fun W hW => by
    have := Under_any t (-1) W (shp_below S1.out hW) HF.out (by omega) ht
    rwa [undB_top] at this
  have CK := Lib.hid (fun W (hW : Below w0.heap.size w0 W) => completeH_any _ rs HF.out hn HP.out t W ht (shp_below S1.out hW) (HU.out.below hW))
  have OT := Lib.hid (fun W (hW : Below w0.heap.size w0 W) (q k : Nat) (hq : q < n) (h2 : ks.getD q 0 = 2) => others_any q (k : Int) _ rs W (shp_below S1.out hW) HF.out hn (HU.out.below hW) hq h2
    fun k W' _ hk hh hS hU => complete_any _ rs HF.out hn n k W' (by omega) hk hh hS hU)
  have PR := Lib.hid (fun W (hW : Below w0.heap.size w0 W) (k : Nat) (hk : k < n) => properly_any k dm W (shp_below S1.out hW) HF.out (by omega) hk)
  have hcellp := fun W (hW : Below w0.heap.size w0 W) (k : Nat) (hk : k < n) => ints_cell (shp_below S1.out hW).2 (k := k) (by rw [HF.out.pl]; exact hk)
  have hcellk := fun W (hW : Below w0.heap.size w0 W) (k : Nat) (hk : k < n) => ints_cell (shp_below S1.out hW).1 (k := k) (by rw [HF.out.kl]; exact hk)
  have HCP := Lib.hid hcellp
  have HCK := Lib.hid hcellk
  clear hcellp hcellk
  go_upto_region 4 with (first
    | (go_at_call 55; refine VA.out.mono ?_; rintro e w1 ⟨rfl, hb1⟩; have y0 := (hb1.cell (p := ⟨w.heap.size, 0, none⟩) hlt0).trans x0; have y1 := (hb1.cell (p := ⟨w.heap.size, 1, none⟩) hlt0).trans x1)
    | (go_at_call 101; refine (UN.out _ hb1).mono ?_; rintro e w2 ⟨rfl, hb2⟩; have hb2' := below_then hb1 hb2 hb1.size; have y20 := (hb2'.cell (p := ⟨w.heap.size, 0, none⟩) hlt0).trans x0; have y21 := (hb2'.cell (p := ⟨w.heap.size, 1, none⟩) hlt0).trans x1)
    | (go_at_call 59; refine (CK.out _ hb2').mono ?_; rintro e w3 ⟨v3, rfl, hO3, hb3⟩; have HB3 := Lib.hid (below_then hb2' hb3 hb2'.size); have HO3 : Hid (OwnN w3 w0.heap.size v3 _) := own_mono2 (OwnN.of hO3) hb2'.size; clear hO3 hb3 hb2 hb1 hb2'))
  have y30 := (HB3.out.cell (p := ⟨w.heap.size, 0, none⟩) hlt0).trans x0
  have y31 := (HB3.out.cell (p := ⟨w.heap.size, 1, none⟩) hlt0).trans x1
  obtain ⟨bp, offp, hBp, hbp, hcp, _⟩ := HCP.out w3 HB3.out t ht
  have hpt := HF.out.pa t ht
  have HPT := Lib.hid hpt
  clear hpt
  subst hBp
  go_quiet (fail)
  go_wp2
  go_loopw [9, 10, 11] (fun u i j wr => ∃ (k : Nat) (a : Int), i = .int .i64 k ∧ j = .int .i64 a ∧ Hid (k < n ∧ Und ps t k ∧ Und ps k dm ∧ (k : Int) ≠ dm ∧ ps.getD k 0 = a) ∧ Hid (OwnN wr w0.heap.size u (wayF ks ps n (pfun rs) (n - k) k t)) ∧ Hid (Below w0.heap.size w0 wr)) (fun _ _ j _ => (intOf j + 1).toNat)
  case atStart =>
    refine ⟨t, ps.getD t 0, rfl, rfl, ⟨ht, .self t, HTD.out, hne, rfl⟩, ?_, below_drewN HB3.out _⟩
    show OwnN _ _ _ _
    rw [wayF_self]
    exact own_below HO3.out (below_drewN (Below.refl _ _) _) HB3.out.size
  case round =>
    obtain ⟨k, a, rfl, rfl, HK, HO, HB⟩ := hrel
    have hbz := HB.out.size
    have z0 := (HB.out.cell (p := ⟨w.heap.size, 0, none⟩) hlt0).trans x0
    have z1 := (HB.out.cell (p := ⟨w.heap.size, 1, none⟩) hlt0).trans x1
    have HWL := Lib.hid (way_len HF.out HP.out ht HK.out.1 HK.out.2.1)
    by_cases had : a = dm
    · have HE := Lib.hid (way_top HF.out (pfun rs) ht HK.out.1 HK.out.2.1 (HK.out.2.2.2.2.trans had) HTD.out hne)
      subst had
      clear HK HWL
      go_wp2_with (go_at_call 106; refine (properly_same a wr).mono ?_; rintro e w4 ⟨rfl, hb4⟩)
      go_ret
      exact kidsTo_mk HE.out (OwnN.ints (own_below (own_mono2 HO.out (by have := HZ.out.size; omega)) hb4 (by have := HZ.out.size; omega))) (below_then HZ.out (below_then HB.out hb4 hbz) HZ.out.size)
    · have hq : ∃ q : Nat, a = q ∧ Und ps q dm := by
        obtain ⟨h1, h2, h3, h4, h5⟩ := HK.out
        have hpk := HF.out.pa k h1
        cases h3 with
        | self => exact absurd rfl h4
        | top => exact ⟨a.toNat, by omega, .top _⟩
        | up _ q _ e h' => exact ⟨q, by omega, h'⟩
      obtain ⟨q, rfl, hqd⟩ := hq
      have hqk := HF.out.lt HK.out.1 HK.out.2.2.2.2
      have hqn : q < n := by have := HK.out.1; omega
      have hqi : (q : Int) < n := by omega
      have PQ : Hid (Calls Try.prog 106 #[.agg #[.slice A n c, .slice (some ⟨bp, offp, none⟩) n d], .int .i64 q, .int .i64 dm] wr fun e w' => e = .returned (.bool true) ∧ Below wr.heap.size wr w') := by
        have := PR.out wr HB.out q hqn
        rwa [decide_eq_true had, (undB_iff HF.out hqn).2 hqd, Bool.true_and] at this
      have HS := Lib.hid (way_step HF.out (pfun rs) ht HK.out.1 HK.out.2.1 HK.out.2.2.2.2)
      have HQD := Lib.hid hqd
      have HTQ : Hid (Und ps t q) := und_trans HK.out.2.1 (und_kid HK.out.2.2.2.2)
      obtain ⟨bk, offk, hBk, hbk, hck, _⟩ := HCK.out wr HB.out q hqn
      subst hBk
      obtain ⟨A5, c5, rfl⟩ := own_slice HO.out
      have hol := other_len (ks := ks) (ps := ps) (n := n) HF.out hn (x := q)
      have OTq := Lib.hid (fun W hW h2 => OT.out W hW q k hqn h2)
      clear hqd
      generalize hz9 : ks.getD q 0 = z at *
      have hone : ∀ W : World, wr.heap.size ≤ W.heap.size → (Value.slice A5 (wayF ks ps n (pfun rs) (n - k) k t).length c5).ownBlock ≠ some W.heap.size := fun W hW e => by
        have := (HO.out.lt _ e).2; omega
      go_upto_region 8 with (first
        | (go_at_call 106; refine PQ.out.mono ?_; rintro e w4 ⟨rfl, hb4⟩; have HB4 := Lib.hid (below_then HB.out hb4 hbz); have HO4 := Lib.hid (own_below HO.out hb4 hbz); have hb4s := hb4.size)
        | (go_at_call 107; refine (ins_own (HO4.out.alloc _) HWL.out.2 (by have := HWL.out.1; omega) (by have := HB4.out.size; simp; omega) (heap_alloc_new _ _) (hone w4 hb4s)).mono ?_; rintro e w5 ⟨v5, rfl, hO5, hg5⟩))
      have hB5 : Below w0.heap.size w0 w5 := (HB4.out.alloc HB4.out.size _).grown hg5 (by have := HB4.out.size; simp; omega) (fun j e => (HO4.out.lt j e).1)
      have HB5 := Lib.hid hB5
      have HO5 := Lib.hid hO5
      have y50 := (hB5.cell (p := ⟨w.heap.size, 0, none⟩) hlt0).trans x0
      have y51 := (hB5.cell (p := ⟨w.heap.size, 1, none⟩) hlt0).trans x1
      obtain ⟨bk2, offk2, eK, hbk2, hck2, _⟩ := HCK.out w5 hB5 q hqn
      injection eK with eK
      injection eK with eK1 eK2
      subst eK1; subst eK2
      rw [hz9] at hck2
      clear hO5 hg5 hB5 hone
      by_cases h2 : z = 2
      · subst h2
        have HS2 : Hid (wayF ks ps n (pfun rs) (n - q) q t = (q :: wayF ks ps n (pfun rs) (n - k) k t) ++ otherL ks ps n q k) := by show _ = _; rw [HS.out, if_pos rfl]; rfl
        have HOLn := Lib.hid (hol rfl (k : Int))
        have OTk := Lib.hid (OTq.out w5 HB5.out rfl)
        clear HS hol OTq
        go_upto_region 6 with (first
          | (go_at_call 96; refine OTk.out.mono ?_; rintro e w6 ⟨v6, rfl, hO6, hb6⟩; have HO6 := Lib.hid (own_below HO5.out hb6 HB5.out.size); have HB6 := Lib.hid (below_then HB5.out hb6 HB5.out.size))
          | (at_builtin; go_must (refine wpList_append_nn rfl (.tmp 51) (.tmp 56) rfl rfl HO6.out rfl (OwnN.of hO6) (by have := HOLn.out; have := HWL.out.1; rw [List.length_cons]; omega) HB6.out.size ?_; intro v' w7 hown' hg')))
        have HB7 := Lib.hid (HB6.out.grown hg' HB6.out.size (fun j e => (HO6.out.lt j e).1))
        have HO7 : Hid (OwnN w7 w0.heap.size v' (wayF ks ps n (pfun rs) (n - q) q t)) := by show OwnN _ _ _ _; rw [HS2.out]; exact hown'
        clear hown' hg' hO6 hb6
        have y70 := (HB7.out.cell (p := ⟨w.heap.size, 0, none⟩) hlt0).trans x0
        have y71 := (HB7.out.cell (p := ⟨w.heap.size, 1, none⟩) hlt0).trans x1
        obtain ⟨bp2, offp2, eP, hbp2, hcp2, _⟩ := HCP.out w7 HB7.out q hqn
        injection eP with eP
        injection eP with eP1 eP2
        subst eP1; subst eP2
        have hpq := HF.out.pa q hqn
        generalize hp9 : ps.getD q 0 = p at *
        go_quiet (fail)
        go_wp2
        go_roundw
        case rel => exact ⟨q, p, rfl, rfl, ⟨hqn, HTQ.out, HQD.out, had, hp9⟩, own_below HO7.out (below_drewN (Below.refl _ _) _) HB7.out.size, below_drewN HB7.out _⟩
        case measure => simp [intOf]; omega
      · have HS2 : Hid (wayF ks ps n (pfun rs) (n - q) q t = q :: wayF ks ps n (pfun rs) (n - k) k t) := by show _ = _; rw [HS.out, if_neg h2, List.append_nil]
        have g2 : (z == 2) = false := by simpa using h2
        clear HS hol OTq
        go_upto_region 6 with (fail)
        obtain ⟨bp2, offp2, eP, hbp2, hcp2, _⟩ := HCP.out w5 HB5.out q hqn
        injection eP with eP
        injection eP with eP1 eP2
        subst eP1; subst eP2
        have hpq := HF.out.pa q hqn
        generalize hp9 : ps.getD q 0 = p at *
        go_quiet (fail)
        go_wp2
        go_roundw
        case rel => exact ⟨q, p, rfl, rfl, ⟨hqn, HTQ.out, HQD.out, had, hp9⟩, (show OwnN _ _ _ _ by rw [HS2.out]; exact own_below HO5.out (below_drewN (Below.refl _ _) _) HB5.out.size), below_drewN HB5.out _⟩
        case measure => simp [intOf]; omega
end
end Go.Proofs.Ytbacdllokgcohaa
