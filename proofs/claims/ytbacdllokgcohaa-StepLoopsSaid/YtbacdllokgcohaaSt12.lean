/-
  Package step: Begin, of a chart that is valid.
-/
import Derived.Test.YtbacdllokgcohaaSt11
namespace Go.Proofs.Ytbacdllokgcohaa
set_option maxRecDepth 100000
open Go.ChangeShapes Go.WideShapes Go.ChangeAt Go.RowKit

def cf0 (n : Nat) : Cf := ⟨0, padL n [], padI n []⟩
theorem cf0_ok (n : Nat) : CfOk n (cf0 n) := by
  refine ⟨by simp [cf0, padL], by simp [cf0, padI], Nat.two_pow_pos n, fun p hp => ?_, fun z hz => ?_⟩
  · simp only [cf0, padL, List.nil_append, List.length_nil, Nat.sub_zero] at hp
    rw [(List.mem_replicate.1 hp).2]; exact Nat.two_pow_pos n
  · simp only [cf0, padI, List.nil_append, List.length_nil, Nat.sub_zero] at hz
    rw [(List.mem_replicate.1 hz).2]; decide
theorem cf0_at {n base gP gS : Nat} {W : World} (hn : n ≤ 24) (hS : base ≤ gS) (rP : W.heap[gP]? = some (.cells (ucl (padL n [])).toArray 33 (0, 0))) (rS : W.heap[gS]? = some (.cells (icells (padI n [])).toArray 3 (0, 0))) : CfR base W n (cf0 n) (.slice (some ⟨gP, 0, none⟩) n n) gS := by
  refine ⟨cf0_ok n, ?_, hS, rS⟩
  have hl : (cf0 n).past.length = n := (cf0_ok n).lp
  refine ⟨some ⟨gP, 0, none⟩, n, by rw [hl], by rw [hl]; unfold maxLen; omega, fun k hk => ⟨gP, 0, rfl, (Array.getElem?_eq_some_iff.1 rP).1, ?_, ?_⟩⟩
  · rw [cell_of_row _ _ _ _ _ _ rP, Nat.zero_add, List.getElem?_toArray]; exact ucl_at (padL n []) k hk
  · exact Nat.lt_of_lt_of_le ((cf0_ok n).pl _ (List.getElem_mem hk)) (Nat.pow_le_pow_right (n := 2) (by omega) (show n ≤ 32 by omega))
/-- where a document of a chart begins -/
def begC (c : Ch) (n : Nat) (now : Int) : Cf := entC now (cf0 n) (inS c.kinds c.parents n (iniN c.kinds c.parents n (-1)))
set_option maxHeartbeats 8000000 in
theorem begin_any (c : Ch) (n : Nat) (AN AK AP AT : Option Addr) (cN cK cP cT : Nat) (now : Int) (I : Cf → Prop) (w : World) (h : ChW w c n AK AP AT cK cP cT) (hN : ListAt w AN cN c.names) (hv : validB c = true) (hnl : c.names.length ≤ 24)
    (hw : (Lit.int .i64 now).wf = true) (hI : RunInv c n now I) (hx : I (begC c n now)) :
    Calls Try.prog 11 #[chV AN AK AP AT c.names.length cN n cK n cP c.trans.length cT, .int .i64 now] w (RunTo n (runC c n now 16 (begC c n now) []) w) := by
  have RC0 : ((w.alloc (.cells #[.slice AN c.names.length cN, .slice AK n cK, .slice AP n cP, .slice AT c.trans.length cT] 28)).alloc (.cells #[.int .u32 0, .slice none 0 0, .slice none 0 0] 36)).heap[w.heap.size]? = _ := (heap_alloc_old _ _ (by simp)).trans (heap_alloc_new _ _)
  have RR0 : ((w.alloc (.cells #[.slice AN c.names.length cN, .slice AK n cK, .slice AP n cP, .slice AT c.trans.length cT] 28)).alloc (.cells #[.int .u32 0, .slice none 0 0, .slice none 0 0] 36)).heap[w.heap.size + 1]? = some (.cells #[.int .u32 0, .slice none 0 0, .slice none 0 0] 36 (0, 0)) := by
    have := heap_alloc_new (w.alloc (.cells #[.slice AN c.names.length cN, .slice AK n cK, .slice AP n cP, .slice AT c.trans.length cT] 28)) (.cells #[.int .u32 0, .slice none 0 0, .slice none 0 0] 36)
    simpa using this
  have hB0 : Below w.heap.size w ((w.alloc (.cells #[.slice AN c.names.length cN, .slice AK n cK, .slice AP n cP, .slice AT c.trans.length cT] 28)).alloc (.cells #[.int .u32 0, .slice none 0 0, .slice none 0 0] 36)) := ((Below.refl _ _).alloc (Nat.le_refl _) _).alloc (by simp) _
  have HB0 := Lib.hid hB0
  have HH := Lib.hid h
  have hnn := h.nn
  have hik := iniN_kid h.sh.tp
  have HEL : Hid (∀ k ∈ inS c.kinds c.parents n (iniN c.kinds c.parents n (-1)), k < n) := fun k hm => (inS_und h.sh hik.1 (kid_hl hik.2) hm).1
  have hEn : (inS c.kinds c.parents n (iniN c.kinds c.parents n (-1))).length ≤ 1000 := by have := inS_len h.sh hik.1 (kid_hl hik.2); omega
  have VA := CValid_yes c AN AK AP AT cN cK cP cT _ (hN.below hB0) (by rw [h.sh.kl, h.sh.pl]; exact ⟨h.kp.1.below hB0, h.kp.2.below hB0⟩) (h.tr.below hB0) h.tc hnl hv
  rw [h.sh.kl, h.sh.pl] at VA
  have VA := Lib.hid VA
  clear hB0 h hik hN hv
  go_enter Try.func11, Try.ntmps11
  go_upto_region 1 with fail
  generalize (w.alloc (.cells #[.slice AN c.names.length cN, .slice AK n cK, .slice AP n cP, .slice AT c.trans.length cT] 28)).alloc (.cells #[.int .u32 0, .slice none 0 0, .slice none 0 0] 36) = w0 at *
  have k0 := cell_of_row _ _ 0 _ _ _ RC0; have k1 := cell_of_row _ _ 1 _ _ _ RC0; have k2 := cell_of_row _ _ 2 _ _ _ RC0; have k3 := cell_of_row _ _ 3 _ _ _ RC0
  have hl1 : w.heap.size + 1 < w0.heap.size := (Array.getElem?_eq_some_iff.1 RR0).1
  go_upto_region 3 with (go_at_call 31; refine VA.out.mono ?_; rintro e w1 ⟨rfl, hb1⟩; have HB1 := Lib.hid hb1; clear hb1)
  have RC := (HB1.out.block _ (by omega)).trans RC0
  have RR := (HB1.out.block _ hl1).trans RR0
  have hs1 := HB1.out.size
  have hbw := below_then HB0.out HB1.out HB0.out.size
  have HBW := Lib.hid hbw
  have HRR := Lib.hid RR
  have c0 := cell_of_row _ _ 0 _ _ _ RC; have c1 := cell_of_row _ _ 1 _ _ _ RC; have c2 := cell_of_row _ _ 2 _ _ _ RC; have c3 := cell_of_row _ _ 3 _ _ _ RC
  have hL0 : w.heap.size < w1.heap.size := by omega
  have hL1 : w.heap.size + 1 < w1.heap.size := by omega
  have hm0 : w.heap.size ≠ w.heap.size + 1 := by omega
  clear RC RR RC0 RR0 k0 k1 k2 k3 VA hbw
  have OW := Lib.hid (fun W (hW : Below w1.heap.size w1 W) => own_any AN AK AP AT c.names.length cN n cK n cP c.trans.length cT 0 none none 0 0 [] [] W hnn ⟨none, 0, rfl, Nat.zero_le _, fun k hk => by simp at hk⟩ ⟨none, 0, rfl, Nat.zero_le _, fun k hk => by simp at hk⟩ (Nat.zero_le _) (Nat.zero_le _))
  have SB := Lib.hid (fun W (hW : Below w1.heap.size w1 W) => Start_B W ⟨HH.out.kp.1.below (below_then HBW.out hW HBW.out.size), HH.out.kp.2.below (below_then HBW.out hW HBW.out.size)⟩ HH.out.sh HH.out.n0 hnn)
  have RN := Lib.hid (fun W (hW : Below w1.heap.size w1 W) (gP gS : Nat) (hR : CfR w1.heap.size W n (begC c n now) (.slice (some ⟨gP, 0, none⟩) n n) gS) => run_any c n AN AK AP AT (some ⟨gP, 0, none⟩) (some ⟨gS, 0, none⟩) cN cK cP cT n n (begC c n now) now I W (HH.out.below (below_then HBW.out hW HBW.out.size)) hR.uP (hR.ints (by omega)) hw hI hx)
  generalize runC c n now 16 (begC c n now) [] = o at *
  rcases o with _ | ⟨y, out⟩
  · go_region_held3 (fun w' => w'.cell? ⟨w.heap.size, 0, none⟩ = some (.slice AN c.names.length cN) ∧ w'.cell? ⟨w.heap.size, 1, none⟩ = some (.slice AK n cK) ∧ w'.cell? ⟨w.heap.size, 2, none⟩ = some (.slice AP n cP) ∧ w'.cell? ⟨w.heap.size, 3, none⟩ = some (.slice AT c.trans.length cT))
      (first | exact ⟨c0, c1, c2, c3⟩ | exact ⟨(hb2.cell (p := ⟨w.heap.size, 0, none⟩) hL0).trans c0, (hb2.cell (p := ⟨w.heap.size, 1, none⟩) hL0).trans c1, (hb2.cell (p := ⟨w.heap.size, 2, none⟩) hL0).trans c2, (hb2.cell (p := ⟨w.heap.size, 3, none⟩) hL0).trans c3⟩ | exact ⟨(hb3.cell (p := ⟨w.heap.size, 0, none⟩) hL0).trans c0, (hb3.cell (p := ⟨w.heap.size, 1, none⟩) hL0).trans c1, (hb3.cell (p := ⟨w.heap.size, 2, none⟩) hL0).trans c2, (hb3.cell (p := ⟨w.heap.size, 3, none⟩) hL0).trans c3⟩ | exact ⟨(hb4.cell (p := ⟨w.heap.size, 0, none⟩) hL0).trans c0, (hb4.cell (p := ⟨w.heap.size, 1, none⟩) hL0).trans c1, (hb4.cell (p := ⟨w.heap.size, 2, none⟩) hL0).trans c2, (hb4.cell (p := ⟨w.heap.size, 3, none⟩) hL0).trans c3⟩ | exact ⟨(hb9.cell (p := ⟨w.heap.size, 0, none⟩) hL0).trans c0, (hb9.cell (p := ⟨w.heap.size, 1, none⟩) hL0).trans c1, (hb9.cell (p := ⟨w.heap.size, 2, none⟩) hL0).trans c2, (hb9.cell (p := ⟨w.heap.size, 3, none⟩) hL0).trans c3⟩ | exact ⟨(sets3_cell w9 _ _ _ _ _ _ hz0 hm0).trans ((hb9.cell (p := ⟨w.heap.size, 0, none⟩) hL0).trans c0), (sets3_cell w9 _ _ _ _ _ _ hz0 hm0).trans ((hb9.cell (p := ⟨w.heap.size, 1, none⟩) hL0).trans c1), (sets3_cell w9 _ _ _ _ _ _ hz0 hm0).trans ((hb9.cell (p := ⟨w.heap.size, 2, none⟩) hL0).trans c2), (sets3_cell w9 _ _ _ _ _ _ hz0 hm0).trans ((hb9.cell (p := ⟨w.heap.size, 3, none⟩) hL0).trans c3)⟩ | go_keep)
      (first
      | (go_at_call 34; refine (OW.out _ (by first | exact Below.refl _ _ | exact below_drew (Below.refl _ _))).mono ?_; rintro e w2 ⟨hb2', gP, gS, rfl, ⟨hlP', hlS'⟩, hrP, hrS⟩; have hlP : w1.heap.size ≤ gP := hlP'; have hlS : w1.heap.size ≤ gS := hlS'; have hb2 : Below w1.heap.size w1 w2 := (by first | exact hb2' | exact below_then (below_drew (Below.refl _ _)) hb2' (Nat.le_refl _)))
      | (go_at_call 35; refine (SB.out _ hb2).mono ?_; rintro e w3 ⟨A9, c9, rfl, hi9, ha9, hb3'⟩; have hb3 : Below w1.heap.size w1 w3 := below_then hb2 hb3' hb2.size)
      | (go_at_call 33; refine (entered_any n ⟨0, padL n [], padI n []⟩ (.slice (some ⟨gP, 0, none⟩) n n) gS w1.heap.size (inS c.kinds c.parents n (iniN c.kinds c.parents n (-1))) A9 c9 now w3 hnn ((cf0_at hnn hlS hrP hrS).below hb3') hb3.size hi9 HEL.out (fun b off e => by have h1 := ha9 b off e; have h2 := (Array.getElem?_eq_some_iff.1 hrS).1; omega) hEn hw).mono ?_; rintro e w4 ⟨hb4', rfl, hR4⟩; have hb4 : Below w1.heap.size w1 w4 := hb3.trans hb4')
      | (go_at_call 32; refine (RN.out w4 hb4 gP gS hR4).mono ?_; rintro e w9 ⟨hb9', h9⟩; have hb9 : Below w1.heap.size w1 w9 := below_then hb4 hb9' hb4.size; subst h9; have rr9 := (hb9.block _ hL1).trans HRR.out; have d0 := cell_of_row _ _ 0 _ _ _ rr9; have d1 := cell_of_row _ _ 1 _ _ _ rr9; have d2 := cell_of_row _ _ 2 _ _ _ rr9; have f0 := fzc_of rr9 0; have f1 := fzc_of rr9 1; have f2 := fzc_of rr9 2; have hz1 := (Array.getElem?_eq_some_iff.1 rr9).1; have hz0 : w.heap.size < w9.heap.size := (by omega)))
    go_wp2
    (try simp only [Exit.inBlock, Exit.then])
    refine bodyPost_ret (run_cellU2 rfl _ _ (w.heap.size + 1) _ _ _ _ rfl (sets3_row rr9 _ _ _) Try.underlying36 rfl (by kernel_rfl)) rfl ?_
    exact ⟨sets3_below (below_then HBW.out hb9 HBW.out.size) (Nat.le_refl _) (by omega) _ _ _, rfl⟩
  · go_region_held3 (fun w' => w'.cell? ⟨w.heap.size, 0, none⟩ = some (.slice AN c.names.length cN) ∧ w'.cell? ⟨w.heap.size, 1, none⟩ = some (.slice AK n cK) ∧ w'.cell? ⟨w.heap.size, 2, none⟩ = some (.slice AP n cP) ∧ w'.cell? ⟨w.heap.size, 3, none⟩ = some (.slice AT c.trans.length cT))
      (first | exact ⟨c0, c1, c2, c3⟩ | exact ⟨(hb2.cell (p := ⟨w.heap.size, 0, none⟩) hL0).trans c0, (hb2.cell (p := ⟨w.heap.size, 1, none⟩) hL0).trans c1, (hb2.cell (p := ⟨w.heap.size, 2, none⟩) hL0).trans c2, (hb2.cell (p := ⟨w.heap.size, 3, none⟩) hL0).trans c3⟩ | exact ⟨(hb3.cell (p := ⟨w.heap.size, 0, none⟩) hL0).trans c0, (hb3.cell (p := ⟨w.heap.size, 1, none⟩) hL0).trans c1, (hb3.cell (p := ⟨w.heap.size, 2, none⟩) hL0).trans c2, (hb3.cell (p := ⟨w.heap.size, 3, none⟩) hL0).trans c3⟩ | exact ⟨(hb4.cell (p := ⟨w.heap.size, 0, none⟩) hL0).trans c0, (hb4.cell (p := ⟨w.heap.size, 1, none⟩) hL0).trans c1, (hb4.cell (p := ⟨w.heap.size, 2, none⟩) hL0).trans c2, (hb4.cell (p := ⟨w.heap.size, 3, none⟩) hL0).trans c3⟩ | exact ⟨(hb9.cell (p := ⟨w.heap.size, 0, none⟩) hL0).trans c0, (hb9.cell (p := ⟨w.heap.size, 1, none⟩) hL0).trans c1, (hb9.cell (p := ⟨w.heap.size, 2, none⟩) hL0).trans c2, (hb9.cell (p := ⟨w.heap.size, 3, none⟩) hL0).trans c3⟩ | exact ⟨(sets3_cell w9 _ _ _ _ _ _ hz0 hm0).trans ((hb9.cell (p := ⟨w.heap.size, 0, none⟩) hL0).trans c0), (sets3_cell w9 _ _ _ _ _ _ hz0 hm0).trans ((hb9.cell (p := ⟨w.heap.size, 1, none⟩) hL0).trans c1), (sets3_cell w9 _ _ _ _ _ _ hz0 hm0).trans ((hb9.cell (p := ⟨w.heap.size, 2, none⟩) hL0).trans c2), (sets3_cell w9 _ _ _ _ _ _ hz0 hm0).trans ((hb9.cell (p := ⟨w.heap.size, 3, none⟩) hL0).trans c3)⟩ | go_keep)
      (first
      | (go_at_call 34; refine (OW.out _ (by first | exact Below.refl _ _ | exact below_drew (Below.refl _ _))).mono ?_; rintro e w2 ⟨hb2', gP, gS, rfl, ⟨hlP', hlS'⟩, hrP, hrS⟩; have hlP : w1.heap.size ≤ gP := hlP'; have hlS : w1.heap.size ≤ gS := hlS'; have hb2 : Below w1.heap.size w1 w2 := (by first | exact hb2' | exact below_then (below_drew (Below.refl _ _)) hb2' (Nat.le_refl _)))
      | (go_at_call 35; refine (SB.out _ hb2).mono ?_; rintro e w3 ⟨A9, c9, rfl, hi9, ha9, hb3'⟩; have hb3 : Below w1.heap.size w1 w3 := below_then hb2 hb3' hb2.size)
      | (go_at_call 33; refine (entered_any n ⟨0, padL n [], padI n []⟩ (.slice (some ⟨gP, 0, none⟩) n n) gS w1.heap.size (inS c.kinds c.parents n (iniN c.kinds c.parents n (-1))) A9 c9 now w3 hnn ((cf0_at hnn hlS hrP hrS).below hb3') hb3.size hi9 HEL.out (fun b off e => by have h1 := ha9 b off e; have h2 := (Array.getElem?_eq_some_iff.1 hrS).1; omega) hEn hw).mono ?_; rintro e w4 ⟨hb4', rfl, hR4⟩; have hb4 : Below w1.heap.size w1 w4 := hb3.trans hb4')
      | (go_at_call 32; refine (RN.out w4 hb4 gP gS hR4).mono ?_; rintro e w9 ⟨hb9', g3, gS2, v9, rfl, hg3', hR9, hO9⟩; have hb9 : Below w1.heap.size w1 w9 := below_then hb4 hb9' hb4.size; have hz4 := hb4.size; have rr9 := (hb9.block _ hL1).trans HRR.out; have d0 := cell_of_row _ _ 0 _ _ _ rr9; have d1 := cell_of_row _ _ 1 _ _ _ rr9; have d2 := cell_of_row _ _ 2 _ _ _ rr9; have f0 := fzc_of rr9 0; have f1 := fzc_of rr9 1; have f2 := fzc_of rr9 2; have hz1 := (Array.getElem?_eq_some_iff.1 rr9).1; have hz0 : w.heap.size < w9.heap.size := (by omega)))
    go_wp2
    (try simp only [Exit.inBlock, Exit.then])
    refine bodyPost_ret (run_cellU2 rfl _ _ (w.heap.size + 1) _ _ _ _ rfl (sets3_row rr9 _ _ _) Try.underlying36 rfl (by kernel_rfl)) rfl ?_
    have hlo9 := hR9.lo
    refine ⟨sets3_below (below_then HBW.out hb9 HBW.out.size) (Nat.le_refl _) (by omega) _ _ _, g3, gS2, v9, rfl, by omega, (sets3_cfr hR9 (by omega) (by omega) _ _ _).base (by omega), ?_⟩
    exact own_mono2 (sets3_own hO9 (by omega) _ _ _) (by omega)
end Go.Proofs.Ytbacdllokgcohaa
