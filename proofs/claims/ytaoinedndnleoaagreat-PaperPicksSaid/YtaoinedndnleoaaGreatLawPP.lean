/-
  PaperPicks: the walk.
-/
import Derived.Test.YtaoinedndnleoaaGreatPb3
import Derived.Test.YtaoinedndnleoaaGreatArgM
namespace Go.Proofs.YtaoinedndnleoaaGreat
set_option maxRecDepth 100000
open Go.ChangeShapes Go.WideShapes Go.ChangeAt Go.RowKit

def OfC (w : World) (e : Ending) (w' : World) : Prop := Below w.heap.size w w' ∧ ∃ (c : Ch) (AN AK AP AT BN BK BP BT : Option Addr) (cN cK cP cT dN dK dP dT nN nK nP : Nat), e = .returned (.tuple #[chV AN AK AP AT c.names.length cN c.names.length cK c.names.length cP c.trans.length cT, .agg #[.slice BN nN dN, .slice BK nK dK, .slice BP nP dP, .slice BT c.trans.length dT]]) ∧ ChW w' c c.names.length AK AP AT cK cP cT ∧ ListAt w' AN cN c.names ∧ OkC c
/-- a document in a block of the law's -/
structure PapAt (W : World) (gP : Nat) (nm : ByteArray) (n : Nat) (x : Cf) (ds : List Dn) (g3 gS : Nat) (AD : Option Addr) (cD : Nat) : Prop where
  row : W.heap[gP]? = some (.cells #[.string nm, .int .u32 (x.set : Nat), .slice (some ⟨g3, 0, none⟩) n n, .slice (some ⟨gS, 0, none⟩) n n, .slice AD ds.length cD] 59 (0, 0))
  cf : CfR 0 W n x (.slice (some ⟨g3, 0, none⟩) n n) gS
  dn : DnAt W AD cD ds
theorem PapAt.below {W W' : World} {gP n g3 gS cD : Nat} {nm : ByteArray} {x : Cf} {ds : List Dn} {AD : Option Addr} (h : PapAt W gP nm n x ds g3 gS AD cD) (hb : Below W.heap.size W W') : PapAt W' gP nm n x ds g3 gS AD cD :=
  ⟨(hb.block _ (Array.getElem?_eq_some_iff.1 h.row).1).trans h.row, h.cf.below hb, h.dn.below hb⟩
theorem dnAt_nilP (w : World) (A : Option Addr) (c : Nat) : DnAt w A c [] := ⟨Nat.zero_le _, fun j hj => by simp at hj⟩
theorem dnAt_ofP {w : World} {base c : Nat} {A : Option Addr} {l : List Dn} (h : OwnDn w base (.slice A l.length c) l) : DnAt w A c l :=
  ⟨own_cap h, fun j hj => by
    obtain ⟨g, cap', e, _, hl, _, hc⟩ := own_form h (by omega)
    have eA : A = some ⟨g, 0, none⟩ := by injection e
    exact ⟨g, eA, hl, fun f u hf hu => hc _ _ (by rw [dncells_at l j f hj hf]; exact hu)⟩⟩
theorem step_plcP {c : Ch} {x : Cf} {k : Nat} {now : Int} (hok : OkC c) (hw : (Lit.int .i64 now).wf = true) (hx : Plc c.kinds c.parents c.names.length x) (hk : k < c.trans.length) (hin : x.set.testBit (frT c k) = true) : Plc c.kinds c.parents c.names.length (stepC c c.names.length now x k) := by
  obtain ⟨f, g, ef, hfn, eg, hgn⟩ := hok.ft _ (List.getElem_mem hk)
  unfold stepC
  rw [frT_at hk ef] at hin ⊢
  rw [toT_at hk eg]
  exact hx.mov hok.sh hok.f.nl hfn hgn hw hin
theorem run_outP {c : Ch} {n : Nat} {now : Int} : ∀ (f : Nat) (x : Cf) (out : List Nat) (y : Cf) (l : List Nat), (∀ i ∈ out, i < c.trans.length) → runC c n now f x out = some (y, l) → ∀ i ∈ l, i < c.trans.length
  | 0, x, out, y, l, hx, h => by
    unfold runC at h
    split at h
    · injection h with h; injection h with h1 h2; subst h1 h2; exact hx
    · cases h
  | f + 1, x, out, y, l, hx, h => by
    unfold runC at h
    split at h
    · injection h with h; injection h with h1 h2; subst h1 h2; exact hx
    · rename_i i r e
      have hm : i ∈ enL c x.set 10 [] := by
        rw [← sortD_mem (lvT c)]
        show i ∈ autL c x
        rw [e]; simp
      exact run_outP f _ _ _ _ (fun j hj => by
        rcases List.mem_append.1 hj with hj | hj
        · exact hx j hj
        · rw [List.mem_singleton.1 hj]; exact (enL_at hm).1) h
theorem nat_wfP {n : Nat} (h : n ≤ 1000) : (Lit.int .i64 (n : Int)).wf = true := WalkArith.wf_i64 (by omega)
theorem ints_outP {W : World} {base c : Nat} {A : Option Addr} {l : List Nat} (h : OwnI W base (.slice A l.length c) (l.map fun k : Nat => (k : Int))) (hl : l.length ≤ 1000) (hw : ∀ i ∈ l, i ≤ 1000) : IntsAt W (.slice A l.length c) (l.map fun k : Nat => (k : Int)) := by
  have := ints_of_own (w := W) (base := base) (c := c) (A := A) (l := l.map fun k : Nat => (k : Int)) (by simpa using h) (fun z hz => by obtain ⟨k, hk, rfl⟩ := List.mem_map.1 hz; exact nat_wfP (hw k hk)) (by simpa using hl)
  simpa using this
theorem ints_tailP {W : World} {base c : Nat} {A : Option Addr} {x : Int} {l : List Nat} (h : OwnI W base (.slice A (l.length + 1) c) (x :: l.map fun k : Nat => (k : Int))) (hl : l.length ≤ 1000) (hw : ∀ i ∈ l, i ≤ 1000) : ∃ g, A = some ⟨g, 0, none⟩ ∧ g < W.heap.size ∧ l.length + 1 ≤ c ∧ W.cell? ⟨g, 0, none⟩ = some (.int .i64 x) ∧ ∀ c', IntsAt W (.slice (some ⟨g, 1, none⟩) l.length c') (l.map fun k : Nat => (k : Int)) := by
  have h' : W.ownsRow base 3 1 (.slice A (l.length + 1) c) (l.length + 1) (icells (x :: l.map fun k : Nat => (k : Int))) := by
    have := h; unfold OwnI at this; simpa using this
  obtain ⟨g, cap', e, _, hl2, hcp, hc⟩ := own_form h' (by omega)
  injection e with e1 e2 e3
  subst e1 e3
  refine ⟨g, rfl, hl2, hcp, hc 0 _ (by simp [icells]), fun c' => ⟨_, c', by simp, by simp; unfold maxLen; omega, fun k hk => ⟨g, 1, rfl, hl2, ?_, ?_⟩⟩⟩
  · rw [Nat.add_comm]
    exact hc (k + 1) _ (by simp [icells] at hk ⊢; simp [hk])
  · rw [List.getElem_map]
    exact nat_wfP (hw _ (List.getElem_mem _))
theorem sameN_P (l : List Nat) (A B : Option Addr) (ca cb : Nat) (w : World) (hl : l.length ≤ 1000) (h1 : IntsAt w (.slice A l.length ca) (l.map fun k : Nat => (k : Int))) (h2 : IntsAt w (.slice B l.length cb) (l.map fun k : Nat => (k : Int))) :
    Calls Tryz.prog 22 #[.slice A l.length ca, .slice B l.length cb] w fun e w' => e = .returned (.bool true) ∧ Below w.heap.size w w' := by
  have := sameI_any (l.map fun k : Nat => (k : Int)) A B ca cb w (by rw [List.length_map]; exact hl) (by rw [List.length_map]; exact h1) (by rw [List.length_map]; exact h2)
  rwa [List.length_map] at this
set_option maxHeartbeats 8000000 in
theorem picks_walk (w : World) (v u : Value) (ms : List MovT) (hm : MovsAt w u ms) (hOf : ∀ W, Below w.heap.size w W → Calls Tryz.prog 8 #[.agg #[v]] W (OfC W)) :
    Calls Tryz.prog 4 #[.agg #[v], u] w (TrueOn w) := by
  obtain ⟨Am, cm, rfl, hmc, hml, hmm⟩ := hm
  have OX := Lib.hid hOf
  have HM := Lib.hid hmm
  clear hOf hmm
  have RP := heap_alloc_new w (.cells #[v] 24)
  have HB1 := Lib.hid (box_b w (.cells #[v] 24))
  go_enter Tryz.func4, Tryz.ntmps4
  go_upto_region 1 with fail
  generalize w.alloc (.cells #[v] 24) = w1 at *
  have p0 := cell_of_row _ _ 0 _ _ _ RP
  clear RP
  go_upto_region 2 with (go_at_call 8; refine (OX.out _ HB1.out).mono ?_; rintro e w2 ⟨hb2, c, AN, AK, AP, AT, BN, BK, BP, BT, cN, cK, cP, cT, dN, dK, dP, dT, nN, nK, nP, rfl, hW, hN, hok⟩; have HB2 := Lib.hid (below_then HB1.out hb2 HB1.out.size); have HW := Lib.hid hW; have HN := Lib.hid hN; have HOK := Lib.hid hok; clear hb2 hW hN hok)
  clear p0 OX HB1
  have HB3 := Lib.hid (below_then (box_b w2 (.cells #[.slice AN c.names.length cN, .slice AK c.names.length cK, .slice AP c.names.length cP, .slice AT c.trans.length cT] 30)) (box_b (w2.alloc (.cells #[.slice AN c.names.length cN, .slice AK c.names.length cK, .slice AP c.names.length cP, .slice AT c.trans.length cT] 30)) (.cells #[.slice BN nN dN, .slice BK nK dK, .slice BP nP dP, .slice BT c.trans.length dT] 34)) (by simp))
  have RC : ((w2.alloc (.cells #[.slice AN c.names.length cN, .slice AK c.names.length cK, .slice AP c.names.length cP, .slice AT c.trans.length cT] 30)).alloc (.cells #[.slice BN nN dN, .slice BK nK dK, .slice BP nP dP, .slice BT c.trans.length dT] 34)).heap[w2.heap.size]? = some (.cells #[.slice AN c.names.length cN, .slice AK c.names.length cK, .slice AP c.names.length cP, .slice AT c.trans.length cT] 30 (0, 0)) := (heap_alloc_old _ _ (by simp)).trans (heap_alloc_new _ _)
  generalize (w2.alloc (.cells #[.slice AN c.names.length cN, .slice AK c.names.length cK, .slice AP c.names.length cP, .slice AT c.trans.length cT] 30)).alloc (.cells #[.slice BN nN dN, .slice BK nK dK, .slice BP nP dP, .slice BT c.trans.length dT] 34) = w3 at *
  have hl3 : w2.heap.size < w3.heap.size := (Array.getElem?_eq_some_iff.1 RC).1
  have HIV := Lib.hid (fun now (hw : (Lit.int .i64 now).wf = true) => runInv_plc HOK.out.sh HOK.out.f.nl hw HOK.out.ft (fun s => few_en HOK.out s 10 []))
  have hw0 : (Lit.int .i64 (0 : Int)).wf = true := by decide
  have NW := Lib.hid (fun W (hW : Below w2.heap.size w2 W) => New_ok c c.names.length AN AK AP AT cN cK cP cT [100, 111, 99] 0 W (by decide) (by decide +kernel) (by decide) (by decide) (HW.out.below hW) (HN.out.below hW) HOK.out)
  have HPL := Lib.hid (fun (y : Cf) (out : List Nat) h => run_keep (HIV.out 0 hw0) 16 _ [] y out (Plc.beg HOK.out.sh HOK.out.f.nl hw0) h)
  generalize runC c c.names.length 0 16 (begC c c.names.length 0) [] = r0 at *
  have c0 := cell_of_row _ _ 0 _ _ _ RC; have c1 := cell_of_row _ _ 1 _ _ _ RC; have c2 := cell_of_row _ _ 2 _ _ _ RC; have c3 := cell_of_row _ _ 3 _ _ _ RC
  have HRC := Lib.hid RC
  have HBW := Lib.hid (below_then HB2.out HB3.out HB2.out.size)
  clear RC
  cases r0 with
  | none =>
    go_upto_region 3 with (go_at_call 15; refine (NW.out _ HB3.out).mono ?_; rintro e w4 ⟨hb4, he⟩; simp only [Option.map] at he; subst he; have HB4 := Lib.hid hb4; clear hb4)
    have HZ := Lib.hid (box_b w4 (.cells #[.string ⟨#[]⟩, .int .u32 0, .slice none 0 0, .slice none 0 0, .slice none 0 0] 59))
    generalize w4.alloc (.cells #[.string ⟨#[]⟩, .int .u32 0, .slice none 0 0, .slice none 0 0, .slice none 0 0] 59) = w5 at *
    have HB5 := Lib.hid (below_then HBW.out (below_then HB4.out HZ.out HB4.out.size) HBW.out.size)
    go_wp2_with (go_at_call 16; refine (wakes14 _).mono ?_; rintro e w6 ⟨rfl, hb6⟩)
    go_ret
    exact ⟨rfl, below_then HB5.out hb6 HB5.out.size⟩
  | some yo =>
    obtain ⟨x0, out0⟩ := yo
    have hp0 := (HPL.out x0 out0 rfl).1
    go_upto_region 3 with (go_at_call 15; refine (NW.out _ HB3.out).mono ?_; rintro e w4 ⟨hb4, g30, gS0, vD, vL, rfl, hg30, hR0, hD0, hL0⟩; obtain ⟨AD0, cD0, rfl⟩ := own_slice hD0; obtain ⟨AO, cO, rfl⟩ := own_slice hL0; have HB4 := Lib.hid hb4; have HR0 := Lib.hid hR0; have HD0 := Lib.hid hD0; clear hb4 hR0 hD0 hL0)
    have HZ := Lib.hid (box_b w4 (.cells #[.string (bs [100, 111, 99]), .int .u32 (x0.set : Nat), .slice (some ⟨g30, 0, none⟩) c.names.length c.names.length, .slice (some ⟨gS0, 0, none⟩) c.names.length c.names.length, .slice AD0 ([] : List Dn).length cD0] 59))
    have RP := heap_alloc_new w4 (.cells #[.string (bs [100, 111, 99]), .int .u32 (x0.set : Nat), .slice (some ⟨g30, 0, none⟩) c.names.length c.names.length, .slice (some ⟨gS0, 0, none⟩) c.names.length c.names.length, .slice AD0 ([] : List Dn).length cD0] 59)
    have HPA : Hid (PapAt (w4.alloc (.cells #[.string (bs [100, 111, 99]), .int .u32 (x0.set : Nat), .slice (some ⟨g30, 0, none⟩) c.names.length c.names.length, .slice (some ⟨gS0, 0, none⟩) c.names.length c.names.length, .slice AD0 ([] : List Dn).length cD0] 59)) w4.heap.size (bs [100, 111, 99]) c.names.length x0 [] g30 gS0 AD0 cD0) := ⟨RP, (HR0.out.below HZ.out).base (Nat.zero_le _), dnAt_nilP _ _ _⟩
    have HB34 := Lib.hid HB4.out.size
    have HRC4 := Lib.hid ((HB4.out.block _ hl3).trans HRC.out)
    have HBW4 := Lib.hid (below_then HBW.out HB4.out HBW.out.size)
    have HW4 := Lib.hid (HW.out.below (below_then HB3.out HB4.out HB3.out.size))
    have hl4 : w2.heap.size < w4.heap.size := Nat.lt_of_lt_of_le hl3 HB4.out.size
    clear hw0 RP HR0 HD0 HBW HB3 HRC HW HN NW HPL HB4 HB34 c0 c1 c2 c3
    generalize w4.alloc (.cells #[.string (bs [100, 111, 99]), .int .u32 (x0.set : Nat), .slice (some ⟨g30, 0, none⟩) c.names.length c.names.length, .slice (some ⟨gS0, 0, none⟩) c.names.length c.names.length, .slice AD0 0 cD0] 59) = w5 at *
    go_upto_region 6 with fail
    have HDS0 : Hid (([] : List Dn).length ≤ 0 ∧ ShD []) := ⟨Nat.le_refl _, fun d hd => by cases hd⟩
    have HP0 := Lib.hid hp0
    clear hp0
    go_loopw [10] (fun i wr => ∃ (k : Nat) (x : Cf) (ds : List Dn) (g3 gS cD : Nat) (AD : Option Addr), k ≤ 10 ∧ i = .int .i64 k ∧ Hid (Plc c.kinds c.parents c.names.length x) ∧ Hid (PapAt wr w4.heap.size (bs [100, 111, 99]) c.names.length x ds g3 gS AD cD) ∧ Hid (ds.length ≤ k ∧ ShD ds) ∧ Hid (Below w4.heap.size w4 wr)) (fun i _ => 10 - (intOf i).toNat)
    case atStart => exact ⟨0, x0, [], g30, gS0, cD0, AD0, by omega, rfl, HP0, HPA, HDS0, HZ⟩
    case round =>
      clear HP0 HPA HDS0 HZ
      obtain ⟨k, x, ds, g3, gS, cD, AD, hk, rfl, HPl, HPa, HDs, HB⟩ := hrel
      have hbw : Below w.heap.size w wr := below_then HBW4.out HB.out HBW4.out.size
      by_cases h1 : k < ms.length ∧ k < 10
      · obtain ⟨h1, h2⟩ := h1
        obtain ⟨bm, om, rfl, hbm, hma⟩ := HM.out k h1
        have m0 := (hbw.cell (p := ⟨bm, om + k * 3, none⟩) hbm).trans hma.1
        have hwz := hma.2.2.2.1
        clear hma
        generalize ms[k].tr = z at *
        have h1i : (k : Int) < ms.length := by omega
        have h2i : (k : Int) < 10 := by omega
        have HWr := Lib.hid (HW4.out.below HB.out)
        have HPW : Hid (∀ W, Below wr.heap.size wr W → W.heap[w2.heap.size]? = some (.cells #[.slice AN c.names.length cN, .slice AK c.names.length cK, .slice AP c.names.length cP, .slice AT c.trans.length cT] 30 (0, 0)) ∧ W.heap[w4.heap.size]? = some (.cells #[.string (bs [100, 111, 99]), .int .u32 (x.set : Nat), .slice (some ⟨g3, 0, none⟩) c.names.length c.names.length, .slice (some ⟨gS, 0, none⟩) c.names.length c.names.length, .slice AD ds.length cD] 59 (0, 0))) := fun W hW =>
          ⟨(hW.block _ (Nat.lt_of_lt_of_le hl4 HB.out.size)).trans ((HB.out.block _ hl4).trans HRC4.out), (hW.block _ (Array.getElem?_eq_some_iff.1 HPa.out.row).1).trans HPa.out.row⟩
        have hs32 : x.set < 4294967296 := Nat.lt_of_lt_of_le HPl.out.ok.st (Nat.pow_le_pow_right (n := 2) (by omega) (by have := HOK.out.f.nl; omega : c.names.length ≤ 32))
        have PK := Lib.hid (fun W (hW : Below wr.heap.size wr W) => Pick_any c c.names.length AN AK AP AT (some ⟨g3, 0, none⟩) (some ⟨gS, 0, none⟩) AD cN cK cP cT c.names.length c.names.length c.names.length c.names.length ds.length cD (bs [100, 111, 99]) x (nmT 101 3 z) W (HWr.out.below hW) hs32 HOK.out)
        have EN := Lib.hid (fun W (hW : Below wr.heap.size wr W) => enabled_any c c.names.length AN AK AP AT (some ⟨g3, 0, none⟩) (some ⟨gS, 0, none⟩) cN cK cP cT c.names.length c.names.length c.names.length c.names.length x.set 9 (nmT 101 3 z) W (HWr.out.below hW) hs32 (few_en HOK.out x.set 9 _))
        have KN := Lib.hid (fun W => kName_any 101 3 z W hwz (by omega) (by omega))
        have hpk := pick_at (c := c) (x := x) (ev := nmT 101 3 z)
        generalize nmT 101 3 z = ev at *
        clear hwz hs32 hbw
        go_upto_region 9 with (go_at_call 17; refine (KN.out _).mono ?_; rintro e w6 ⟨rfl, hb6⟩)
        have HB6 := Lib.hid hb6
        obtain ⟨rc, rp⟩ := HPW.out _ hb6
        have c0 := cell_of_row _ _ 0 _ _ _ rc; have c1 := cell_of_row _ _ 1 _ _ _ rc; have c2 := cell_of_row _ _ 2 _ _ _ rc; have c3 := cell_of_row _ _ 3 _ _ _ rc; have y0 := cell_of_row _ _ 0 _ _ _ rp; have y1 := cell_of_row _ _ 1 _ _ _ rp; have y2 := cell_of_row _ _ 2 _ _ _ rp; have y3 := cell_of_row _ _ 3 _ _ _ rp; have y4 := cell_of_row _ _ 4 _ _ _ rp
        clear rc rp hb6 m0 KN
        rcases hpk with ⟨hL, hP⟩ | ⟨k0, r, hL, hP, hke⟩
        · rw [hP] at PK
          rw [hL] at EN
          clear hL hP
          go_upto_region 11 with (first
            | (go_at_call 18; refine (PK.out _ HB6.out).mono ?_; rintro e w7 ⟨rfl, hb7⟩; have HB7 := Lib.hid (below_then HB6.out hb7 HB6.out.size); obtain ⟨rc, rp⟩ := HPW.out _ HB7.out; have c0 := cell_of_row _ _ 0 _ _ _ rc; have c1 := cell_of_row _ _ 1 _ _ _ rc; have c2 := cell_of_row _ _ 2 _ _ _ rc; have c3 := cell_of_row _ _ 3 _ _ _ rc; have y0 := cell_of_row _ _ 0 _ _ _ rp; have y1 := cell_of_row _ _ 1 _ _ _ rp; have y2 := cell_of_row _ _ 2 _ _ _ rp; have y3 := cell_of_row _ _ 3 _ _ _ rp; have y4 := cell_of_row _ _ 4 _ _ _ rp; clear rc rp hb7)
            | (go_at_call 19; refine (EN.out _ HB7.out).mono ?_; rintro e w8 ⟨hb8, v8, rfl, hO8⟩; obtain ⟨A8, c8, rfl⟩ := own_slice hO8; have HB8 := Lib.hid (below_then HB7.out hb8 HB7.out.size); clear hb8 hO8))
          go_wp2_with fail
          go_roundw
          case rel => exact ⟨k + 1, x, ds, g3, gS, cD, AD, by omega, by go_num, HPl, HPa.out.below HB8.out, ⟨by have := HDs.out.1; omega, HDs.out.2⟩, below_then HB.out HB8.out HB.out.size⟩
          case measure => simp [intOf]; omega
        · rw [hP] at PK
          rw [hL] at EN
          have hlen : (((k0 :: r).map fun k : Nat => (k : Int)).length : Int) ≠ 0 := by simp; omega
          clear hL hP
          go_upto_region 16 with (first
            | (go_at_call 18; refine (PK.out _ HB6.out).mono ?_; rintro e w7 ⟨rfl, hb7⟩; have HB7 := Lib.hid (below_then HB6.out hb7 HB6.out.size); obtain ⟨rc, rp⟩ := HPW.out _ HB7.out; have c0 := cell_of_row _ _ 0 _ _ _ rc; have c1 := cell_of_row _ _ 1 _ _ _ rc; have c2 := cell_of_row _ _ 2 _ _ _ rc; have c3 := cell_of_row _ _ 3 _ _ _ rc; have y0 := cell_of_row _ _ 0 _ _ _ rp; have y1 := cell_of_row _ _ 1 _ _ _ rp; have y2 := cell_of_row _ _ 2 _ _ _ rp; have y3 := cell_of_row _ _ 3 _ _ _ rp; have y4 := cell_of_row _ _ 4 _ _ _ rp; clear rc rp hb7)
            | (go_at_call 19; refine (EN.out _ HB7.out).mono ?_; rintro e w8 ⟨hb8, v8, rfl, hO8⟩; obtain ⟨A8, c8, rfl⟩ := own_slice hO8; have HB8 := Lib.hid (below_then HB7.out hb8 HB7.out.size); obtain ⟨gO, cap', e, _, hlO, _, hc⟩ := own_form hO8 (by simp); injection e with e _ _; subst e; have q0 := hc 0 (.int .i64 (k0 : Nat)) (by simp [icells]); clear hb8 hO8 hc))
          obtain ⟨rc, rp⟩ := HPW.out _ HB8.out
          have c0 := cell_of_row _ _ 0 _ _ _ rc; have c1 := cell_of_row _ _ 1 _ _ _ rc; have c2 := cell_of_row _ _ 2 _ _ _ rc; have c3 := cell_of_row _ _ 3 _ _ _ rc; have y0 := cell_of_row _ _ 0 _ _ _ rp; have y1 := cell_of_row _ _ 1 _ _ _ rp; have y2 := cell_of_row _ _ 2 _ _ _ rp; have y3 := cell_of_row _ _ 3 _ _ _ rp; have y4 := cell_of_row _ _ 4 _ _ _ rp
          obtain ⟨hk0, hkd0, hin0⟩ := enL_kind hke
          have hwk : (Lit.int .i64 (k : Int)).wf = true := WalkArith.wf_i64 (by omega)
          have hnl := HOK.out.f.nl
          have hdl := HDs.out.1
          have hy := step_plcP (now := (k : Int)) HOK.out hwk HPl.out hk0 hin0
          have FX := Lib.hid (fun W (hW : Below wr.heap.size wr W) => Fire_on c c.names.length AN AK AP AT (some ⟨g3, 0, none⟩) (some ⟨gS, 0, none⟩) AD cN cK cP cT c.names.length c.names.length cD (bs [100, 111, 99]) x ds k0 [117] ev k W (HWr.out.below hW) hke HPl.out (HPa.out.dn.below hW) (by omega) HDs.out.2 (HPa.out.cf.uP.below hW) ((HPa.out.cf.ints (by omega)).below hW) hwk HOK.out rfl)
          have TX : Hid (∀ W, Below wr.heap.size wr W → Calls Tryz.prog 12 #[chV AN AK AP AT c.names.length cN c.names.length cK c.names.length cP c.trans.length cT, .agg #[.int .u32 (x.set : Nat), .slice (some ⟨g3, 0, none⟩) c.names.length c.names.length, .slice (some ⟨gS, 0, none⟩) c.names.length c.names.length], .int .i64 k0, .int .i64 k] W (TakTo c.names.length (stepC c c.names.length k x k0) W)) := fun W hW =>
            takeT_any c c.names.length AN AK AP AT (some ⟨g3, 0, none⟩) (some ⟨gS, 0, none⟩) cN cK cP cT c.names.length c.names.length x k0 k W (HWr.out.below hW) HPl.out.ok (HPa.out.cf.uP.below hW) ((HPa.out.cf.ints (by omega)).below hW) hk0 hin0 hwk (HPl.out.pastOk HOK.out.sh (by omega) _)
          have RX := Lib.hid (fun W (B7 B8 : Option Addr) (hW : Below wr.heap.size wr W) (h7 : U32sAt W (.slice B7 c.names.length c.names.length) (stepC c c.names.length k x k0).past) (h8 : IntsAt W (.slice B8 c.names.length c.names.length) (stepC c c.names.length k x k0).since) => run_any c c.names.length AN AK AP AT B7 B8 cN cK cP cT c.names.length c.names.length (stepC c c.names.length k x k0) k (Plc c.kinds c.parents c.names.length) W (HWr.out.below hW) h7 h8 hwk (HIV.out k hwk) hy)
          have HRK := Lib.hid (fun (y : Cf) (out : List Nat) h => And.intro (run_keep (HIV.out k hwk) 16 _ [] y out hy h) (run_outP (c := c) 16 _ [] y out (fun i hi => by cases hi) h))
          clear rc rp hy hk0 hkd0 hin0 hwk hke hlen q0 hlO PK EN HWr
          unfold FirN setF at FX
          generalize runC c c.names.length k 16 (stepC c c.names.length k x k0) [] = r1 at *
          generalize stepC c c.names.length k x k0 = ys at *
          cases r1 with
          | none =>
            clear HRK
            go_upto_region 17 with (go_at_call 20; refine (FX.out _ HB8.out).mono ?_; rintro e w9 ⟨ds2, hds2, hsd2, hb9, he⟩; simp only at he; subst he; have HB9 := Lib.hid (below_then HB8.out hb9 HB8.out.size); clear hb9 hds2 hsd2)
            have HB10 := Lib.hid (below_then HB9.out (box_b w9 (.cells #[.string ⟨#[]⟩, .int .u32 0, .slice none 0 0, .slice none 0 0, .slice none 0 0] 59)) HB9.out.size)
            generalize w9.alloc (.cells #[.string ⟨#[]⟩, .int .u32 0, .slice none 0 0, .slice none 0 0, .slice none 0 0] 59) = w10 at *
            obtain ⟨rc, rp⟩ := HPW.out _ HB10.out
            have c0 := cell_of_row _ _ 0 _ _ _ rc; have c1 := cell_of_row _ _ 1 _ _ _ rc; have c2 := cell_of_row _ _ 2 _ _ _ rc; have c3 := cell_of_row _ _ 3 _ _ _ rc; have y0 := cell_of_row _ _ 0 _ _ _ rp; have y1 := cell_of_row _ _ 1 _ _ _ rp; have y2 := cell_of_row _ _ 2 _ _ _ rp; have y3 := cell_of_row _ _ 3 _ _ _ rp; have y4 := cell_of_row _ _ 4 _ _ _ rp
            go_upto_region 18 with (go_at_call 12; refine (TX.out _ HB10.out).mono ?_; rintro e w11 ⟨hb11, gt3, gtS, rfl, hgt3, hRt⟩; have HB11 := Lib.hid (below_then HB10.out hb11 HB10.out.size); have HRt := Lib.hid hRt; clear hb11 hRt)
            have RT := heap_alloc_new w11 (.cells #[.int .u32 (ys.set : Nat), .slice (some ⟨gt3, 0, none⟩) c.names.length c.names.length, .slice (some ⟨gtS, 0, none⟩) c.names.length c.names.length] 40)
            have HZ12 := Lib.hid (box_b w11 (.cells #[.int .u32 (ys.set : Nat), .slice (some ⟨gt3, 0, none⟩) c.names.length c.names.length, .slice (some ⟨gtS, 0, none⟩) c.names.length c.names.length] 40))
            have HRt2 := Lib.hid (HRt.out.below HZ12.out)
            have HB12 := Lib.hid (below_then HB11.out HZ12.out HB11.out.size)
            clear rc rp
            generalize w11.alloc (.cells #[.int .u32 (ys.set : Nat), .slice (some ⟨gt3, 0, none⟩) c.names.length c.names.length, .slice (some ⟨gtS, 0, none⟩) c.names.length c.names.length] 40) = w12 at *
            obtain ⟨rc, rp⟩ := HPW.out _ HB12.out
            have c0 := cell_of_row _ _ 0 _ _ _ rc; have c1 := cell_of_row _ _ 1 _ _ _ rc; have c2 := cell_of_row _ _ 2 _ _ _ rc; have c3 := cell_of_row _ _ 3 _ _ _ rc; have y0 := cell_of_row _ _ 0 _ _ _ rp; have y1 := cell_of_row _ _ 1 _ _ _ rp; have y2 := cell_of_row _ _ 2 _ _ _ rp; have y3 := cell_of_row _ _ 3 _ _ _ rp; have y4 := cell_of_row _ _ 4 _ _ _ rp
            have t0 := cell_of_row _ _ 0 _ _ _ RT; have t1 := cell_of_row _ _ 1 _ _ _ RT; have t2 := cell_of_row _ _ 2 _ _ _ RT
            go_upto_region 19 with (go_at_call 21; refine (RX.out _ _ _ HB12.out HRt2.out.uP (HRt2.out.ints (by omega))).mono ?_; rintro e w13 ⟨hb13, he⟩; simp only at he; subst he; have HB13 := Lib.hid (below_then HB12.out hb13 HB12.out.size); clear hb13)
            have HB14 := Lib.hid (below_then HB13.out (box_b w13 (.cells #[.int .u32 0, .slice none 0 0, .slice none 0 0] 40)) HB13.out.size)
            generalize w13.alloc (.cells #[.int .u32 0, .slice none 0 0, .slice none 0 0] 40) = w14 at *
            go_quiet (fail)
            have HB15 := Lib.hid (below_drewN HB14.out nq)
            generalize w14.drewN nq = w15 at *
            go_wp2_with fail
            go_roundw
            case rel => exact ⟨k + 1, x, ds, g3, gS, cD, AD, by omega, by go_num, HPl, HPa.out.below HB15.out, ⟨by have := HDs.out.1; omega, HDs.out.2⟩, below_then HB.out HB15.out HB.out.size⟩
            case measure => simp [intOf]; omega
          | some yo =>
            obtain ⟨yf, out⟩ := yo
            obtain ⟨⟨hp2, ho2⟩, hot⟩ := HRK.out yf out rfl
            have ho16 : out.length ≤ 16 := by simpa using ho2
            have HOT := Lib.hid (fun i hi => by have := hot i hi; have := HOK.out.f.tl; omega : ∀ i ∈ out, i ≤ 1000)
            have HP2 := Lib.hid hp2
            clear HRK hp2 ho2 hot
            go_upto_region 17 with (go_at_call 20; refine (FX.out _ HB8.out).mono ?_; rintro e w9 ⟨ds2, hds2, hsd2, hb9, g39, gS9, vD9, vL9, rfl, hg39, hR9, hD9, hL9⟩; obtain ⟨AD9, cD9, rfl⟩ := own_slice hD9; obtain ⟨AL9, cL9, rfl⟩ := own_slice hL9; have HB9 := Lib.hid (below_then HB8.out hb9 HB8.out.size); have hs89 := hb9.size; have hw8 := HB8.out.size; have HDs2 := Lib.hid (And.intro hds2 hsd2); have HR9 := Lib.hid hR9; have HD9 := Lib.hid hD9; have HL9 := Lib.hid hL9; clear hb9 hds2 hsd2 hR9 hD9 hL9)
            have RP10 := heap_alloc_new w9 (.cells #[.string (bs [100, 111, 99]), .int .u32 (yf.set : Nat), .slice (some ⟨g39, 0, none⟩) c.names.length c.names.length, .slice (some ⟨gS9, 0, none⟩) c.names.length c.names.length, .slice AD9 ds2.length cD9] 59)
            have HZ10 := Lib.hid (box_b w9 (.cells #[.string (bs [100, 111, 99]), .int .u32 (yf.set : Nat), .slice (some ⟨g39, 0, none⟩) c.names.length c.names.length, .slice (some ⟨gS9, 0, none⟩) c.names.length c.names.length, .slice AD9 ds2.length cD9] 59))
            have HB10 := Lib.hid (below_then HB9.out HZ10.out HB9.out.size)
            have hl9 : w9.heap.size < (w9.alloc (.cells #[.string (bs [100, 111, 99]), .int .u32 (yf.set : Nat), .slice (some ⟨g39, 0, none⟩) c.names.length c.names.length, .slice (some ⟨gS9, 0, none⟩) c.names.length c.names.length, .slice AD9 ds2.length cD9] 59)).heap.size := by simp
            generalize w9.alloc (.cells #[.string (bs [100, 111, 99]), .int .u32 (yf.set : Nat), .slice (some ⟨g39, 0, none⟩) c.names.length c.names.length, .slice (some ⟨gS9, 0, none⟩) c.names.length c.names.length, .slice AD9 ds2.length cD9] 59) = w10 at *
            obtain ⟨rc, rp⟩ := HPW.out _ HB10.out
            have c0 := cell_of_row _ _ 0 _ _ _ rc; have c1 := cell_of_row _ _ 1 _ _ _ rc; have c2 := cell_of_row _ _ 2 _ _ _ rc; have c3 := cell_of_row _ _ 3 _ _ _ rc; have y0 := cell_of_row _ _ 0 _ _ _ rp; have y1 := cell_of_row _ _ 1 _ _ _ rp; have y2 := cell_of_row _ _ 2 _ _ _ rp; have y3 := cell_of_row _ _ 3 _ _ _ rp; have y4 := cell_of_row _ _ 4 _ _ _ rp
            go_upto_region 18 with (go_at_call 12; refine (TX.out _ HB10.out).mono ?_; rintro e w11 ⟨hb11, gt3, gtS, rfl, hgt3, hRt⟩; have HB11 := Lib.hid (below_then HB10.out hb11 HB10.out.size); have HC11 := Lib.hid hb11; have HRt := Lib.hid hRt; clear hb11 hRt)
            have RT := heap_alloc_new w11 (.cells #[.int .u32 (ys.set : Nat), .slice (some ⟨gt3, 0, none⟩) c.names.length c.names.length, .slice (some ⟨gtS, 0, none⟩) c.names.length c.names.length] 40)
            have HZ12 := Lib.hid (box_b w11 (.cells #[.int .u32 (ys.set : Nat), .slice (some ⟨gt3, 0, none⟩) c.names.length c.names.length, .slice (some ⟨gtS, 0, none⟩) c.names.length c.names.length] 40))
            have HRt2 := Lib.hid (HRt.out.below HZ12.out)
            have HB12 := Lib.hid (below_then HB11.out HZ12.out HB11.out.size)
            have HC12 := Lib.hid (below_then HC11.out HZ12.out HC11.out.size)
            clear rc rp
            generalize w11.alloc (.cells #[.int .u32 (ys.set : Nat), .slice (some ⟨gt3, 0, none⟩) c.names.length c.names.length, .slice (some ⟨gtS, 0, none⟩) c.names.length c.names.length] 40) = w12 at *
            obtain ⟨rc, rp⟩ := HPW.out _ HB12.out
            have c0 := cell_of_row _ _ 0 _ _ _ rc; have c1 := cell_of_row _ _ 1 _ _ _ rc; have c2 := cell_of_row _ _ 2 _ _ _ rc; have c3 := cell_of_row _ _ 3 _ _ _ rc; have y0 := cell_of_row _ _ 0 _ _ _ rp; have y1 := cell_of_row _ _ 1 _ _ _ rp; have y2 := cell_of_row _ _ 2 _ _ _ rp; have y3 := cell_of_row _ _ 3 _ _ _ rp; have y4 := cell_of_row _ _ 4 _ _ _ rp
            have t0 := cell_of_row _ _ 0 _ _ _ RT; have t1 := cell_of_row _ _ 1 _ _ _ RT; have t2 := cell_of_row _ _ 2 _ _ _ RT
            go_upto_region 19 with (go_at_call 21; refine (RX.out _ _ _ HB12.out HRt2.out.uP (HRt2.out.ints (by omega))).mono ?_; rintro e w13 ⟨hb13, g3r, gSr, vr, rfl, hg3r, hRr, hOr⟩; obtain ⟨Ar, cr, rfl⟩ := own_slice hOr; have HB13 := Lib.hid (below_then HB12.out hb13 HB12.out.size); have HC13 := Lib.hid (below_then HC12.out hb13 HC12.out.size); have hs13 := hb13.size; have HRr := Lib.hid hRr; have HOr := Lib.hid hOr; clear hb13 hRr hOr)
            have RR14 := heap_alloc_new w13 (.cells #[.int .u32 (yf.set : Nat), .slice (some ⟨g3r, 0, none⟩) c.names.length c.names.length, .slice (some ⟨gSr, 0, none⟩) c.names.length c.names.length] 40)
            have HZ14 := Lib.hid (box_b w13 (.cells #[.int .u32 (yf.set : Nat), .slice (some ⟨g3r, 0, none⟩) c.names.length c.names.length, .slice (some ⟨gSr, 0, none⟩) c.names.length c.names.length] 40))
            have HRr2 := Lib.hid (HRr.out.below HZ14.out)
            have HB14 := Lib.hid (below_then HB13.out HZ14.out HB13.out.size)
            have HC14 := Lib.hid (below_then HC13.out HZ14.out HC13.out.size)
            have HOr2 := Lib.hid (own_below HOr.out HZ14.out hs13)
            clear rc rp
            generalize w13.alloc (.cells #[.int .u32 (yf.set : Nat), .slice (some ⟨g3r, 0, none⟩) c.names.length c.names.length, .slice (some ⟨gSr, 0, none⟩) c.names.length c.names.length] 40) = w14 at *
            have HL14 : Hid (OwnI w14 w8.heap.size (.slice AL9 (out.length + 1) cL9) ((k0 : Int) :: out.map fun k : Nat => (k : Int))) := by
              show OwnI _ _ _ _
              unfold OwnI
              have h1 := own_below (own_below HL9.out HZ10.out hs89) HC14.out (Nat.le_trans hs89 HZ10.out.size)
              simpa using h1
            obtain ⟨gL, rfl, hgL, hcL, l0, hlt⟩ := ints_tailP HL14.out (by omega) HOT.out
            have HLT := Lib.hid hlt
            have RP14 := (HC14.out.block _ hl9).trans RP10
            have z0 := cell_of_row _ _ 0 _ _ _ RP14; have z1 := cell_of_row _ _ 1 _ _ _ RP14; have z2 := cell_of_row _ _ 2 _ _ _ RP14; have z3 := cell_of_row _ _ 3 _ _ _ RP14; have z4 := cell_of_row _ _ 4 _ _ _ RP14
            have q0 := cell_of_row _ _ 0 _ _ _ RR14; have q1 := cell_of_row _ _ 1 _ _ _ RR14; have q2 := cell_of_row _ _ 2 _ _ _ RR14
            have hle1 : ((out.length : Int) + 1 != 1 + (out.length : Int)) = false := by simp; omega
            have hkk : ((k0 : Int) != (k0 : Int)) = false := by simp
            have hss : ((yf.set : Int) != (yf.set : Int)) = false := by simp
            clear hlt HL14 HL9
            go_quiet (fail)
            generalize hw15 : w14.drewN nq = w15 at *
            have HB15 := Lib.hid (hw15 ▸ below_drewN HB14.out nq)
            have HC15 : Hid (Below w10.heap.size w10 w15) := hw15 ▸ below_drewN HC14.out nq
            have HD15 : Hid (Below w14.heap.size w14 w15) := hw15 ▸ below_drewN (Below.refl _ _) nq
            have RP15 := (HD15.out.block _ (Array.getElem?_eq_some_iff.1 RP14).1).trans RP14
            have RR15 := (HD15.out.block _ (Array.getElem?_eq_some_iff.1 RR14).1).trans RR14
            have l015 := (HD15.out.cell (p := ⟨gL, 0, none⟩) hgL).trans l0
            have HLT15 := Lib.hid (fun c' => (HLT.out c').below HD15.out)
            have HLr15 := Lib.hid ((ints_outP (W := w14) (base := w12.heap.size) (A := Ar) (c := cr) (l := out) (by unfold OwnI; have h := HOr2.out; simpa using h) (by omega) HOT.out).below HD15.out)
            have HR15 := Lib.hid ((HR9.out.below HZ10.out).below HC15.out)
            have HRr15 := Lib.hid (HRr2.out.below HD15.out)
            have hyl := HP2.out.ok.lp
            have hys := HP2.out.ok.ls
            clear z0 z1 z2 z3 z4 q0 q1 q2 l0 RP14 RR14 hw15 HLT HOr2 HOr HRr HRr2 RP10 c0 c1 c2 c3 y0 y1 y2 y3 y4 t0 t1 t2
            have z0 := cell_of_row _ _ 0 _ _ _ RP15; have z1 := cell_of_row _ _ 1 _ _ _ RP15; have z2 := cell_of_row _ _ 2 _ _ _ RP15; have z3 := cell_of_row _ _ 3 _ _ _ RP15; have z4 := cell_of_row _ _ 4 _ _ _ RP15
            have q0 := cell_of_row _ _ 0 _ _ _ RR15; have q1 := cell_of_row _ _ 1 _ _ _ RR15; have q2 := cell_of_row _ _ 2 _ _ _ RR15
            have HRW : Hid (∀ W, Below w15.heap.size w15 W → W.heap[w9.heap.size]? = some (.cells #[.string (bs [100, 111, 99]), .int .u32 (yf.set : Nat), .slice (some ⟨g39, 0, none⟩) c.names.length c.names.length, .slice (some ⟨gS9, 0, none⟩) c.names.length c.names.length, .slice AD9 ds2.length cD9] 59 (0, 0)) ∧ W.heap[w13.heap.size]? = some (.cells #[.int .u32 (yf.set : Nat), .slice (some ⟨g3r, 0, none⟩) c.names.length c.names.length, .slice (some ⟨gSr, 0, none⟩) c.names.length c.names.length] 40 (0, 0))) := fun W hW => ⟨(hW.block _ (Array.getElem?_eq_some_iff.1 RP15).1).trans RP15, (hW.block _ (Array.getElem?_eq_some_iff.1 RR15).1).trans RR15⟩
            have S1 := Lib.hid (fun W A c' (hW : Below w15.heap.size w15 W) (hA : IntsAt W (.slice A out.length c') (out.map fun k : Nat => (k : Int))) => sameN_P out A Ar c' cr W (by omega) hA (HLr15.out.below hW))
            have S2 : Hid (∀ W, Below w15.heap.size w15 W → Calls Tryz.prog 23 #[.slice (some ⟨g39, 0, none⟩) c.names.length c.names.length, .slice (some ⟨g3r, 0, none⟩) c.names.length c.names.length] W fun e w' => e = .returned (.bool true) ∧ Below W.heap.size W w') := fun W hW => by
              have h1 := HR15.out.uP.below hW
              have h2 := HRr15.out.uP.below hW
              rw [← hyl] at h1 h2
              have h := sameU_any yf.past (some ⟨g39, 0, none⟩) (some ⟨g3r, 0, none⟩) _ _ W (by omega) h1 h2
              rw [hyl] at h
              exact h
            have S3 : Hid (∀ W, Below w15.heap.size w15 W → Calls Tryz.prog 22 #[.slice (some ⟨gS9, 0, none⟩) c.names.length c.names.length, .slice (some ⟨gSr, 0, none⟩) c.names.length c.names.length] W fun e w' => e = .returned (.bool true) ∧ Below W.heap.size W w') := fun W hW => by
              have h1 := (HR15.out.ints (by omega)).below hW
              have h2 := (HRr15.out.ints (by omega)).below hW
              rw [← hys] at h1 h2
              have h := sameI_any yf.since (some ⟨gS9, 0, none⟩) (some ⟨gSr, 0, none⟩) _ _ W (by omega) h1 h2
              rw [hys] at h
              exact h
            clear RP15 RR15 hyl hys HRr15 HLr15
            by_cases hc1 : cL9 = 1
            · obtain rfl : out = [] := List.length_eq_zero_iff.1 (by omega)
              subst hc1
              go_upto_region 24 with (first
                | (go_at_call_of 22 (Value.slice Ar 0 cr); refine (S1.out _ _ _ (Below.refl _ _) ⟨_, _, rfl, Nat.zero_le _, fun j hj => by cases hj⟩).mono ?_; rintro e w16 ⟨rfl, hb16⟩; have HB16 := Lib.hid hb16; obtain ⟨ra, rb⟩ := HRW.out _ hb16; have z0 := cell_of_row _ _ 0 _ _ _ ra; have z1 := cell_of_row _ _ 1 _ _ _ ra; have z2 := cell_of_row _ _ 2 _ _ _ ra; have z3 := cell_of_row _ _ 3 _ _ _ ra; have z4 := cell_of_row _ _ 4 _ _ _ ra; have q0 := cell_of_row _ _ 0 _ _ _ rb; have q1 := cell_of_row _ _ 1 _ _ _ rb; have q2 := cell_of_row _ _ 2 _ _ _ rb; clear ra rb hb16)
                | (go_at_call 23; refine (S2.out _ HB16.out).mono ?_; rintro e w17 ⟨rfl, hb17⟩; have HB17 := Lib.hid (below_then HB16.out hb17 HB16.out.size); obtain ⟨ra, rb⟩ := HRW.out _ HB17.out; have z0 := cell_of_row _ _ 0 _ _ _ ra; have z1 := cell_of_row _ _ 1 _ _ _ ra; have z2 := cell_of_row _ _ 2 _ _ _ ra; have z3 := cell_of_row _ _ 3 _ _ _ ra; have z4 := cell_of_row _ _ 4 _ _ _ ra; have q0 := cell_of_row _ _ 0 _ _ _ rb; have q1 := cell_of_row _ _ 1 _ _ _ rb; have q2 := cell_of_row _ _ 2 _ _ _ rb; clear ra rb hb17)
                | (go_at_call_of 22 (Value.slice (some ⟨gSr, 0, none⟩) c.names.length c.names.length); refine (S3.out _ HB17.out).mono ?_; rintro e w18 ⟨rfl, hb18⟩; have HB18 := Lib.hid (below_then HB17.out hb18 HB17.out.size); obtain ⟨ra, rb⟩ := HRW.out _ HB18.out; have z0 := cell_of_row _ _ 0 _ _ _ ra; have z1 := cell_of_row _ _ 1 _ _ _ ra; have z2 := cell_of_row _ _ 2 _ _ _ ra; have z3 := cell_of_row _ _ 3 _ _ _ ra; have z4 := cell_of_row _ _ 4 _ _ _ ra; have q0 := cell_of_row _ _ 0 _ _ _ rb; have q1 := cell_of_row _ _ 1 _ _ _ rb; have q2 := cell_of_row _ _ 2 _ _ _ rb; clear ra rb hb18))
              have HB28 := Lib.hid (below_then HB15.out HB18.out HB15.out.size)
              obtain ⟨rc, rp⟩ := HPW.out _ HB28.out
              have y0 := cell_of_row _ _ 0 _ _ _ rp; have y1 := cell_of_row _ _ 1 _ _ _ rp; have y2 := cell_of_row _ _ 2 _ _ _ rp; have y3 := cell_of_row _ _ 3 _ _ _ rp; have y4 := cell_of_row _ _ 4 _ _ _ rp
              have f0 := fz_of rp 0; have f1 := fz_of rp 1; have f2 := fz_of rp 2; have f3 := fz_of rp 3; have f4 := fz_of rp 4
              have hgp : w4.heap.size < wr.heap.size := (Array.getElem?_eq_some_iff.1 HPa.out.row).1
              have hgr := set5_grown w18 w4.heap.size (.string (bs [100, 111, 99])) (.int .u32 (yf.set : Nat)) (.slice (some ⟨g39, 0, none⟩) c.names.length c.names.length) (.slice (some ⟨gS9, 0, none⟩) c.names.length c.names.length) (.slice AD9 ds2.length cD9)
              have hD18 := own_below (own_below (own_below HD9.out HZ10.out hs89) HC15.out (Nat.le_trans hs89 HZ10.out.size)) HB18.out (Nat.le_trans (Nat.le_trans hs89 HZ10.out.size) HC15.out.size)
              have hD19 : OwnDn (((((w18.setCell ⟨w4.heap.size, 0, none⟩ (.string (bs [100, 111, 99]))).setCell ⟨w4.heap.size, 1, none⟩ (.int .u32 (yf.set : Nat))).setCell ⟨w4.heap.size, 2, none⟩ (.slice (some ⟨g39, 0, none⟩) c.names.length c.names.length)).setCell ⟨w4.heap.size, 3, none⟩ (.slice (some ⟨gS9, 0, none⟩) c.names.length c.names.length)).setCell ⟨w4.heap.size, 4, none⟩ (.slice AD9 ds2.length cD9)) w8.heap.size (.slice AD9 ds2.length cD9) ds2 := World.ownsRow.kept hD18 hgr (.inr fun e => by have := (World.ownsRow.lt hD18 _ e).1; omega)
              have HPN : Hid (PapAt (((((w18.setCell ⟨w4.heap.size, 0, none⟩ (.string (bs [100, 111, 99]))).setCell ⟨w4.heap.size, 1, none⟩ (.int .u32 (yf.set : Nat))).setCell ⟨w4.heap.size, 2, none⟩ (.slice (some ⟨g39, 0, none⟩) c.names.length c.names.length)).setCell ⟨w4.heap.size, 3, none⟩ (.slice (some ⟨gS9, 0, none⟩) c.names.length c.names.length)).setCell ⟨w4.heap.size, 4, none⟩ (.slice AD9 ds2.length cD9)) w4.heap.size (bs [100, 111, 99]) c.names.length yf ds2 g39 gS9 AD9 cD9) :=
                ⟨set5_row _ _ _ _ _ rp, (cfr_grown (HR15.out.below HB18.out) hgr (by intro e; injection e with e; omega) (by intro e; injection e with e; have := HR15.out.lo; omega)).base (Nat.zero_le _), dnAt_ofP hD19⟩
              have HBN : Hid (Below w4.heap.size w4 (((((w18.setCell ⟨w4.heap.size, 0, none⟩ (.string (bs [100, 111, 99]))).setCell ⟨w4.heap.size, 1, none⟩ (.int .u32 (yf.set : Nat))).setCell ⟨w4.heap.size, 2, none⟩ (.slice (some ⟨g39, 0, none⟩) c.names.length c.names.length)).setCell ⟨w4.heap.size, 3, none⟩ (.slice (some ⟨gS9, 0, none⟩) c.names.length c.names.length)).setCell ⟨w4.heap.size, 4, none⟩ (.slice AD9 ds2.length cD9))) := set5_below (below_then HB.out HB28.out HB.out.size) (Nat.le_refl _) (Nat.le_refl _) _ _ _ _ _
              have HDN : Hid (ds2.length ≤ k + 1 ∧ ShD ds2) := ⟨by
                have h1 := HDs.out.1
                rcases HDs2.out.1 with e | ⟨t, e⟩
                · rw [e]; omega
                · rw [e, List.length_append]; simp; omega, HDs2.out.2⟩
              clear rc hgr hD18 hD19 rp
              go_wp2_with fail
              go_roundw
              case rel => exact ⟨k + 1, yf, ds2, g39, gS9, cD9, AD9, by omega, by go_num, HP2, HPN.out, HDN, HBN⟩
              case measure => simp [intOf]; omega
            have hc1i : ¬ (cL9 : Int) = 1 := by omega
            go_upto_region 24 with (first
              | (go_at_call_of 22 (Value.slice Ar out.length cr); refine (S1.out _ _ _ (Below.refl _ _) (HLT15.out _)).mono ?_; rintro e w16 ⟨rfl, hb16⟩; have HB16 := Lib.hid hb16; obtain ⟨ra, rb⟩ := HRW.out _ hb16; have z0 := cell_of_row _ _ 0 _ _ _ ra; have z1 := cell_of_row _ _ 1 _ _ _ ra; have z2 := cell_of_row _ _ 2 _ _ _ ra; have z3 := cell_of_row _ _ 3 _ _ _ ra; have z4 := cell_of_row _ _ 4 _ _ _ ra; have q0 := cell_of_row _ _ 0 _ _ _ rb; have q1 := cell_of_row _ _ 1 _ _ _ rb; have q2 := cell_of_row _ _ 2 _ _ _ rb; clear ra rb hb16)
              | (go_at_call 23; refine (S2.out _ HB16.out).mono ?_; rintro e w17 ⟨rfl, hb17⟩; have HB17 := Lib.hid (below_then HB16.out hb17 HB16.out.size); obtain ⟨ra, rb⟩ := HRW.out _ HB17.out; have z0 := cell_of_row _ _ 0 _ _ _ ra; have z1 := cell_of_row _ _ 1 _ _ _ ra; have z2 := cell_of_row _ _ 2 _ _ _ ra; have z3 := cell_of_row _ _ 3 _ _ _ ra; have z4 := cell_of_row _ _ 4 _ _ _ ra; have q0 := cell_of_row _ _ 0 _ _ _ rb; have q1 := cell_of_row _ _ 1 _ _ _ rb; have q2 := cell_of_row _ _ 2 _ _ _ rb; clear ra rb hb17)
              | (go_at_call_of 22 (Value.slice (some ⟨gSr, 0, none⟩) c.names.length c.names.length); refine (S3.out _ HB17.out).mono ?_; rintro e w18 ⟨rfl, hb18⟩; have HB18 := Lib.hid (below_then HB17.out hb18 HB17.out.size); obtain ⟨ra, rb⟩ := HRW.out _ HB18.out; have z0 := cell_of_row _ _ 0 _ _ _ ra; have z1 := cell_of_row _ _ 1 _ _ _ ra; have z2 := cell_of_row _ _ 2 _ _ _ ra; have z3 := cell_of_row _ _ 3 _ _ _ ra; have z4 := cell_of_row _ _ 4 _ _ _ ra; have q0 := cell_of_row _ _ 0 _ _ _ rb; have q1 := cell_of_row _ _ 1 _ _ _ rb; have q2 := cell_of_row _ _ 2 _ _ _ rb; clear ra rb hb18))
            have HB28 := Lib.hid (below_then HB15.out HB18.out HB15.out.size)
            obtain ⟨rc, rp⟩ := HPW.out _ HB28.out
            have y0 := cell_of_row _ _ 0 _ _ _ rp; have y1 := cell_of_row _ _ 1 _ _ _ rp; have y2 := cell_of_row _ _ 2 _ _ _ rp; have y3 := cell_of_row _ _ 3 _ _ _ rp; have y4 := cell_of_row _ _ 4 _ _ _ rp
            have f0 := fz_of rp 0; have f1 := fz_of rp 1; have f2 := fz_of rp 2; have f3 := fz_of rp 3; have f4 := fz_of rp 4
            have hgp : w4.heap.size < wr.heap.size := (Array.getElem?_eq_some_iff.1 HPa.out.row).1
            have hgr := set5_grown w18 w4.heap.size (.string (bs [100, 111, 99])) (.int .u32 (yf.set : Nat)) (.slice (some ⟨g39, 0, none⟩) c.names.length c.names.length) (.slice (some ⟨gS9, 0, none⟩) c.names.length c.names.length) (.slice AD9 ds2.length cD9)
            have hD18 := own_below (own_below (own_below HD9.out HZ10.out hs89) HC15.out (Nat.le_trans hs89 HZ10.out.size)) HB18.out (Nat.le_trans (Nat.le_trans hs89 HZ10.out.size) HC15.out.size)
            have hD19 : OwnDn (((((w18.setCell ⟨w4.heap.size, 0, none⟩ (.string (bs [100, 111, 99]))).setCell ⟨w4.heap.size, 1, none⟩ (.int .u32 (yf.set : Nat))).setCell ⟨w4.heap.size, 2, none⟩ (.slice (some ⟨g39, 0, none⟩) c.names.length c.names.length)).setCell ⟨w4.heap.size, 3, none⟩ (.slice (some ⟨gS9, 0, none⟩) c.names.length c.names.length)).setCell ⟨w4.heap.size, 4, none⟩ (.slice AD9 ds2.length cD9)) w8.heap.size (.slice AD9 ds2.length cD9) ds2 := World.ownsRow.kept hD18 hgr (.inr fun e => by have := (World.ownsRow.lt hD18 _ e).1; omega)
            have HPN : Hid (PapAt (((((w18.setCell ⟨w4.heap.size, 0, none⟩ (.string (bs [100, 111, 99]))).setCell ⟨w4.heap.size, 1, none⟩ (.int .u32 (yf.set : Nat))).setCell ⟨w4.heap.size, 2, none⟩ (.slice (some ⟨g39, 0, none⟩) c.names.length c.names.length)).setCell ⟨w4.heap.size, 3, none⟩ (.slice (some ⟨gS9, 0, none⟩) c.names.length c.names.length)).setCell ⟨w4.heap.size, 4, none⟩ (.slice AD9 ds2.length cD9)) w4.heap.size (bs [100, 111, 99]) c.names.length yf ds2 g39 gS9 AD9 cD9) :=
              ⟨set5_row _ _ _ _ _ rp, (cfr_grown (HR15.out.below HB18.out) hgr (by intro e; injection e with e; omega) (by intro e; injection e with e; have := HR15.out.lo; omega)).base (Nat.zero_le _), dnAt_ofP hD19⟩
            have HBN : Hid (Below w4.heap.size w4 (((((w18.setCell ⟨w4.heap.size, 0, none⟩ (.string (bs [100, 111, 99]))).setCell ⟨w4.heap.size, 1, none⟩ (.int .u32 (yf.set : Nat))).setCell ⟨w4.heap.size, 2, none⟩ (.slice (some ⟨g39, 0, none⟩) c.names.length c.names.length)).setCell ⟨w4.heap.size, 3, none⟩ (.slice (some ⟨gS9, 0, none⟩) c.names.length c.names.length)).setCell ⟨w4.heap.size, 4, none⟩ (.slice AD9 ds2.length cD9))) := set5_below (below_then HB.out HB28.out HB.out.size) (Nat.le_refl _) (Nat.le_refl _) _ _ _ _ _
            have HDN : Hid (ds2.length ≤ k + 1 ∧ ShD ds2) := ⟨by
              have h1 := HDs.out.1
              rcases HDs2.out.1 with e | ⟨t, e⟩
              · rw [e]; omega
              · rw [e, List.length_append]; simp; omega, HDs2.out.2⟩
            clear rc hgr hD18 hD19 rp
            go_wp2_with fail
            go_roundw
            case rel => exact ⟨k + 1, yf, ds2, g39, gS9, cD9, AD9, by omega, by go_num, HP2, HPN.out, HDN, HBN⟩
            case measure => simp [intOf]; omega
      · clear HM
        by_cases h3 : k < ms.length
        · have h3i : (k : Int) < ms.length := by omega
          have h4i : ¬ (k : Int) < 10 := by omega
          go_wp2_with (go_at_call 16; refine (wakes14 _).mono ?_; rintro e w6 ⟨rfl, hb6⟩)
          go_ret
          exact ⟨rfl, below_then hbw hb6 hbw.size⟩
        · have h3i : ¬ (k : Int) < ms.length := by omega
          go_wp2_with (go_at_call 16; refine (wakes14 _).mono ?_; rintro e w6 ⟨rfl, hb6⟩)
          go_ret
          exact ⟨rfl, below_then hbw hb6 hbw.size⟩
end Go.Proofs.YtaoinedndnleoaaGreat
