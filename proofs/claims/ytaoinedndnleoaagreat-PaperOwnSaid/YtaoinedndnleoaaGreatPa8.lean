/-
  Package paper: Fire, of a task.
-/
import Derived.Test.YtaoinedndnleoaaGreatPa7
import Derived.Test.YtaoinedndnleoaaGreatSh1b
namespace Go.Proofs.YtaoinedndnleoaaGreat
set_option maxRecDepth 100000
open Go.ChangeShapes Go.WideShapes Go.ChangeAt Go.RowKit

set_option maxHeartbeats 8000000 in
theorem Fire_task (c : Ch) (n : Nat) (AN AK AP AT A7 A8 AD : Option Addr) (cN cK cP cT c7 c8 cD : Nat) (nm : ByteArray) (x : Cf) (ds : List Dn) (k : Nat) (now : Int) (u : Tx) (ap : List (List Tx)) (AL : Option Addr) (cL : Nat) (w : World) (h : ChW w c n AK AP AT cK cP cT) (hk : k < c.trans.length) (hkd : c.trans[k].kind = 9) (hin : x.set.testBit (frT c k) = true) (hx : Plc c.kinds c.parents n x) (hD : DnAt w AD cD ds) (hdl : ds.length ≤ 999) (hU : U32sAt w (.slice A7 n c7) x.past) (hS : IntsAt w (.slice A8 n c8) x.since) (hw : (Lit.int .i64 now).wf = true) (hok : OkC c) (hn : n = c.names.length) (hta : c.trans[k].task ≠ []) (hdt : ∀ x ∈ tasksD ds u, x.length ≤ 1000) (hap : LLAt w AL cL ap) (hL : ap.length ≤ 100) (hl : ∀ l ∈ ap, l.length ≤ 100) (ht : ∀ l ∈ ap, ∀ x ∈ l, x.length ≤ 1000) (hm : mayB (tasksD ds u) c.trans[k].task ap = true) :
    Calls Tryz.prog 20 #[chV AN AK AP AT c.names.length cN n cK n cP c.trans.length cT, .agg #[.string nm, .int .u32 (x.set : Nat), .slice A7 n c7, .slice A8 n c8, .slice AD ds.length cD], .int .i64 k, .string (bs u), .slice AL ap.length cL, .int .i64 now] w (FirTo n nm (setF c n x (ds ++ [⟨c.trans[k].task, u⟩]) k now) w) := by
  have TN : Hid (∀ W, Below w.heap.size w W → Calls Tryz.prog 49 #[chV AN AK AP AT c.names.length cN n cK n cP c.trans.length cT, .agg #[.string nm, .int .u32 (x.set : Nat), .slice A7 n c7, .slice A8 n c8, .slice AD ds.length cD], .int .i64 9, .int .i64 k, .int .i64 now] W (PTakTo n nm (stepC c n now x k) ds W)) := fun W hW => by
    have := PTake_ok c n AN AK AP AT A7 A8 AD cN cK cP cT c7 c8 cD nm x ds k now W (h.below hW) hk hin hx (hD.below hW) (by omega) (hU.below hW) (hS.below hW) hw
    rw [hkd] at this; exact this
  have hI := runInv_plc h.sh h.nn hw h.ft (fun s => few_en hok s 10 [])
  have hy : Plc c.kinds c.parents n (stepC c n now x k) := by
    subst hn
    obtain ⟨f, g, ef, hfn, eg, hgn⟩ := hok.ft _ (List.getElem_mem hk)
    unfold stepC
    rw [frT_at hk ef] at hin ⊢
    rw [toT_at hk eg]
    exact hx.mov hok.sh hok.f.nl hfn hgn hw hin
  have SE : Hid (∀ W B7 B8 BD nD dD, Below w.heap.size w W → U32sAt W (.slice B7 n n) (stepC c n now x k).past → IntsAt W (.slice B8 n n) (stepC c n now x k).since → Calls Tryz.prog 51 #[chV AN AK AP AT c.names.length cN n cK n cP c.trans.length cT, .agg #[.string nm, .int .u32 ((stepC c n now x k).set : Nat), .slice B7 n n, .slice B8 n n, .slice BD nD dD], .int .i64 k, .int .i64 now] W (SetTo n nm (.slice BD nD dD) (runC c n now 16 (stepC c n now x k) []) k W)) := fun W B7 B8 BD nD dD hW h7 h8 =>
    Settle_any c n AN AK AP AT B7 B8 BD cN cK cP cT n n nD dD nm (stepC c n now x k) k now W (h.below hW) hy h7 h8 hw hok (fun y out e => by have := (run_keep hI 16 _ _ _ _ hy e).2; simp at this; omega)
  have TK := Lib.hid (fun W (hW : Below w.heap.size w W) => PTasks_any ds u nm (x.set : Nat) A7 A8 AD n c7 n c8 cD W (hD.below hW) (by omega))
  have DT := Lib.hid (fun W (hW : Below w.heap.size w W) A' c' (hA : ListAt W A' c' (tasksD ds u)) => Tasks_any (tasksD ds u) c.trans[k].task ap AL A' cL c' W hA (by have := tasksD_len ds u; omega) hdt (hap.below hW) hL hl ht)
  rw [hm] at DT
  clear hdt hap hL hl ht hm
  obtain ⟨gT, rfl, hgl, hc⟩ := h.tr k hk
  have q5 : w.cell? ⟨gT, k * 7 + 5, none⟩ = some (.string (bs c.trans[k].task)) := hc 5 _ (by omega) rfl
  clear hc
  have hz : ¬ (k : Int) < 0 := by omega
  have hle : ¬ (c.trans.length : Int) ≤ k := by omega
  have hlt : (k : Int) < c.trans.length := by omega
  have hge : (0 : Int) ≤ k := by omega
  obtain ⟨RC, RX, RR, _⟩ := rows3 w (.cells #[.slice AN c.names.length cN, .slice AK n cK, .slice AP n cP, .slice (some ⟨gT, 0, none⟩) c.trans.length cT] 30) (.cells #[.string nm, .int .u32 (x.set : Nat), .slice A7 n c7, .slice A8 n c8, .slice AD ds.length cD] 59) (.cells #[.string ⟨#[]⟩, .int .u32 0, .slice none 0 0, .slice none 0 0, .slice none 0 0] 59)
  have hB0 : Below w.heap.size w (((w.alloc (.cells #[.slice AN c.names.length cN, .slice AK n cK, .slice AP n cP, .slice (some ⟨gT, 0, none⟩) c.trans.length cT] 30)).alloc (.cells #[.string nm, .int .u32 (x.set : Nat), .slice A7 n c7, .slice A8 n c8, .slice AD ds.length cD] 59)).alloc (.cells #[.string ⟨#[]⟩, .int .u32 0, .slice none 0 0, .slice none 0 0, .slice none 0 0] 59)) := ((((Below.refl _ _).alloc (Nat.le_refl _) _).alloc (by simp) _).alloc (by simp; omega) _)
  have RC : (((w.alloc (.cells #[.slice AN c.names.length cN, .slice AK n cK, .slice AP n cP, .slice (some ⟨gT, 0, none⟩) c.trans.length cT] 30)).alloc (.cells #[.string nm, .int .u32 (x.set : Nat), .slice A7 n c7, .slice A8 n c8, .slice AD ds.length cD] 59)).alloc (.cells #[.string ⟨#[]⟩, .int .u32 0, .slice none 0 0, .slice none 0 0, .slice none 0 0] 59)).heap[w.heap.size]? = some (.cells #[.slice AN c.names.length cN, .slice AK n cK, .slice AP n cP, .slice (some ⟨gT, 0, none⟩) c.trans.length cT] 30 (0, 0)) := RC
  have RX : (((w.alloc (.cells #[.slice AN c.names.length cN, .slice AK n cK, .slice AP n cP, .slice (some ⟨gT, 0, none⟩) c.trans.length cT] 30)).alloc (.cells #[.string nm, .int .u32 (x.set : Nat), .slice A7 n c7, .slice A8 n c8, .slice AD ds.length cD] 59)).alloc (.cells #[.string ⟨#[]⟩, .int .u32 0, .slice none 0 0, .slice none 0 0, .slice none 0 0] 59)).heap[w.heap.size + 1]? = some (.cells #[.string nm, .int .u32 (x.set : Nat), .slice A7 n c7, .slice A8 n c8, .slice AD ds.length cD] 59 (0, 0)) := RX
  have RR : (((w.alloc (.cells #[.slice AN c.names.length cN, .slice AK n cK, .slice AP n cP, .slice (some ⟨gT, 0, none⟩) c.trans.length cT] 30)).alloc (.cells #[.string nm, .int .u32 (x.set : Nat), .slice A7 n c7, .slice A8 n c8, .slice AD ds.length cD] 59)).alloc (.cells #[.string ⟨#[]⟩, .int .u32 0, .slice none 0 0, .slice none 0 0, .slice none 0 0] 59)).heap[w.heap.size + 2]? = some (.cells #[.string ⟨#[]⟩, .int .u32 0, .slice none 0 0, .slice none 0 0, .slice none 0 0] 59 (0, 0)) := RR
  have HB0 := Lib.hid hB0
  have htc := h.tc
  have hn0 := h.n0
  have hnn := h.nn
  unfold setF
  generalize c.trans[k].task = ta at *
  clear hB0 h hk hkd hin hx hD hU hS hw hok hn hy hI
  generalize runC c n now 16 (stepC c n now x k) [] = r at *
  generalize stepC c n now x k = y at *
  go_enter Tryz.func20, Tryz.ntmps20
  go_upto_region 1 with fail
  generalize ((w.alloc (.cells #[.slice AN c.names.length cN, .slice AK n cK, .slice AP n cP, .slice (some ⟨gT, 0, none⟩) c.trans.length cT] 30)).alloc (.cells #[.string nm, .int .u32 (x.set : Nat), .slice A7 n c7, .slice A8 n c8, .slice AD ds.length cD] 59)).alloc (.cells #[.string ⟨#[]⟩, .int .u32 0, .slice none 0 0, .slice none 0 0, .slice none 0 0] 59) = w0 at *
  have c0 := cell_of_row _ _ 0 _ _ _ RC; have c1 := cell_of_row _ _ 1 _ _ _ RC; have c2 := cell_of_row _ _ 2 _ _ _ RC; have c3 := cell_of_row _ _ 3 _ _ _ RC
  have y0 := cell_of_row _ _ 0 _ _ _ RX; have y1 := cell_of_row _ _ 1 _ _ _ RX; have y2 := cell_of_row _ _ 2 _ _ _ RX; have y3 := cell_of_row _ _ 3 _ _ _ RX; have y4 := cell_of_row _ _ 4 _ _ _ RX
  have hlr := (Array.getElem?_eq_some_iff.1 RR).1
  have HRR := Lib.hid RR
  have HRX := Lib.hid RX
  have HRC := Lib.hid RC
  clear RC RX RR
  go_upto_region 2 with (go_at_call 49; refine (TN.out _ HB0.out).mono ?_; rintro e w5 ⟨hb5, g3, gS, vD, rfl, hg3, hR5, hD5, hZ5⟩; obtain ⟨A5, cD5, rfl⟩ := own_slice hD5; have HZ5 := Lib.hid hZ5; clear hZ5; have HB5 := Lib.hid hb5; have HR5 := Lib.hid hR5; have HD5 := Lib.hid hD5; clear hb5 hR5 hD5)
  have HZ := Lib.hid (box_b w5 (.cells #[.string nm, .int .u32 (y.set : Nat), .slice (some ⟨g3, 0, none⟩) n n, .slice (some ⟨gS, 0, none⟩) n n, .slice A5 ds.length cD5] 59))
  have RN := heap_alloc_new w5 (.cells #[.string nm, .int .u32 (y.set : Nat), .slice (some ⟨g3, 0, none⟩) n n, .slice (some ⟨gS, 0, none⟩) n n, .slice A5 ds.length cD5] 59)
  have HB6 : Hid (Below w0.heap.size w0 (w5.alloc (.cells #[.string nm, .int .u32 (y.set : Nat), .slice (some ⟨g3, 0, none⟩) n n, .slice (some ⟨gS, 0, none⟩) n n, .slice A5 ds.length cD5] 59))) := below_then HB5.out HZ.out HB5.out.size
  have HR6 := Lib.hid (HR5.out.below HZ.out)
  have HD6 := Lib.hid (own_below HD5.out HZ.out HB5.out.size)
  have hn5 : w0.heap.size ≤ w5.heap.size := HB5.out.size
  have hgS : w0.heap.size ≤ gS := HR5.out.lo
  have HR5L := Lib.hid HR5.out.uP
  have HRC0 := Lib.hid HRC.out
  have hs5 : gS < w5.heap.size := (Array.getElem?_eq_some_iff.1 HR5.out.rS).1
  have hg3' : w0.heap.size ≤ g3 := hg3
  generalize w5.alloc (.cells #[.string nm, .int .u32 (y.set : Nat), .slice (some ⟨g3, 0, none⟩) n n, .slice (some ⟨gS, 0, none⟩) n n, .slice A5 ds.length cD5] 59) = w6 at *
  have RCw := (HB6.out.block w.heap.size (by omega)).trans HRC.out
  have RXw := (HB6.out.block (w.heap.size + 1) (by omega)).trans HRX.out
  have HBW := Lib.hid (below_then HB0.out HB6.out HB0.out.size)
  have q5w := (HBW.out.cell (p := ⟨gT, k * 7 + 5, none⟩) hgl).trans q5
  clear c0 c1 c2 c3 y0 y1 y2 y3 y4 q5 HRC HRX HZ HB5 HR5 HD5 TN
  have c0 := cell_of_row _ _ 0 _ _ _ RCw; have c1 := cell_of_row _ _ 1 _ _ _ RCw; have c2 := cell_of_row _ _ 2 _ _ _ RCw; have c3 := cell_of_row _ _ 3 _ _ _ RCw
  have n0 := cell_of_row _ _ 0 _ _ _ RN; have n1 := cell_of_row _ _ 1 _ _ _ RN; have n2 := cell_of_row _ _ 2 _ _ _ RN; have n3 := cell_of_row _ _ 3 _ _ _ RN; have n4 := cell_of_row _ _ 4 _ _ _ RN
  have x0 := cell_of_row _ _ 0 _ _ _ RXw; have x1 := cell_of_row _ _ 1 _ _ _ RXw; have x2 := cell_of_row _ _ 2 _ _ _ RXw; have x3 := cell_of_row _ _ 3 _ _ _ RXw; have x4 := cell_of_row _ _ 4 _ _ _ RXw
  go_upto_region 5 with fail
  obtain ⟨b1, b2, b3⟩ := neNilD hta
  go_upto_region 8 with (first
    | (go_at_call 24; refine (TK.out _ HBW.out).mono ?_; rintro e w7 ⟨hb7, v7, rfl, hO7⟩; obtain ⟨A7', c7', rfl⟩ := own_slice hO7; have HB7 := Lib.hid hb7; have HL7 := Lib.hid (listAt_of hO7); clear hb7 hO7)
    | (go_at_call 50; refine (DT.out _ (below_then HBW.out HB7.out HBW.out.size) _ _ HL7.out).mono ?_; rintro e w8 ⟨rfl, hb8⟩; have HB8 := Lib.hid (below_then HB7.out hb8 HB7.out.size); clear hb8))
  have RNw := (HB8.out.block _ (Array.getElem?_eq_some_iff.1 RN).1).trans RN
  have RC8 := (HB8.out.block w.heap.size (Array.getElem?_eq_some_iff.1 RCw).1).trans RCw
  have HD8 := Lib.hid (own_below HD6.out HB8.out HB6.out.size)
  have HR8 := Lib.hid (HR6.out.below HB8.out)
  have hs8 : w6.heap.size ≤ w8.heap.size := HB8.out.size
  have hs6 : w0.heap.size ≤ w6.heap.size := HB6.out.size
  have HB68 := Lib.hid (below_then HB6.out HB8.out HB6.out.size)
  obtain ⟨i0, hi, hz0, hz1, hz2⟩ := info_parts Tryz.infoDone
  have hl5 : w5.heap.size < w8.heap.size := (Array.getElem?_eq_some_iff.1 RNw).1
  have hne : (Value.slice A5 ds.length cD5).ownBlock ≠ some w5.heap.size := own_row_ne HD8.out RNw (by decide)
  clear c0 c1 c2 c3 n0 n1 n2 n3 n4 x0 x1 x2 x3 x4 q5w RCw RXw TK DT HL7 HB7 b1 b2 b3 HD6 HR6
  have n0 := cell_of_row _ _ 0 _ _ _ RNw; have n1 := cell_of_row _ _ 1 _ _ _ RNw; have n2 := cell_of_row _ _ 2 _ _ _ RNw; have n3 := cell_of_row _ _ 3 _ _ _ RNw; have n4 := cell_of_row _ _ 4 _ _ _ RNw
  go_upto_region 9 with (at_builtin; go_must (refine wpList_append_own _ rfl (.tmp 48) (.tmp 52) 57 rfl w0.heap.size 78 i0 _ 2 32 Tryz.underlying57 hi hz0 hz1 hz2 rfl (by decide) _ _ _ rfl (World.ownsRow.alloc HD8.out _) ⟨w8.heap.size, 0, none⟩ 1 1 (dncells [⟨ta, u⟩]) rfl rfl (cells_new _ _ _) (dncells_one _) (by unfold maxLen; omega) (by omega) (by simp; omega) ?_); intro v9 w9 hown9 hg9 _; obtain ⟨A9, c9, rfl⟩ := own_slice hown9; have hr9 := (hg9.block w5.heap.size (by simp; omega) (fun e => hne e.symm)).trans ((heap_alloc_old w8 (.cells #[.string (bs ta), .string (bs u)] 78) hl5).trans RNw); have zf := fz_of hr9 4; have zd := cell_of_row _ _ 4 _ _ _ hr9; have HG9 := Lib.hid hg9; have HO9 := Lib.hid hown9; have HRN9 := Lib.hid hr9; clear hr9 hg9 hown9)
  clear zf zd n0 n1 n2 n3 n4
  have hbA : Below w0.heap.size w0 w9 := (HB68.out.alloc HB68.out.size _).grown HG9.out (HB68.out.alloc HB68.out.size _).size (fun g e => (World.ownsRow.lt HD8.out g e).1)
  have hbS : Below w0.heap.size w0 (w9.setCell ⟨w5.heap.size, 4, none⟩ (.slice A9 (ds.length + 1) c9)) := hbA.grown (grown_setCell _ _ _ _) hbA.size (fun g e => by cases e; exact hn5)
  have hO9 : OwnDn w9 w0.heap.size (.slice A9 (ds.length + 1) c9) (ds ++ [⟨ta, u⟩]) := by show World.ownsRow _ _ _ _ _ _ _; rw [dncells_snoc, List.length_append]; exact HO9.out
  have hneS : some gS ≠ some w5.heap.size := by intro e; injection e with e; omega
  have RN9 : (w9.setCell ⟨w5.heap.size, 4, none⟩ (.slice A9 (ds.length + 1) c9)).heap[w5.heap.size]? = some (.cells #[.string nm, .int .u32 (y.set : Nat), .slice (some ⟨g3, 0, none⟩) n n, .slice (some ⟨gS, 0, none⟩) n n, .slice A9 (ds.length + 1) c9] 59 (0, 0)) := by
    have e := heap_set (j := 4) HRN9.out (.slice A9 (ds.length + 1) c9)
    simpa using e
  have HO10 := Lib.hid (put2 hO9 HRN9.out (by decide) 4 (.slice A9 (ds.length + 1) c9))
  have hs3 : g3 < w5.heap.size := u32_ltP HR5L.out hn0
  have HR9 := cfr_grown HR8.out (gr1D HG9.out) (farP HD8.out HZ5.out HR8.out.uP hn0) (own_row_ne HD8.out HR8.out.rS (by decide))
  have HR10 := Lib.hid (cfr_grown HR9 (grown_setCell w9 w5.heap.size 4 (.slice A9 (ds.length + 1) c9)) (by intro e; injection e with e; omega) (by intro e; injection e with e; omega))
  have HB10 := Lib.hid hbS
  have HBW10 := Lib.hid (below_then HB0.out hbS HB0.out.size)
  have RC10 := (hbS.block w.heap.size (by omega)).trans HRC0.out
  clear hO9 hbA hbS HR9 HRN9 HG9 HO9 hne HR8 HD8 HB8 HB68 RC8 RNw RN
  generalize w9.setCell ⟨w5.heap.size, 4, none⟩ (.slice A9 (ds.length + 1) c9) = w10 at *
  have c0 := cell_of_row _ _ 0 _ _ _ RC10; have c1 := cell_of_row _ _ 1 _ _ _ RC10; have c2 := cell_of_row _ _ 2 _ _ _ RC10; have c3 := cell_of_row _ _ 3 _ _ _ RC10
  have n0 := cell_of_row _ _ 0 _ _ _ RN9; have n1 := cell_of_row _ _ 1 _ _ _ RN9; have n2 := cell_of_row _ _ 2 _ _ _ RN9; have n3 := cell_of_row _ _ 3 _ _ _ RN9; have n4 := cell_of_row _ _ 4 _ _ _ RN9
  cases r with
  | none =>
    go_wp2_with (go_at_call 51; refine (SE.out w10 _ _ _ _ _ HBW10.out HR10.out.uP (HR10.out.ints (by omega))).mono ?_; rintro e w7 ⟨hb7, he⟩; simp only at he; subst he; have HB7 := Lib.hid (below_then HBW10.out hb7 HBW10.out.size); have RZ := ((below_then HB10.out hb7 HB10.out.size).block _ hlr).trans HRR.out; have d0 := cell_of_row _ _ 0 _ _ _ RZ; have d1 := cell_of_row _ _ 1 _ _ _ RZ; have d2 := cell_of_row _ _ 2 _ _ _ RZ; have d3 := cell_of_row _ _ 3 _ _ _ RZ; have d4 := cell_of_row _ _ 4 _ _ _ RZ; have f0 := fz_of RZ 0; have f1 := fz_of RZ 1; have f2 := fz_of RZ 2; have f3 := fz_of RZ 3; have f4 := fz_of RZ 4)
    (try simp only [Exit.inBlock, Exit.then])
    refine bodyPost_ret (run_cellU2 rfl _ _ (w.heap.size + 2) _ _ _ _ rfl (set5_row _ _ _ _ _ RZ) Tryz.underlying59 rfl (by kernel_rfl)) rfl ?_
    exact ⟨set5_below HB7.out (Nat.le_refl _) (by omega) _ _ _ _ _, rfl⟩
  | some yo =>
    obtain ⟨y2, out⟩ := yo
    go_wp2_with (go_at_call 51; refine (SE.out w10 _ _ _ _ _ HBW10.out HR10.out.uP (HR10.out.ints (by omega))).mono ?_; rintro e w7 ⟨hb7, g32, gS2, vL, rfl, hg32, hR7, hO7⟩; obtain ⟨AL7, cL7, rfl⟩ := own_slice hO7; have HB7 := Lib.hid (below_then HBW10.out hb7 HBW10.out.size); have RZ := ((below_then HB10.out hb7 HB10.out.size).block _ hlr).trans HRR.out; have HR7 := Lib.hid hR7; have HO7 := Lib.hid hO7; have HD7 := Lib.hid (own_below HO10.out hb7 HB10.out.size); have h67 := HB10.out.size; have d0 := cell_of_row _ _ 0 _ _ _ RZ; have d1 := cell_of_row _ _ 1 _ _ _ RZ; have d2 := cell_of_row _ _ 2 _ _ _ RZ; have d3 := cell_of_row _ _ 3 _ _ _ RZ; have d4 := cell_of_row _ _ 4 _ _ _ RZ; have f0 := fz_of RZ 0; have f1 := fz_of RZ 1; have f2 := fz_of RZ 2; have f3 := fz_of RZ 3; have f4 := fz_of RZ 4; clear hR7 hO7 hb7)
    (try simp only [Exit.inBlock, Exit.then])
    refine bodyPost_ret (run_cellU2 rfl _ _ (w.heap.size + 2) _ _ _ _ rfl (set5_row _ _ _ _ _ RZ) Tryz.underlying59 rfl (by kernel_rfl)) rfl ?_
    have hne3 : (some (w.heap.size + 2) : Option Nat) ≠ some g32 := by intro e; injection e with e; omega
    have hneS : (some (w.heap.size + 2) : Option Nat) ≠ some gS2 := by intro e; injection e with e; have := HR7.out.lo; omega
    have hO8 := World.ownsRow.kept HO7.out (set5_grown w7 (w.heap.size + 2) (.string nm) (.int .u32 (y2.set : Nat)) (.slice (some ⟨g32, 0, none⟩) n n) (.slice (some ⟨gS2, 0, none⟩) n n) (.slice A9 (ds.length + 1) c9)) (.inr fun e => by have := (World.ownsRow.lt HO7.out _ e).1; omega)
    exact ⟨set5_below HB7.out (Nat.le_refl _) (by omega) _ _ _ _ _, g32, gS2, _, _, rfl, by omega, (cfr_grown HR7.out (set5_grown _ _ _ _ _ _ _) hne3 hneS).base (by omega), own_mono2 (World.ownsRow.kept HD7.out (set5_grown _ _ _ _ _ _ _) (.inr fun e => by have := (World.ownsRow.lt HD7.out _ e).1; omega)) (by omega), own_mono2 (by simpa using hO8) (by omega)⟩
end Go.Proofs.YtaoinedndnleoaaGreat
