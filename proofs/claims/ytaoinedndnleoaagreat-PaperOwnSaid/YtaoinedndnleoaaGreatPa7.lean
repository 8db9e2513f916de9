/-
  Package paper: Late; Fire, but for a task.
-/
import Derived.Test.YtaoinedndnleoaaGreatPa6
import Derived.Test.YtaoinedndnleoaaGreatSh1b
namespace Go.Proofs.YtaoinedndnleoaaGreat
set_option maxRecDepth 100000
open Go.ChangeShapes Go.WideShapes Go.ChangeAt Go.RowKit

theorem u32_ltP {W : World} {g3 n : Nat} {rs : List Nat} (h : U32sAt W (.slice (some ⟨g3, 0, none⟩) n n) rs) (hn : 0 < n) : g3 < W.heap.size := by
  obtain ⟨A, cap, e, _, hc⟩ := h
  injection e with e1 e2 e3
  obtain ⟨b, off, e4, hb, _⟩ := hc 0 (by omega)
  rw [e4] at e1
  injection e1 with e1
  injection e1 with e1
  omega
theorem farP {W : World} {base g3 n c : Nat} {A : Option Addr} {ds : List Dn} {rs : List Nat} (hD : OwnDn W base (.slice A ds.length c) ds) (hz : ds = [] → Value.slice A ds.length c = .slice none 0 0) (h : U32sAt W (.slice (some ⟨g3, 0, none⟩) n n) rs) (hn : 0 < n) : (Value.slice A ds.length c).ownBlock ≠ some g3 := by
  intro e
  cases ds with
  | nil => rw [hz rfl] at e; cases e
  | cons d r =>
    obtain ⟨g, cap', e1, _, _, _, hc⟩ := own_form hD (by simp)
    have x0 := hc 0 (.string (bs d.task)) (by simp [dncells, dncell])
    obtain ⟨A', cap, e5, _, hc2⟩ := h
    injection e5 with e6 e7 e8
    obtain ⟨b, off, e4, hb, hx, _⟩ := hc2 0 (by omega)
    rw [e4] at e6
    injection e6 with e6
    injection e6 with e6 e9
    subst e6 e9
    injection e1 with e1
    rw [e1] at e
    have e : g = g3 := by simpa [Value.ownBlock] using e
    subst e
    rw [Nat.zero_add, x0] at hx
    cases hx
set_option maxHeartbeats 8000000 in
theorem Fire_plain (c : Ch) (n : Nat) (AN AK AP AT A7 A8 AD : Option Addr) (cN cK cP cT c7 c8 cD : Nat) (nm : ByteArray) (x : Cf) (ds : List Dn) (k : Nat) (now : Int) (u : Tx) (ap : List (List Tx)) (AL : Option Addr) (cL : Nat) (w : World) (h : ChW w c n AK AP AT cK cP cT) (hk : k < c.trans.length) (hkd : c.trans[k].kind = 9) (hin : x.set.testBit (frT c k) = true) (hx : Plc c.kinds c.parents n x) (hD : DnAt w AD cD ds) (hdl : ds.length ≤ 999) (hU : U32sAt w (.slice A7 n c7) x.past) (hS : IntsAt w (.slice A8 n c8) x.since) (hw : (Lit.int .i64 now).wf = true) (hok : OkC c) (hn : n = c.names.length) (hta : c.trans[k].task = []) :
    Calls Tryz.prog 20 #[chV AN AK AP AT c.names.length cN n cK n cP c.trans.length cT, .agg #[.string nm, .int .u32 (x.set : Nat), .slice A7 n c7, .slice A8 n c8, .slice AD ds.length cD], .int .i64 k, .string (bs u), .slice AL ap.length cL, .int .i64 now] w (FirTo n nm (setF c n x ds k now) w) := by
  have TN : Hid (∀ W, Below w.heap.size w W → Calls Tryz.prog 49 #[chV AN AK AP AT c.names.length cN n cK n cP c.trans.length cT, .agg #[.string nm, .int .u32 (x.set : Nat), .slice A7 n c7, .slice A8 n c8, .slice AD ds.length cD], .int .i64 9, .int .i64 k, .int .i64 now] W (PTakTo n nm (stepC c n now x k) ds W)) := fun W hW => by
    have := PTake_ok c n AN AK AP AT A7 A8 AD cN cK cP cT c7 c8 cD nm x ds k now W (h.below hW) hk hin hx (hD.below hW) (by omega) (hU.below hW) (hS.below hW) hw
    rw [hkd] at this; exact this
  have hI := runInv_plc h.sh h.nn hw h.ft (fun s => few_en hok s 10 [])
  have hy : Plc c.kinds c.parents n (stepC c n now x k) := by
    subst hn
    obtain ⟨f, g, ef, hfn, eg, hgn⟩ := hok.ft _ (List.getElem_mem hk)
    unfold stepC
    rw [frT_at hk ef] at hin ⊢
    rw [toT_at hk eg]
    exact hx.mov hok.sh hok.f.nl hfn hgn hw hin
  have SE : Hid (∀ W B7 B8 BD nD dD, Below w.heap.size w W → U32sAt W (.slice B7 n n) (stepC c n now x k).past → IntsAt W (.slice B8 n n) (stepC c n now x k).since → Calls Tryz.prog 51 #[chV AN AK AP AT c.names.length cN n cK n cP c.trans.length cT, .agg #[.string nm, .int .u32 ((stepC c n now x k).set : Nat), .slice B7 n n, .slice B8 n n, .slice BD nD dD], .int .i64 k, .int .i64 now] W (SetTo n nm (.slice BD nD dD) (runC c n now 16 (stepC c n now x k) []) k W)) := fun W B7 B8 BD nD dD hW h7 h8 =>
    Settle_any c n AN AK AP AT B7 B8 BD cN cK cP cT n n nD dD nm (stepC c n now x k) k now W (h.below hW) hy h7 h8 hw hok (fun y out e => by have := (run_keep hI 16 _ _ _ _ hy e).2; simp at this; omega)
  obtain ⟨gT, rfl, hgl, hc⟩ := h.tr k hk
  have q5 : w.cell? ⟨gT, k * 7 + 5, none⟩ = some (.string (bs c.trans[k].task)) := hc 5 _ (by omega) rfl
  clear hc
  have hz : ¬ (k : Int) < 0 := by omega
  have hle : ¬ (c.trans.length : Int) ≤ k := by omega
  have hlt : (k : Int) < c.trans.length := by omega
  have hge : (0 : Int) ≤ k := by omega
  obtain ⟨RC, RX, RR, _⟩ := rows3 w (.cells #[.slice AN c.names.length cN, .slice AK n cK, .slice AP n cP, .slice (some ⟨gT, 0, none⟩) c.trans.length cT] 30) (.cells #[.string nm, .int .u32 (x.set : Nat), .slice A7 n c7, .slice A8 n c8, .slice AD ds.length cD] 59) (.cells #[.string ⟨#[]⟩, .int .u32 0, .slice none 0 0, .slice none 0 0, .slice none 0 0] 59)
  have hB0 : Below w.heap.size w (((w.alloc (.cells #[.slice AN c.names.length cN, .slice AK n cK, .slice AP n cP, .slice (some ⟨gT, 0, none⟩) c.trans.length cT] 30)).alloc (.cells #[.string nm, .int .u32 (x.set : Nat), .slice A7 n c7, .slice A8 n c8, .slice AD ds.length cD] 59)).alloc (.cells #[.string ⟨#[]⟩, .int .u32 0, .slice none 0 0, .slice none 0 0, .slice none 0 0] 59)) := ((((Below.refl _ _).alloc (Nat.le_refl _) _).alloc (by simp) _).alloc (by simp; omega) _)
  have RC : (((w.alloc (.cells #[.slice AN c.names.length cN, .slice AK n cK, .slice AP n cP, .slice (some ⟨gT, 0, none⟩) c.trans.length cT] 30)).alloc (.cells #[.string nm, .int .u32 (x.set : Nat), .slice A7 n c7, .slice A8 n c8, .slice AD ds.length cD] 59)).alloc (.cells #[.string ⟨#[]⟩, .int .u32 0, .slice none 0 0, .slice none 0 0, .slice none 0 0] 59)).heap[w.heap.size]? = some (.cells #[.slice AN c.names.length cN, .slice AK n cK, .slice AP n cP, .slice (some ⟨gT, 0, none⟩) c.trans.length cT] 30 (0, 0)) := RC
  have RX : (((w.alloc (.cells #[.slice AN c.names.length cN, .slice AK n cK, .slice AP n cP, .slice (some ⟨gT, 0, none⟩) c.trans.length cT] 30)).alloc (.cells #[.string nm, .int .u32 (x.set : Nat), .slice A7 n c7, .slice A8 n c8, .slice AD ds.length cD] 59)).alloc (.cells #[.string ⟨#[]⟩, .int .u32 0, .slice none 0 0, .slice none 0 0, .slice none 0 0] 59)).heap[w.heap.size + 1]? = some (.cells #[.string nm, .int .u32 (x.set : Nat), .slice A7 n c7, .slice A8 n c8, .slice AD ds.length cD] 59 (0, 0)) := RX
  have RR : (((w.alloc (.cells #[.slice AN c.names.length cN, .slice AK n cK, .slice AP n cP, .slice (some ⟨gT, 0, none⟩) c.trans.length cT] 30)).alloc (.cells #[.string nm, .int .u32 (x.set : Nat), .slice A7 n c7, .slice A8 n c8, .slice AD ds.length cD] 59)).alloc (.cells #[.string ⟨#[]⟩, .int .u32 0, .slice none 0 0, .slice none 0 0, .slice none 0 0] 59)).heap[w.heap.size + 2]? = some (.cells #[.string ⟨#[]⟩, .int .u32 0, .slice none 0 0, .slice none 0 0, .slice none 0 0] 59 (0, 0)) := RR
  have HB0 := Lib.hid hB0
  have htc := h.tc
  have hn0 := h.n0
  have hnn := h.nn
  unfold setF
  generalize c.trans[k].task = ta at *
  clear hB0 h hk hkd hin hx hD hU hS hw hok hn hy hI
  generalize runC c n now 16 (stepC c n now x k) [] = r at *
  generalize stepC c n now x k = y at *
  go_enter Tryz.func20, Tryz.ntmps20
  go_upto_region 1 with fail
  generalize ((w.alloc (.cells #[.slice AN c.names.length cN, .slice AK n cK, .slice AP n cP, .slice (some ⟨gT, 0, none⟩) c.trans.length cT] 30)).alloc (.cells #[.string nm, .int .u32 (x.set : Nat), .slice A7 n c7, .slice A8 n c8, .slice AD ds.length cD] 59)).alloc (.cells #[.string ⟨#[]⟩, .int .u32 0, .slice none 0 0, .slice none 0 0, .slice none 0 0] 59) = w0 at *
  have c0 := cell_of_row _ _ 0 _ _ _ RC; have c1 := cell_of_row _ _ 1 _ _ _ RC; have c2 := cell_of_row _ _ 2 _ _ _ RC; have c3 := cell_of_row _ _ 3 _ _ _ RC
  have y0 := cell_of_row _ _ 0 _ _ _ RX; have y1 := cell_of_row _ _ 1 _ _ _ RX; have y2 := cell_of_row _ _ 2 _ _ _ RX; have y3 := cell_of_row _ _ 3 _ _ _ RX; have y4 := cell_of_row _ _ 4 _ _ _ RX
  have hlr := (Array.getElem?_eq_some_iff.1 RR).1
  have HRR := Lib.hid RR
  have HRX := Lib.hid RX
  have HRC := Lib.hid RC
  clear RC RX RR
  go_upto_region 2 with (go_at_call 49; refine (TN.out _ HB0.out).mono ?_; rintro e w5 ⟨hb5, g3, gS, vD, rfl, hg3, hR5, hD5, hZ5⟩; obtain ⟨A5, cD5, rfl⟩ := own_slice hD5; have HZ5 := Lib.hid hZ5; clear hZ5; have HB5 := Lib.hid hb5; have HR5 := Lib.hid hR5; have HD5 := Lib.hid hD5; clear hb5 hR5 hD5)
  have HZ := Lib.hid (box_b w5 (.cells #[.string nm, .int .u32 (y.set : Nat), .slice (some ⟨g3, 0, none⟩) n n, .slice (some ⟨gS, 0, none⟩) n n, .slice A5 ds.length cD5] 59))
  have RN := heap_alloc_new w5 (.cells #[.string nm, .int .u32 (y.set : Nat), .slice (some ⟨g3, 0, none⟩) n n, .slice (some ⟨gS, 0, none⟩) n n, .slice A5 ds.length cD5] 59)
  have HB6 : Hid (Below w0.heap.size w0 (w5.alloc (.cells #[.string nm, .int .u32 (y.set : Nat), .slice (some ⟨g3, 0, none⟩) n n, .slice (some ⟨gS, 0, none⟩) n n, .slice A5 ds.length cD5] 59))) := below_then HB5.out HZ.out HB5.out.size
  have HR6 := Lib.hid (HR5.out.below HZ.out)
  have HD6 := Lib.hid (own_below HD5.out HZ.out HB5.out.size)
  have hn5 : w0.heap.size ≤ w5.heap.size := HB5.out.size
  have hgS : w0.heap.size ≤ gS := HR5.out.lo
  have hs5 : gS < w5.heap.size := (Array.getElem?_eq_some_iff.1 HR5.out.rS).1
  have hg3' : w0.heap.size ≤ g3 := hg3
  generalize w5.alloc (.cells #[.string nm, .int .u32 (y.set : Nat), .slice (some ⟨g3, 0, none⟩) n n, .slice (some ⟨gS, 0, none⟩) n n, .slice A5 ds.length cD5] 59) = w6 at *
  have RCw := (HB6.out.block w.heap.size (by omega)).trans HRC.out
  have RXw := (HB6.out.block (w.heap.size + 1) (by omega)).trans HRX.out
  have HBW := Lib.hid (below_then HB0.out HB6.out HB0.out.size)
  have q5w := (HBW.out.cell (p := ⟨gT, k * 7 + 5, none⟩) hgl).trans q5
  clear c0 c1 c2 c3 y0 y1 y2 y3 y4 q5 HRC HRX HZ HB5 HR5 HD5 TN
  have c0 := cell_of_row _ _ 0 _ _ _ RCw; have c1 := cell_of_row _ _ 1 _ _ _ RCw; have c2 := cell_of_row _ _ 2 _ _ _ RCw; have c3 := cell_of_row _ _ 3 _ _ _ RCw
  have n0 := cell_of_row _ _ 0 _ _ _ RN; have n1 := cell_of_row _ _ 1 _ _ _ RN; have n2 := cell_of_row _ _ 2 _ _ _ RN; have n3 := cell_of_row _ _ 3 _ _ _ RN; have n4 := cell_of_row _ _ 4 _ _ _ RN
  go_upto_region 5 with fail
  subst hta
  obtain ⟨b1, b2, b3⟩ := isNilD
  go_upto_region 9 with fail
  cases r with
  | none =>
    go_wp2_with (go_at_call 51; refine (SE.out w6 _ _ _ _ _ HBW.out HR6.out.uP (HR6.out.ints (by omega))).mono ?_; rintro e w7 ⟨hb7, he⟩; simp only at he; subst he; have HB7 := Lib.hid (below_then HBW.out hb7 HBW.out.size); have RZ := ((below_then HB6.out hb7 HB6.out.size).block _ hlr).trans HRR.out; have d0 := cell_of_row _ _ 0 _ _ _ RZ; have d1 := cell_of_row _ _ 1 _ _ _ RZ; have d2 := cell_of_row _ _ 2 _ _ _ RZ; have d3 := cell_of_row _ _ 3 _ _ _ RZ; have d4 := cell_of_row _ _ 4 _ _ _ RZ; have f0 := fz_of RZ 0; have f1 := fz_of RZ 1; have f2 := fz_of RZ 2; have f3 := fz_of RZ 3; have f4 := fz_of RZ 4)
    (try simp only [Exit.inBlock, Exit.then])
    refine bodyPost_ret (run_cellU2 rfl _ _ (w.heap.size + 2) _ _ _ _ rfl (set5_row _ _ _ _ _ RZ) Tryz.underlying59 rfl (by kernel_rfl)) rfl ?_
    exact ⟨set5_below HB7.out (Nat.le_refl _) (by omega) _ _ _ _ _, rfl⟩
  | some yo =>
    obtain ⟨y2, out⟩ := yo
    go_wp2_with (go_at_call 51; refine (SE.out w6 _ _ _ _ _ HBW.out HR6.out.uP (HR6.out.ints (by omega))).mono ?_; rintro e w7 ⟨hb7, g32, gS2, vL, rfl, hg32, hR7, hO7⟩; obtain ⟨AL7, cL7, rfl⟩ := own_slice hO7; have HB7 := Lib.hid (below_then HBW.out hb7 HBW.out.size); have RZ := ((below_then HB6.out hb7 HB6.out.size).block _ hlr).trans HRR.out; have HR7 := Lib.hid hR7; have HO7 := Lib.hid hO7; have HD7 := Lib.hid (own_below HD6.out hb7 HB6.out.size); have h67 := HB6.out.size; have d0 := cell_of_row _ _ 0 _ _ _ RZ; have d1 := cell_of_row _ _ 1 _ _ _ RZ; have d2 := cell_of_row _ _ 2 _ _ _ RZ; have d3 := cell_of_row _ _ 3 _ _ _ RZ; have d4 := cell_of_row _ _ 4 _ _ _ RZ; have f0 := fz_of RZ 0; have f1 := fz_of RZ 1; have f2 := fz_of RZ 2; have f3 := fz_of RZ 3; have f4 := fz_of RZ 4; clear hR7 hO7 hb7)
    (try simp only [Exit.inBlock, Exit.then])
    refine bodyPost_ret (run_cellU2 rfl _ _ (w.heap.size + 2) _ _ _ _ rfl (set5_row _ _ _ _ _ RZ) Tryz.underlying59 rfl (by kernel_rfl)) rfl ?_
    have hne3 : (some (w.heap.size + 2) : Option Nat) ≠ some g32 := by intro e; injection e with e; omega
    have hneS : (some (w.heap.size + 2) : Option Nat) ≠ some gS2 := by intro e; injection e with e; have := HR7.out.lo; omega
    have hO8 := World.ownsRow.kept HO7.out (set5_grown w7 (w.heap.size + 2) (.string nm) (.int .u32 (y2.set : Nat)) (.slice (some ⟨g32, 0, none⟩) n n) (.slice (some ⟨gS2, 0, none⟩) n n) (.slice A5 ds.length cD5)) (.inr fun e => by have := (World.ownsRow.lt HO7.out _ e).1; omega)
    exact ⟨set5_below HB7.out (Nat.le_refl _) (by omega) _ _ _ _ _, g32, gS2, _, _, rfl, by omega, (cfr_grown HR7.out (set5_grown _ _ _ _ _ _ _) hne3 hneS).base (by omega), own_mono2 (World.ownsRow.kept HD7.out (set5_grown _ _ _ _ _ _ _) (.inr fun e => by have := (World.ownsRow.lt HD7.out _ e).1; omega)) (by omega), own_mono2 (by simpa using hO8) (by omega)⟩
end Go.Proofs.YtaoinedndnleoaaGreat
