/-
  PaperOwn: the walk.
-/
import Derived.Test.YtaoinedndnleoaaGreatPc0
import Derived.Test.YtaoinedndnleoaaGreatPa9
namespace Go.Proofs.YtaoinedndnleoaaGreat
set_option maxRecDepth 100000
open Go.ChangeShapes Go.WideShapes Go.ChangeAt Go.RowKit

/-- who did what is one of three -/
def UsD (l : List Dn) : Prop := ∀ d ∈ l, d.user = [117, 97] ∨ d.user = [117, 98] ∨ d.user = [117, 99]
theorem nm3 (z : Int) : nmT 117 3 z = [117, 97] ∨ nmT 117 3 z = [117, 98] ∨ nmT 117 3 z = [117, 99] := by
  have hb := within_bd z 3 (by omega)
  unfold nmT
  generalize within z 3 = m at *
  have h : m = 0 ∨ m = 1 ∨ m = 2 := by omega
  rcases h with rfl | rfl | rfl
  · exact .inl rfl
  · exact .inr (.inl rfl)
  · exact .inr (.inr rfl)
theorem usD_len : ∀ {l : List Dn}, UsD l → (tasksD l [117, 97]).length + (tasksD l [117, 98]).length + (tasksD l [117, 99]).length = l.length
  | [], _ => rfl
  | d :: r, h => by
    have ih := usD_len (l := r) fun x hx => h x (List.mem_cons_of_mem _ hx)
    have hd := h d (by simp)
    unfold tasksD at *
    rw [List.filter_cons, List.filter_cons, List.filter_cons]
    obtain ⟨tk, us⟩ := d
    simp only at hd
    rcases hd with rfl | rfl | rfl <;> simp at ih ⊢ <;> omega
theorem usD_nobody {l : List Dn} (h : UsD l) : tasksD l [110, 111, 98, 111, 100, 121] = [] := by
  unfold tasksD
  rw [List.map_eq_nil_iff, List.filter_eq_nil_iff]
  intro d hd
  rcases h d hd with e | e | e <;> rw [e] <;> decide
theorem tasksD_snoc (l : List Dn) (t u : Tx) : (tasksD (l ++ [⟨t, u⟩]) u).length = (tasksD l u).length + 1 := by
  unfold tasksD; rw [List.filter_append]; simp
theorem papAt_set {W : World} {g n g3 gS cD base : Nat} {nm : ByteArray} {x : Cf} {ds : List Dn} {AD : Option Addr} {a0 a1 a2 a3 a4 : Value} (r : W.heap[g]? = some (.cells #[a0, a1, a2, a3, a4] 59 (0, 0))) (hR : CfR base W n x (.slice (some ⟨g3, 0, none⟩) n n) gS) (hD : OwnDn W base (.slice AD ds.length cD) ds) (hb : g < base) (h3 : base ≤ g3) :
    PapAt (((((W.setCell ⟨g, 0, none⟩ (.string nm)).setCell ⟨g, 1, none⟩ (.int .u32 (x.set : Nat))).setCell ⟨g, 2, none⟩ (.slice (some ⟨g3, 0, none⟩) n n)).setCell ⟨g, 3, none⟩ (.slice (some ⟨gS, 0, none⟩) n n)).setCell ⟨g, 4, none⟩ (.slice AD ds.length cD)) g nm n x ds g3 gS AD cD := by
  have hgr := set5_grown W g (.string nm) (.int .u32 (x.set : Nat)) (.slice (some ⟨g3, 0, none⟩) n n) (.slice (some ⟨gS, 0, none⟩) n n) (.slice AD ds.length cD)
  have hlo := hR.lo
  exact ⟨set5_row _ _ _ _ _ r, (cfr_grown hR hgr (by intro e; injection e with e; omega) (by intro e; injection e with e; omega)).base (Nat.zero_le _), dnAt_ofP (World.ownsRow.kept hD hgr (.inr fun e => by have := (World.ownsRow.lt hD _ e).1; omega) : OwnDn _ base _ _)⟩
theorem papAt_new {W : World} {n g3 gS cD base : Nat} {nm : ByteArray} {x : Cf} {ds : List Dn} {AD : Option Addr} (hR : CfR base W n x (.slice (some ⟨g3, 0, none⟩) n n) gS) (hD : OwnDn W base (.slice AD ds.length cD) ds) :
    PapAt (W.alloc (.cells #[.string nm, .int .u32 (x.set : Nat), .slice (some ⟨g3, 0, none⟩) n n, .slice (some ⟨gS, 0, none⟩) n n, .slice AD ds.length cD] 59)) W.heap.size nm n x ds g3 gS AD cD :=
  ⟨heap_alloc_new _ _, (hR.below (box_b W _)).base (Nat.zero_le _), (dnAt_ofP hD).below (box_b W _)⟩
/-- what Fire left, in a block that the law made since the world that had so many blocks -/
def NewP (N : Nat) (W : World) (g : Nat) (nm : ByteArray) (c : Ch) (ds : List Dn) (us : Tx) : Prop := ∃ (x : Cf) (ds2 : List Dn) (g3 gS cD : Nat) (AD : Option Addr), Plc c.kinds c.parents c.names.length x ∧ PapAt W g nm c.names.length x ds2 g3 gS AD cD ∧ (ds2 = ds ∨ ∃ t, ds2 = ds ++ [⟨t, us⟩]) ∧ ShD ds2 ∧ N ≤ g ∧ N ≤ g3 ∧ N ≤ gS ∧ (∀ a, AD = some a → N ≤ a.block)
theorem dnAt_grown {W W' : World} {b c : Nat} {A : Option Addr} {l : List Dn} (h : DnAt W A c l) (hg : W.grownBy W' (some b)) (hne : ∀ a, A = some a → a.block ≠ b) : DnAt W' A c l :=
  ⟨h.1, fun j hj => by
    obtain ⟨g, e, hl, hc⟩ := h.2 j hj
    have hn := hne _ e
    exact ⟨g, e, Nat.lt_of_lt_of_le hl hg.size, fun f u hf hu => (World.cell?_of_block (a := ⟨g, j * 2 + f, none⟩) (hg.block g hl (fun e => hn (by injection e)))).trans (hc f u hf hu)⟩⟩
theorem pap_move {W : World} {gP n g3 gS cD N : Nat} {nm : ByteArray} {x : Cf} {ds : List Dn} {AD : Option Addr} {a0 a1 a2 a3 a4 : Value} (g : Nat) (h : PapAt W g nm n x ds g3 gS AD cD) (r : W.heap[gP]? = some (.cells #[a0, a1, a2, a3, a4] 59 (0, 0))) (hN : gP < N) (h3 : N ≤ g3) (hS : N ≤ gS) (hA : ∀ a, AD = some a → N ≤ a.block) :
    PapAt (((((W.setCell ⟨gP, 0, none⟩ (.string nm)).setCell ⟨gP, 1, none⟩ (.int .u32 (x.set : Nat))).setCell ⟨gP, 2, none⟩ (.slice (some ⟨g3, 0, none⟩) n n)).setCell ⟨gP, 3, none⟩ (.slice (some ⟨gS, 0, none⟩) n n)).setCell ⟨gP, 4, none⟩ (.slice AD ds.length cD)) gP nm n x ds g3 gS AD cD := by
  have hgr := set5_grown W gP (.string nm) (.int .u32 (x.set : Nat)) (.slice (some ⟨g3, 0, none⟩) n n) (.slice (some ⟨gS, 0, none⟩) n n) (.slice AD ds.length cD)
  exact ⟨set5_row _ _ _ _ _ r, cfr_grown h.cf hgr (by intro e; injection e with e; omega) (by intro e; injection e with e; omega), dnAt_grown h.dn hgr fun a e => by have := hA a e; omega⟩
theorem tasks_grow {ds ds2 : List Dn} {us : Tx} (h : ds2 = ds ∨ ∃ t, ds2 = ds ++ [⟨t, us⟩]) : (tasksD ds us).length ≤ (tasksD ds2 us).length ∧ (tasksD ds2 us).length ≤ (tasksD ds us).length + 1 := by
  rcases h with rfl | ⟨t, rfl⟩
  · omega
  · rw [tasksD_snoc]; omega
theorem usD_grow {ds ds2 : List Dn} {us : Tx} (hu : UsD ds) (hs : us = [117, 97] ∨ us = [117, 98] ∨ us = [117, 99]) (h : ds2 = ds ∨ ∃ t, ds2 = ds ++ [⟨t, us⟩]) : UsD ds2 := by
  rcases h with rfl | ⟨t, rfl⟩
  · exact hu
  · intro d hd
    rcases List.mem_append.1 hd with hd | hd
    · exact hu d hd
    · rw [List.mem_singleton.1 hd]; exact hs
theorem len_grow {ds ds2 : List Dn} {us : Tx} (h : ds2 = ds ∨ ∃ t, ds2 = ds ++ [⟨t, us⟩]) : ds2.length ≤ ds.length + 1 := by
  rcases h with rfl | ⟨t, rfl⟩
  · omega
  · rw [List.length_append]; simp
def uN : Nat → Tx
  | 0 => [117, 97]
  | 1 => [117, 98]
  | _ => [117, 99]
def sumT (ds : List Dn) : Nat → Nat
  | 0 => 0
  | j + 1 => sumT ds j + (tasksD ds (uN j)).length
theorem sumT_three {ds : List Dn} (h : UsD ds) : sumT ds 3 = ds.length := by
  have := usD_len h
  show 0 + (tasksD ds [117, 97]).length + (tasksD ds [117, 98]).length + (tasksD ds [117, 99]).length = _
  omega
theorem sumT_le {ds : List Dn} : ∀ j, sumT ds j ≤ j * ds.length
  | 0 => Nat.zero_le _
  | j + 1 => by have := sumT_le (ds := ds) j; have := tasksD_len ds (uN j); show sumT ds j + _ ≤ _; rw [Nat.add_mul]; omega
set_option maxHeartbeats 8000000 in
theorem own_walk (w : World) (v u : Value) (ms : List MovT) (hm : MovsAt w u ms) (hOf : ∀ W, Below w.heap.size w W → Calls Tryz.prog 8 #[.agg #[v]] W (OfC W)) :
    Calls Tryz.prog 5 #[.agg #[v], u] w (TrueOn w) := by
  obtain ⟨Am, cm, rfl, hmc, hml, hmm⟩ := hm
  have OX := Lib.hid hOf
  have HM := Lib.hid hmm
  clear hOf hmm
  have RP := heap_alloc_new w (.cells #[v] 24)
  have HB1 := Lib.hid (box_b w (.cells #[v] 24))
  go_enter Tryz.func5, Tryz.ntmps5
  go_upto_region 1 with fail
  generalize w.alloc (.cells #[v] 24) = w1 at *
  have p0 := cell_of_row _ _ 0 _ _ _ RP
  clear RP
  go_upto_region 2 with (go_at_call 8; refine (OX.out _ HB1.out).mono ?_; rintro e w2 ⟨hb2, c, AN, AK, AP, AT, BN, BK, BP, BT, cN, cK, cP, cT, dN, dK, dP, dT, nN, nK, nP, rfl, hW, hN, hok⟩; have HB2 := Lib.hid (below_then HB1.out hb2 HB1.out.size); have HW := Lib.hid hW; have HN := Lib.hid hN; have HOK := Lib.hid hok; clear hb2 hW hN hok)
  clear p0 OX HB1
  have HB3 := Lib.hid (below_then (box_b w2 (.cells #[.slice AN c.names.length cN, .slice AK c.names.length cK, .slice AP c.names.length cP, .slice AT c.trans.length cT] 30)) (box_b (w2.alloc (.cells #[.slice AN c.names.length cN, .slice AK c.names.length cK, .slice AP c.names.length cP, .slice AT c.trans.length cT] 30)) (.cells #[.slice BN nN dN, .slice BK nK dK, .slice BP nP dP, .slice BT c.trans.length dT] 34)) (by simp))
  have RC : ((w2.alloc (.cells #[.slice AN c.names.length cN, .slice AK c.names.length cK, .slice AP c.names.length cP, .slice AT c.trans.length cT] 30)).alloc (.cells #[.slice BN nN dN, .slice BK nK dK, .slice BP nP dP, .slice BT c.trans.length dT] 34)).heap[w2.heap.size]? = some (.cells #[.slice AN c.names.length cN, .slice AK c.names.length cK, .slice AP c.names.length cP, .slice AT c.trans.length cT] 30 (0, 0)) := (heap_alloc_old _ _ (by simp)).trans (heap_alloc_new _ _)
  generalize (w2.alloc (.cells #[.slice AN c.names.length cN, .slice AK c.names.length cK, .slice AP c.names.length cP, .slice AT c.trans.length cT] 30)).alloc (.cells #[.slice BN nN dN, .slice BK nK dK, .slice BP nP dP, .slice BT c.trans.length dT] 34) = w3 at *
  have hl3 : w2.heap.size < w3.heap.size := (Array.getElem?_eq_some_iff.1 RC).1
  have HIV := Lib.hid (fun now (hw : (Lit.int .i64 now).wf = true) => runInv_plc HOK.out.sh HOK.out.f.nl hw HOK.out.ft (fun s => few_en HOK.out s 10 []))
  have hw0 : (Lit.int .i64 (0 : Int)).wf = true := by decide
  have NW := Lib.hid (fun W (hW : Below w2.heap.size w2 W) => New_ok c c.names.length AN AK AP AT cN cK cP cT [111, 110, 101] 0 W (by decide) (by decide +kernel) (by decide) (by decide) (HW.out.below hW) (HN.out.below hW) HOK.out)
  have NW2 := Lib.hid (fun W (hW : Below w2.heap.size w2 W) => New_ok c c.names.length AN AK AP AT cN cK cP cT [116, 119, 111] 0 W (by decide) (by decide +kernel) (by decide) (by decide) (HW.out.below hW) (HN.out.below hW) HOK.out)
  have HPL := Lib.hid (fun (y : Cf) (out : List Nat) h => run_keep (HIV.out 0 hw0) 16 _ [] y out (Plc.beg HOK.out.sh HOK.out.f.nl hw0) h)
  generalize runC c c.names.length 0 16 (begC c c.names.length 0) [] = r0 at *
  have c0 := cell_of_row _ _ 0 _ _ _ RC; have c1 := cell_of_row _ _ 1 _ _ _ RC; have c2 := cell_of_row _ _ 2 _ _ _ RC; have c3 := cell_of_row _ _ 3 _ _ _ RC
  have HRC := Lib.hid RC
  have HBW := Lib.hid (below_then HB2.out HB3.out HB2.out.size)
  clear RC
  cases r0 with
  | none =>
    go_upto_region 3 with (go_at_call 15; refine (NW.out _ HB3.out).mono ?_; rintro e w4 ⟨hb4, he⟩; simp only [Option.map] at he; subst he; have HB4 := Lib.hid (below_then HB3.out hb4 HB3.out.size); have HC4 := Lib.hid hb4; clear hb4)
    have HB5x := Lib.hid (below_then HC4.out (box_b w4 (.cells #[.string ⟨#[]⟩, .int .u32 0, .slice none 0 0, .slice none 0 0, .slice none 0 0] 59)) HC4.out.size)
    have HB5 := Lib.hid (below_then HB4.out (box_b w4 (.cells #[.string ⟨#[]⟩, .int .u32 0, .slice none 0 0, .slice none 0 0, .slice none 0 0] 59)) HB4.out.size)
    generalize w4.alloc (.cells #[.string ⟨#[]⟩, .int .u32 0, .slice none 0 0, .slice none 0 0, .slice none 0 0] 59) = w5 at *
    have HB3L := Lib.hid HB3.out.size
    have RC5 := (HB5x.out.block _ hl3).trans HRC.out
    have c0 := cell_of_row _ _ 0 _ _ _ RC5; have c1 := cell_of_row _ _ 1 _ _ _ RC5; have c2 := cell_of_row _ _ 2 _ _ _ RC5; have c3 := cell_of_row _ _ 3 _ _ _ RC5
    go_upto_region 4 with (go_at_call 15; refine (NW2.out _ HB5.out).mono ?_; rintro e w6 ⟨hb6, he⟩; simp only [Option.map] at he; subst he; have HB6 := Lib.hid (below_then HB5.out hb6 HB5.out.size); clear hb6)
    have HB7 := Lib.hid (below_then HB6.out (box_b w6 (.cells #[.string ⟨#[]⟩, .int .u32 0, .slice none 0 0, .slice none 0 0, .slice none 0 0] 59)) HB6.out.size)
    generalize w6.alloc (.cells #[.string ⟨#[]⟩, .int .u32 0, .slice none 0 0, .slice none 0 0, .slice none 0 0] 59) = w7 at *
    have HBF := Lib.hid (below_then HB2.out HB7.out HB2.out.size)
    go_upto_region 5 with fail
    go_region_held3 (fun _ => True) (trivial) ((go_at_call 16; refine (wakes14 _).mono ?_; rintro e w8 ⟨rfl, hb8⟩))
    all_goals go_wp2_with fail
    all_goals go_ret
    all_goals exact ⟨rfl, below_then (below_drew HBF.out) hb8 HBF.out.size⟩
  | some yo =>
    obtain ⟨x0, out0⟩ := yo
    have hp0 := (HPL.out x0 out0 rfl).1
    go_upto_region 3 with (go_at_call 15; refine (NW.out _ HB3.out).mono ?_; rintro e w4 ⟨hb4, g30, gS0, vD, vL, rfl, hg30, hR0, hD0, hL0⟩; obtain ⟨AD0, cD0, rfl⟩ := own_slice hD0; obtain ⟨AO, cO, rfl⟩ := own_slice hL0; have HB4 := Lib.hid hb4; have HR0 := Lib.hid hR0; clear hb4 hR0 hD0 hL0)
    have HZ := Lib.hid (box_b w4 (.cells #[.string (bs [111, 110, 101]), .int .u32 (x0.set : Nat), .slice (some ⟨g30, 0, none⟩) c.names.length c.names.length, .slice (some ⟨gS0, 0, none⟩) c.names.length c.names.length, .slice AD0 ([] : List Dn).length cD0] 59))
    have RP := heap_alloc_new w4 (.cells #[.string (bs [111, 110, 101]), .int .u32 (x0.set : Nat), .slice (some ⟨g30, 0, none⟩) c.names.length c.names.length, .slice (some ⟨gS0, 0, none⟩) c.names.length c.names.length, .slice AD0 ([] : List Dn).length cD0] 59)
    have HPA : Hid (PapAt (w4.alloc (.cells #[.string (bs [111, 110, 101]), .int .u32 (x0.set : Nat), .slice (some ⟨g30, 0, none⟩) c.names.length c.names.length, .slice (some ⟨gS0, 0, none⟩) c.names.length c.names.length, .slice AD0 ([] : List Dn).length cD0] 59)) w4.heap.size (bs [111, 110, 101]) c.names.length x0 [] g30 gS0 AD0 cD0) := ⟨RP, (HR0.out.below HZ.out).base (Nat.zero_le _), dnAt_nilP _ _ _⟩
    have HRC4 := Lib.hid ((HB4.out.block _ hl3).trans HRC.out)
    have HBW4 := Lib.hid (below_then HBW.out HB4.out HBW.out.size)
    have HB24 := Lib.hid (below_then HB3.out HB4.out HB3.out.size)
    have HB25 := Lib.hid (below_then HB24.out HZ.out HB24.out.size)
    have HW4 := Lib.hid (HW.out.below (below_then HB3.out HB4.out HB3.out.size))
    have hl4 : w2.heap.size < w4.heap.size := Nat.lt_of_lt_of_le hl3 HB4.out.size
    clear hw0 RP HR0 HBW HB3 HRC HW HN HPL HB4 c0 c1 c2 c3 NW
    generalize w4.alloc (.cells #[.string (bs [111, 110, 101]), .int .u32 (x0.set : Nat), .slice (some ⟨g30, 0, none⟩) c.names.length c.names.length, .slice (some ⟨gS0, 0, none⟩) c.names.length c.names.length, .slice AD0 0 cD0] 59) = w5 at *
    have RC5 := (HZ.out.block _ hl4).trans HRC4.out
    have c0 := cell_of_row _ _ 0 _ _ _ RC5; have c1 := cell_of_row _ _ 1 _ _ _ RC5; have c2 := cell_of_row _ _ 2 _ _ _ RC5; have c3 := cell_of_row _ _ 3 _ _ _ RC5
    go_upto_region 4 with (go_at_call 15; refine (NW2.out _ HB25.out).mono ?_; rintro e w6 ⟨hb6, g3y, gSy, vDy, vLy, rfl, hg3y, hRy, hDy, hLy⟩; obtain ⟨ADy, cDy, rfl⟩ := own_slice hDy; obtain ⟨AOy, cOy, rfl⟩ := own_slice hLy; have HB6 := Lib.hid hb6; clear hb6 hRy hDy hLy)
    have HZ7 := Lib.hid (box_b w6 (.cells #[.string (bs [116, 119, 111]), .int .u32 (x0.set : Nat), .slice (some ⟨g3y, 0, none⟩) c.names.length c.names.length, .slice (some ⟨gSy, 0, none⟩) c.names.length c.names.length, .slice ADy ([] : List Dn).length cDy] 59))
    have RY := heap_alloc_new w6 (.cells #[.string (bs [116, 119, 111]), .int .u32 (x0.set : Nat), .slice (some ⟨g3y, 0, none⟩) c.names.length c.names.length, .slice (some ⟨gSy, 0, none⟩) c.names.length c.names.length, .slice ADy ([] : List Dn).length cDy] 59)
    have HC7 := Lib.hid (below_then HB6.out HZ7.out HB6.out.size)
    have hg6 : w4.heap.size < w6.heap.size := Nat.lt_of_lt_of_le (Array.getElem?_eq_some_iff.1 HPA.out.row).1 HB6.out.size
    clear RC5 c0 c1 c2 c3 NW2
    generalize w6.alloc (.cells #[.string (bs [116, 119, 111]), .int .u32 (x0.set : Nat), .slice (some ⟨g3y, 0, none⟩) c.names.length c.names.length, .slice (some ⟨gSy, 0, none⟩) c.names.length c.names.length, .slice ADy 0 cDy] 59) = w7 at *
    have HPA7 := Lib.hid (HPA.out.below HC7.out)
    have HB47 := Lib.hid (below_then HZ.out HC7.out HZ.out.size)
    have e0 := cell_of_row _ _ 0 _ _ _ RY; have e1 := cell_of_row _ _ 1 _ _ _ RY; have e2 := cell_of_row _ _ 2 _ _ _ RY; have e3 := cell_of_row _ _ 3 _ _ _ RY; have e4 := cell_of_row _ _ 4 _ _ _ RY
    have HRY := Lib.hid RY
    have HP0 := Lib.hid hp0
    clear RY hp0 HPA HB6 HZ7 HC7 HZ
    go_upto_region 9 with fail
    have HDS0 : Hid (([] : List Dn).length ≤ 0 ∧ ShD [] ∧ UsD []) := ⟨Nat.le_refl _, (fun d hd => by cases hd), (fun d hd => by cases hd)⟩
    clear e0 e1 e2 e3 e4
    have HBI := Lib.hid (And.intro HB47.out HRY.out)
    clear HB47 HRY
    go_loopw [15] (fun i wr => ∃ (k : Nat) (x : Cf) (ds : List Dn) (g3 gS cD : Nat) (AD : Option Addr), k ≤ 10 ∧ i = .int .i64 k ∧ Hid (Plc c.kinds c.parents c.names.length x) ∧ Hid (PapAt wr w4.heap.size (bs [111, 110, 101]) c.names.length x ds g3 gS AD cD) ∧ Hid (ds.length ≤ k ∧ ShD ds ∧ UsD ds) ∧ Hid (Below w4.heap.size w4 wr ∧ wr.heap[w6.heap.size]? = some (.cells #[.string (bs [116, 119, 111]), .int .u32 (x0.set : Nat), .slice (some ⟨g3y, 0, none⟩) c.names.length c.names.length, .slice (some ⟨gSy, 0, none⟩) c.names.length c.names.length, .slice ADy 0 cDy] 59 (0, 0)))) (fun i _ => 10 - (intOf i).toNat)
    case atStart => exact ⟨0, x0, [], g30, gS0, cD0, AD0, by omega, rfl, HP0, HPA7, HDS0, HBI⟩
    case round =>
      clear HP0 HPA7 HDS0 HBI
      obtain ⟨k, x, ds, g3, gS, cD, AD, hk, rfl, HPl, HPa, HDs, HBY⟩ := hrel
      have HB : Hid (Below w4.heap.size w4 wr) := HBY.out.1
      have hbw : Below w.heap.size w wr := below_then HBW4.out HB.out HBW4.out.size
      have hgX : w4.heap.size < wr.heap.size := (Array.getElem?_eq_some_iff.1 HPa.out.row).1
      by_cases h1 : k < ms.length ∧ k < 10
      · obtain ⟨h1, h2⟩ := h1
        obtain ⟨bm, om, rfl, hbm, hma⟩ := HM.out k h1
        have m0 := (hbw.cell (p := ⟨bm, om + k * 3, none⟩) hbm).trans hma.1
        have m1 := (hbw.cell (p := ⟨bm, om + k * 3 + 1, none⟩) hbm).trans hma.2.1
        have hwz := hma.2.2.2.1
        have hwy := hma.2.2.2.2.1
        have hbm2 : bm < wr.heap.size := Nat.lt_of_lt_of_le hbm hbw.size
        clear hma
        generalize ms[k].tr = z at *
        generalize ms[k].us = zu at *
        have h1i : (k : Int) < ms.length := by omega
        have h2i : (k : Int) < 10 := by omega
        have HWr := Lib.hid (HW4.out.below HB.out)
        have HPW : Hid (∀ W, Below wr.heap.size wr W → W.heap[w2.heap.size]? = some (.cells #[.slice AN c.names.length cN, .slice AK c.names.length cK, .slice AP c.names.length cP, .slice AT c.trans.length cT] 30 (0, 0)) ∧ W.heap[w4.heap.size]? = some (.cells #[.string (bs [111, 110, 101]), .int .u32 (x.set : Nat), .slice (some ⟨g3, 0, none⟩) c.names.length c.names.length, .slice (some ⟨gS, 0, none⟩) c.names.length c.names.length, .slice AD ds.length cD] 59 (0, 0))) := fun W hW =>
          ⟨(hW.block _ (Nat.lt_of_lt_of_le hl4 HB.out.size)).trans ((HB.out.block _ hl4).trans HRC4.out), (hW.block _ (Array.getElem?_eq_some_iff.1 HPa.out.row).1).trans HPa.out.row⟩
        have HCW : Hid (∀ w', Below wr.heap.size wr w' → w'.cell? ⟨w2.heap.size, 0, none⟩ = some (.slice AN c.names.length cN) ∧ w'.cell? ⟨w2.heap.size, 1, none⟩ = some (.slice AK c.names.length cK) ∧ w'.cell? ⟨w2.heap.size, 2, none⟩ = some (.slice AP c.names.length cP) ∧ w'.cell? ⟨w2.heap.size, 3, none⟩ = some (.slice AT c.trans.length cT) ∧ w'.cell? ⟨w4.heap.size, 0, none⟩ = some (.string (bs [111, 110, 101])) ∧ w'.cell? ⟨w4.heap.size, 1, none⟩ = some (.int .u32 (x.set : Nat)) ∧ w'.cell? ⟨w4.heap.size, 2, none⟩ = some (.slice (some ⟨g3, 0, none⟩) c.names.length c.names.length) ∧ w'.cell? ⟨w4.heap.size, 3, none⟩ = some (.slice (some ⟨gS, 0, none⟩) c.names.length c.names.length) ∧ w'.cell? ⟨w4.heap.size, 4, none⟩ = some (.slice AD ds.length cD) ∧ w'.cell? ⟨bm, om + k * 3, none⟩ = some (.int .i64 z)) := fun W hW => by
          obtain ⟨rc, rp⟩ := HPW.out W hW
          exact ⟨cell_of_row _ _ 0 _ _ _ rc, cell_of_row _ _ 1 _ _ _ rc, cell_of_row _ _ 2 _ _ _ rc, cell_of_row _ _ 3 _ _ _ rc, cell_of_row _ _ 0 _ _ _ rp, cell_of_row _ _ 1 _ _ _ rp, cell_of_row _ _ 2 _ _ _ rp, cell_of_row _ _ 3 _ _ _ rp, cell_of_row _ _ 4 _ _ _ rp, (hW.cell (p := ⟨bm, om + k * 3, none⟩) hbm2).trans m0⟩
        have hs32 : x.set < 4294967296 := Nat.lt_of_lt_of_le HPl.out.ok.st (Nat.pow_le_pow_right (n := 2) (by omega) (by have := HOK.out.f.nl; omega : c.names.length ≤ 32))
        have PK := Lib.hid (fun W (hW : Below wr.heap.size wr W) => Pick_any c c.names.length AN AK AP AT (some ⟨g3, 0, none⟩) (some ⟨gS, 0, none⟩) AD cN cK cP cT c.names.length c.names.length c.names.length c.names.length ds.length cD (bs [111, 110, 101]) x (nmT 101 3 z) W (HWr.out.below hW) hs32 HOK.out)
        have KN := Lib.hid (fun W => kName_any 101 3 z W hwz (by omega) (by omega))
        have KU := Lib.hid (fun W => kName_any 117 3 zu W hwy (by omega) (by omega))
        have hpk := pick_at (c := c) (x := x) (ev := nmT 101 3 z)
        have HUU := Lib.hid (nm3 zu)
        generalize nmT 101 3 z = ev at *
        generalize nmT 117 3 zu = us at *
        clear hwz hwy hs32 hbw
        go_upto_region 12 with (go_at_call 17; refine (KU.out _).mono ?_; rintro e wu ⟨rfl, hbu⟩)
        have HBU := Lib.hid hbu
        have hsu := hbu.size
        clear hbu m0 m1 KU
        go_cut [17, 19] (fun a e wx => ∃ g, a = .pointer (some ⟨g, 0, none⟩) ∧ Hid (Below wr.heap.size wr wx) ∧ Hid ((∃ q : Int, e = .iface 50 (.int .i64 q)) ∨ (e = .nilIface ∧ NewP wr.heap.size wx g (bs [111, 110, 101]) c ds us)))
        case first =>
          rcases hpk with ⟨hL, hP⟩ | ⟨k0, r, hL, hP, hke⟩
          · rw [hP] at PK
            clear hL hP HPW
            have FE : Hid (∀ W, Below wr.heap.size wr W → Calls Tryz.prog 20 #[chV AN AK AP AT c.names.length cN c.names.length cK c.names.length cP c.trans.length cT, .agg #[.string (bs [111, 110, 101]), .int .u32 (x.set : Nat), .slice (some ⟨g3, 0, none⟩) c.names.length c.names.length, .slice (some ⟨gS, 0, none⟩) c.names.length c.names.length, .slice AD ds.length cD], .int .i64 (-1), .string (bs us), .slice none 0 0, .int .i64 k] W (FirTo c.names.length (bs [111, 110, 101]) (.err 1) W)) := fun W hW =>
              Fire_err c c.names.length AN AK AP AT (some ⟨g3, 0, none⟩) (some ⟨gS, 0, none⟩) AD cN cK cP cT c.names.length c.names.length ds.length cD (bs [111, 110, 101]) x (-1) k 1 us [] none 0 W fun W2 hW2 =>
                PTake_arg c c.names.length AN AK AP AT (some ⟨g3, 0, none⟩) (some ⟨gS, 0, none⟩) AD cN cK cP cT c.names.length c.names.length ds.length cD (bs [111, 110, 101]) x 9 (-1) k W2 ((HWr.out.below hW).below hW2) (.inl (by decide))
            go_region_held3 (fun w' => w'.cell? ⟨w2.heap.size, 0, none⟩ = some (.slice AN c.names.length cN) ∧ w'.cell? ⟨w2.heap.size, 1, none⟩ = some (.slice AK c.names.length cK) ∧ w'.cell? ⟨w2.heap.size, 2, none⟩ = some (.slice AP c.names.length cP) ∧ w'.cell? ⟨w2.heap.size, 3, none⟩ = some (.slice AT c.trans.length cT) ∧ w'.cell? ⟨w4.heap.size, 0, none⟩ = some (.string (bs [111, 110, 101])) ∧ w'.cell? ⟨w4.heap.size, 1, none⟩ = some (.int .u32 (x.set : Nat)) ∧ w'.cell? ⟨w4.heap.size, 2, none⟩ = some (.slice (some ⟨g3, 0, none⟩) c.names.length c.names.length) ∧ w'.cell? ⟨w4.heap.size, 3, none⟩ = some (.slice (some ⟨gS, 0, none⟩) c.names.length c.names.length) ∧ w'.cell? ⟨w4.heap.size, 4, none⟩ = some (.slice AD ds.length cD) ∧ w'.cell? ⟨bm, om + k * 3, none⟩ = some (.int .i64 z))
              (first | with_reducible exact HCW.out _ (below_drew HBU.out) | with_reducible exact HCW.out _ (below_drew (HBU.out.alloc HBU.out.size _)) | with_reducible exact HCW.out _ HB6.out | with_reducible exact HCW.out _ HB7.out | with_reducible exact HCW.out _ HB9.out | with_reducible exact HCW.out _ (((below_drew HBU.out)).alloc ((below_drew HBU.out)).size _) | with_reducible exact HCW.out _ ((HB6.out).alloc (HB6.out).size _) | with_reducible exact HCW.out _ ((HB7.out).alloc (HB7.out).size _) | with_reducible exact HCW.out _ ((HB9.out).alloc (HB9.out).size _) | (with_reducible refine HCW.out _ (set5_below HB9.out (Nat.le_refl _) ?_ _ _ _ _ _); omega) | (with_reducible refine HCW.out _ (set5_below ((HB9.out).alloc (HB9.out).size _) (Nat.le_refl _) ?_ _ _ _ _ _); (first | omega | (simp; omega))) | go_keep)
              (first
              | (go_at_call 17; refine (KN.out _).mono ?_; rintro e w6 ⟨rfl, hb6⟩; have hB6 : Below wr.heap.size wr w6 := (by first | with_reducible exact below_then (below_drew (HBU.out.alloc HBU.out.size _)) hb6 (below_drew (HBU.out.alloc HBU.out.size _)).size | with_reducible exact below_then (below_drew HBU.out) hb6 (below_drew HBU.out).size | with_reducible exact below_then ((below_drew HBU.out).alloc (below_drew HBU.out).size _) hb6 ((below_drew HBU.out).alloc (below_drew HBU.out).size _).size); have HB6 := Lib.hid hB6; clear hB6; have hs6 := HB6.out.size; (first | (have r17 : w6.heap[wu.heap.size]? = some (.cells #[.string ⟨#[]⟩, .int .u32 0, .slice none 0 0, .slice none 0 0, .slice none 0 0] 59 (0, 0)) := (hb6.block wu.heap.size (by simp)).trans (by with_reducible exact heap_alloc_new _ _)) | (have r17 : w6.heap[wu.heap.size]? = some (.cells #[.string ⟨#[]⟩, .int .u32 0, .slice none 0 0, .slice none 0 0, .slice none 0 0] 59 (0, 0)) := (hb6.block wu.heap.size (by show _ < (wu.alloc _).heap.size; simp)).trans (by with_reducible exact drew_rowP (heap_alloc_new _ _))) | skip))
              | (go_at_call 18; refine (PK.out _ (by first | with_reducible exact HB6.out | exact (HB6.out).alloc (HB6.out).size _)).mono ?_; rintro e w7 ⟨rfl, hb7⟩; have hB7 : Below wr.heap.size wr w7 := (by first | with_reducible exact below_then HB6.out hb7 HB6.out.size | with_reducible exact below_then ((HB6.out).alloc (HB6.out).size _) hb7 ((HB6.out).alloc (HB6.out).size _).size); have HB7 := Lib.hid hB7; clear hB7; have hs7 := HB7.out.size; (first | (have r17 := (hb7.block _ (Array.getElem?_eq_some_iff.1 r17).1).trans r17) | (have r17 : w7.heap[w6.heap.size]? = some (.cells #[.string ⟨#[]⟩, .int .u32 0, .slice none 0 0, .slice none 0 0, .slice none 0 0] 59 (0, 0)) := (hb7.block w6.heap.size (by simp)).trans (heap_alloc_new _ _)) | skip))
              | (go_at_call 20; refine (FE.out _ (by first | with_reducible exact HB7.out | exact (HB7.out).alloc (HB7.out).size _)).mono ?_; rintro e w9 ⟨hb9, he⟩; simp only at he; subst he; have hB9 : Below wr.heap.size wr w9 := (by first | with_reducible exact below_then HB7.out hb9 HB7.out.size | with_reducible exact below_then ((HB7.out).alloc (HB7.out).size _) hb9 ((HB7.out).alloc (HB7.out).size _).size); have HB9 := Lib.hid hB9; clear hB9; have hs9 := HB9.out.size; (first | (have hl17 := (Array.getElem?_eq_some_iff.1 r17).1; have r17 := (hb9.block _ (Array.getElem?_eq_some_iff.1 r17).1).trans r17) | (have hl17 : w7.heap.size < (w7.alloc (.cells #[.string ⟨#[]⟩, .int .u32 0, .slice none 0 0, .slice none 0 0, .slice none 0 0] 59)).heap.size := (by simp); have r17 : w9.heap[w7.heap.size]? = some (.cells #[.string ⟨#[]⟩, .int .u32 0, .slice none 0 0, .slice none 0 0, .slice none 0 0] 59 (0, 0)) := (hb9.block w7.heap.size (by simp)).trans (heap_alloc_new _ _)) | skip); (first | (have z0 := cell_of_row _ _ 0 _ _ _ r17; have z1 := cell_of_row _ _ 1 _ _ _ r17; have z2 := cell_of_row _ _ 2 _ _ _ r17; have z3 := cell_of_row _ _ 3 _ _ _ r17; have z4 := cell_of_row _ _ 4 _ _ _ r17; have f0 := fz_of r17 0; have f1 := fz_of r17 1; have f2 := fz_of r17 2; have f3 := fz_of r17 3; have f4 := fz_of r17 4) | skip)))
            all_goals go_wp2_with fail
            all_goals go_meet
            all_goals exact ⟨_, rfl, (by first | exact set5_below HB9.out (Nat.le_refl _) (by omega) _ _ _ _ _ | exact (HB9.out).alloc (HB9.out).size _), .inl ⟨_, rfl⟩⟩
          · rw [hP] at PK
            obtain ⟨hk0, hkd0, hin0⟩ := enL_kind hke
            have hwk : (Lit.int .i64 (k : Int)).wf = true := WalkArith.wf_i64 (by omega)
            have hnl := HOK.out.f.nl
            have hdl := HDs.out.1
            have hy := step_plcP (now := (k : Int)) HOK.out hwk HPl.out hk0 hin0
            have FX := Lib.hid (fun W (hW : Below wr.heap.size wr W) => Fire_on c c.names.length AN AK AP AT (some ⟨g3, 0, none⟩) (some ⟨gS, 0, none⟩) AD cN cK cP cT c.names.length c.names.length cD (bs [111, 110, 101]) x ds k0 us ev k W (HWr.out.below hW) hke HPl.out (HPa.out.dn.below hW) (by omega) HDs.out.2.1 (HPa.out.cf.uP.below hW) ((HPa.out.cf.ints (by omega)).below hW) hwk HOK.out rfl)
            have HRK := Lib.hid (fun (y : Cf) (out : List Nat) h => run_keep (HIV.out k hwk) 16 _ [] y out hy h)
            clear hL hP HPW hk0 hkd0 hin0 hwk hke hy HWr
            unfold FirN setF at FX
            generalize runC c c.names.length k 16 (stepC c c.names.length k x k0) [] = r1 at *
            cases r1 with
            | none =>
              clear HRK
              go_region_held3 (fun w' => w'.cell? ⟨w2.heap.size, 0, none⟩ = some (.slice AN c.names.length cN) ∧ w'.cell? ⟨w2.heap.size, 1, none⟩ = some (.slice AK c.names.length cK) ∧ w'.cell? ⟨w2.heap.size, 2, none⟩ = some (.slice AP c.names.length cP) ∧ w'.cell? ⟨w2.heap.size, 3, none⟩ = some (.slice AT c.trans.length cT) ∧ w'.cell? ⟨w4.heap.size, 0, none⟩ = some (.string (bs [111, 110, 101])) ∧ w'.cell? ⟨w4.heap.size, 1, none⟩ = some (.int .u32 (x.set : Nat)) ∧ w'.cell? ⟨w4.heap.size, 2, none⟩ = some (.slice (some ⟨g3, 0, none⟩) c.names.length c.names.length) ∧ w'.cell? ⟨w4.heap.size, 3, none⟩ = some (.slice (some ⟨gS, 0, none⟩) c.names.length c.names.length) ∧ w'.cell? ⟨w4.heap.size, 4, none⟩ = some (.slice AD ds.length cD) ∧ w'.cell? ⟨bm, om + k * 3, none⟩ = some (.int .i64 z))
                (first | with_reducible exact HCW.out _ (below_drew HBU.out) | with_reducible exact HCW.out _ (below_drew (HBU.out.alloc HBU.out.size _)) | with_reducible exact HCW.out _ HB6.out | with_reducible exact HCW.out _ HB7.out | with_reducible exact HCW.out _ HB9.out | with_reducible exact HCW.out _ (((below_drew HBU.out)).alloc ((below_drew HBU.out)).size _) | with_reducible exact HCW.out _ ((HB6.out).alloc (HB6.out).size _) | with_reducible exact HCW.out _ ((HB7.out).alloc (HB7.out).size _) | with_reducible exact HCW.out _ ((HB9.out).alloc (HB9.out).size _) | (with_reducible refine HCW.out _ (set5_below HB9.out (Nat.le_refl _) ?_ _ _ _ _ _); omega) | (with_reducible refine HCW.out _ (set5_below ((HB9.out).alloc (HB9.out).size _) (Nat.le_refl _) ?_ _ _ _ _ _); (first | omega | (simp; omega))) | go_keep)
                (first
                | (go_at_call 17; refine (KN.out _).mono ?_; rintro e w6 ⟨rfl, hb6⟩; have hB6 : Below wr.heap.size wr w6 := (by first | with_reducible exact below_then (below_drew (HBU.out.alloc HBU.out.size _)) hb6 (below_drew (HBU.out.alloc HBU.out.size _)).size | with_reducible exact below_then (below_drew HBU.out) hb6 (below_drew HBU.out).size | with_reducible exact below_then ((below_drew HBU.out).alloc (below_drew HBU.out).size _) hb6 ((below_drew HBU.out).alloc (below_drew HBU.out).size _).size); have HB6 := Lib.hid hB6; clear hB6; have hs6 := HB6.out.size; (first | (have r17 : w6.heap[wu.heap.size]? = some (.cells #[.string ⟨#[]⟩, .int .u32 0, .slice none 0 0, .slice none 0 0, .slice none 0 0] 59 (0, 0)) := (hb6.block wu.heap.size (by simp)).trans (by with_reducible exact heap_alloc_new _ _)) | (have r17 : w6.heap[wu.heap.size]? = some (.cells #[.string ⟨#[]⟩, .int .u32 0, .slice none 0 0, .slice none 0 0, .slice none 0 0] 59 (0, 0)) := (hb6.block wu.heap.size (by show _ < (wu.alloc _).heap.size; simp)).trans (by with_reducible exact drew_rowP (heap_alloc_new _ _))) | skip))
                | (go_at_call 18; refine (PK.out _ (by first | with_reducible exact HB6.out | exact (HB6.out).alloc (HB6.out).size _)).mono ?_; rintro e w7 ⟨rfl, hb7⟩; have hB7 : Below wr.heap.size wr w7 := (by first | with_reducible exact below_then HB6.out hb7 HB6.out.size | with_reducible exact below_then ((HB6.out).alloc (HB6.out).size _) hb7 ((HB6.out).alloc (HB6.out).size _).size); have HB7 := Lib.hid hB7; clear hB7; have hs7 := HB7.out.size; (first | (have r17 := (hb7.block _ (Array.getElem?_eq_some_iff.1 r17).1).trans r17) | (have r17 : w7.heap[w6.heap.size]? = some (.cells #[.string ⟨#[]⟩, .int .u32 0, .slice none 0 0, .slice none 0 0, .slice none 0 0] 59 (0, 0)) := (hb7.block w6.heap.size (by simp)).trans (heap_alloc_new _ _)) | skip))
                | (go_at_call 20; refine (FX.out _ (by first | with_reducible exact HB7.out | exact (HB7.out).alloc (HB7.out).size _)).mono ?_; rintro e w9 ⟨ds2, hds2, hsd2, hb9, he⟩; simp only at he; subst he; have hB9 : Below wr.heap.size wr w9 := (by first | with_reducible exact below_then HB7.out hb9 HB7.out.size | with_reducible exact below_then ((HB7.out).alloc (HB7.out).size _) hb9 ((HB7.out).alloc (HB7.out).size _).size); have HB9 := Lib.hid hB9; clear hB9; have hs9 := HB9.out.size; (first | (have hl17 := (Array.getElem?_eq_some_iff.1 r17).1; have r17 := (hb9.block _ (Array.getElem?_eq_some_iff.1 r17).1).trans r17) | (have hl17 : w7.heap.size < (w7.alloc (.cells #[.string ⟨#[]⟩, .int .u32 0, .slice none 0 0, .slice none 0 0, .slice none 0 0] 59)).heap.size := (by simp); have r17 : w9.heap[w7.heap.size]? = some (.cells #[.string ⟨#[]⟩, .int .u32 0, .slice none 0 0, .slice none 0 0, .slice none 0 0] 59 (0, 0)) := (hb9.block w7.heap.size (by simp)).trans (heap_alloc_new _ _)) | skip); (first | (have z0 := cell_of_row _ _ 0 _ _ _ r17; have z1 := cell_of_row _ _ 1 _ _ _ r17; have z2 := cell_of_row _ _ 2 _ _ _ r17; have z3 := cell_of_row _ _ 3 _ _ _ r17; have z4 := cell_of_row _ _ 4 _ _ _ r17; have f0 := fz_of r17 0; have f1 := fz_of r17 1; have f2 := fz_of r17 2; have f3 := fz_of r17 3; have f4 := fz_of r17 4) | skip)))
              all_goals go_wp2_with fail
              all_goals go_meet
              all_goals exact ⟨_, rfl, (by first | exact set5_below HB9.out (Nat.le_refl _) (by omega) _ _ _ _ _ | exact (HB9.out).alloc (HB9.out).size _), .inl ⟨_, rfl⟩⟩
            | some yo =>
              obtain ⟨yf, out⟩ := yo
              have HP2 := Lib.hid (HRK.out yf out rfl).1
              clear HRK
              go_region_held3 (fun w' => w'.cell? ⟨w2.heap.size, 0, none⟩ = some (.slice AN c.names.length cN) ∧ w'.cell? ⟨w2.heap.size, 1, none⟩ = some (.slice AK c.names.length cK) ∧ w'.cell? ⟨w2.heap.size, 2, none⟩ = some (.slice AP c.names.length cP) ∧ w'.cell? ⟨w2.heap.size, 3, none⟩ = some (.slice AT c.trans.length cT) ∧ w'.cell? ⟨w4.heap.size, 0, none⟩ = some (.string (bs [111, 110, 101])) ∧ w'.cell? ⟨w4.heap.size, 1, none⟩ = some (.int .u32 (x.set : Nat)) ∧ w'.cell? ⟨w4.heap.size, 2, none⟩ = some (.slice (some ⟨g3, 0, none⟩) c.names.length c.names.length) ∧ w'.cell? ⟨w4.heap.size, 3, none⟩ = some (.slice (some ⟨gS, 0, none⟩) c.names.length c.names.length) ∧ w'.cell? ⟨w4.heap.size, 4, none⟩ = some (.slice AD ds.length cD) ∧ w'.cell? ⟨bm, om + k * 3, none⟩ = some (.int .i64 z))
                (first | with_reducible exact HCW.out _ (below_drew HBU.out) | with_reducible exact HCW.out _ (below_drew (HBU.out.alloc HBU.out.size _)) | with_reducible exact HCW.out _ HB6.out | with_reducible exact HCW.out _ HB7.out | with_reducible exact HCW.out _ HB9.out | with_reducible exact HCW.out _ (((below_drew HBU.out)).alloc ((below_drew HBU.out)).size _) | with_reducible exact HCW.out _ ((HB6.out).alloc (HB6.out).size _) | with_reducible exact HCW.out _ ((HB7.out).alloc (HB7.out).size _) | with_reducible exact HCW.out _ ((HB9.out).alloc (HB9.out).size _) | (with_reducible refine HCW.out _ (set5_below HB9.out (Nat.le_refl _) ?_ _ _ _ _ _); omega) | (with_reducible refine HCW.out _ (set5_below ((HB9.out).alloc (HB9.out).size _) (Nat.le_refl _) ?_ _ _ _ _ _); (first | omega | (simp; omega))) | go_keep)
                (first
                | (go_at_call 17; refine (KN.out _).mono ?_; rintro e w6 ⟨rfl, hb6⟩; have hB6 : Below wr.heap.size wr w6 := (by first | with_reducible exact below_then (below_drew (HBU.out.alloc HBU.out.size _)) hb6 (below_drew (HBU.out.alloc HBU.out.size _)).size | with_reducible exact below_then (below_drew HBU.out) hb6 (below_drew HBU.out).size | with_reducible exact below_then ((below_drew HBU.out).alloc (below_drew HBU.out).size _) hb6 ((below_drew HBU.out).alloc (below_drew HBU.out).size _).size); have HB6 := Lib.hid hB6; clear hB6; have hs6 := HB6.out.size; (first | (have r17 : w6.heap[wu.heap.size]? = some (.cells #[.string ⟨#[]⟩, .int .u32 0, .slice none 0 0, .slice none 0 0, .slice none 0 0] 59 (0, 0)) := (hb6.block wu.heap.size (by simp)).trans (by with_reducible exact heap_alloc_new _ _)) | (have r17 : w6.heap[wu.heap.size]? = some (.cells #[.string ⟨#[]⟩, .int .u32 0, .slice none 0 0, .slice none 0 0, .slice none 0 0] 59 (0, 0)) := (hb6.block wu.heap.size (by show _ < (wu.alloc _).heap.size; simp)).trans (by with_reducible exact drew_rowP (heap_alloc_new _ _))) | skip))
                | (go_at_call 18; refine (PK.out _ (by first | with_reducible exact HB6.out | exact (HB6.out).alloc (HB6.out).size _)).mono ?_; rintro e w7 ⟨rfl, hb7⟩; have hB7 : Below wr.heap.size wr w7 := (by first | with_reducible exact below_then HB6.out hb7 HB6.out.size | with_reducible exact below_then ((HB6.out).alloc (HB6.out).size _) hb7 ((HB6.out).alloc (HB6.out).size _).size); have HB7 := Lib.hid hB7; clear hB7; have hs7 := HB7.out.size; (first | (have r17 := (hb7.block _ (Array.getElem?_eq_some_iff.1 r17).1).trans r17) | (have r17 : w7.heap[w6.heap.size]? = some (.cells #[.string ⟨#[]⟩, .int .u32 0, .slice none 0 0, .slice none 0 0, .slice none 0 0] 59 (0, 0)) := (hb7.block w6.heap.size (by simp)).trans (heap_alloc_new _ _)) | skip))
                | (go_at_call 20; refine (FX.out _ (by first | with_reducible exact HB7.out | exact (HB7.out).alloc (HB7.out).size _)).mono ?_; rintro e w9 ⟨ds2, hds2, hsd2, hb9, g39, gS9, vD9, vL9, rfl, hg39, hR9, hD9, hL9⟩; obtain ⟨AD9, cD9, rfl⟩ := own_slice hD9; obtain ⟨AL9, cL9, rfl⟩ := own_slice hL9; have HR9 := Lib.hid hR9; have HD9 := Lib.hid hD9; have HDS9 := Lib.hid (And.intro hds2 hsd2); clear hR9 hD9 hL9 hds2 hsd2; have hB9 : Below wr.heap.size wr w9 := (by first | with_reducible exact below_then HB7.out hb9 HB7.out.size | with_reducible exact below_then ((HB7.out).alloc (HB7.out).size _) hb9 ((HB7.out).alloc (HB7.out).size _).size); have HB9 := Lib.hid hB9; clear hB9; have hs9 := HB9.out.size; (first | (have hl17 := (Array.getElem?_eq_some_iff.1 r17).1; have r17 := (hb9.block _ (Array.getElem?_eq_some_iff.1 r17).1).trans r17) | (have hl17 : w7.heap.size < (w7.alloc (.cells #[.string ⟨#[]⟩, .int .u32 0, .slice none 0 0, .slice none 0 0, .slice none 0 0] 59)).heap.size := (by simp); have r17 : w9.heap[w7.heap.size]? = some (.cells #[.string ⟨#[]⟩, .int .u32 0, .slice none 0 0, .slice none 0 0, .slice none 0 0] 59 (0, 0)) := (hb9.block w7.heap.size (by simp)).trans (heap_alloc_new _ _)) | skip); (first | (have z0 := cell_of_row _ _ 0 _ _ _ r17; have z1 := cell_of_row _ _ 1 _ _ _ r17; have z2 := cell_of_row _ _ 2 _ _ _ r17; have z3 := cell_of_row _ _ 3 _ _ _ r17; have z4 := cell_of_row _ _ 4 _ _ _ r17; have f0 := fz_of r17 0; have f1 := fz_of r17 1; have f2 := fz_of r17 2; have f3 := fz_of r17 3; have f4 := fz_of r17 4) | skip)))
              all_goals go_wp2_with fail
              all_goals go_meet
              all_goals first
                | exact ⟨_, rfl, set5_below HB9.out (Nat.le_refl _) (by omega) _ _ _ _ _, .inr ⟨rfl, _, ds2, _, _, _, _, HP2.out, papAt_set r17 HR9.out HD9.out hl17 hg39, HDS9.out.1, HDS9.out.2, by omega, by omega, by have := HR9.out.lo; omega, fun a e => by subst e; have := (World.ownsRow.lt HD9.out a.block rfl).1; omega⟩⟩
                | exact ⟨_, rfl, (HB9.out).alloc (HB9.out).size _, .inr ⟨rfl, _, ds2, _, _, _, _, HP2.out, papAt_new HR9.out HD9.out, HDS9.out.1, HDS9.out.2, by omega, by omega, by have := HR9.out.lo; omega, fun a e => by subst e; have := (World.ownsRow.lt HD9.out a.block rfl).1; omega⟩⟩
        case rest =>
          obtain ⟨gz, rfl, HBx, HRx⟩ := hcut
          clear hpk PK KN HCW
          rcases HRx.out with ⟨q, rfl⟩ | ⟨rfl, hnew⟩
          · clear HRx
            go_wp2_with fail
            go_roundw
            case rel => exact ⟨k + 1, x, ds, g3, gS, cD, AD, by omega, by go_num, HPl, HPa.out.below HBx.out, ⟨by have := HDs.out.1; omega, HDs.out.2⟩, below_then HB.out HBx.out HB.out.size, (HBx.out.block _ (Array.getElem?_eq_some_iff.1 HBY.out.2).1).trans HBY.out.2⟩
            case measure => simp [intOf]; omega
          · clear HRx
            obtain ⟨yf, ds2, g39, gS9, cD9, AD9, hp2, hpa2, hds2, hsd2, hN1, hN3, hNS, hNA⟩ := hnew
            obtain ⟨hg1, hg2⟩ := tasks_grow hds2
            have HP2 := Lib.hid hp2
            have HPA2 := Lib.hid hpa2
            have HD2 : Hid (ds2.length ≤ k + 1 ∧ ShD ds2 ∧ UsD ds2) := ⟨by have := len_grow hds2; have := HDs.out.1; omega, hsd2, usD_grow HDs.out.2.2 HUU.out hds2⟩
            have HNA := Lib.hid hNA
            have hdl := HDs.out.1
            have hdl2 := HD2.out.1
            have T1 := Lib.hid (fun W (hW : Below wr.heap.size wr W) => PTasks_any ds us (bs [111, 110, 101]) (x.set : Nat) (some ⟨g3, 0, none⟩) (some ⟨gS, 0, none⟩) AD c.names.length c.names.length c.names.length c.names.length cD W (HPa.out.dn.below hW) (by omega))
            have T2 := Lib.hid (fun W (hW : Below wc.heap.size wc W) => PTasks_any ds2 us (bs [111, 110, 101]) (yf.set : Nat) (some ⟨g39, 0, none⟩) (some ⟨gS9, 0, none⟩) AD9 c.names.length c.names.length c.names.length c.names.length cD9 W (HPA2.out.dn.below hW) (by omega))
            clear hp2 hpa2 hds2 hsd2 hNA HUU
            have hL1 : (tasksD ds us).length ≤ 100 := by have := tasksD_len ds us; omega
            generalize tasksD ds us = L1 at *
            generalize tasksD ds2 us = L2 at *
            obtain ⟨rc, rp⟩ := HPW.out _ HBx.out
            have y0 := cell_of_row _ _ 0 _ _ _ rp; have y1 := cell_of_row _ _ 1 _ _ _ rp; have y2 := cell_of_row _ _ 2 _ _ _ rp; have y3 := cell_of_row _ _ 3 _ _ _ rp; have y4 := cell_of_row _ _ 4 _ _ _ rp
            go_upto_region 15 with (go_at_call 24; refine (T1.out _ HBx.out).mono ?_; rintro e wa ⟨hba, va, rfl, hOa⟩; obtain ⟨Aa, ca, rfl⟩ := own_slice hOa; have HBa := Lib.hid hba; clear hba hOa)
            have RZ := (HBa.out.block _ (Array.getElem?_eq_some_iff.1 HPA2.out.row).1).trans HPA2.out.row
            have z0 := cell_of_row _ _ 0 _ _ _ RZ; have z1 := cell_of_row _ _ 1 _ _ _ RZ; have z2 := cell_of_row _ _ 2 _ _ _ RZ; have z3 := cell_of_row _ _ 3 _ _ _ RZ; have z4 := cell_of_row _ _ 4 _ _ _ RZ
            go_upto_region 16 with (go_at_call 24; refine (T2.out _ HBa.out).mono ?_; rintro e wb ⟨hbb, vb, rfl, hOb⟩; obtain ⟨Ab, cb, rfl⟩ := own_slice hOb; have HBb := Lib.hid (below_then HBa.out hbb HBa.out.size); clear hbb hOb)
            have hi1 : ¬ (L2.length : Int) < L1.length := by omega
            have hi2 : ¬ (L1.length : Int) + 1 < L2.length := by omega
            have hn1 : ¬ L2.length < L1.length := by omega
            have hn2 : ¬ L1.length + 1 < L2.length := by omega
            have hd1 : decide (L2.length < L1.length) = false := decide_eq_false hn1
            have hd2 : decide (L1.length + 1 < L2.length) = false := decide_eq_false hn2
            clear hg1 hg2
            go_upto_region 18 with fail
            have HBxb := Lib.hid (below_then HBx.out HBb.out HBx.out.size)
            have hpb := HPA2.out.below HBb.out
            have RZ := hpb.row
            have z0 := cell_of_row _ _ 0 _ _ _ RZ; have z1 := cell_of_row _ _ 1 _ _ _ RZ; have z2 := cell_of_row _ _ 2 _ _ _ RZ; have z3 := cell_of_row _ _ 3 _ _ _ RZ; have z4 := cell_of_row _ _ 4 _ _ _ RZ
            obtain ⟨rc, rp⟩ := HPW.out _ HBxb.out
            have y0 := cell_of_row _ _ 0 _ _ _ rp; have y1 := cell_of_row _ _ 1 _ _ _ rp; have y2 := cell_of_row _ _ 2 _ _ _ rp; have y3 := cell_of_row _ _ 3 _ _ _ rp; have y4 := cell_of_row _ _ 4 _ _ _ rp
            have f0 := fz_of rp 0; have f1 := fz_of rp 1; have f2 := fz_of rp 2; have f3 := fz_of rp 3; have f4 := fz_of rp 4
            have HPN := Lib.hid (pap_move gz hpb rp hgX hN3 hNS HNA.out)
            have HBN := Lib.hid (And.intro (set5_below (below_then HB.out HBxb.out HB.out.size) (Nat.le_refl _) (Nat.le_refl _) (.string (bs [111, 110, 101])) (.int .u32 (yf.set : Nat)) (.slice (some ⟨g39, 0, none⟩) c.names.length c.names.length) (.slice (some ⟨gS9, 0, none⟩) c.names.length c.names.length) (.slice AD9 ds2.length cD9))
              (((set5_grown wb w4.heap.size (.string (bs [111, 110, 101])) (.int .u32 (yf.set : Nat)) (.slice (some ⟨g39, 0, none⟩) c.names.length c.names.length) (.slice (some ⟨gS9, 0, none⟩) c.names.length c.names.length) (.slice AD9 ds2.length cD9)).block w6.heap.size (Nat.lt_of_lt_of_le (Array.getElem?_eq_some_iff.1 HBY.out.2).1 HBxb.out.size) (by intro e; injection e with e; omega)).trans ((HBxb.out.block _ (Array.getElem?_eq_some_iff.1 HBY.out.2).1).trans HBY.out.2)))
            clear rc rp hpb RZ
            go_wp2_with fail
            go_roundw
            case rel => exact ⟨k + 1, yf, ds2, g39, gS9, cD9, AD9, by omega, by go_num, HP2, HPN.out, HD2, HBN⟩
            case measure => simp [intOf]; omega
      · clear HM
        have hus := HDs.out.2.2
        have hdl := HDs.out.1
        have hno := usD_nobody hus
        have TX := Lib.hid (fun W (hW : Below wr.heap.size wr W) ut => PTasks_any ds ut (bs [111, 110, 101]) (x.set : Nat) (some ⟨g3, 0, none⟩) (some ⟨gS, 0, none⟩) AD c.names.length c.names.length c.names.length c.names.length cD W (HPa.out.dn.below hW) (by omega))
        have TN := Lib.hid (fun W (hW : Below wr.heap.size wr W) => TX.out W hW [110, 111, 98, 111, 100, 121])
        rw [hno] at TN
        have HS3 := Lib.hid (sumT_three hus)
        have HSL := Lib.hid (fun j => sumT_le (ds := ds) j)
        have HTL := Lib.hid (fun ut => tasksD_len ds ut)
        have RL := heap_alloc_new wr (.cells #[.string ⟨#[117, 97]⟩, .string ⟨#[117, 98]⟩, .string ⟨#[117, 99]⟩] 9)
        have HB8 := Lib.hid (box_b wr (.cells #[.string ⟨#[117, 97]⟩, .string ⟨#[117, 98]⟩, .string ⟨#[117, 99]⟩] 9))
        have hbwr : Hid (Below w.heap.size w wr) := hbw
        have HPW : Hid (∀ W, Below wr.heap.size wr W → W.heap[w4.heap.size]? = some (.cells #[.string (bs [111, 110, 101]), .int .u32 (x.set : Nat), .slice (some ⟨g3, 0, none⟩) c.names.length c.names.length, .slice (some ⟨gS, 0, none⟩) c.names.length c.names.length, .slice AD ds.length cD] 59 (0, 0)) ∧ W.heap[w6.heap.size]? = some (.cells #[.string (bs [116, 119, 111]), .int .u32 (x0.set : Nat), .slice (some ⟨g3y, 0, none⟩) c.names.length c.names.length, .slice (some ⟨gSy, 0, none⟩) c.names.length c.names.length, .slice ADy 0 cDy] 59 (0, 0))) := fun W hW =>
          ⟨(hW.block _ (Array.getElem?_eq_some_iff.1 HPa.out.row).1).trans HPa.out.row, (hW.block _ (Array.getElem?_eq_some_iff.1 HBY.out.2).1).trans HBY.out.2⟩
        clear hus hno hbw HBY HB HPl
        rcases (by omega : (k < ms.length ∧ ¬ k < 10) ∨ ¬ k < ms.length) with ⟨h3, h4⟩ | h3
        all_goals first
          | (have h3i : (k : Int) < ms.length := (by omega); have h4i : ¬ (k : Int) < 10 := (by omega))
          | (have h3i : ¬ (k : Int) < ms.length := (by omega))
        all_goals
          go_upto_region 20 with fail
          generalize hgl : wr.heap.size = gl at RL
          generalize wr.alloc (.cells #[.string ⟨#[117, 97]⟩, .string ⟨#[117, 98]⟩, .string ⟨#[117, 99]⟩] 9) = w8 at *
          have HRL := Lib.hid RL
          clear RL
          subst hgl
          obtain ⟨wo, rfl⟩ : ∃ x : World, x = wr := ⟨_, rfl⟩
          go_loopw [14, 114] (fun t i wq => ∃ j : Nat, j ≤ 3 ∧ i = .int .i64 j ∧ t = .int .i64 (sumT ds j : Nat) ∧ Hid (Below w8.heap.size w8 wq)) (fun _ i _ => 3 - (intOf i).toNat)
          case atStart => exact ⟨0, by omega, rfl, rfl, Below.refl _ _⟩
          case round =>
            obtain ⟨j, hj, rfl, rfl, HBq⟩ := hrel
            have HB9 := Lib.hid (below_then HB8.out HBq.out HB8.out.size)
            have hsl := HSL.out j
            obtain ⟨rp, ry⟩ := HPW.out _ HB9.out
            have y0 := cell_of_row _ _ 0 _ _ _ rp; have y1 := cell_of_row _ _ 1 _ _ _ rp; have y2 := cell_of_row _ _ 2 _ _ _ rp; have y3 := cell_of_row _ _ 3 _ _ _ rp; have y4 := cell_of_row _ _ 4 _ _ _ rp
            by_cases hj3 : j < 3
            · have hj3i : (j : Int) < 3 := by omega
              have xj : w8.cell? ⟨wo.heap.size, j, none⟩ = some (.string (bs (uN j))) := by
                rw [cell_of_row _ _ _ _ _ _ HRL.out]
                rcases (by omega : j = 0 ∨ j = 1 ∨ j = 2) with rfl | rfl | rfl <;> rfl
              have hlw : wo.heap.size < w8.heap.size := (Array.getElem?_eq_some_iff.1 HRL.out).1
              have xq := (HBq.out.cell (p := ⟨wo.heap.size, j, none⟩) hlw).trans xj
              have htl := HTL.out (uN j)
              have HSS : Hid (sumT ds (j + 1) = sumT ds j + (tasksD ds (uN j)).length) := rfl
              have TJ := Lib.hid (fun W hW => TX.out W hW (uN j))
              have hb40 : sumT ds j ≤ 40 := by
                have : j * ds.length ≤ 3 * 10 := Nat.mul_le_mul (by omega) (by omega)
                omega
              clear xj hsl
              generalize uN j = uj at *
              generalize sumT ds j = s0 at *
              generalize tasksD ds uj = tl at *
              go_wp2_with (go_at_call 24; refine (TJ.out _ HB9.out).mono ?_; rintro e wa ⟨hba, va, rfl, hOa⟩; obtain ⟨Aa, ca, rfl⟩ := own_slice hOa; have HBa := Lib.hid (below_then HBq.out hba HBq.out.size); clear hba hOa)
              go_roundw
              case rel => exact ⟨j + 1, by omega, by go_num, by rw [HSS.out]; go_num, HBa.out⟩
              case measure => simp [intOf]; omega
            · obtain rfl : j = 3 := by omega
              have hj3i : ¬ ((3 : Nat) : Int) < 3 := by omega
              have e0 := cell_of_row _ _ 0 _ _ _ ry; have e1 := cell_of_row _ _ 1 _ _ _ ry; have e2 := cell_of_row _ _ 2 _ _ _ ry; have e3 := cell_of_row _ _ 3 _ _ _ ry; have e4 := cell_of_row _ _ 4 _ _ _ ry
              rw [HS3.out]
              have hss : ((x0.set : Int) == (x0.set : Int)) = true := by simp
              have hll : ((ds.length : Int) == (ds.length : Int)) = true := by simp
              clear hsl hj hj3 rp ry
              go_wp2_with (first
                | (go_at_call 24; refine (TN.out _ HB9.out).mono ?_; rintro e wa ⟨hba, va, rfl, hOa⟩; obtain ⟨Aa, ca, rfl⟩ := own_slice hOa; have HBa := Lib.hid (below_then HB9.out hba HB9.out.size); clear hba hOa)
                | (go_at_call 16; refine (wakes14 _).mono ?_; rintro e wd ⟨rfl, hbd⟩))
              go_ret
              exact ⟨rfl, below_then hbwr.out (below_then HBa.out hbd HBa.out.size) hbwr.out.size⟩
end Go.Proofs.YtaoinedndnleoaaGreat
