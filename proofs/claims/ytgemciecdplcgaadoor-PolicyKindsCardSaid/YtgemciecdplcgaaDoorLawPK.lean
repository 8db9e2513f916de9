/-
  PolicyKinds: the rules of all kinds are all; of a kind and of all others they are all, too; of none none: the walk.
-/
import Derived.Test.YtgemciecdplcgaaDoorPol6
import Derived.Test.YtgemciecdplcgaaDoorPol7
import Derived.Test.YtgemciecdplcgaaDoorPlay4
namespace Go.Proofs.YtgemciecdplcgaaDoor
set_option maxRecDepth 100000
open Go.ChangeShapes Go.WideShapes Go.ChangeAt Go.RowKit

/-- the numbers from 1 to j but one -/
def othersTo (kk : Int) (j : Nat) : List Int := ((List.range j).map fun n : Nat => (n : Int) + 1).filter (· != kk)
theorem others_next (kk : Int) (j : Nat) : othersTo kk (j + 1) = othersTo kk j ++ if (j : Int) + 1 = kk then [] else [(j : Int) + 1] := by
  unfold othersTo
  rw [List.range_succ, List.map_append, List.filter_append]
  congr 1
  by_cases h : (j : Int) + 1 = kk
  · simp [h]
  · simp [h]
theorem others_len (kk : Int) (j : Nat) : (othersTo kk j).length ≤ j := by
  unfold othersTo
  have := List.length_filter_le (· != kk) ((List.range j).map fun n : Nat => (n : Int) + 1)
  simpa using this
theorem mem_others (kk x : Int) (h1 : 1 ≤ x) (h2 : x ≤ 11) : x ∈ othersTo kk 11 ↔ x ≠ kk := by
  unfold othersTo
  rw [List.mem_filter]
  constructor
  · rintro ⟨_, h⟩; simpa using h
  · intro h
    refine ⟨List.mem_map.2 ⟨(x - 1).toNat, List.mem_range.2 (by omega), by omega⟩, by simpa using h⟩
theorem filter_all {l : List (Ru × Nat)} {kk : Int} (h : ∀ x ∈ l, RuOk x.1) : l.filter (kindIn (othersTo kk 11 ++ [kk])) = l := by
  rw [List.filter_eq_self]
  intro x hx
  obtain ⟨_, h1, h2⟩ := h x hx
  simp only [kindIn, decide_eq_true_eq, List.mem_append, List.mem_singleton]
  by_cases hk : x.1.kind = kk
  · exact .inr hk
  · exact .inl ((mem_others kk _ h1 h2).2 hk)
theorem filter_none {l : List (Ru × Nat)} {ks : List Int} (h : ∀ x ∈ l, RuOk x.1) (hk : ∀ k ∈ ks, k < 1 ∨ 11 < k) : l.filter (kindIn ks) = [] := by
  rw [List.filter_eq_nil_iff]
  intro x hx
  obtain ⟨_, h1, h2⟩ := h x hx
  simp only [kindIn, decide_eq_true_eq]
  intro hm
  have := hk _ hm
  omega
theorem filter_sum {kk : Int} : ∀ l : List (Ru × Nat), (∀ x ∈ l, RuOk x.1) → (l.filter (kindIn [kk])).length + (l.filter (kindIn (othersTo kk 11))).length = l.length
  | [], _ => rfl
  | x :: r, h => by
    have ih := filter_sum (kk := kk) r fun y hy => h y (List.mem_cons_of_mem _ hy)
    obtain ⟨_, h1, h2⟩ := h x List.mem_cons_self
    have hm := mem_others kk x.1.kind h1 h2
    by_cases hk : x.1.kind = kk
    · have e1 : kindIn [kk] x = true := by simp [kindIn, hk]
      have e2 : kindIn (othersTo kk 11) x = false := by simp only [kindIn, decide_eq_false_iff_not]; rw [hm]; simp [hk]
      rw [List.filter_cons_of_pos (by simpa using e1), List.filter_cons_of_neg (by simp [e2])]
      simp only [List.length_cons]; omega
    · have e1 : kindIn [kk] x = false := by simp [kindIn, hk]
      have e2 : kindIn (othersTo kk 11) x = true := by simp only [kindIn, decide_eq_true_eq]; rw [hm]; exact hk
      rw [List.filter_cons_of_neg (by simp [e1]), List.filter_cons_of_pos (by simpa using e2)]
      simp only [List.length_cons]; omega
theorem kAt_of {w : World} {base c : Nat} {A : Option Addr} {ks : List Int} (h : w.ownsRow base 3 1 (.slice A ks.length c) ks.length (ks.map (Value.int .i64))) : KAt w A ks := fun j hj => by
  obtain ⟨g, cap', e, _, hl, _, hc⟩ := own_form h (by omega)
  have eA : A = some ⟨g, 0, none⟩ := by injection e
  exact ⟨g, eA, hl, hc _ _ (by simp [hj])⟩
theorem kAt_new (w : World) (ks : List Int) : KAt (w.alloc (.cells (ks.map (Value.int .i64)).toArray 3)) (some ⟨w.heap.size, 0, none⟩) ks := fun j hj =>
  ⟨_, rfl, by simp, by rw [cell_of_row _ _ _ _ _ _ (heap_alloc_new w _)]; simp [hj]⟩
theorem Tryd.infoInt : (Tryd.prog.info? 3).map (fun i => (i.zero, i.size, i.bytes)) = some (some (.int .i64 0), 1, 8) := by kernel_rfl
theorem rows_kinds {w : World} {base cap : Nat} {A : Option Addr} {acc : List RL} {ks : List Int} {l : List (Ru × Nat)} (h : RowsAt w base (.slice A acc.length cap) acc) (he : acc.map er = l.filter (kindIn ks)) :
    ∀ k (_ : k < acc.length), ∃ g x, A = some ⟨g, 0, none⟩ ∧ w.cell? ⟨g, k * 11, none⟩ = some (.int .i64 x) ∧ x ∈ ks := fun k hk => by
  obtain ⟨g, e, _, hc, _⟩ := rIn_of h k hk
  refine ⟨g, acc[k].1.kind, e, hc 0 _ (by omega) rfl, ?_⟩
  have hm : er acc[k] ∈ l.filter (kindIn ks) := by rw [← he]; exact List.mem_map_of_mem (List.getElem_mem hk)
  have := (List.mem_filter.1 hm).2
  exact of_decide_eq_true this
/-- append, of memory of the call's own, where a test is decided -/
theorem wpList_append_when {P : Program} (w : World) {ops : Array Oper} {rest : List Oper} {o : Oper} {a : Act} {Q : Exit → Act → World → Prop} (hw : Region.wanted o (yielded ops a.tmps) = true) (s x : Operand) (t : TypeId)
    (ho : o.op = .call { callee := .builtin .append, args := #[s, x], argTypes := #[t, t] })
    (base : Nat) (e : TypeId) (i : TypeInfo) (z : Value) (size bytes : Nat) (ht : P.underlying t = some (.slice e)) (hi : P.info? e = some i) (hz : i.zero = some z)
    (hsize : i.size = size) (hby : i.bytes = bytes) (hzs : z.cells.size = size) (hsz : 0 < size)
    (v : Value) (n : Nat) (xs : List Value) (hs : a.eval s = v) (hown : w.ownsRow base e size v n xs)
    (ad : Addr) (m c : Nat) (news : List Value) (hx : a.eval x = .slice (some ad) m c) (hl : news.length = m * size) (hnews : ∀ j u, news[j]? = some u → w.cell? (ad.add j) = some u) (h1 : ∀ u ∈ news, u.oneCell' = true)
    (h63 : n + m ≤ maxLen) (hbytes : (n + m) * bytes ≤ 140737488355328) (hbase : base ≤ w.heap.size)
    (h : ∀ v' w', w'.ownsRow base e size v' (n + m) (xs ++ news) → w.grownBy w' v.ownBlock → wpList P ops Q rest (a.put o.dst v') w') : wpList P ops Q (o :: rest) a w :=
  wpList_step fun K hK => by
    rw [if_pos hw]
    exact wp_append_own w s x t ho base e i z size bytes ht hi hz hsize hby hzs hsz v n xs hs hown ad m c news hx hl hnews h1 h63 hbytes hbase fun v' w' h2 h3 _ => hK _ _ (h v' w' h2 h3)
theorem own_cap {w : World} {base e size n c : Nat} {A : Option Addr} {xs : List Value} (h : w.ownsRow base e size (.slice A n c) n xs) : n ≤ c := by
  rcases h.2 with ⟨hv, h0⟩ | ⟨g, cap', cur, hv, _, _, hc, _⟩
  · omega
  · injection hv with _ _ hcc; omega
set_option maxHeartbeats 8000000 in
theorem kinds_walk (w : World) (v : Value) (zs : List Int) (hz : IntsAt w v zs) (b : Int) (hb : (Lit.int .i64 b).wf = true) :
    Calls Tryd.prog 5 #[.agg #[v], .int .i64 b] w (TrueOn w) := by
  have hz1 : IntsAt (w.alloc (.cells #[v] 38)) v zs := hz.below ((Below.refl _ _).alloc (Nat.le_refl _) _)
  have HT := Lib.hid (policyTx_any v zs _ hz1)
  have hwb := fun W => Within_any b 11 W hb (by omega) (by omega)
  have h2 := within_bd b 11 (by omega)
  obtain ⟨kn, hkn⟩ : ∃ kn : Nat, within b 11 = (kn : Int) - 1 := ⟨(1 + within b 11).toNat, by omega⟩
  rw [hkn] at hwb h2
  have HWB := Lib.hid hwb
  have hkb : 1 ≤ kn ∧ kn ≤ 11 := by omega
  have HPA := Lib.hid (fun t W => Pol_any t W)
  have HB0 : Hid (Below w.heap.size w (w.alloc (.cells #[v] 38))) := (Below.refl _ _).alloc (Nat.le_refl _) _
  obtain ⟨A0, n0, c0, rfl⟩ := ints_slice hz
  clear hwb hkn h2 hz hz1 hb
  go_enter Tryd.func5, Tryd.ntmps5
  go_upto_region 2 with (first
    | (go_at_call 15; refine HT.out.mono ?_; rintro e w1 ⟨t, rfl, -, -, hb1⟩; have HQ := HPA.out t; have hall := fun l (h : polT t.data.toList = .ok l) => polT_all h; have HB1 : Hid (Below w.heap.size w w1) := below_then HB0.out hb1 HB0.out.size; generalize polT t.data.toList = p at HQ hall; have HQ := Lib.hid HQ; have HALL := Lib.hid hall; clear hall hb1; cases p)
    | (go_at_call 7; refine (HQ.out _).mono ?_; rintro e w2 ⟨hb2, fb, rfl, -, -, -⟩)
    | (go_at_call 7; refine (HQ.out _).mono ?_; rintro e w2 ⟨hb2, vv, acc, rfl, hacc, hR⟩)
    | (go_at_call 7; refine (HQ.out _).mono ?_; rintro e w2 ⟨hb2, rfl⟩))
  · have HB2 : Hid (Below w.heap.size w w2) := below_then HB1.out hb2 HB1.out.size
    clear HQ HALL hb2
    go_wp2_with (go_at_call 10; refine (wakes03 _).mono ?_; rintro e w9 ⟨rfl, hb9⟩)
    go_ret
    exact ⟨rfl, below_then HB2.out hb9 HB2.out.size⟩
  · have HB2 : Hid (Below w.heap.size w w2) := below_then HB1.out hb2 HB1.out.size
    clear HQ HALL hb2
    go_wp2_with (go_at_call 10; refine (wakes03 _).mono ?_; rintro e w9 ⟨rfl, hb9⟩)
    go_ret
    exact ⟨rfl, below_then HB2.out hb9 HB2.out.size⟩
  · have HB2 : Hid (Below w.heap.size w w2) := below_then HB1.out hb2 HB1.out.size
    obtain ⟨A, cap, rfl⟩ := own_slice hR.1
    have hal := HALL.out _ rfl
    rw [← hacc] at hal
    have hlen : acc.length ≤ 160 := by simpa using hal.2
    have HRU := Lib.hid hal.1
    have HLL : Hid (∀ x ∈ acc, x.1.list.length ≤ 4096) := fun x hx => (hal.1 (er x) (List.mem_map_of_mem hx)).1
    have HR2 := Lib.hid (rIn_of hR)
    have hcap := own_cap hR.1
    clear HQ HALL hb2 hal hacc hR
    obtain ⟨i0, hi, hz0, hz1, hz2⟩ := info_parts Tryd.infoInt
    have ekn : IntKind.i64.wrap (1 + ((kn : Int) - 1)) = kn := by rw [IntKind.wrap_i64]; omega
    go_upto_region 7 with (go_at_call 6; refine (HWB.out _).mono ?_; rintro e w3 ⟨rfl, rfl⟩)
    clear ekn HWB
    go_loopw [7, 8] (fun l i wr => ∃ (j : Nat), j ≤ 11 ∧ i = .int .i64 (j + 1 : Nat) ∧ Hid (wr.ownsRow w2.heap.size 3 1 l (othersTo kn j).length ((othersTo kn j).map (Value.int .i64))) ∧ Below w2.heap.size w2 wr) (fun _ i _ => 12 - (intOf i).toNat)
    case atStart => exact ⟨0, by omega, rfl, World.ownsRow_nil _ _ _ _, Below.refl _ _⟩
    case round =>
      obtain ⟨j, hj, rfl, HW, hbw⟩ := hrel
      have hol := others_len kn j
      have hnx := others_next kn j
      have hbz := hbw.size
      have ej : ((j + 1 : Nat) : Int) = (j : Int) + 1 := by omega
      rw [ej]
      by_cases hlt : j < 11
      · by_cases hkj : (j : Int) + 1 = kn
        · rw [if_pos hkj, List.append_nil] at hnx
          have hne : ((j : Int) + 1 != kn) = false := by simp [hkj]
          have HNX := Lib.hid hnx
          clear hnx hkj
          go_wp2
          go_roundw
          case rel => exact ⟨j + 1, by omega, by go_num, by show World.ownsRow _ _ _ _ _ _ _; rw [HNX.out]; exact HW.out, hbw⟩
          case measure => simp [intOf]; omega
        · rw [if_neg hkj] at hnx
          have hne : ((j : Int) + 1 != kn) = true := by simp [hkj]
          have HNX := Lib.hid hnx
          clear hnx hkj
          generalize othersTo (kn : Int) j = os at *
          obtain ⟨A7, c7, rfl⟩ := own_slice HW.out
          go_wp2_with (at_builtin; go_must (refine wpList_append_own _ rfl (.tmp 37) (.tmp 39) 36 rfl w2.heap.size 3 i0 _ 1 8 Tryd.underlying36 hi hz0 hz1 hz2 rfl (by decide) _ _ _ rfl (HW.out.alloc _) ⟨wr.heap.size, 0, none⟩ 1 1 [.int .i64 ((j : Int) + 1)] rfl rfl (cells_new _ _ _) (by intro u hu; simp at hu; subst hu; rfl) (by unfold maxLen; omega) (by omega) (by simp; omega) ?_); intro v' w4 hown' hg' _)
          have hg2 : (wr.alloc (.cells #[.int .i64 ((j : Int) + 1)] 3)).grownBy w4 (Value.slice A7 os.length c7).ownBlock := hg'
          have hb4 : Below w2.heap.size w2 w4 := (hbw.alloc hbz _).grown hg2 (by simp; omega) (fun g hg => (HW.out.lt g hg).1)
          clear hg'
          go_roundw
          case rel => exact ⟨j + 1, by omega, by go_num, by show World.ownsRow _ _ _ _ _ _ _; rw [HNX.out, List.length_append, List.map_append]; exact hown', hb4⟩
          case measure => simp [intOf]; omega
      · obtain rfl : j = 11 := by omega
        clear hnx hlt hj
        have hmo := fun x (hx : x ∈ othersTo kn 11) => (show x ≠ kn by simpa using (List.mem_filter.1 hx).2)
        have hsum := filter_sum (kk := kn) _ HRU.out
        have hfa := filter_all (kk := kn) HRU.out
        generalize othersTo (kn : Int) 11 = os at *
        obtain ⟨A7, c7, rfl⟩ := own_slice HW.out
        have hc7 := own_cap HW.out
        have HKO := Lib.hid (kAt_of HW.out)
        have HSUM := Lib.hid hsum
        have HFA := Lib.hid hfa
        have HMO := Lib.hid hmo
        have hRr := HR2.out.below hbw
        have hB1 : Below wr.heap.size wr (wr.alloc (.cells #[.int .i64 kn] 3)) := (Below.refl _ _).alloc (Nat.le_refl _) _
        have O1 := Lib.hid (Of_any acc A cap [(kn : Int)] (some ⟨wr.heap.size, 0, none⟩) 1 (wr.alloc (.cells #[.int .i64 kn] 3)) (hRr.below hB1) (kAt_new wr [(kn : Int)]) (by simp) (by simp) (by omega) hcap HLL.out)
        have O2 := Lib.hid (fun W (hb : Below wr.heap.size wr W) => Of_any acc A cap os A7 c7 W (hRr.below hb) (HKO.out.below hb) (by omega) hc7 (by omega) hcap HLL.out)
        have tok1 : True := trivial
        clear hsum hfa hmo hRr
        go_upto_region 12 with (first
          | (have _t := tok1; go_at_call 16; refine O1.out.mono ?_; rintro e w5 ⟨va, aa, rfl, haa, hRa, hb5⟩; obtain ⟨Aa, ca, rfl⟩ := own_slice hRa.1; have HAA := Lib.hid haa; have HRA := Lib.hid hRa; clear haa hRa tok1 _t)
          | (go_at_call 16; refine (O2.out _ (below_then hB1 hb5 hB1.size)).mono ?_; rintro e w6 ⟨vb, bb, rfl, hbb, hRb, hb6⟩; obtain ⟨Ab, cb, rfl⟩ := own_slice hRb.1; have HBB := Lib.hid hbb; have HRB := Lib.hid hRb; clear hbb hRb))
        have hb46 := below_then (below_then hB1 hb5 hB1.size) hb6 (Nat.le_trans hB1.size hb5.size)
        have HB6 : Hid (Below w2.heap.size w2 w6) := below_then hbw hb46 hbz
        have HW6 := Lib.hid (own_below HW.out hb46 hbz)
        have RKA := Lib.hid (rows_kinds (HRA.out.below hb6 hb5.size) HAA.out)
        have RKB := Lib.hid (rows_kinds HRB.out HBB.out)
        have hsa : aa.length + bb.length = acc.length := by
          have h1 := congrArg List.length HAA.out
          have h2 := congrArg List.length HBB.out
          have h3 := HSUM.out
          simp only [List.length_map] at h1 h2 h3
          omega
        have ha160 : aa.length ≤ 160 := by omega
        have hb160 : bb.length ≤ 160 := by omega
        have HSA := Lib.hid hsa
        clear hsa HSUM HAA HBB HRA HRB O1 O2 hb46 hB1 hb5 hb6 hbw HW HKO hbz
        go_upto_region 13 with fail
        go_loop [11, 50] (fun _ i => ∃ k : Nat, k ≤ aa.length ∧ i = .int .i64 k) (fun _ i => aa.length - (intOf i).toNat)
        case atStart => exact ⟨0, Nat.zero_le _, rfl⟩
        case round =>
          obtain ⟨k, hk, rfl⟩ := hrel
          by_cases hlt : k < aa.length
          · obtain ⟨g, x, rfl, hc, hx⟩ := RKA.out k hlt
            obtain rfl : x = kn := by simpa using hx
            clear hx
            go_wp2
            go_round
            case rel => exact ⟨k + 1, by omega, by go_num⟩
            case measure => simp [intOf]; omega
          · clear RKA
            go_upto_region 19 with fail
            clear hk hlt
            go_loop [12, 63] (fun _ i => ∃ k : Nat, k ≤ bb.length ∧ i = .int .i64 k) (fun _ i => bb.length - (intOf i).toNat)
            case atStart => exact ⟨0, Nat.zero_le _, rfl⟩
            case round =>
              obtain ⟨k, hk, rfl⟩ := hrel
              by_cases hlt : k < bb.length
              · obtain ⟨g, x, rfl, hc, hx⟩ := RKB.out k hlt
                have hne : (x == (kn : Int)) = false := by simpa using HMO.out x hx
                clear hx
                go_wp2
                go_round
                case rel => exact ⟨k + 1, by omega, by go_num⟩
                case measure => simp [intOf]; omega
              · clear RKB
                go_upto_region 24 with fail
                clear hk hlt
                have hsB : ((aa.length : Int) + bb.length == acc.length) = true := by have := HSA.out; simp; omega
                have HRA2 := fun W (hb : Below w2.heap.size w2 W) => HR2.out.below hb
                have O3 := Lib.hid (fun W A8 c8 (hb : Below w2.heap.size w2 W) (ho : W.ownsRow w2.heap.size 3 1 (.slice A8 (os.length + 1) c8) (os.length + 1) ((os ++ [(kn : Int)]).map (Value.int .i64))) =>
                  (show Calls Tryd.prog 16 #[.slice A acc.length cap, .slice A8 (os.length + 1) c8] W (OfTo (os ++ [(kn : Int)]) (acc.map er) W) by
                    have e : (os ++ [(kn : Int)]).length = os.length + 1 := by simp
                    have h := Of_any acc A cap (os ++ [(kn : Int)]) A8 c8 W (HRA2 W hb) (kAt_of (by rw [e]; exact ho)) (by omega) (by rw [e]; exact own_cap ho) (by omega) hcap HLL.out
                    rw [e] at h
                    exact h))
                have O4 := Lib.hid (fun W (hb : Below w2.heap.size w2 W) => Of_any acc A cap [] none 0 W (HRA2 W hb) (fun j hj => by simp at hj) (by simp) (by simp) (by omega) hcap HLL.out)
                have O5 := Lib.hid (fun W (hb : Below w2.heap.size w2 W) => Of_any acc A cap [0, 12] (some ⟨W.heap.size, 0, none⟩) 2 (W.alloc (.cells #[.int .i64 0, .int .i64 12] 3)) (HRA2 _ (hb.alloc hb.size _)) (kAt_new W [0, 12]) (by simp) (by simp) (by omega) hcap HLL.out)
                have O6 := Lib.hid (fun W => Of_any [] none 0 [1] (some ⟨W.heap.size, 0, none⟩) 1 (W.alloc (.cells #[.int .i64 1] 3)) (fun j hj => by simp at hj) (kAt_new W [1]) (by simp) (by simp) (by simp) (by simp) (fun x hx => by simp at hx))
                have RU := Lib.hid (fun W cc Ac cc' base (hb : Below w2.heap.size w2 W) (hr : RowsAt W base (.slice Ac cc.length cc') cc) (he : cc.map er = acc.map er) =>
                  Rules_any cc acc Ac A cc' cap W (rIn_of hr) (HRA2 W hb) he (by have := congrArg List.length he; simp only [List.length_map] at this; omega)
                    (fun x hx => (HRU.out (er x) (by rw [← he]; exact List.mem_map_of_mem hx)).1) (own_cap hr.1) hcap)
                have N4 := Lib.hid (filter_none (ks := []) HRU.out (fun k hk => by simp at hk))
                have N5 := Lib.hid (filter_none (ks := [0, 12]) HRU.out (fun k hk => by simp at hk; omega))
                clear HRA2
                have tok3 : True := trivial
                have tok4 : True := trivial
                have tok5 : True := trivial
                go_wp2_with (first
                  | (at_builtin; refine wpList_append_when _ (by first | rfl | simp [Region.wanted, yielded]) (.tmp 84) (.tmp 86) 36 rfl w2.heap.size 3 i0 _ 1 8 Tryd.underlying36 hi hz0 hz1 hz2 rfl (by decide) _ _ _ rfl (HW6.out.alloc _) ⟨w6.heap.size, 0, none⟩ 1 1 [.int .i64 (kn : Int)] rfl rfl (cells_new _ _ _) (by intro u hu; simp at hu; subst hu; rfl) (by unfold maxLen; omega) (by omega) (by have := HB6.out.size; simp; omega) ?_; intro v7 w7 hown7 hg7; obtain ⟨A8, c8, rfl⟩ := own_slice hown7; have hB7 : Below w2.heap.size w2 w7 := (HB6.out.alloc HB6.out.size _).grown hg7 (by have := HB6.out.size; simp; omega) (fun g hg => (HW6.out.lt g hg).1))
                  | (have _t := tok3; go_at_call 16; refine (O3.out w7 A8 c8 hB7 (by simpa using hown7)).mono ?_; rintro e w8 ⟨v8, cc, rfl, hcc, hRc, hb8⟩; obtain ⟨Ac, cc', rfl⟩ := own_slice hRc.1; have hB8 := below_then hB7 hb8 hB7.size; have hcc2 := hcc.trans HFA.out; have hKU := Lib.hid (RU.out w8 cc Ac cc' _ hB8 hRc hcc2); clear hcc hcc2 hRc hown7 hg7 tok3 _t)
                  | (go_at_call 13; refine hKU.out.mono ?_; rintro e w9 ⟨rfl, hb9⟩; have hB9 := below_then hB8 hb9 hB8.size)
                  | (have _t := tok4; go_at_call 16; refine (O4.out w9 hB9).mono ?_; rintro e w10 ⟨v10, dd, rfl, hdd, hRd, hb10⟩; obtain ⟨Ad, cd, rfl⟩ := own_slice hRd.1; have hB10 := below_then hB9 hb10 hB9.size; obtain rfl : dd = [] := List.map_eq_nil_iff.1 (hdd.trans N4.out); clear hdd hRd tok4 _t)
                  | (have _t := tok5; go_at_call 16; refine (O5.out w10 hB10).mono ?_; rintro e w11 ⟨v11, ee, rfl, hee, hRe, hb11⟩; obtain ⟨Ae, ce, rfl⟩ := own_slice hRe.1; have hB11 := below_then (hB10.alloc hB10.size _) hb11 (by have := hB10.size; simp; omega); obtain rfl : ee = [] := List.map_eq_nil_iff.1 (hee.trans N5.out); clear hee hRe tok5 _t)
                  | (go_at_call 16; refine (O6.out w11).mono ?_; rintro e w12 ⟨v12, ff, rfl, hff, hRf, hb12⟩; obtain ⟨Af, cf, rfl⟩ := own_slice hRf.1; have hB12 := below_then (hB11.alloc hB11.size _) hb12 (by have := hB11.size; simp; omega); obtain rfl : ff = [] := List.map_eq_nil_iff.1 hff; clear hff hRf)
                  | (go_at_call 10; refine (wakes03 _).mono ?_; rintro e w13 ⟨rfl, hb13⟩))
                go_ret
                exact ⟨rfl, below_then HB2.out (below_then hB12 hb13 hB12.size) HB2.out.size⟩
end Go.Proofs.YtgemciecdplcgaaDoor
