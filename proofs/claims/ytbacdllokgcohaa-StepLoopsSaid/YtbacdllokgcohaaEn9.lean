/-
  Package enter: Remember.
-/
import Derived.Test.YtbacdllokgcohaaEl5
import Derived.Laws.CopyOwn
import Derived.Laws.MakeOwn
namespace Go.Proofs.Ytbacdllokgcohaa
set_option maxRecDepth 100000
open Go.ChangeShapes Go.WideShapes Go.ChangeAt Go.RowKit

section
variable {ks ps : List Int} {n : Nat}
/-- what is remembered once a state is left -/
def rem1 (ks ps : List Int) (n s : Nat) (M : List Nat) (p : Nat) : List Nat := if keepsB ks ps n p = true then M.set p (setN (insL ps s p n)) else M
def rememL (ks ps : List Int) (n s : Nat) (M : List Nat) (l : List Nat) : List Nat := l.foldl (rem1 ks ps n s) M
theorem rem1_len (s p : Nat) (M : List Nat) : (rem1 ks ps n s M p).length = M.length := by unfold rem1; split <;> simp
theorem rememL_len (s : Nat) : ∀ (l M : List Nat), (rememL ks ps n s M l).length = M.length
  | [], _ => rfl
  | p :: l, M => by
    show (rememL ks ps n s (rem1 ks ps n s M p) l).length = _
    rw [rememL_len s l, rem1_len]
theorem rememL_snoc (s : Nat) (M l : List Nat) (p : Nat) : rememL ks ps n s M (l ++ [p]) = rem1 ks ps n s (rememL ks ps n s M l) p := by unfold rememL; rw [List.foldl_append]; rfl
theorem rem1_getD (s p i : Nat) {M : List Nat} (hp : p < M.length) : (rem1 ks ps n s M p).getD i 0 = if i = p ∧ keepsB ks ps n p = true then setN (insL ps s p n) else M.getD i 0 := by
  unfold rem1
  by_cases hk : keepsB ks ps n p = true
  · rw [if_pos hk]
    simp only [List.getD_eq_getElem?_getD, List.getElem?_set]
    by_cases e : p = i
    · subst e; simp [hp, hk]
    · rw [if_neg e, if_neg (by rintro ⟨h, _⟩; exact e h.symm)]
  · rw [if_neg hk, if_neg (by rintro ⟨_, h⟩; exact hk h)]
theorem rememL_getD (s i : Nat) : ∀ (l M : List Nat), (∀ p ∈ l, p < M.length) → (rememL ks ps n s M l).getD i 0 = if i ∈ l ∧ keepsB ks ps n i = true then setN (insL ps s i n) else M.getD i 0
  | [], M, _ => by simp [rememL]
  | p :: l, M, h => by
    show (rememL ks ps n s (rem1 ks ps n s M p) l).getD i 0 = _
    rw [rememL_getD s i l _ (fun q hq => by rw [rem1_len]; exact h q (List.mem_cons_of_mem _ hq)), rem1_getD s p i (h p List.mem_cons_self)]
    by_cases hm : i ∈ l
    · by_cases hk : keepsB ks ps n i = true
      · rw [if_pos ⟨hm, hk⟩, if_pos ⟨List.mem_cons_of_mem _ hm, hk⟩]
      · rw [if_neg (fun h => hk h.2), if_neg (by rintro ⟨rfl, h⟩; exact hk h), if_neg (fun h => hk h.2)]
    · rw [if_neg (fun h => hm h.1)]
      by_cases e : i = p
      · subst e
        by_cases hk : keepsB ks ps n i = true
        · rw [if_pos ⟨rfl, hk⟩, if_pos ⟨List.mem_cons_self, hk⟩]
        · rw [if_neg (fun h => hk h.2), if_neg (fun h => hk h.2)]
      · rw [if_neg (fun h => e h.1), if_neg (fun h => by
          rcases List.mem_cons.1 h.1 with h1 | h1
          · exact e h1
          · exact hm h1)]
theorem ins_lt (ps : List Int) (s : Nat) (t : Int) (n : Nat) : ∀ k ∈ insL ps s t n, k < n := fun k hk => by
  unfold insL at hk
  exact List.mem_range.1 (List.mem_filter.1 hk).1
theorem rem1_lt {s p : Nat} {M : List Nat} (h : ∀ x ∈ M, x < 2 ^ n) : ∀ x ∈ rem1 ks ps n s M p, x < 2 ^ n := fun x hx => by
  unfold rem1 at hx
  split at hx
  · rcases List.mem_or_eq_of_mem_set hx with h1 | h1
    · exact h x h1
    · rw [h1]; exact setN_lt (ins_lt ps s p n)
  · exact h x hx
theorem rememL_lt {s : Nat} : ∀ (l M : List Nat), (∀ x ∈ M, x < 2 ^ n) → ∀ x ∈ rememL ks ps n s M l, x < 2 ^ n
  | [], _, h => h
  | p :: l, M, h => rememL_lt l (rem1 ks ps n s M p) (rem1_lt h)
/-- a list, as long as there are states -/
def padL (n : Nat) (rs : List Nat) : List Nat := rs ++ List.replicate (n - rs.length) 0
theorem padL_len {rs : List Nat} (h : rs.length ≤ n) : (padL n rs).length = n := by unfold padL; rw [List.length_append, List.length_replicate]; omega
theorem padL_lt {rs : List Nat} (h : ∀ x ∈ rs, x < 2 ^ n) : ∀ x ∈ padL n rs, x < 2 ^ n := fun x hx => by
  unfold padL at hx
  rcases List.mem_append.1 hx with h1 | h1
  · exact h x h1
  · rw [(List.mem_replicate.1 h1).2]; exact Nat.two_pow_pos n
end
theorem own_rowU {w : World} {base g : Nat} {M : List Nat} (hb : base ≤ g) (hg : w.heap[g]? = some (.cells (ucl M).toArray 33 (0, 0))) (hm : M.length ≤ 1000) : OwnU w base (.slice (some ⟨g, 0, none⟩) M.length M.length) M := by
  refine ⟨by rw [ucl_len, Nat.mul_one], .inr ⟨g, M.length, (ucl M).toArray, rfl, hb, hg, Nat.le_refl _, by unfold maxLen; omega, by simp [ucl_len], ?_⟩⟩
  have : M.length * 1 = (ucl M).length := by rw [ucl_len, Nat.mul_one]
  rw [this]
  simp
theorem ucl_set (M : List Nat) (i x : Nat) : ucl (M.set i x) = (ucl M).set i (.int .u32 (x : Int)) := by simp [ucl, List.map_set]
theorem ownU_cell {w : World} {base g c : Nat} {M : List Nat} {m : Nat} (h : OwnU w base (.slice (some ⟨g, 0, none⟩) m c) M) {k : Nat} (hk : k < M.length) : w.cell? ⟨g, k, none⟩ = some (.int .u32 (M[k] : Nat)) := by
  obtain ⟨g', cap', e', _, _, _, hc⟩ := own_form h (by omega)
  injection e' with e1
  injection e1 with e1
  injection e1 with e1
  subst e1
  exact hc _ _ (ucl_at M k hk)
theorem mk_u32 (n : Nat) (hn : n ≤ 1000) (W : World) : (Instr.makeSlice 34 (.int .i64 n) (.int .i64 n)).run Try.prog W = .ok (.slice (some ⟨W.heap.size, 0, none⟩) n n) (W.alloc (.cells (Array.replicate n (Value.int .u32 0)) 33)) := by
  obtain ⟨i0, hi, hz0, hz1, hz2⟩ := info_parts Try.infoU5
  have h := run_make (P := Try.prog) W 34 33 i0 _ Try.underlying34 hi hz0 .i64 .i64 (n : Int) (n : Int) (by omega) (Int.le_refl _) (by rw [hz2]; omega) (by omega)
  rw [h, Int.toNat_natCast, hz1, Nat.mul_one]
  congr 3
  apply Array.ext
  · simp [madeCells]
  · intro j h1 h2
    simp [madeCells, Value.cells, Nat.mod_one]
def RemTo (n : Nat) (M : List Nat) (w : World) (e : Ending) (w' : World) : Prop := ∃ g, e = .returned (.slice (some ⟨g, 0, none⟩) n n) ∧ U32sAt w' (.slice (some ⟨g, 0, none⟩) n n) M ∧ Below w.heap.size w w'
/-- the same, and that the list is new -/
def RemToB (n : Nat) (M : List Nat) (w : World) (e : Ending) (w' : World) : Prop := ∃ g, e = .returned (.slice (some ⟨g, 0, none⟩) n n) ∧ w.heap.size ≤ g ∧ U32sAt w' (.slice (some ⟨g, 0, none⟩) n n) M ∧ Below w.heap.size w w'
section
variable {ks ps : List Int} {A B : Option Addr} {n c d : Nat}
set_option maxHeartbeats 4000000 in
theorem Remember_B (s : Nat) (AL : Option Addr) (cL : Nat) (L : List Nat) (v : Value) (rs : List Nat) (w : World) (h : IntsAt w (.slice A n c) ks ∧ IntsAt w (.slice B n d) ps) (hf : ShF ks ps n) (h0 : 0 < n) (hn : n ≤ 24) (hs : s < 4294967296)
    (hL : IntsAt w (.slice AL L.length cL) (L.map fun k : Nat => (k : Int))) (hLn : ∀ k ∈ L, k < n) (hLl : L.length ≤ 1000) (hu : U32sAt w v rs) (hrl : rs.length ≤ n) (hrs : ∀ x ∈ rs, x < 2 ^ n) :
    Calls Try.prog 67 #[.agg #[.slice A n c, .slice B n d], .int .u32 s, .slice AL L.length cL, v] w (RemToB n (rememL ks ps n s (padL n rs) L) w) := by
  obtain ⟨A7, c7, rfl⟩ := u32s_form hu
  have x0 := box_0 w 25 (.slice A n c) (.slice B n d)
  have x1 := box_1 w 25 (.slice A n c) (.slice B n d)
  have hz := box_b w (.cells #[.slice A n c, .slice B n d] 25)
  have hlt0 : w.heap.size < (w.alloc (.cells #[.slice A n c, .slice B n d] 25)).heap.size := by simp
  have S1 := Lib.hid (shp_below h hz)
  have HU := Lib.hid (hu.below hz)
  have HLi := Lib.hid (hL.below hz)
  have HZ := Lib.hid hz
  have HF := Lib.hid hf
  have HLn := Lib.hid hLn
  have HRS := Lib.hid hrs
  have HMK := Lib.hid (mk_u32 n (by omega))
  clear h hz hf hu hL hLn hrs
  go_enter Try.func67, Try.ntmps67
  go_upto_region 1 with (fail)
  generalize w.alloc (.cells #[.slice A n c, .slice B n d] 25) = w0 at *
  have VA := Lib.hid (val_any w0 S1.out HF.out h0 hn)
  have RM := Lib.hid (fun W (hW : Below w0.heap.size w0 W) (p : Nat) => remembers_any (p : Int) W (shp_below S1.out hW) HF.out h0 hn)
  have ID := Lib.hid (fun W (hW : Below w0.heap.size w0 W) (p : Nat) => inside_any s (p : Int) W (shp_below S1.out hW) HF.out hn hs)
  go_upto_region 3 with (go_at_call 55; refine VA.out.mono ?_; rintro e w1 ⟨rfl, hb1⟩)
  have HB1 := Lib.hid hb1
  have hbs1 := hb1.size
  have y0 := (hb1.cell (p := ⟨w.heap.size, 0, none⟩) hlt0).trans x0
  have y1 := (hb1.cell (p := ⟨w.heap.size, 1, none⟩) hlt0).trans x1
  have hmk := HMK.out w1
  have hrow : (w1.alloc (.cells (Array.replicate n (Value.int .u32 0)) 33)).heap[w1.heap.size]? = some (.cells (List.replicate n (Value.int .u32 0)).toArray 33 (0, 0)) := by rw [List.toArray_replicate]; exact heap_alloc_new w1 _
  have HRW := Lib.hid hrow
  have hB2 : Below w0.heap.size w0 (w1.alloc (.cells (Array.replicate n (Value.int .u32 0)) 33)) := hb1.alloc hbs1 _
  have HB2 := Lib.hid hB2
  have U2 := Lib.hid (HU.out.below hB2)
  have hminn : Nat.min rs.length n = rs.length := Nat.min_eq_left hrl
  clear hb1 hrow hB2
  go_upto_region 4 with (fail)
  clear hmk
  generalize w1.alloc (.cells (Array.replicate n (Value.int .u32 0)) 33) = w2 at *
  have hsz1 : (Try.prog.info? 33).map (·.size) = some 1 := by kernel_rfl
  obtain ⟨X1, hX1⟩ : ∃ X1, X1 = ucl rs := ⟨_, rfl⟩
  have HX1 := Lib.hid hX1
  have hXl : X1.length = rs.length := by rw [hX1, ucl_len]
  have hXo : ∀ u ∈ X1, u.oneCell' = true := by rw [hX1]; exact ucl_one rs
  have hXc : 0 < X1.length → ∃ ad, A7 = some ad ∧ ∀ j u, X1[j]? = some u → w2.cell? (ad.add j) = some u := fun hp => by
    rw [hX1, ucl_len] at hp
    obtain ⟨b, off, e, hb, hx, _⟩ := u32s_cell U2.out (k := 0) hp
    refine ⟨⟨b, off, none⟩, e, fun j u hu => ?_⟩
    have hj : j < rs.length := by
      have := (List.getElem?_eq_some_iff.1 hu).1
      rw [hX1, ucl_len] at this
      exact this
    obtain ⟨b', off', e', _, hx', _⟩ := u32s_cell U2.out (k := j) hj
    rw [e] at e'
    injection e' with e'
    injection e' with e1 e2
    subst e1; subst e2
    rw [Go.WideShapes.add_plain, hx', ← hu, hX1, ucl_at rs j hj]
    simp [List.getD_eq_getElem?_getD, hj]
  have HXL := Lib.hid hXl
  have HXO := Lib.hid hXo
  have HXC := Lib.hid hXc
  clear hX1 hXl hXo hXc
  go_wp2_with ((with_reducible show wpList _ _ _ _ _ _); refine wpList_copy_splice (o := ⟨some 21, _, _, _, _, _⟩) rfl _ _ _ _ rfl 33 Try.underlying34 hsz1 _ _ _ _ _ _ rfl rfl w1.heap.size 0 (List.replicate n (Value.int .u32 0)) 33 HRW.out X1 (by rw [HXL.out]; exact hminn.symm) (fun hp => ⟨rfl, HXC.out hp⟩) (by rw [HXL.out, List.length_replicate]; omega) HXO.out w0.heap.size w0 HB2.out hbs1 ?_; intro w3 HG3 hB3)
  have hsp : splice (List.replicate n (Value.int .u32 0)) 0 X1 = ucl (padL n rs) := by
    rw [HX1.out]
    unfold splice padL ucl
    rw [List.take_zero, List.nil_append, Nat.zero_add, List.length_map, List.drop_replicate, List.map_append, List.map_replicate]
    rfl
  have hPL : (padL n rs).length = n := padL_len hrl
  have HO0 : Hid (OwnU w3 w0.heap.size (.slice (some ⟨w1.heap.size, 0, none⟩) n n) (padL n rs)) := by
    have h9 := HG3.out
    rw [hsp] at h9
    have := own_rowU (w := w3) hbs1 h9 (by omega)
    rw [hPL] at this
    exact this
  have HPL := Lib.hid hPL
  have HB3 := Lib.hid hB3
  have HRL : Hid (∀ l, (rememL ks ps n s (padL n rs) l).length = n) := fun l => by rw [rememL_len, HPL.out]
  have HRT : Hid (∀ l, ∀ x ∈ rememL ks ps n s (padL n rs) l, x < 2 ^ n) := fun l => rememL_lt l _ (padL_lt HRS.out)
  have SNOC : Hid (∀ j (hj : j < L.length), rememL ks ps n s (padL n rs) (L.take (j + 1)) = rem1 ks ps n s (rememL ks ps n s (padL n rs) (L.take j)) L[j]) := fun j hj => by
    rw [List.take_succ_eq_append_getElem hj, rememL_snoc]
  clear hsp hPL hB3 HG3 HX1 HXL HXO HXC HRW
  generalize w1.heap.size = g at *
  generalize padL n rs = M0 at *
  go_loopw [24] (fun i wr => ∃ j : Nat, j ≤ L.length ∧ i = .int .i64 j ∧ Hid (OwnU wr w0.heap.size (.slice (some ⟨g, 0, none⟩) n n) (rememL ks ps n s M0 (L.take j))) ∧ Hid (Below w0.heap.size w0 wr)) (fun i _ => L.length - (intOf i).toNat)
  case atStart => exact ⟨0, Nat.zero_le _, rfl, HO0.out, HB3.out⟩
  case round =>
    obtain ⟨j, hj, rfl, HO, HB⟩ := hrel
    have z0 := (HB.out.cell (p := ⟨w.heap.size, 0, none⟩) hlt0).trans x0
    have z1 := (HB.out.cell (p := ⟨w.heap.size, 1, none⟩) hlt0).trans x1
    have hbz := HB.out.size
    have hrl2 := HRL.out (L.take j)
    by_cases hlt : j < L.length
    · have hji : (j : Int) < L.length := by omega
      obtain ⟨b9, off9, rfl, hb9, hx9⟩ := nat_cell (HLi.out.below HB.out) hlt
      have hsn := SNOC.out j hlt
      have hpn := HLn.out _ (List.getElem_mem hlt)
      have hpi : (L[j] : Int) < n := by omega
      have RMp := Lib.hid (RM.out wr HB.out L[j])
      have IDp := Lib.hid (fun W (hW : Below w0.heap.size w0 W) => ID.out W hW L[j])
      have hR1 : rem1 ks ps n s (rememL ks ps n s M0 (L.take j)) L[j] = if keepsB ks ps n L[j] = true then (rememL ks ps n s M0 (L.take j)).set L[j] (setN (insL ps s L[j] n)) else rememL ks ps n s M0 (L.take j) := rfl
      rw [hR1] at hsn
      have HIL := Lib.hid (ins_lt ps s (L[j] : Nat) n)
      have hill := insL_len ps s (L[j] : Nat) n
      clear hR1
      generalize hkb : keepsB ks ps n L[j] = kb at *
      have HKB := Lib.hid hkb
      clear hkb HKB
      generalize L[j] = p at *
      cases kb
      · rw [if_neg (by simp)] at hsn
        have HNw : Hid (∀ W, Below wr.heap.size wr W → OwnU W w0.heap.size (.slice (some ⟨g, 0, none⟩) n n) (rememL ks ps n s M0 (L.take (j + 1)))) := fun W hW => by rw [hsn]; exact own_below HO.out hW hbz
        clear hsn
        go_wp2_with (go_at_call 104; refine RMp.out.mono ?_; rintro e w4 ⟨rfl, hb4⟩)
        go_roundw
        case rel => exact ⟨j + 1, by omega, by go_num, HNw.out _ hb4, below_then HB.out hb4 hbz⟩
        case measure => simp [intOf]; omega
      · rw [if_pos rfl] at hsn
        have HSN := Lib.hid hsn
        clear hsn
        generalize rememL ks ps n s M0 (L.take j) = M at *
        generalize insL ps s p n = IL at *
        have hIL32 : ∀ k ∈ IL, k < 32 := fun k hk => by have := HIL.out k hk; omega
        have HI32 := Lib.hid hIL32
        have hst32 : setN IL < 4294967296 := setN_lt (n := 32) hIL32
        clear hIL32
        go_wp2_with (first
          | (go_at_call 104; refine RMp.out.mono ?_; rintro e w4 ⟨rfl, hb4⟩; have HB4 := Lib.hid (below_then HB.out hb4 hbz); have HO4 := Lib.hid (own_below HO.out hb4 hbz); have y40 := (HB4.out.cell (p := ⟨w.heap.size, 0, none⟩) hlt0).trans x0; have y41 := (HB4.out.cell (p := ⟨w.heap.size, 1, none⟩) hlt0).trans x1; clear hb4)
          | (go_at_call 102; (refine (IDp.out _ HB4.out).mono ?_; rintro e w5 ⟨v5, rfl, hO5, hb5⟩; have HB5 := Lib.hid (below_then HB4.out hb5 HB4.out.size); have HO5 : Hid (OwnU w5 w0.heap.size (.slice (some ⟨g, 0, none⟩) n n) M) := (own_below HO4.out hb5 HB4.out.size); obtain ⟨A5, c5, rfl, hi5⟩ := kids_ints hO5 (fun k hk => by have := HIL.out k hk; omega) (by omega); have UNI := Lib.hid (union_any IL c5 w5 hi5 HI32.out); have c6 := ownU_cell HO5.out (k := p) (by omega); have HO5x : w5.ownsRow w0.heap.size 33 1 (.slice (some ⟨g, 0, none⟩) n n) n (ucl M) := (by have h8 := HO5.out; unfold OwnU at h8; rw [hrl2] at h8; exact h8); have f6 := World.ownsRow.frozenAt HO5x p; have hg5 := (World.ownsRow.lt HO5x g rfl); have HOX := Lib.hid HO5x; clear hb5 hO5 hi5 HO5x))
          | (go_at_call 105; refine UNI.out.mono ?_; rintro e w6 ⟨rfl, rfl⟩))
        have HNw : Hid (OwnU (w5.setCell ⟨g, p, none⟩ (.int .u32 (setN IL : Nat))) w0.heap.size (.slice (some ⟨g, 0, none⟩) n n) (rememL ks ps n s M0 (L.take (j + 1)))) := by
          show World.ownsRow _ _ _ _ _ _ _
          rw [HSN.out, List.length_set, ucl_set, hrl2]
          exact (World.ownsRow.stored HOX.out p (.int .u32 (setN IL : Nat))).1
        have HB6 := Lib.hid (set_below (k := p) (u := .int .u32 (setN IL : Nat)) HB5.out HB5.out.size hg5.1)
        go_roundw
        case rel => exact ⟨j + 1, by omega, by go_num, HNw, HB6⟩
        case measure => simp [intOf]; omega
    · have e : j = L.length := by omega
      subst e
      rw [List.take_length] at HO hrl2
      have HUA : Hid (U32sAt wr (.slice (some ⟨g, 0, none⟩) n n) (rememL ks ps n s M0 L)) := OwnU.at HO.out (fun x hx => Nat.lt_of_lt_of_le (HRT.out L x hx) (Nat.pow_le_pow_right (n := 2) (by omega) (show n ≤ 32 by omega))) (by omega)
      go_wp2
      go_ret
      exact ⟨g, rfl, by omega, HUA.out, below_then HZ.out HB.out HZ.out.size⟩
theorem Remember_any (s : Nat) (AL : Option Addr) (cL : Nat) (L : List Nat) (v : Value) (rs : List Nat) (w : World) (h : IntsAt w (.slice A n c) ks ∧ IntsAt w (.slice B n d) ps) (hf : ShF ks ps n) (h0 : 0 < n) (hn : n ≤ 24) (hs : s < 4294967296)
    (hL : IntsAt w (.slice AL L.length cL) (L.map fun k : Nat => (k : Int))) (hLn : ∀ k ∈ L, k < n) (hLl : L.length ≤ 1000) (hu : U32sAt w v rs) (hrl : rs.length ≤ n) (hrs : ∀ x ∈ rs, x < 2 ^ n) :
    Calls Try.prog 67 #[.agg #[.slice A n c, .slice B n d], .int .u32 s, .slice AL L.length cL, v] w (RemTo n (rememL ks ps n s (padL n rs) L) w) :=
  (Remember_B s AL cL L v rs w h hf h0 hn hs hL hLn hLl hu hrl hrs).mono fun _ _ h => let ⟨g, e, _, h1, h2⟩ := h; ⟨g, e, h1, h2⟩
end
end Go.Proofs.Ytbacdllokgcohaa
