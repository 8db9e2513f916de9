/-
  The shapes that the statements are made of: what is known of them.
-/
import Derived.Test.YtaolebdcmdmnjaaOwnI
import Derived.Test.YtaolebdcmdmnjaaWth
import Derived.Deep.AppendLies
import Derived.Deep.CutBlock
import Derived.Maps.Range
namespace Go.Proofs.Ytaolebdcmdmnjaa
set_option maxRecDepth 100000
open Go.ChangeShapes Go.WideShapes Go.ChangeAt Go.RowKit

/-- kinds and parents that may be -/
def ShOk (ks ps : List Int) : Prop := ks.length = ps.length ∧ (∀ k, k < ks.length → 1 ≤ ks.getD k 0 ∧ ks.getD k 0 ≤ 4) ∧ (∀ k, k < ks.length → -1 ≤ ps.getD k 0 ∧ ps.getD k 0 < k) ∧ hl ks 0 = true
theorem getD_snoc (l : List Int) (x : Int) (k : Nat) : (l ++ [x]).getD k 0 = if k < l.length then l.getD k 0 else if k = l.length then x else 0 := by
  simp only [List.getD_eq_getElem?_getD]
  split
  · rename_i h; rw [List.getElem?_append_left h]
  · split
    · rename_i h1 h2; subst h2; simp
    · rename_i h1 h2; rw [List.getElem?_append_right (by omega)]; rw [List.getElem?_eq_none (by simp; omega)]; rfl
theorem hl_snoc {l : List Int} {x : Int} (h : 0 < l.length) : hl (l ++ [x]) 0 = hl l 0 := by
  unfold hl
  rw [getD_snoc, if_pos h]
theorem ShOk.snoc {ks ps : List Int} (h : ShOk ks ps) (h0 : 0 < ks.length) {y p : Int} (hy : 1 ≤ y ∧ y ≤ 4) (hp : -1 ≤ p ∧ p < ks.length) : ShOk (ks ++ [y]) (ps ++ [p]) := by
  obtain ⟨h1, h2, h3, h4⟩ := h
  refine ⟨by simp [h1], fun k hk => ?_, fun k hk => ?_, by rw [hl_snoc h0]; exact h4⟩
  · rw [List.length_append, List.length_singleton] at hk
    rw [getD_snoc]
    by_cases e : k < ks.length
    · rw [if_pos e]; exact h2 k e
    · rw [if_neg e, if_pos (by omega)]; exact hy
  · rw [List.length_append, List.length_singleton] at hk
    rw [getD_snoc]
    by_cases e : k < ks.length
    · rw [if_pos (by omega)]; exact h3 k e
    · rw [if_neg (by omega), if_pos (by omega)]; omega
theorem okI_snoc {l : List Int} (h : okI l) {x : Int} (hx : (Lit.int .i64 x).wf = true) : okI (l ++ [x]) := fun y hy => by
  rcases List.mem_append.1 hy with h1 | h1
  · exact h _ h1
  · rw [List.mem_singleton.1 h1]; exact hx
theorem wf_quo {x : Int} {n : Nat} (hx : (Lit.int .i64 x).wf = true) (hn : 1 ≤ n) : (Lit.int .i64 (x.tdiv n)).wf = true := by
  have hb := bounds_i64 hx
  have h1 : (x.tdiv n).natAbs ≤ x.natAbs := by
    rw [Int.natAbs_tdiv]
    exact Nat.div_le_self _ _
  have hlo : -9223372036854775808 ≤ x.tdiv n := by omega
  have hhi : x.tdiv n ≤ 9223372036854775807 := by
    by_cases h0 : 0 ≤ x
    · omega
    · have : x.tdiv n ≤ 0 := by
        have e : x.tdiv n = -((-x).tdiv n) := by rw [Int.neg_tdiv]; omega
        have := Int.tdiv_nonneg (a := -x) (b := (n : Int)) (by omega) (by omega)
        omega
      omega
  have hw : IntKind.i64.wrap (x.tdiv n) = x.tdiv n := by rw [IntKind.wrap_i64]; omega
  simp only [Lit.wf, hw]
  simp
  have e : IntKind.i64.min = -9223372036854775808 := by kernel_rfl
  rw [e]; omega
theorem wf_near {x : Int} (h1 : -1000000 ≤ x) (h2 : x ≤ 1000000) : (Lit.int .i64 x).wf = true := by
  have : IntKind.i64.wrap x = x := by rw [IntKind.wrap_i64]; omega
  simp only [Lit.wf, this]
  simp
  have e : IntKind.i64.min = -9223372036854775808 := by kernel_rfl
  rw [e]; omega
/-- two rows of the call's own, in two blocks -/
def TwoAt (w : World) (base g c g' c' : Nat) (ks ps : List Int) : Prop := g ≠ g' ∧ OwnI w base (.slice (some ⟨g, 0, none⟩) ks.length c) ks ∧ OwnI w base (.slice (some ⟨g', 0, none⟩) ps.length c') ps
theorem own_cell {w : World} {base g c : Nat} {l : List Int} (h : OwnI w base (.slice (some ⟨g, 0, none⟩) l.length c) l) {k : Nat} (hk : k < l.length) : w.cell? ⟨g, k, none⟩ = some (.int .i64 (l.getD k 0)) := by
  have e : l.getD k 0 = l[k] := by simp [List.getD_eq_getElem?_getD, hk]
  obtain ⟨g', cap', e', _, _, _, hc⟩ := own_form h (by omega)
  injection e' with e1
  injection e1 with e1
  injection e1 with e1
  subst e1
  rw [e]; exact hc _ _ (icells_at l k hk)
theorem TwoAt.frozen {w : World} {base g c g' c' : Nat} {ks ps : List Int} (h : TwoAt w base g c g' c' ks ps) (j : Nat) : w.frozen? ⟨g, j, none⟩ = false := World.ownsRow.frozenAt h.2.1 j
theorem TwoAt.base {w : World} {base g c g' c' : Nat} {ks ps : List Int} (h : TwoAt w base g c g' c' ks ps) : base ≤ g := (World.ownsRow.lt h.2.1 g rfl).1
theorem icells_put (l : List Int) (k : Nat) (x : Int) : icells (l.set k x) = (icells l).set k (.int .i64 x) := by simp [icells, List.map_set]
theorem TwoAt.store {w : World} {base g c g' c' : Nat} {ks ps : List Int} (h : TwoAt w base g c g' c' ks ps) {i : Nat} {x : Int} (_ : i < ks.length) : TwoAt (w.setCell ⟨g, i, none⟩ (.int .i64 x)) base g c g' c' (ks.set i x) ps := by
  refine ⟨h.1, ?_, World.ownsRow.kept h.2.2 (grown_setCell w g i _) (.inr fun e => h.1 (Option.some.inj e).symm)⟩
  unfold OwnI
  rw [List.length_set, icells_put]
  exact (World.ownsRow.stored h.2.1 i (.int .i64 x)).1
theorem okI_set {l : List Int} (h : okI l) (k : Nat) {x : Int} (hx : (Lit.int .i64 x).wf = true) : okI (l.set k x) := fun y hy => by
  rcases List.mem_or_eq_of_mem_set hy with h1 | h1
  · exact h _ h1
  · rw [h1]; exact hx
theorem set_below {B : Nat} {a w : World} {g k : Nat} {u : Value} (h : Below B a w) (hB : B ≤ w.heap.size) (hg : B ≤ g) : Below B a (w.setCell ⟨g, k, none⟩ u) :=
  h.grown (grown_setCell w g k u) hB (fun j e => by injection e with e; omega)
theorem getD_set (l : List Int) (i k : Nat) (x : Int) : (l.set i x).getD k 0 = if k = i ∧ i < l.length then x else l.getD k 0 := by
  simp only [List.getD_eq_getElem?_getD, List.getElem?_set]
  by_cases e : i = k
  · subst e
    by_cases h : i < l.length
    · simp [h]
    · simp [h]
  · rw [if_neg e, if_neg (by rintro ⟨h, _⟩; exact e h.symm)]
theorem ShOk.set {ks ps : List Int} (h : ShOk ks ps) {i : Nat} {x : Int} (hx : 1 ≤ x ∧ x ≤ 4) (h0 : i = 0 → x = 1 ∨ x = 2) : ShOk (ks.set i x) ps := by
  obtain ⟨h1, h2, h3, h4⟩ := h
  refine ⟨by rw [List.length_set]; exact h1, fun k hk => ?_, fun k hk => h3 k (by rwa [List.length_set] at hk), ?_⟩
  · rw [List.length_set] at hk
    rw [getD_set]
    split
    · exact hx
    · exact h2 k hk
  · unfold hl at *
    rw [getD_set]
    split
    · rename_i e
      rcases h0 e.1.symm with e | e <;> rw [e] <;> rfl
    · exact h4
theorem own_new (w : World) (base : Nat) (x : Int) (hb : base ≤ w.heap.size) : OwnI (w.alloc (.cells #[.int .i64 x] 3)) base (.slice (some ⟨w.heap.size, 0, none⟩) 1 1) [x] :=
  World.ownsRow_lit w #[.int .i64 x] 1 hb (by unfold maxLen; omega) rfl
theorem run_cell2 {P : Program} {fn : Func} {p q : Tmp} {ty ty' : TypeId} (h : fn.results = #[.cell p ty, .cell q ty']) (tmps : Array Value) (w : World) (g g' : Nat) (t t' : TypeId) (cs cs' : Array Value) (fr fr' : Nat × Nat) (d d' : TypeDesc)
    (hp : tmps.getD p undef = .pointer (some ⟨g, 0, none⟩)) (hq : tmps.getD q undef = .pointer (some ⟨g', 0, none⟩)) (hg : w.heap[g]? = some (.cells cs t fr)) (hg' : w.heap[g']? = some (.cells cs' t' fr'))
    (hu : P.underlying ty = some d) (hd : (match d with | .struct _ | .array _ _ => true | _ => false) = true) (hi : (P.info? ty).map (·.size) = some cs.size)
    (hu' : P.underlying ty' = some d') (hd' : (match d' with | .struct _ | .array _ _ => true | _ => false) = true) (hi' : (P.info? ty').map (·.size) = some cs'.size) :
    (results fn tmps).run P w = .ok (.tuple #[.agg cs, .agg cs']) w := by
  have hp' : tmps[p]?.getD undef = .pointer (some ⟨g, 0, none⟩) := by simpa using hp
  have hq' : tmps[q]?.getD undef = .pointer (some ⟨g', 0, none⟩) := by simpa using hq
  simp [results, h, hp', hq', asAddr, run_loadVar_row w g t ty cs fr d hg hu hd hi, run_loadVar_row w g' t' ty' cs' fr' d' hg' hu' hd' hi']
theorem own_four {w : World} {b base e n : Nat} {v : Value} {xs : List Value} (h : w.ownsRow base e 1 v n xs) (hb : b + 2 ≤ base) (u0 u1 u2 u3 : Value) :
    ((((w.setCell ⟨b, 0, none⟩ u0).setCell ⟨b, 1, none⟩ u1).setCell ⟨b + 1, 0, none⟩ u2).setCell ⟨b + 1, 1, none⟩ u3).ownsRow base e 1 v n xs := by
  have ne : ∀ g, g < base → v.ownBlock = none ∨ v.ownBlock ≠ some g := fun g hg => by
    cases e : v.ownBlock with
    | none => exact .inl rfl
    | some q => exact .inr fun h' => by have := (h.lt q e).1; injection h' with h'; omega
  have k1 := World.ownsRow.kept h (grown_setCell w b 0 u0) (ne b (by omega))
  have k2 := World.ownsRow.kept k1 (grown_setCell _ b 1 u1) (ne b (by omega))
  have k3 := World.ownsRow.kept k2 (grown_setCell _ (b + 1) 0 u2) (ne (b + 1) (by omega))
  exact World.ownsRow.kept k3 (grown_setCell _ (b + 1) 1 u3) (ne (b + 1) (by omega))
theorem below_four {w w6 : World} (h : Below w.heap.size w w6) (u0 u1 u2 u3 : Value) : Below w.heap.size w ((((w6.setCell ⟨w.heap.size, 0, none⟩ u0).setCell ⟨w.heap.size, 1, none⟩ u1).setCell ⟨w.heap.size + 1, 0, none⟩ u2).setCell ⟨w.heap.size + 1, 1, none⟩ u3) := by
  have h1 := set_below (g := w.heap.size) (k := 0) (u := u0) h h.size (Nat.le_refl _)
  have h2 := set_below (g := w.heap.size) (k := 1) (u := u1) h1 h1.size (Nat.le_refl _)
  have h3 := set_below (g := w.heap.size + 1) (k := 0) (u := u2) h2 h2.size (Nat.le_succ _)
  exact set_below (g := w.heap.size + 1) (k := 1) (u := u3) h3 h3.size (Nat.le_succ _)
section
variable {W : World} {t : Nat} {a0 a1 : Value} {ty : TypeId}
theorem row2_fz (R : W.heap[t]? = some (.cells #[a0, a1] ty (0, 0))) (j : Nat) : W.frozen? ⟨t, j, none⟩ = false := by simp [World.frozen?, R]
theorem row2_q0 (R : W.heap[t]? = some (.cells #[a0, a1] ty (0, 0))) : W.cell? ⟨t, 0, none⟩ = some a0 := by rw [cell_of_row _ _ _ _ _ _ R]; rfl
theorem row2_q1 (R : W.heap[t]? = some (.cells #[a0, a1] ty (0, 0))) : W.cell? ⟨t, 1, none⟩ = some a1 := by rw [cell_of_row _ _ _ _ _ _ R]; rfl
theorem row2_set (R : W.heap[t]? = some (.cells #[a0, a1] ty (0, 0))) (b0 b1 : Value) : ((W.setCell ⟨t, 0, none⟩ b0).setCell ⟨t, 1, none⟩ b1).heap[t]? = some (.cells #[b0, b1] ty (0, 0)) := by
  have e := heap_set (j := 1) (heap_set (j := 0) R b0) b1
  simpa using e
theorem row2_other (w : World) {b g k : Nat} {u : Value} (h : g ≠ b) : (w.setCell ⟨b, k, none⟩ u).heap[g]? = w.heap[g]? := Below.heap_setCell _ _ _ _ (by simpa using h)
theorem rows_four {w : World} {b : Nat} {a0 a1 a2 a3 : Value} {t1 t2 : TypeId} (r1 : w.heap[b]? = some (.cells #[a0, a1] t1 (0, 0))) (r2 : w.heap[b + 1]? = some (.cells #[a2, a3] t2 (0, 0))) (u0 u1 u2 u3 : Value) :
    ((((w.setCell ⟨b, 0, none⟩ u0).setCell ⟨b, 1, none⟩ u1).setCell ⟨b + 1, 0, none⟩ u2).setCell ⟨b + 1, 1, none⟩ u3).heap[b]? = some (.cells #[u0, u1] t1 (0, 0)) ∧
    ((((w.setCell ⟨b, 0, none⟩ u0).setCell ⟨b, 1, none⟩ u1).setCell ⟨b + 1, 0, none⟩ u2).setCell ⟨b + 1, 1, none⟩ u3).heap[b + 1]? = some (.cells #[u2, u3] t2 (0, 0)) := by
  have e2 : ((w.setCell ⟨b, 0, none⟩ u0).setCell ⟨b, 1, none⟩ u1).heap[b + 1]? = some (.cells #[a2, a3] t2 (0, 0)) := by
    rw [row2_other _ (by omega), row2_other _ (by omega)]; exact r2
  refine ⟨?_, row2_set e2 u2 u3⟩
  rw [row2_other _ (by omega), row2_other _ (by omega)]; exact row2_set r1 u0 u1
end
def OfTo (w : World) (e : Ending) (w' : World) : Prop := ∃ (A : Option Addr) (c : Nat) (B : Option Addr) (d : Nat) (A' : Option Addr) (c' : Nat) (B' : Option Addr) (d' n : Nat) (ks ps : List Int),
  e = .returned (.tuple #[.agg #[.slice A n c, .slice B n d], .agg #[.slice A' n c', .slice B' n d']]) ∧ ShOk ks ps ∧ 0 < n ∧ n ≤ 12 ∧ n = ks.length ∧
  (IntsAt w' (.slice A n c) ks ∧ IntsAt w' (.slice B n d) ps) ∧ (IntsAt w' (.slice A' n c') ks ∧ IntsAt w' (.slice B' n d') ps) ∧ Below w.heap.size w w'
set_option maxHeartbeats 8000000 in
theorem Of_any (v : Value) (l : List Int) (w : World) (h : IntsAt w v l) : Calls Try.prog 9 #[v] w (OfTo w) := by
  obtain ⟨i0, hi, hz0, hz1, hz2⟩ := info_parts Try.infoInt
  obtain ⟨A0, c0, rfl⟩ := ints_form h
  have hll : l.length ≤ maxLen := by obtain ⟨_, _, _, hl, _⟩ := h; exact hl
  unfold maxLen at hll
  have HL := Lib.hid h
  clear h
  go_enter Try.func9, Try.ntmps9
  go_upto_region 1 with (fail)
  have b0 : Below w.heap.size w ((w.alloc (.cells #[.slice none 0 0, .slice none 0 0] 24)).alloc (.cells #[.slice none 0 0, .slice none 0 0] 25)) := ((Below.refl _ _).alloc (Nat.le_refl _) _).alloc (by simp) _
  have r1 : ((w.alloc (.cells #[.slice none 0 0, .slice none 0 0] 24)).alloc (.cells #[.slice none 0 0, .slice none 0 0] 25)).heap[w.heap.size]? = some (.cells #[.slice none 0 0, .slice none 0 0] 24 (0, 0)) := by
    rw [heap_alloc_old _ _ (by simp)]; exact heap_alloc_new _ _
  have r2 : ((w.alloc (.cells #[.slice none 0 0, .slice none 0 0] 24)).alloc (.cells #[.slice none 0 0, .slice none 0 0] 25)).heap[w.heap.size + 1]? = some (.cells #[.slice none 0 0, .slice none 0 0] 25 (0, 0)) := by
    have := heap_alloc_new (w.alloc (.cells #[.slice none 0 0, .slice none 0 0] 24)) (.cells #[.slice none 0 0, .slice none 0 0] 25)
    rwa [show (w.alloc (.cells #[.slice none 0 0, .slice none 0 0] 24)).heap.size = w.heap.size + 1 by simp] at this
  have s2 : w.heap.size + 2 = ((w.alloc (.cells #[.slice none 0 0, .slice none 0 0] 24)).alloc (.cells #[.slice none 0 0, .slice none 0 0] 25)).heap.size := by simp
  generalize (w.alloc (.cells #[.slice none 0 0, .slice none 0 0] 24)).alloc (.cells #[.slice none 0 0, .slice none 0 0] 25) = w2 at *
  have HB0 := Lib.hid b0
  have R1 := Lib.hid r1
  have R2 := Lib.hid r2
  have hs2 : w.heap.size + 2 ≤ w2.heap.size := by omega
  have HL2 : Hid (IntsAt w2 (.slice A0 l.length c0) l) := HL.out.below b0
  clear b0 r1 r2 s2 HL
  go_upto_region 2 with (fail)
  have o1 := own_new w2 w2.heap.size 1 (Nat.le_refl _)
  have o2 := own_new (w2.alloc (.cells #[.int .i64 1] 3)) w2.heap.size (-1) (by simp)
  have hsz : (w2.alloc (.cells #[.int .i64 1] 3)).heap.size = w2.heap.size + 1 := by simp
  rw [hsz] at o2
  have b1 : Below w2.heap.size w2 ((w2.alloc (.cells #[.int .i64 1] 3)).alloc (.cells #[.int .i64 (-1)] 3)) := ((Below.refl _ _).alloc (Nat.le_refl _) _).alloc (by simp) _
  have T0 : Hid (TwoAt ((w2.alloc (.cells #[.int .i64 1] 3)).alloc (.cells #[.int .i64 (-1)] 3)) w2.heap.size w2.heap.size 1 (w2.heap.size + 1) 1 [1] [-1]) :=
    ⟨by omega, own_below o1 ((Below.refl _ _).alloc (Nat.le_refl _) _) (by simp), o2⟩
  have HB1 := Lib.hid b1
  clear o1 o2 hsz b1
  generalize (w2.alloc (.cells #[.int .i64 1] 3)).alloc (.cells #[.int .i64 (-1)] 3) = w3 at *
  go_upto_region 3 with (fail)
  go_loopw [4, 5, 6] (fun x y i wr => ∃ (k g c g' c' : Nat) (ks ps : List Int), 1 ≤ k ∧ k ≤ 12 ∧ i = .int .i64 k ∧ x = .slice (some ⟨g, 0, none⟩) k c ∧ y = .slice (some ⟨g', 0, none⟩) k c' ∧ Hid (ks.length = k ∧ ps.length = k) ∧ Hid (ShOk ks ps) ∧ Hid (okI ks ∧ okI ps) ∧ Hid (TwoAt wr w2.heap.size g c g' c' ks ps) ∧ Hid (Below w2.heap.size w2 wr)) (fun _ _ i _ => 12 - (intOf i).toNat)
  case atStart =>
    exact ⟨1, _, _, _, _, [1], [-1], by omega, by omega, rfl, rfl, rfl, ⟨rfl, rfl⟩, ⟨rfl, fun k hk => by simp at hk; subst hk; decide, fun k hk => by simp at hk; subst hk; decide, by decide⟩, ⟨fun x hx => by rw [List.mem_singleton.1 hx]; decide +kernel, fun x hx => by rw [List.mem_singleton.1 hx]; decide +kernel⟩, T0, HB1⟩
  case round =>
    clear T0 HB1
    obtain ⟨k, g, c, g', c', ks, ps, hk1, hk12, rfl, rfl, rfl, HLen, HOk, HOI, HT, HB⟩ := hrel
    have hways : (k < l.length ∧ k < 12) ∨ (k < l.length ∧ ¬ k < 12) ∨ ¬ k < l.length := by omega
    rcases hways with ⟨hlk, hk12'⟩ | ⟨hlk, hk12'⟩ | hlk
    · · obtain ⟨b, off, rfl, hb, hx, hwf⟩ := ints_cell (HL2.out.below HB.out) (k := k) hlk
        have hki : (k : Int) < l.length := by omega
        have hki2 : (k : Int) < 12 := by omega
        have WI1 := Lib.hid (Within_any (l.getD k 0) ((k : Int) + 1) wr hwf (by omega) (by omega))
        have hbd := within_bd (l.getD k 0) ((k : Int) + 1) (by omega)
        have WI2 := Lib.hid (Within_any ((l.getD k 0).tdiv 16) 6 wr (wf_quo (n := 16) hwf (by omega)) (by omega) (by omega))
        have hbd2 := within_bd ((l.getD k 0).tdiv 16) 6 (by omega)
        have WI3 := Lib.hid (Within_any ((l.getD k 0).tdiv 96) 2 wr (wf_quo (n := 96) hwf (by omega)) (by omega) (by omega))
        have hbd3 := within_bd ((l.getD k 0).tdiv 96) 2 (by omega)
        have HC4 : Hid (∀ q : Nat, q < k → wr.cell? ⟨g, q, none⟩ = some (.int .i64 (ks.getD q 0))) := fun q hq => own_cell HT.out.2.1 (by have := HLen.out.1; omega)
        have HC5 : Hid (∀ q : Nat, q < k → wr.cell? ⟨g', q, none⟩ = some (.int .i64 (ps.getD q 0))) := fun q hq => own_cell HT.out.2.2 (by have := HLen.out.2; omega)
        have hq16 := bounds_i64 (show (Lit.int .i64 ((l.getD k 0).tdiv 16)).wf = true from wf_quo (n := 16) hwf (by omega))
        have hq96 := bounds_i64 (show (Lit.int .i64 ((l.getD k 0).tdiv 96)).wf = true from wf_quo (n := 96) hwf (by omega))
        clear hwf
        generalize l.getD k 0 = z at *
        generalize hp0 : within z ((k : Int) + 1) = p0 at *
        generalize hz2 : within (z.tdiv 16) 6 = z2 at *
        generalize hz3 : within (z.tdiv 96) 2 = z3 at *
        have hwp : IntKind.i64.wrap (p0 - 1) = p0 - 1 := by rw [IntKind.wrap_i64]; omega
        have hwk : IntKind.i64.wrap ((k : Int) + 1) = (k : Int) + 1 := by rw [IntKind.wrap_i64]; omega
        have hw16 : IntKind.i64.wrap (z.tdiv 16) = z.tdiv 16 := by rw [IntKind.wrap_i64]; omega
        have hw96 : IntKind.i64.wrap (z.tdiv 96) = z.tdiv 96 := by rw [IntKind.wrap_i64]; omega
        clear hp0 hz2 hz3 hq16 hq96
        go_upto_region 6 with (go_at_call 17; refine WI1.out.mono ?_; rintro e w4 ⟨rfl, rfl⟩)
        go_cut [7, 39] (fun y x wx => wx = wr ∧ y = .int .i64 (p0 - 1) ∧ ∃ b : Bool, x = .bool b)
        case first =>
          by_cases hpos : 0 ≤ p0 - 1
          · obtain ⟨q, hq⟩ : ∃ q : Nat, p0 - 1 = q := ⟨(p0 - 1).toNat, by omega⟩
            have hqk : q < k := by omega
            have hq4 := HC4.out q hqk
            have hqi : (q : Int) < k := by omega
            rw [hq]
            have HQ := Lib.hid hq
            clear hq hpos
            go_wp2
            go_meet
            exact ⟨rfl, by rw [HQ.out], _, rfl⟩
          · have h1 : ¬ 1 ≤ p0 := by omega
            go_wp2
            go_meet
            exact ⟨rfl, rfl, _, rfl⟩
        case rest =>
          obtain ⟨hw9, rfl, bb, rfl⟩ := hcut
          subst hw9
          obtain ⟨wr, rfl⟩ : ∃ w1 : World, w1 = wc := ⟨_, rfl⟩
          go_upto_if 39 with fail
          go_cut [7] (fun x wx => wx = wr ∧ ∃ p : Int, x = .int .i64 p ∧ -1 ≤ p ∧ p < k)
          case first =>
            cases bb
            · go_wp2
              go_meet
              exact ⟨rfl, _, rfl, by omega, by omega⟩
            · go_wp2
              go_meet
              exact ⟨rfl, _, rfl, by omega, by omega⟩
          case rest =>
            obtain ⟨hw9, p, rfl, hp1, hp2⟩ := hcut
            subst hw9
            obtain ⟨wr, rfl⟩ : ∃ w1 : World, w1 = wc := ⟨_, rfl⟩
            go_upto_block 2 with (go_at_call 17; refine WI2.out.mono ?_; rintro e w4 ⟨rfl, rfl⟩)
            go_cut [8] (fun x wx => wx = wr ∧ ∃ y : Int, x = .int .i64 y ∧ 1 ≤ y ∧ y ≤ 4)
            case first =>
              have hz2 : z2 = 0 ∨ z2 = 1 ∨ z2 = 2 ∨ z2 = 3 ∨ 4 ≤ z2 := by omega
              rcases hz2 with rfl | rfl | rfl | rfl | hz4
              · go_wp2
                go_meet
                exact ⟨rfl, _, rfl, by omega, by omega⟩
              · go_wp2
                go_meet
                exact ⟨rfl, _, rfl, by omega, by omega⟩
              · go_upto_region 16 with (fail)
                go_loopw [8, 54] (fun y i wx => ∃ j : Nat, j ≤ k ∧ i = .int .i64 j ∧ Hid (wx = wr) ∧ ∃ v : Int, y = .int .i64 v ∧ 1 ≤ v ∧ v ≤ 4) (fun _ i _ => k - (intOf i).toNat)
                case atStart => exact ⟨0, Nat.zero_le _, rfl, Lib.hid rfl, 1, rfl, by omega, by omega⟩
                case round =>
                  obtain ⟨j, hj, rfl, HW, v, rfl, hv1, hv2⟩ := hrel
                  have hw9 := HW.out
                  subst hw9
                  by_cases hjk : j < k
                  · have hji : (j : Int) < k := by omega
                    have h4j := HC4.out j hjk
                    have h5j := HC5.out j hjk
                    generalize ps.getD j 0 = pj at *
                    generalize ks.getD j 0 = kj at *
                    by_cases d1 : pj = p
                    · have g1 : (pj == p) = true := by simpa using d1
                      by_cases d2 : kj ≤ 2
                      · by_cases d3 : 0 ≤ p
                        · obtain ⟨q, rfl⟩ : ∃ q : Nat, p = q := ⟨p.toNat, by omega⟩
                          have hqk : q < k := by omega
                          have h4q := HC4.out q hqk
                          generalize ks.getD q 0 = kq at *
                          by_cases d4 : kq = 1
                          · have g4 : (kq == 1) = true := by simpa using d4
                            have hw3 : IntKind.i64.wrap (3 + z3) = 3 + z3 := by rw [IntKind.wrap_i64]; omega
                            go_wp2_with (go_at_call 17; refine WI3.out.mono ?_; rintro e w4 ⟨rfl, rfl⟩)
                            go_roundw
                            case rel => exact ⟨j + 1, by omega, by go_num, Lib.hid trivial, _, rfl, by omega, by omega⟩
                            case measure => simp [intOf]; omega
                          · have g4 : (kq == 1) = false := by simpa using d4
                            go_wp2
                            go_roundw
                            case rel => exact ⟨j + 1, by omega, by go_num, Lib.hid trivial, _, rfl, by omega, by omega⟩
                            case measure => simp [intOf]; omega
                        · go_wp2
                          go_roundw
                          case rel => exact ⟨j + 1, by omega, by go_num, Lib.hid trivial, _, rfl, by omega, by omega⟩
                          case measure => simp [intOf]; omega
                      · go_wp2
                        go_roundw
                        case rel => exact ⟨j + 1, by omega, by go_num, Lib.hid trivial, _, rfl, by omega, by omega⟩
                        case measure => simp [intOf]; omega
                    · have g1 : (pj == p) = false := by simpa using d1
                      go_wp2
                      go_roundw
                      case rel => exact ⟨j + 1, by omega, by go_num, Lib.hid trivial, _, rfl, by omega, by omega⟩
                      case measure => simp [intOf]; omega
                  · go_wp2
                    go_meet
                    exact ⟨rfl, _, rfl, by omega, by omega⟩
              · go_upto_region 16 with (fail)
                go_loopw [8, 54] (fun y i wx => ∃ j : Nat, j ≤ k ∧ i = .int .i64 j ∧ Hid (wx = wr) ∧ ∃ v : Int, y = .int .i64 v ∧ 1 ≤ v ∧ v ≤ 4) (fun _ i _ => k - (intOf i).toNat)
                case atStart => exact ⟨0, Nat.zero_le _, rfl, Lib.hid rfl, 1, rfl, by omega, by omega⟩
                case round =>
                  obtain ⟨j, hj, rfl, HW, v, rfl, hv1, hv2⟩ := hrel
                  have hw9 := HW.out
                  subst hw9
                  by_cases hjk : j < k
                  · have hji : (j : Int) < k := by omega
                    have h4j := HC4.out j hjk
                    have h5j := HC5.out j hjk
                    generalize ps.getD j 0 = pj at *
                    generalize ks.getD j 0 = kj at *
                    by_cases d1 : pj = p
                    · have g1 : (pj == p) = true := by simpa using d1
                      by_cases d2 : kj ≤ 2
                      · by_cases d3 : 0 ≤ p
                        · obtain ⟨q, rfl⟩ : ∃ q : Nat, p = q := ⟨p.toNat, by omega⟩
                          have hqk : q < k := by omega
                          have h4q := HC4.out q hqk
                          generalize ks.getD q 0 = kq at *
                          by_cases d4 : kq = 1
                          · have g4 : (kq == 1) = true := by simpa using d4
                            have hw3 : IntKind.i64.wrap (3 + z3) = 3 + z3 := by rw [IntKind.wrap_i64]; omega
                            go_wp2_with (go_at_call 17; refine WI3.out.mono ?_; rintro e w4 ⟨rfl, rfl⟩)
                            go_roundw
                            case rel => exact ⟨j + 1, by omega, by go_num, Lib.hid trivial, _, rfl, by omega, by omega⟩
                            case measure => simp [intOf]; omega
                          · have g4 : (kq == 1) = false := by simpa using d4
                            go_wp2
                            go_roundw
                            case rel => exact ⟨j + 1, by omega, by go_num, Lib.hid trivial, _, rfl, by omega, by omega⟩
                            case measure => simp [intOf]; omega
                        · go_wp2
                          go_roundw
                          case rel => exact ⟨j + 1, by omega, by go_num, Lib.hid trivial, _, rfl, by omega, by omega⟩
                          case measure => simp [intOf]; omega
                      · go_wp2
                        go_roundw
                        case rel => exact ⟨j + 1, by omega, by go_num, Lib.hid trivial, _, rfl, by omega, by omega⟩
                        case measure => simp [intOf]; omega
                    · have g1 : (pj == p) = false := by simpa using d1
                      go_wp2
                      go_roundw
                      case rel => exact ⟨j + 1, by omega, by go_num, Lib.hid trivial, _, rfl, by omega, by omega⟩
                      case measure => simp [intOf]; omega
                  · go_wp2
                    go_meet
                    exact ⟨rfl, _, rfl, by omega, by omega⟩
              · have g0 : (z2 == 0) = false := beq_eq_false_iff_ne.2 (by omega)
                have g1 : (z2 == 1) = false := beq_eq_false_iff_ne.2 (by omega)
                have g2 : (z2 == 2) = false := beq_eq_false_iff_ne.2 (by omega)
                have g3 : (z2 == 3) = false := beq_eq_false_iff_ne.2 (by omega)
                go_wp2
                go_meet
                exact ⟨rfl, _, rfl, by omega, by omega⟩
            case rest =>
              obtain ⟨hw9, y, rfl, hy1, hy2⟩ := hcut
              subst hw9
              obtain ⟨wr, rfl⟩ : ∃ w1 : World, w1 = wc := ⟨_, rfl⟩
              have o4 : wr.ownsRow w2.heap.size 3 1 (.slice (some ⟨g, 0, none⟩) k c) k (icells ks) := by
                have := HT.out.2.1
                unfold OwnI at this
                rwa [HLen.out.1] at this
              have o5 : wr.ownsRow w2.heap.size 3 1 (.slice (some ⟨g', 0, none⟩) k c') k (icells ps) := by
                have := HT.out.2.2
                unfold OwnI at this
                rwa [HLen.out.2] at this
              have hne := HT.out.1
              have hbz := HB.out.size
              have hg5 := (o5.lt g' rfl).2
              clear WI1 WI2 WI3 HC4 HC5
              have tokA : True := trivial
              go_wp2_with (first
                | (have _t := tokA; at_builtin; go_must (refine wpList_append_lies _ rfl (.tmp 89) (.tmp 91) 22 rfl w2.heap.size 3 i0 _ 1 8 Try.underlying22 hi hz0 hz1 hz2 rfl (by decide) _ _ _ rfl (o4.alloc _) ⟨wr.heap.size, 0, none⟩ 1 1 [.int .i64 y] rfl rfl (cells_new _ _ _) (by intro u hu; simp at hu; subst hu; rfl) (by omega) (by unfold maxLen; omega) (by omega) (by simp; omega) _ rfl ?_); intro g2 cap2 w4 own4 grow4 at4 lt4; have o5b := World.ownsRow.kept (o5.alloc _) grow4 (.inr (fun e => hne (Option.some.inj e).symm)); clear tokA _t)
                | (at_builtin; go_must (refine wpList_append_lies _ rfl (.tmp 93) (.tmp 95) 22 rfl w2.heap.size 3 i0 _ 1 8 Try.underlying22 hi hz0 hz1 hz2 rfl (by decide) _ _ _ rfl (o5b.alloc _) ⟨w4.heap.size, 0, none⟩ 1 1 [.int .i64 p] rfl rfl (cells_new _ _ _) (by intro u hu; simp at hu; subst hu; rfl) (by omega) (by unfold maxLen; omega) (by omega) (by have := grow4.size; simp at this; simp; omega) _ rfl ?_); intro g3 cap3 w6 own6 grow6 at6 lt6))
              have hs4 := grow4.size
              have hs6 := grow6.size
              have hg2 : g2 ≠ g' := by
                rcases at4 with e | e
                · have := Option.some.inj e; simp only at this; omega
                · simp at e; omega
              have own4b := World.ownsRow.kept (own4.alloc (.cells #[.int .i64 p] 3)) grow6 (.inr (fun e => hg2 (Option.some.inj e)))
              have hg3 : g2 ≠ g3 := by
                rcases at6 with e | e
                · have := Option.some.inj e; simp only at this; omega
                · simp at e; omega
              have TN : Hid (TwoAt w6 w2.heap.size g2 cap2 g3 cap3 (ks ++ [y]) (ps ++ [p])) := by
                refine ⟨hg3, ?_, ?_⟩
                · unfold OwnI
                  rw [List.length_append, HLen.out.1]
                  have e : icells (ks ++ [y]) = icells ks ++ [.int .i64 y] := by simp [icells]
                  rw [e]; exact own4b
                · unfold OwnI
                  rw [List.length_append, HLen.out.2]
                  have e : icells (ps ++ [p]) = icells ps ++ [.int .i64 p] := by simp [icells]
                  rw [e]; exact own6
              have hgr1 : wr.grownBy w4 (some g) := (World.grownBy_alloc _ _ _).andThen grow4 (fun j e => .inr e)
              have hgr2 : w4.grownBy w6 (some g') := (World.grownBy_alloc _ _ _).andThen grow6 (fun j e => .inr e)
              have HB4 := HB.out.grown hgr1 hbz (fun j e => by injection e with e; subst e; exact (o4.lt g rfl).1)
              have HB6 := Lib.hid (HB4.grown hgr2 (by simp at hs4; omega) (fun j e => by injection e with e; subst e; exact (o5.lt g' rfl).1))
              have OKN : Hid (ShOk (ks ++ [y]) (ps ++ [p])) := HOk.out.snoc (by have := HLen.out.1; omega) ⟨hy1, hy2⟩ ⟨hp1, by have := HLen.out.1; omega⟩
              have OIN : Hid (okI (ks ++ [y]) ∧ okI (ps ++ [p])) := ⟨okI_snoc HOI.out.1 (wf_near (by omega) (by omega)), okI_snoc HOI.out.2 (wf_near (by omega) (by omega))⟩
              have LN : Hid ((ks ++ [y]).length = k + 1 ∧ (ps ++ [p]).length = k + 1) := ⟨by rw [List.length_append, HLen.out.1]; rfl, by rw [List.length_append, HLen.out.2]; rfl⟩
              clear own4 own6 own4b o4 o5 o5b grow4 grow6 at4 at6 hs4 hs6 hgr1 hgr2 HB4
              go_roundw
              case rel => exact ⟨k + 1, g2, cap2, g3, cap3, ks ++ [y], ps ++ [p], by omega, by omega, by go_num, rfl, rfl, LN, OKN, OIN, TN, HB6⟩
              case measure => simp [intOf]; omega
    ·
      go_upto_region 22 with (fail)
      go_cut [106] (fun x wx => wx = wr ∧ ∃ b : Bool, x = .bool b)
      case first =>
        by_cases h0 : 0 < l.length
        · obtain ⟨b, off, rfl, hb, hx, hwf⟩ := ints_cell (HL2.out.below HB.out) (k := 0) h0
          have h0i : (0 : Int) < l.length := by omega
          rw [Nat.add_zero] at hx
          generalize l.getD 0 0 = z at *
          go_wp2
          go_meet
          exact ⟨rfl, _, rfl⟩
        · have h0i : ¬ (0 : Int) < l.length := by omega
          go_wp2
          go_meet
          exact ⟨rfl, _, rfl⟩
      case rest =>
        obtain ⟨hw9, bb, rfl⟩ := hcut
        subst hw9
        obtain ⟨wr, rfl⟩ : ∃ w1 : World, w1 = wc := ⟨_, rfl⟩
        go_upto_if 106 with fail
        go_cut [] (fun wx => ∃ ks2 : List Int, Hid (ks2.length = k) ∧ Hid (ShOk ks2 ps) ∧ Hid (okI ks2) ∧ Hid (TwoAt wx w2.heap.size g c g' c' ks2 ps) ∧ Hid (Below w2.heap.size w2 wx))
        case first =>
          cases bb
          · go_wp2
            go_meet
            exact ⟨ks, Lib.hid HLen.out.1, HOk, Lib.hid HOI.out.1, HT, HB⟩
          · have hki : (0 : Int) < k := by omega
            have fz := HT.out.frozen 0
            have c40 := own_cell HT.out.2.1 (k := 0) (by have := HLen.out.1; omega)
            generalize ks.getD 0 0 = k0 at c40
            have T2 := Lib.hid (HT.out.store (i := 0) (x := 2) (by have := HLen.out.1; omega))
            have B2 := Lib.hid (set_below (k := 0) (u := .int .i64 2) HB.out HB.out.size HT.out.base)
            have OK2 := Lib.hid (HOk.out.set (i := 0) (x := 2) ⟨by omega, by omega⟩ (fun _ => .inr rfl))
            have OI2 := Lib.hid (okI_set HOI.out.1 0 (x := 2) (wf_near (by omega) (by omega)))
            have L2 : Hid ((ks.set 0 2).length = k) := by show _ = _; rw [List.length_set]; exact HLen.out.1
            go_upto_region 24 with (fail)
            clear fz c40
            generalize wr.setCell ⟨g, 0, none⟩ (.int .i64 2) = w5 at *
            generalize ks.set 0 2 = ks1 at *
            go_upto_region 25 with (fail)
            go_loopw [111] (fun i wx => ∃ (j : Nat) (ks2 : List Int), j ≤ k ∧ i = .int .i64 j ∧ Hid (ks2.length = k) ∧ Hid (ShOk ks2 ps) ∧ Hid (okI ks2) ∧ Hid (TwoAt wx w2.heap.size g c g' c' ks2 ps) ∧ Hid (Below w2.heap.size w2 wx)) (fun i _ => k - (intOf i).toNat)
            case atStart => exact ⟨0, ks1, Nat.zero_le _, rfl, L2, OK2, OI2, T2, B2⟩
            case round =>
              obtain ⟨j, ks2, hj, rfl, L3, OK3, OI3, T3, B3⟩ := hrel
              by_cases hjk : j < k
              · have hji : (j : Int) < k := by omega
                have c4 := own_cell T3.out.2.1 (k := j) (by have := L3.out; omega)
                have c5 := own_cell T3.out.2.2 (k := j) (by have := HLen.out.2; omega)
                have fz := T3.out.frozen j
                have T4 := Lib.hid (T3.out.store (i := j) (x := 1) (by have := L3.out; omega))
                have B4 := Lib.hid (set_below (k := j) (u := .int .i64 1) B3.out B3.out.size T3.out.base)
                have OK4 := Lib.hid (OK3.out.set (i := j) (x := 1) ⟨by omega, by omega⟩ (fun _ => .inl rfl))
                have OI4 := Lib.hid (okI_set OI3.out j (x := 1) (wf_near (by omega) (by omega)))
                have L4 : Hid ((ks2.set j 1).length = k) := by show _ = _; rw [List.length_set]; exact L3.out
                generalize ks2.getD j 0 = kj at *
                generalize ps.getD j 0 = pj at *
                by_cases d1 : pj = 0
                · have g1 : (pj == 0) = true := by simpa using d1
                  by_cases d2 : (3 : Int) ≤ kj
                  · go_wp2
                    go_roundw
                    case rel => exact ⟨j + 1, ks2.set j 1, by omega, by go_num, L4, OK4, OI4, T4, B4⟩
                    case measure => simp [intOf]; omega
                  · go_wp2
                    go_roundw
                    case rel => exact ⟨j + 1, ks2, by omega, by go_num, L3, OK3, OI3, T3, B3⟩
                    case measure => simp [intOf]; omega
                · have g1 : (pj == 0) = false := by simpa using d1
                  go_wp2
                  go_roundw
                  case rel => exact ⟨j + 1, ks2, by omega, by go_num, L3, OK3, OI3, T3, B3⟩
                  case measure => simp [intOf]; omega
              · go_wp2
                go_meet
                exact ⟨ks2, L3, OK3, OI3, T3, B3⟩
        case rest =>
          obtain ⟨ks2, L3, OK3, OI3, T3, B3⟩ := hcut
          have o4 := T3.out.2.1
          have o5 := T3.out.2.2
          have n4 := (World.ownsRow.lt o4 g rfl)
          have n5 := (World.ownsRow.lt o5 g' rfl)
          have I4 : Hid (IntsAt wc (.slice (some ⟨g, 0, none⟩) ks2.length c) ks2) := ints_of_own o4 OI3.out (by have := L3.out; omega)
          have I5 : Hid (IntsAt wc (.slice (some ⟨g', 0, none⟩) ps.length c') ps) := ints_of_own o5 HOI.out.2 (by have := HLen.out.2; omega)
          have CK := Lib.hid (fun W (hW : Below wc.heap.size wc W) => CopyI_any ks2 (some ⟨g, 0, none⟩) c W (I4.out.below hW) (by have := L3.out; omega))
          have CP := Lib.hid (fun W (hW : Below wc.heap.size wc W) => CopyI_any ps (some ⟨g', 0, none⟩) c' W (I5.out.below hW) (by have := HLen.out.2; omega))
          rw [L3.out] at CK
          rw [HLen.out.2] at CP
          have HO4 := Lib.hid o4
          have HO5 := Lib.hid o5
          have h00 : Below wc.heap.size wc wc := Below.refl _ _
          have hb3 := B3.out.size
          have ha1 : ∀ W, Below wc.heap.size wc W → W.heap[w.heap.size]? = some (.cells #[.slice none 0 0, .slice none 0 0] 24 (0, 0)) := fun W hW => by
            rw [hW.block _ (by omega), B3.out.block _ (by omega)]; exact R1.out
          have ha2 : ∀ W, Below wc.heap.size wc W → W.heap[w.heap.size + 1]? = some (.cells #[.slice none 0 0, .slice none 0 0] 25 (0, 0)) := fun W hW => by
            rw [hW.block _ (by omega), B3.out.block _ (by omega)]; exact R2.out
          have HA1 := Lib.hid ha1
          have HA2 := Lib.hid ha2
          clear o4 o5 ha1 ha2
          have tokC : True := trivial
          go_wp2_with (first
            | (have _t := tokC; go_at_call 33; refine (CK.out _ h00).mono ?_; rintro e w5 ⟨v1, rfl, oK, hb5⟩; obtain ⟨A9, c9, rfl⟩ := own_slice oK; rw [L3.out]; clear tokC _t)
            | (go_at_call 33; refine (CP.out _ hb5).mono ?_; rintro e w6 ⟨v2, rfl, oP, hb6⟩; obtain ⟨B9, d9, rfl⟩ := own_slice oP; rw [HLen.out.2]; have h6 := below_then hb5 hb6 hb5.size; have r1 := HA1.out _ h6; have r2 := HA2.out _ h6; have f0 := row2_fz r1 0; have f1 := row2_fz r1 1; have f2 := row2_fz r2 0; have f3 := row2_fz r2 1; have q0 := row2_q0 r1; have q1 := row2_q1 r1; have q2 := row2_q0 r2; have q3 := row2_q1 r2; have RR1 := Lib.hid r1; have RR2 := Lib.hid r2; clear r1 r2))
          have J1 : Hid (∀ u0 u1 u2 u3, IntsAt ((((w6.setCell ⟨w.heap.size, 0, none⟩ u0).setCell ⟨w.heap.size, 1, none⟩ u1).setCell ⟨w.heap.size + 1, 0, none⟩ u2).setCell ⟨w.heap.size + 1, 1, none⟩ u3) (.slice (some ⟨g, 0, none⟩) k c) ks2) := fun u0 u1 u2 u3 => by
            have := ints_of_own (own_four (own_below HO4.out h6 hb3) hs2 u0 u1 u2 u3) OI3.out (by have := L3.out; omega)
            rwa [L3.out] at this
          have J2 : Hid (∀ u0 u1 u2 u3, IntsAt ((((w6.setCell ⟨w.heap.size, 0, none⟩ u0).setCell ⟨w.heap.size, 1, none⟩ u1).setCell ⟨w.heap.size + 1, 0, none⟩ u2).setCell ⟨w.heap.size + 1, 1, none⟩ u3) (.slice (some ⟨g', 0, none⟩) k c') ps) := fun u0 u1 u2 u3 => by
            have := ints_of_own (own_four (own_below HO5.out h6 hb3) hs2 u0 u1 u2 u3) HOI.out.2 (by have := HLen.out.2; omega)
            rwa [HLen.out.2] at this
          have J3 : Hid (∀ u0 u1 u2 u3, IntsAt ((((w6.setCell ⟨w.heap.size, 0, none⟩ u0).setCell ⟨w.heap.size, 1, none⟩ u1).setCell ⟨w.heap.size + 1, 0, none⟩ u2).setCell ⟨w.heap.size + 1, 1, none⟩ u3) (.slice A9 k c9) ks2) := fun u0 u1 u2 u3 => by
            have hq : w.heap.size + 2 ≤ wc.heap.size := by omega
            have := ints_of_own (own_four (base := wc.heap.size) (b := w.heap.size) (own_below oK hb6 hb5.size) hq u0 u1 u2 u3) OI3.out (by have := L3.out; omega)
            rwa [L3.out] at this
          have J4 : Hid (∀ u0 u1 u2 u3, IntsAt ((((w6.setCell ⟨w.heap.size, 0, none⟩ u0).setCell ⟨w.heap.size, 1, none⟩ u1).setCell ⟨w.heap.size + 1, 0, none⟩ u2).setCell ⟨w.heap.size + 1, 1, none⟩ u3) (.slice B9 k d9) ps) := fun u0 u1 u2 u3 => by
            have hq : w.heap.size + 2 ≤ w5.heap.size := by have := hb5.size; omega
            have := ints_of_own (own_four (base := w5.heap.size) (b := w.heap.size) oP hq u0 u1 u2 u3) HOI.out.2 (by have := HLen.out.2; omega)
            rwa [HLen.out.2] at this
          have HBF : Hid (∀ u0 u1 u2 u3, Below w.heap.size w ((((w6.setCell ⟨w.heap.size, 0, none⟩ u0).setCell ⟨w.heap.size, 1, none⟩ u1).setCell ⟨w.heap.size + 1, 0, none⟩ u2).setCell ⟨w.heap.size + 1, 1, none⟩ u3)) := fun u0 u1 u2 u3 =>
            below_four (below_then HB0.out (below_then B3.out h6 hb3) HB0.out.size) u0 u1 u2 u3
          have RX : Hid (∀ u0 u1 u2 u3, ((((w6.setCell ⟨w.heap.size, 0, none⟩ u0).setCell ⟨w.heap.size, 1, none⟩ u1).setCell ⟨w.heap.size + 1, 0, none⟩ u2).setCell ⟨w.heap.size + 1, 1, none⟩ u3).heap[w.heap.size]? = some (.cells #[u0, u1] 24 (0, 0)) ∧
              ((((w6.setCell ⟨w.heap.size, 0, none⟩ u0).setCell ⟨w.heap.size, 1, none⟩ u1).setCell ⟨w.heap.size + 1, 0, none⟩ u2).setCell ⟨w.heap.size + 1, 1, none⟩ u3).heap[w.heap.size + 1]? = some (.cells #[u2, u3] 25 (0, 0))) := fun u0 u1 u2 u3 => rows_four RR1.out RR2.out u0 u1 u2 u3
          clear f0 f1 f2 f3 q0 q1 q2 q3 RR1 RR2 oK oP hb5 hb6 h6
          (try simp only [Exit.inBlock, Exit.then])
          refine bodyPost_ret (run_cell2 rfl _ _ w.heap.size (w.heap.size + 1) _ _ _ _ _ _ _ _ rfl rfl (RX.out _ _ _ _).1 (RX.out _ _ _ _).2 Try.underlying24 rfl (by kernel_rfl) Try.underlying25 rfl (by kernel_rfl)) rfl ?_
          exact ⟨_, _, _, _, _, _, _, _, k, ks2, ps, rfl, OK3.out, by omega, hk12, L3.out.symm, ⟨J1.out _ _ _ _, J2.out _ _ _ _⟩, ⟨J3.out _ _ _ _, J4.out _ _ _ _⟩, HBF.out _ _ _ _⟩
    ·
      go_upto_region 22 with (fail)
      go_cut [106] (fun x wx => wx = wr ∧ ∃ b : Bool, x = .bool b)
      case first =>
        by_cases h0 : 0 < l.length
        · obtain ⟨b, off, rfl, hb, hx, hwf⟩ := ints_cell (HL2.out.below HB.out) (k := 0) h0
          have h0i : (0 : Int) < l.length := by omega
          rw [Nat.add_zero] at hx
          generalize l.getD 0 0 = z at *
          go_wp2
          go_meet
          exact ⟨rfl, _, rfl⟩
        · have h0i : ¬ (0 : Int) < l.length := by omega
          go_wp2
          go_meet
          exact ⟨rfl, _, rfl⟩
      case rest =>
        obtain ⟨hw9, bb, rfl⟩ := hcut
        subst hw9
        obtain ⟨wr, rfl⟩ : ∃ w1 : World, w1 = wc := ⟨_, rfl⟩
        go_upto_if 106 with fail
        go_cut [] (fun wx => ∃ ks2 : List Int, Hid (ks2.length = k) ∧ Hid (ShOk ks2 ps) ∧ Hid (okI ks2) ∧ Hid (TwoAt wx w2.heap.size g c g' c' ks2 ps) ∧ Hid (Below w2.heap.size w2 wx))
        case first =>
          cases bb
          · go_wp2
            go_meet
            exact ⟨ks, Lib.hid HLen.out.1, HOk, Lib.hid HOI.out.1, HT, HB⟩
          · have hki : (0 : Int) < k := by omega
            have fz := HT.out.frozen 0
            have c40 := own_cell HT.out.2.1 (k := 0) (by have := HLen.out.1; omega)
            generalize ks.getD 0 0 = k0 at c40
            have T2 := Lib.hid (HT.out.store (i := 0) (x := 2) (by have := HLen.out.1; omega))
            have B2 := Lib.hid (set_below (k := 0) (u := .int .i64 2) HB.out HB.out.size HT.out.base)
            have OK2 := Lib.hid (HOk.out.set (i := 0) (x := 2) ⟨by omega, by omega⟩ (fun _ => .inr rfl))
            have OI2 := Lib.hid (okI_set HOI.out.1 0 (x := 2) (wf_near (by omega) (by omega)))
            have L2 : Hid ((ks.set 0 2).length = k) := by show _ = _; rw [List.length_set]; exact HLen.out.1
            go_upto_region 24 with (fail)
            clear fz c40
            generalize wr.setCell ⟨g, 0, none⟩ (.int .i64 2) = w5 at *
            generalize ks.set 0 2 = ks1 at *
            go_upto_region 25 with (fail)
            go_loopw [111] (fun i wx => ∃ (j : Nat) (ks2 : List Int), j ≤ k ∧ i = .int .i64 j ∧ Hid (ks2.length = k) ∧ Hid (ShOk ks2 ps) ∧ Hid (okI ks2) ∧ Hid (TwoAt wx w2.heap.size g c g' c' ks2 ps) ∧ Hid (Below w2.heap.size w2 wx)) (fun i _ => k - (intOf i).toNat)
            case atStart => exact ⟨0, ks1, Nat.zero_le _, rfl, L2, OK2, OI2, T2, B2⟩
            case round =>
              obtain ⟨j, ks2, hj, rfl, L3, OK3, OI3, T3, B3⟩ := hrel
              by_cases hjk : j < k
              · have hji : (j : Int) < k := by omega
                have c4 := own_cell T3.out.2.1 (k := j) (by have := L3.out; omega)
                have c5 := own_cell T3.out.2.2 (k := j) (by have := HLen.out.2; omega)
                have fz := T3.out.frozen j
                have T4 := Lib.hid (T3.out.store (i := j) (x := 1) (by have := L3.out; omega))
                have B4 := Lib.hid (set_below (k := j) (u := .int .i64 1) B3.out B3.out.size T3.out.base)
                have OK4 := Lib.hid (OK3.out.set (i := j) (x := 1) ⟨by omega, by omega⟩ (fun _ => .inl rfl))
                have OI4 := Lib.hid (okI_set OI3.out j (x := 1) (wf_near (by omega) (by omega)))
                have L4 : Hid ((ks2.set j 1).length = k) := by show _ = _; rw [List.length_set]; exact L3.out
                generalize ks2.getD j 0 = kj at *
                generalize ps.getD j 0 = pj at *
                by_cases d1 : pj = 0
                · have g1 : (pj == 0) = true := by simpa using d1
                  by_cases d2 : (3 : Int) ≤ kj
                  · go_wp2
                    go_roundw
                    case rel => exact ⟨j + 1, ks2.set j 1, by omega, by go_num, L4, OK4, OI4, T4, B4⟩
                    case measure => simp [intOf]; omega
                  · go_wp2
                    go_roundw
                    case rel => exact ⟨j + 1, ks2, by omega, by go_num, L3, OK3, OI3, T3, B3⟩
                    case measure => simp [intOf]; omega
                · have g1 : (pj == 0) = false := by simpa using d1
                  go_wp2
                  go_roundw
                  case rel => exact ⟨j + 1, ks2, by omega, by go_num, L3, OK3, OI3, T3, B3⟩
                  case measure => simp [intOf]; omega
              · go_wp2
                go_meet
                exact ⟨ks2, L3, OK3, OI3, T3, B3⟩
        case rest =>
          obtain ⟨ks2, L3, OK3, OI3, T3, B3⟩ := hcut
          have o4 := T3.out.2.1
          have o5 := T3.out.2.2
          have n4 := (World.ownsRow.lt o4 g rfl)
          have n5 := (World.ownsRow.lt o5 g' rfl)
          have I4 : Hid (IntsAt wc (.slice (some ⟨g, 0, none⟩) ks2.length c) ks2) := ints_of_own o4 OI3.out (by have := L3.out; omega)
          have I5 : Hid (IntsAt wc (.slice (some ⟨g', 0, none⟩) ps.length c') ps) := ints_of_own o5 HOI.out.2 (by have := HLen.out.2; omega)
          have CK := Lib.hid (fun W (hW : Below wc.heap.size wc W) => CopyI_any ks2 (some ⟨g, 0, none⟩) c W (I4.out.below hW) (by have := L3.out; omega))
          have CP := Lib.hid (fun W (hW : Below wc.heap.size wc W) => CopyI_any ps (some ⟨g', 0, none⟩) c' W (I5.out.below hW) (by have := HLen.out.2; omega))
          rw [L3.out] at CK
          rw [HLen.out.2] at CP
          have HO4 := Lib.hid o4
          have HO5 := Lib.hid o5
          have h00 : Below wc.heap.size wc wc := Below.refl _ _
          have hb3 := B3.out.size
          have ha1 : ∀ W, Below wc.heap.size wc W → W.heap[w.heap.size]? = some (.cells #[.slice none 0 0, .slice none 0 0] 24 (0, 0)) := fun W hW => by
            rw [hW.block _ (by omega), B3.out.block _ (by omega)]; exact R1.out
          have ha2 : ∀ W, Below wc.heap.size wc W → W.heap[w.heap.size + 1]? = some (.cells #[.slice none 0 0, .slice none 0 0] 25 (0, 0)) := fun W hW => by
            rw [hW.block _ (by omega), B3.out.block _ (by omega)]; exact R2.out
          have HA1 := Lib.hid ha1
          have HA2 := Lib.hid ha2
          clear o4 o5 ha1 ha2
          have tokC : True := trivial
          go_wp2_with (first
            | (have _t := tokC; go_at_call 33; refine (CK.out _ h00).mono ?_; rintro e w5 ⟨v1, rfl, oK, hb5⟩; obtain ⟨A9, c9, rfl⟩ := own_slice oK; rw [L3.out]; clear tokC _t)
            | (go_at_call 33; refine (CP.out _ hb5).mono ?_; rintro e w6 ⟨v2, rfl, oP, hb6⟩; obtain ⟨B9, d9, rfl⟩ := own_slice oP; rw [HLen.out.2]; have h6 := below_then hb5 hb6 hb5.size; have r1 := HA1.out _ h6; have r2 := HA2.out _ h6; have f0 := row2_fz r1 0; have f1 := row2_fz r1 1; have f2 := row2_fz r2 0; have f3 := row2_fz r2 1; have q0 := row2_q0 r1; have q1 := row2_q1 r1; have q2 := row2_q0 r2; have q3 := row2_q1 r2; have RR1 := Lib.hid r1; have RR2 := Lib.hid r2; clear r1 r2))
          have J1 : Hid (∀ u0 u1 u2 u3, IntsAt ((((w6.setCell ⟨w.heap.size, 0, none⟩ u0).setCell ⟨w.heap.size, 1, none⟩ u1).setCell ⟨w.heap.size + 1, 0, none⟩ u2).setCell ⟨w.heap.size + 1, 1, none⟩ u3) (.slice (some ⟨g, 0, none⟩) k c) ks2) := fun u0 u1 u2 u3 => by
            have := ints_of_own (own_four (own_below HO4.out h6 hb3) hs2 u0 u1 u2 u3) OI3.out (by have := L3.out; omega)
            rwa [L3.out] at this
          have J2 : Hid (∀ u0 u1 u2 u3, IntsAt ((((w6.setCell ⟨w.heap.size, 0, none⟩ u0).setCell ⟨w.heap.size, 1, none⟩ u1).setCell ⟨w.heap.size + 1, 0, none⟩ u2).setCell ⟨w.heap.size + 1, 1, none⟩ u3) (.slice (some ⟨g', 0, none⟩) k c') ps) := fun u0 u1 u2 u3 => by
            have := ints_of_own (own_four (own_below HO5.out h6 hb3) hs2 u0 u1 u2 u3) HOI.out.2 (by have := HLen.out.2; omega)
            rwa [HLen.out.2] at this
          have J3 : Hid (∀ u0 u1 u2 u3, IntsAt ((((w6.setCell ⟨w.heap.size, 0, none⟩ u0).setCell ⟨w.heap.size, 1, none⟩ u1).setCell ⟨w.heap.size + 1, 0, none⟩ u2).setCell ⟨w.heap.size + 1, 1, none⟩ u3) (.slice A9 k c9) ks2) := fun u0 u1 u2 u3 => by
            have hq : w.heap.size + 2 ≤ wc.heap.size := by omega
            have := ints_of_own (own_four (base := wc.heap.size) (b := w.heap.size) (own_below oK hb6 hb5.size) hq u0 u1 u2 u3) OI3.out (by have := L3.out; omega)
            rwa [L3.out] at this
          have J4 : Hid (∀ u0 u1 u2 u3, IntsAt ((((w6.setCell ⟨w.heap.size, 0, none⟩ u0).setCell ⟨w.heap.size, 1, none⟩ u1).setCell ⟨w.heap.size + 1, 0, none⟩ u2).setCell ⟨w.heap.size + 1, 1, none⟩ u3) (.slice B9 k d9) ps) := fun u0 u1 u2 u3 => by
            have hq : w.heap.size + 2 ≤ w5.heap.size := by have := hb5.size; omega
            have := ints_of_own (own_four (base := w5.heap.size) (b := w.heap.size) oP hq u0 u1 u2 u3) HOI.out.2 (by have := HLen.out.2; omega)
            rwa [HLen.out.2] at this
          have HBF : Hid (∀ u0 u1 u2 u3, Below w.heap.size w ((((w6.setCell ⟨w.heap.size, 0, none⟩ u0).setCell ⟨w.heap.size, 1, none⟩ u1).setCell ⟨w.heap.size + 1, 0, none⟩ u2).setCell ⟨w.heap.size + 1, 1, none⟩ u3)) := fun u0 u1 u2 u3 =>
            below_four (below_then HB0.out (below_then B3.out h6 hb3) HB0.out.size) u0 u1 u2 u3
          have RX : Hid (∀ u0 u1 u2 u3, ((((w6.setCell ⟨w.heap.size, 0, none⟩ u0).setCell ⟨w.heap.size, 1, none⟩ u1).setCell ⟨w.heap.size + 1, 0, none⟩ u2).setCell ⟨w.heap.size + 1, 1, none⟩ u3).heap[w.heap.size]? = some (.cells #[u0, u1] 24 (0, 0)) ∧
              ((((w6.setCell ⟨w.heap.size, 0, none⟩ u0).setCell ⟨w.heap.size, 1, none⟩ u1).setCell ⟨w.heap.size + 1, 0, none⟩ u2).setCell ⟨w.heap.size + 1, 1, none⟩ u3).heap[w.heap.size + 1]? = some (.cells #[u2, u3] 25 (0, 0))) := fun u0 u1 u2 u3 => rows_four RR1.out RR2.out u0 u1 u2 u3
          clear f0 f1 f2 f3 q0 q1 q2 q3 RR1 RR2 oK oP hb5 hb6 h6
          (try simp only [Exit.inBlock, Exit.then])
          refine bodyPost_ret (run_cell2 rfl _ _ w.heap.size (w.heap.size + 1) _ _ _ _ _ _ _ _ rfl rfl (RX.out _ _ _ _).1 (RX.out _ _ _ _).2 Try.underlying24 rfl (by kernel_rfl) Try.underlying25 rfl (by kernel_rfl)) rfl ?_
          exact ⟨_, _, _, _, _, _, _, _, k, ks2, ps, rfl, OK3.out, by omega, hk12, L3.out.symm, ⟨J1.out _ _ _ _, J2.out _ _ _ _⟩, ⟨J3.out _ _ _ _, J4.out _ _ _ _⟩, HBF.out _ _ _ _⟩
end Go.Proofs.Ytaolebdcmdmnjaa
