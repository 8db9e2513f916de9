import Derived.Test.YtaoinedndnleoaaGreatCh3
import Derived.Test.YtaoinedndnleoaaGreatArgI
import Derived.Deep.AppendLies
import Derived.Deep.CutBlock
import Derived.Maps.Range
import Derived.Test.YtaoinedndnleoaaGreatEnt3
import Derived.ArgAppend
import Derived.Deep.Upon
import Derived.Deep.MidRow
import Derived.Test.YtaoinedndnleoaaGreatEn8
import Derived.Test.YtaoinedndnleoaaGreatOwnSome
import Derived.Test.YtaoinedndnleoaaGreatSh1b
import Derived.Test.YtaoinedndnleoaaGreatSm0
import Derived.Test.YtaoinedndnleoaaGreatEn3
import Derived.Laws.BitsAllLaws
import Derived.Laws.CopyOwn
import Derived.Laws.MakeOwn
namespace Go.Proofs.YtaoinedndnleoaaGreat
set_option maxRecDepth 100000
open Go.ChangeShapes Go.WideShapes Go.ChangeAt Go.RowKit
def ShOk (ks ps : List Int) : Prop := ks.length = ps.length ∧ (∀ k, k < ks.length → 1 ≤ ks.getD k 0 ∧ ks.getD k 0 ≤ 4) ∧ (∀ k, k < ks.length → -1 ≤ ps.getD k 0 ∧ ps.getD k 0 < k) ∧ hl ks 0 = true
theorem getD_snoc (l : List Int) (x : Int) (k : Nat) : (l ++ [x]).getD k 0 = if k < l.length then l.getD k 0 else if k = l.length then x else 0 := by
 simp only [List.getD_eq_getElem?_getD]
 split
 ·rename_i h; rw [List.getElem?_append_left h]
 ·split
  ·rename_i h1 h2; subst h2; simp
  ·rename_i h1 h2; rw [List.getElem?_append_right (by omega)]; rw [List.getElem?_eq_none (by simp; omega)]; rfl
theorem hl_snoc {l : List Int} {x : Int} (h : 0 < l.length) : hl (l ++ [x]) 0 = hl l 0 := by
 unfold hl
 rw [getD_snoc, if_pos h]
theorem ShOk.snoc {ks ps : List Int} (h : ShOk ks ps) (h0 : 0 < ks.length) {y p : Int} (hy : 1 ≤ y ∧ y ≤ 4) (hp : -1 ≤ p ∧ p < ks.length) : ShOk (ks ++ [y]) (ps ++ [p]) := by
 obtain ⟨h1, h2, h3, h4⟩ := h
 refine ⟨by simp [h1], fun k hk => ?_, fun k hk => ?_, by rw [hl_snoc h0]; exact h4⟩
 ·rw [List.length_append, List.length_singleton] at hk
  rw [getD_snoc]
  by_cases e : k < ks.length
  ·rw [if_pos e]; exact h2 k e
  ·rw [if_neg e, if_pos (by omega)]; exact hy
 ·rw [List.length_append, List.length_singleton] at hk
  rw [getD_snoc]
  by_cases e : k < ks.length
  ·rw [if_pos (by omega)]; exact h3 k e
  ·rw [if_neg (by omega), if_pos (by omega)]; omega
def TwoAt (w : World) (base g c g' c' : Nat) (ks ps : List Int) : Prop := g ≠ g' ∧ OwnI w base (.slice (some ⟨g, 0, none⟩) ks.length c) ks ∧ OwnI w base (.slice (some ⟨g', 0, none⟩) ps.length c') ps
theorem TwoAt.frozen {w : World} {base g c g' c' : Nat} {ks ps : List Int} (h : TwoAt w base g c g' c' ks ps) (j : Nat) : w.frozen? ⟨g, j, none⟩ = false := World.ownsRow.frozenAt h.2.1 j
theorem TwoAt.base {w : World} {base g c g' c' : Nat} {ks ps : List Int} (h : TwoAt w base g c g' c' ks ps) : base ≤ g := (World.ownsRow.lt h.2.1 g rfl).1
theorem icells_put (l : List Int) (k : Nat) (x : Int) : icells (l.set k x) = (icells l).set k (.int .i64 x) := by simp [icells, List.map_set]
theorem TwoAt.store {w : World} {base g c g' c' : Nat} {ks ps : List Int} (h : TwoAt w base g c g' c' ks ps) {i : Nat} {x : Int} (_ : i < ks.length) : TwoAt (w.setCell ⟨g, i, none⟩ (.int .i64 x)) base g c g' c' (ks.set i x) ps := by
 refine ⟨h.1, ?_, World.ownsRow.kept h.2.2 (grown_setCell w g i _) (.inr fun e => h.1 (Option.some.inj e).symm)⟩
 unfold OwnI
 rw [List.length_set, icells_put]
 exact (World.ownsRow.stored h.2.1 i (.int .i64 x)).1
theorem set_below {B : Nat} {a w : World} {g k : Nat} {u : Value} (h : Below B a w) (hB : B ≤ w.heap.size) (hg : B ≤ g) : Below B a (w.setCell ⟨g, k, none⟩ u) :=
 h.grown (grown_setCell w g k u) hB (fun j e => by injection e with e; omega)
theorem getD_set (l : List Int) (i k : Nat) (x : Int) : (l.set i x).getD k 0 = if k = i ∧ i < l.length then x else l.getD k 0 := by
 simp only [List.getD_eq_getElem?_getD, List.getElem?_set]
 by_cases e : i = k
 ·subst e
  by_cases h : i < l.length
  ·simp [h]
  ·simp [h]
 ·rw [if_neg e, if_neg (by rintro ⟨h, _⟩; exact e h.symm)]
theorem ShOk.set {ks ps : List Int} (h : ShOk ks ps) {i : Nat} {x : Int} (hx : 1 ≤ x ∧ x ≤ 4) (h0 : i = 0 → x = 1 ∨ x = 2) : ShOk (ks.set i x) ps := by
 obtain ⟨h1, h2, h3, h4⟩ := h
 refine ⟨by rw [List.length_set]; exact h1, fun k hk => ?_, fun k hk => h3 k (by rwa [List.length_set] at hk), ?_⟩
 ·rw [List.length_set] at hk
  rw [getD_set]
  split
  ·exact hx
  ·exact h2 k hk
 ·unfold hl at *
  rw [getD_set]
  split
  ·rename_i e
   rcases h0 e.1.symm with e | e <;> rw [e] <;> rfl
  ·exact h4
end Go.Proofs.YtaoinedndnleoaaGreat
namespace Go.Proofs.YtaoinedndnleoaaGreat
set_option maxRecDepth 100000
def ShW (ks ps : List Int) (j : Nat) : Prop := ShOk ks ps ∧ (∀ k q : Nat, k < ks.length → ps.getD k 0 = q → hl ks q = true) ∧
 ∀ k, k < ks.length → hl ks k = false → ∃ q : Nat, ps.getD k 0 = q ∧ (ks.getD q 0 = 1 ∨ (q = 0 ∧ j ≤ k)) ∧ ∃ i, i < ks.length ∧ isKid ks ps q i = true
def parOk (ks : List Int) (p : Int) : Prop := p = -1 ∨ ∃ q : Nat, p = q ∧ hl ks q = true
def behindY (ks ps : List Int) (p y : Int) : Prop := 3 ≤ y → ∃ q i : Nat, p = q ∧ ks.getD q 0 = 1 ∧ i < ks.length ∧ isKid ks ps q i = true
section
variable {ks ps : List Int} {j k : Nat}
theorem hl_in {i : Nat} (h1 : 1 ≤ ks.getD i 0) (h2 : ks.getD i 0 ≤ 2) : hl ks i = true := by
 unfold hl
 have : ks.getD i 0 = 1 ∨ ks.getD i 0 = 2 := by omega
 rcases this with e | e <;> rw [e] <;> rfl
theorem hl_no {i : Nat} (h : hl ks i = false) : ks.getD i 0 ≠ 1 ∧ ks.getD i 0 ≠ 2 := by
 unfold hl at h
 rw [Bool.or_eq_false_iff] at h
 exact ⟨by simpa using h.1, by simpa using h.2⟩
theorem ShW.start : ShW [1] [-1] 1 := by
 refine ⟨⟨rfl, fun k hk => ?_, fun k hk => ?_, by decide⟩, fun k q hk e => ?_, fun k hk hh => ?_⟩
 ·simp at hk; subst hk; decide
 ·simp at hk; subst hk; decide
 ·simp at hk; subst hk; simp at e
 ·simp at hk; subst hk; exact absurd hh (by decide)
theorem parOk.of (h : ShW ks ps k) {q : Nat} (hq : q < ks.length) (h3 : ks.getD q 0 < 3) : parOk ks q := .inr ⟨q, rfl, hl_in (h.1.2.1 q hq).1 (by omega)⟩
theorem ShW.snoc (h : ShW ks ps k) (hk : ks.length = k) (h0 : 0 < k) {y p : Int} (hy : 1 ≤ y ∧ y ≤ 4) (hp : -1 ≤ p ∧ p < k) (hpar : parOk ks p) (hb : behindY ks ps p y) : ShW (ks ++ [y]) (ps ++ [p]) (k + 1) := by
 obtain ⟨h1, h2, h3⟩ := h
 have hpl : ps.length = k := by rw [← h1.1]; exact hk
 have gk : ∀ i, (ks ++ [y]).getD i 0 = if i < k then ks.getD i 0 else if i = k then y else 0 := fun i => by rw [getD_snoc, hk]
 have gp : ∀ i, (ps ++ [p]).getD i 0 = if i < k then ps.getD i 0 else if i = k then p else 0 := fun i => by rw [getD_snoc, hpl]
 have gh : ∀ i, i < k → hl (ks ++ [y]) i = hl ks i := fun i hi => by unfold hl; rw [gk, if_pos hi]
 have gi : ∀ (a : Int) (i : Nat), i < k → isKid (ks ++ [y]) (ps ++ [p]) a i = isKid ks ps a i := fun a i hi => by unfold isKid; rw [gp, if_pos hi, gh i hi]
 have hl' : (ks ++ [y]).length = k + 1 := by rw [List.length_append, hk]; rfl
 refine ⟨h1.snoc (by omega) hy ⟨hp.1, by omega⟩, fun i q hi e => ?_, fun i hi hh => ?_⟩
 ·rw [hl'] at hi
  rw [gp] at e
  by_cases hik : i < k
  ·rw [if_pos hik] at e
   have := (h1.2.2.1 i (by omega)).2
   rw [gh q (by omega)]
   exact h2 i q (by omega) e
  ·rw [if_neg hik, if_pos (by omega)] at e
   rw [gh q (by omega)]
   rcases hpar with e' | ⟨q', e', hh⟩
   ·omega
   ·have : q' = q := by omega
    subst this; exact hh
 ·rw [hl'] at hi
  rw [hl']
  by_cases hik : i < k
  ·rw [gh i hik] at hh
   obtain ⟨q, e1, e2, i', hi', hki⟩ := h3 i (by omega) hh
   have := (h1.2.2.1 i (by omega)).2
   refine ⟨q, by rw [gp, if_pos hik]; exact e1, .inl ?_, i', by omega, by rw [gi _ _ (by omega)]; exact hki⟩
   rw [gk, if_pos (by omega)]
   rcases e2 with e2 | e2
   ·exact e2
   ·omega
  ·have hik' : i = k := by omega
   have hn := hl_no hh
   rw [gk, if_neg hik, if_pos hik'] at hn
   obtain ⟨q, i', e1, e2, e3, e4⟩ := hb (by omega)
   refine ⟨q, by rw [gp, if_neg hik, if_pos hik']; exact e1, .inl ?_, i', by omega, by rw [gi _ _ (by omega)]; exact e4⟩
   rw [gk, if_pos (by omega)]; exact e2
theorem ShW.next (h : ShW ks ps j) (hc : ps.getD j 0 ≠ 0 ∨ ks.getD j 0 ≤ 2) : ShW ks ps (j + 1) := by
 refine ⟨h.1, h.2.1, fun i hi hh => ?_⟩
 obtain ⟨q, e1, e2, e3⟩ := h.2.2 i hi hh
 refine ⟨q, e1, ?_, e3⟩
 rcases e2 with e2 | ⟨e2, e4⟩
 ·exact .inl e2
 ·by_cases e : i = j
  ·exfalso
   subst e
   have := hl_no hh
   have := (h.1.2.1 i hi).1
   omega
  ·exact .inr ⟨e2, by omega⟩
end
end Go.Proofs.YtaoinedndnleoaaGreat
namespace Go.Proofs.YtaoinedndnleoaaGreat
set_option maxRecDepth 100000
open Go.ChangeShapes Go.WideShapes Go.ChangeAt Go.RowKit
def QAt (w : World) (B : Nat) (v : Value) (L : List Int) : Prop := ∃ g o c : Nat, v = .slice (some ⟨g, o, none⟩) L.length c ∧ B ≤ g ∧ g < w.heap.size ∧ L.length ≤ c ∧
 (∀ j (h : j < L.length), w.cell? ⟨g, o + j, none⟩ = some (.int .i64 L[j])) ∧ ∀ j, j < c - L.length → (w.cell? ⟨g, o + L.length + j, none⟩).isSome = true ∧ w.frozen? ⟨g, o + L.length + j, none⟩ = false
theorem QAt.below {w w' : World} {B : Nat} {v : Value} {L : List Int} (h : QAt w B v L) (hb : Below w.heap.size w w') : QAt w' B v L := by
 obtain ⟨g, o, c, e, h1, h2, h3, h4, h5⟩ := h
 have hg := hb.block g h2
 refine ⟨g, o, c, e, h1, Nat.lt_of_lt_of_le h2 hb.size, h3, fun j hj => (World.cell?_of_block (a := ⟨g, o + j, none⟩) hg).trans (h4 j hj), fun j hj => ?_⟩
 rw [World.cell?_of_block (a := ⟨g, o + L.length + j, none⟩) hg, World.frozen?_of_block (a := ⟨g, o + L.length + j, none⟩) hg]
 exact h5 j hj
theorem QAt.ofRow {w : World} {B g : Nat} {cur : Array Value} {c : Nat} {L : List Int} (hB : B ≤ g) (hg : w.heap[g]? = some (.cells cur 3 (0, 0))) (hs : cur.size = c) (hl : L.length ≤ c) (hc : ∀ j (h : j < L.length), cur[j]? = some (.int .i64 L[j])) :
  QAt w B (.slice (some ⟨g, 0, none⟩) L.length c) L := by
 have hlt : g < w.heap.size := (Array.getElem?_eq_some_iff.1 hg).1
 have hcell : ∀ j, w.cell? ⟨g, j, none⟩ = cur[j]? := fun j => cell_of_row w g j cur _ _ hg
 refine ⟨g, 0, c, rfl, hB, hlt, hl, fun j hj => by rw [Nat.zero_add, hcell]; exact hc j hj, fun j hj => ⟨?_, ?_⟩⟩
 ·rw [hcell, Nat.zero_add]
  have : L.length + j < cur.size := by omega
  simp [this]
 ·simp [World.frozen?, hg]
theorem QAt.start (w : World) (B : Nat) (x : Int) (hB : B ≤ w.heap.size) : QAt (w.alloc (.cells #[.int .i64 x] 3)) B (.slice (some ⟨w.heap.size, 0, none⟩) 1 1) [x] :=
 QAt.ofRow (L := [x]) hB (heap_alloc_new w _) rfl (Nat.le_refl _) (fun j hj => by simp at hj; subst hj; rfl)
theorem Tryz.infoU5 : (Tryz.prog.info? 37).map (fun i => (i.zero, i.size, i.bytes)) = some (some (.int .u32 0), 1, 4) := by kernel_rfl
def ucl (l : List Nat) : List Value := l.map fun s : Nat => Value.int .u32 (s : Int)
theorem ucl_len (l : List Nat) : (ucl l).length = l.length := List.length_map ..
theorem ucl_at (l : List Nat) (j : Nat) (hj : j < l.length) : (ucl l)[j]? = some (.int .u32 (l[j] : Nat)) := by simp [ucl, hj]
theorem ucl_one (l : List Nat) : ∀ u ∈ ucl l, u.oneCell' = true := by
 intro u hu
 simp only [ucl, List.mem_map] at hu
 obtain ⟨p, _, rfl⟩ := hu
 rfl
def OwnU (w : World) (base : Nat) (v : Value) (l : List Nat) : Prop := w.ownsRow base 37 1 v l.length (ucl l)
theorem OwnU.nil (w : World) (base : Nat) : OwnU w base (.slice none 0 0) [] := World.ownsRow_nil _ _ _ _
theorem OwnU.snoc {w : World} {base : Nat} {v : Value} {l : List Nat} {k : Nat} (h : w.ownsRow base 37 1 v (l.length + 1) (ucl l ++ [.int .u32 (k : Int)])) : OwnU w base v (l ++ [k]) := by
 unfold OwnU
 rw [List.length_append]
 have : ucl (l ++ [k]) = ucl l ++ [.int .u32 (k : Int)] := by simp [ucl]
 rw [this]; exact h
theorem OwnU.at {w : World} {base : Nat} {v : Value} {l : List Nat} (h : OwnU w base v l) (hk : ∀ k ∈ l, k < 4294967296) (hl : l.length ≤ 1000) : U32sAt w v l := by
 obtain ⟨A, c, rfl⟩ := own_slice h
 refine ⟨A, c, rfl, by unfold maxLen; omega, fun j hj => ?_⟩
 obtain ⟨g, cap, e, _, hg, _, hc⟩ := own_form h (by omega)
 injection e with e1 _ _
 exact ⟨g, 0, e1, hg, by rw [Nat.zero_add]; exact hc j _ (ucl_at l j hj), hk _ (List.getElem_mem hj)⟩
theorem RowsAt2.below {w w' : World} {v : Value} {Z : List (List Int)} (h : RowsAt2 w v Z) (hb : Below w.heap.size w w') : RowsAt2 w' v Z := by
 obtain ⟨A, c, e, hl, hc⟩ := h
 refine ⟨A, c, e, hl, fun k hk => ?_⟩
 obtain ⟨b, off, u, e2, hlt, hx, hi⟩ := hc k hk
 exact ⟨b, off, u, e2, Nat.lt_of_lt_of_le hlt hb.size, (hb.cell (p := ⟨b, off + k, none⟩) hlt).trans hx, hi.below hb⟩
def PartOf (ks ps : List Int) (n : Nat) (rs : List Nat) : Prop := rs.length ≤ n ∧ (∀ x ∈ rs, x < 2 ^ n) ∧ ∀ q, q < n → (∀ k, k < n → (rs.getD q 0).testBit k = false) ∨ ∃ c, prop ks ps c = true ∧ ∀ k, k < n → (rs.getD q 0).testBit k = (c.testBit q && (c.testBit k && (decide (k ≠ q) && undB ps k q)))
theorem PartOf.past {ks ps : List Int} {n : Nat} {rs : List Nat} (h : PartOf ks ps n rs) (hf : ShF ks ps n) (hn : n ≤ 32) : PastOk ks ps n (pfun rs) := PastOk.of hf hn h.2.2
theorem getD_snoc2 (rs : List Nat) (x q : Nat) : (rs ++ [x]).getD q 0 = if q < rs.length then rs.getD q 0 else if q = rs.length then x else 0 := by
 simp only [List.getD_eq_getElem?_getD, List.getElem?_append]
 split
 ·rfl
 ·rename_i h
  by_cases e : q = rs.length
  ·subst e; simp
  ·rw [if_neg e, List.getElem?_eq_none (by simp; omega)]; rfl
theorem PartOf.nil (ks ps : List Int) (n : Nat) : PartOf ks ps n [] := ⟨Nat.zero_le _, (fun x h => nomatch h), fun q _ => .inl fun k _ => by simp⟩
theorem PartOf.snoc {ks ps : List Int} {n : Nat} {rs : List Nat} (h : PartOf ks ps n rs) (hl : rs.length < n) {x : Nat} (hx : x < 2 ^ n)
  (hp : (∀ k, k < n → x.testBit k = false) ∨ ∃ c, prop ks ps c = true ∧ ∀ k, k < n → x.testBit k = (c.testBit rs.length && (c.testBit k && (decide (k ≠ rs.length) && undB ps k rs.length)))) : PartOf ks ps n (rs ++ [x]) := by
 refine ⟨by rw [List.length_append, List.length_singleton]; omega, fun y hy => ?_, fun q hq => ?_⟩
 ·rw [List.mem_append, List.mem_singleton] at hy
  rcases hy with hy | rfl
  ·exact h.2.1 y hy
  ·exact hx
 ·rw [getD_snoc2]
  by_cases h1 : q < rs.length
  ·rw [if_pos h1]; exact h.2.2 q hq
  ·rw [if_neg h1]
   by_cases e : q = rs.length
   ·subst e; rw [if_pos rfl]; exact hp
   ·rw [if_neg e]; exact .inl fun k _ => Nat.zero_testBit k
section
variable {ks ps : List Int} {A B : Option Addr} {n c d : Nat}
set_option maxHeartbeats 2000000 in
theorem Domain_any (k t : Nat) (w : World) (h : IntsAt w (.slice A n c) ks ∧ IntsAt w (.slice B n d) ps) (hf : ShF ks ps n) (hn : n ≤ 100) (hk : k < n) (ht : t < n) :
  Calls Tryz.prog 70 #[.agg #[.slice A n c, .slice B n d], .int .i64 k, .int .i64 t] w fun e w' => e = .returned (.int .i64 (domL ks ps n k t)) ∧ Below w.heap.size w w' := by
 have x0 := box_0 w 27 (.slice A n c) (.slice B n d)
 have x1 := box_1 w 27 (.slice A n c) (.slice B n d)
 have hz := box_b w (.cells #[.slice A n c, .slice B n d] 27)
 have hlt : w.heap.size < (w.alloc (.cells #[.slice A n c, .slice B n d] 27)).heap.size := by simp
 have S1 := Lib.hid (shp_below h hz)
 have HZ := Lib.hid hz
 have HF := Lib.hid hf
 have HD := Lib.hid (domU_dom hf t hk)
 have hpk := hf.pa k hk
 have epar0 : par ps k = ps.getD k 0 := by unfold par; omega
 clear h hz hf
 go_enter Tryz.func70, Tryz.ntmps70
 go_upto_region 1 with (fail)
 generalize w.alloc (.cells #[.slice A n c, .slice B n d] 27) = w0 at *
 have TH := Lib.hid (fun W => there_any (A := A) (B := B) (c := c) (d := d) k W hn hk)
 have PA := Lib.hid (fun W (hW : Below w0.heap.size w0 W) (q : Nat) (hq : q < n) => parent_any ps A B n c n d q W (shp_below S1.out hW).2 HF.out.pl.symm hq (by omega))
 have UN := Lib.hid (fun W (hW : Below w0.heap.size w0 W) (a : Int) => Under_any t a W (shp_below S1.out hW) HF.out hn ht)
 have PA0 := Lib.hid (fun W (hW : Below w0.heap.size w0 W) => by have := PA.out W hW k hk; rw [epar0] at this; exact this)
 have HPK := Lib.hid hpk
 clear epar0 hpk
 generalize hp0 : ps.getD k 0 = p0 at *
 have HP0 := Lib.hid hp0
 clear hp0
 go_wp2_with (first
  | (go_at_call 82; refine (TH.out _).mono ?_; rintro e w1 ⟨rfl, hb1⟩; have y0 := (hb1.cell (p := ⟨w.heap.size, 0, none⟩) hlt).trans x0; have y1 := (hb1.cell (p := ⟨w.heap.size, 1, none⟩) hlt).trans x1)
  | (go_at_call 83; refine (PA0.out _ hb1).mono ?_; rintro e w2 ⟨rfl, hb2⟩))
 have HB2 := Lib.hid (below_then hb1 hb2 hb1.size)
 clear hb1 hb2 y0 y1
 go_loopw [7] (fun i wr => ∃ a : Int, i = .int .i64 a ∧ Hid (-1 ≤ a ∧ a < n ∧ domU ks ps t a = domL ks ps n k t) ∧ Hid (Below w0.heap.size w0 wr)) (fun i _ => (intOf i + 1).toNat)
 case atStart => exact ⟨p0, rfl, ⟨HPK.out.1, by have := HPK.out.2; omega, HD.out⟩, HB2.out⟩
 case round =>
  obtain ⟨a, rfl, HA, HB⟩ := hrel
  have z0 := (HB.out.cell (p := ⟨w.heap.size, 0, none⟩) hlt).trans x0
  have z1 := (HB.out.cell (p := ⟨w.heap.size, 1, none⟩) hlt).trans x1
  by_cases h0 : 0 ≤ a
  ·obtain ⟨q, rfl⟩ : ∃ q : Nat, a = q := ⟨a.toNat, by omega⟩
   have hq : q < n := by have := HA.out.2.1; omega
   have hqi : (q : Int) < n := by omega
   obtain ⟨b, off, rfl, hb, hx, _⟩ := ints_cell (shp_below S1.out HB.out).1 (k := q) (by rw [HF.out.kl]; exact hq)
   have hpq := HF.out.pa q hq
   have epar : par ps q = ps.getD q 0 := by unfold par; omega
   have HPQ := Lib.hid hpq
   have HMS : Hid (¬ (ks.getD q 0 = 1 ∧ q ≠ t ∧ undB ps t q = true) → domU ks ps t (ps.getD q 0) = domL ks ps n k t) := fun hc => by rw [domU_miss HF.out hq hc]; exact HA.out.2.2
   have HHT : Hid (ks.getD q 0 = 1 ∧ q ≠ t ∧ undB ps t q = true → (q : Int) = domL ks ps n k t) := fun hc => by
    rw [← HA.out.2.2, domU_hit h0 (by rw [Int.toNat_natCast]; exact hc)]
   have PQ := Lib.hid (fun W (hW : Below w0.heap.size w0 W) => by have := PA.out W hW q hq; rw [epar] at this; exact this)
   have UQ := Lib.hid (UN.out wr HB.out q)
   clear HA hpq epar
   generalize ps.getD q 0 = p at *
   generalize ks.getD q 0 = z at *
   generalize undB ps t q = un at *
   by_cases hz1 : z = 1
   ·subst hz1
    by_cases hqt2 : (q : Int) = t
    ·have g2 : ((q : Int) != t) = false := by simp [hqt2]
     have HS := Lib.hid (HMS.out (fun hc => hc.2.1 (by omega)))
     clear HMS HHT hqt2
     go_wp2_with (go_at_call 83; refine (PQ.out _ HB.out).mono ?_; rintro e w3 ⟨rfl, hb3⟩)
     go_roundw
     case rel => exact ⟨p, rfl, ⟨HPQ.out.1, by have := HPQ.out.2; omega, HS.out⟩, below_then HB.out hb3 HB.out.size⟩
     case measure => have := HPQ.out; simp [intOf]; omega
    ·have g2 : ((q : Int) != t) = true := by simpa using hqt2
     cases un
     ·have HS := Lib.hid (HMS.out (fun hc => by simp at hc))
      clear HMS HHT
      go_wp2_with (first
       | (go_at_call 101; refine UQ.out.mono ?_; rintro e w4 ⟨rfl, hb4⟩; have HB4 := Lib.hid (below_then HB.out hb4 HB.out.size); have y40 := (HB4.out.cell (p := ⟨w.heap.size, 0, none⟩) hlt).trans x0; have y41 := (HB4.out.cell (p := ⟨w.heap.size, 1, none⟩) hlt).trans x1)
       | (go_at_call 83; refine (PQ.out _ HB4.out).mono ?_; rintro e w3 ⟨rfl, hb3⟩))
      go_roundw
      case rel => exact ⟨p, rfl, ⟨HPQ.out.1, by have := HPQ.out.2; omega, HS.out⟩, below_then HB4.out hb3 HB4.out.size⟩
      case measure => have := HPQ.out; simp [intOf]; omega
     ·have HS := Lib.hid (HHT.out ⟨rfl, by omega, rfl⟩)
      clear HMS HHT
      go_wp2_with (go_at_call 101; refine UQ.out.mono ?_; rintro e w4 ⟨rfl, hb4⟩)
      go_ret
      exact ⟨ret_int HS.out, below_then HZ.out (below_then HB.out hb4 HB.out.size) HZ.out.size⟩
   ·have g1 : (z == 1) = false := by simpa using hz1
    have HS := Lib.hid (HMS.out (fun hc => hz1 hc.1))
    clear HMS HHT
    go_wp2_with (go_at_call 83; refine (PQ.out _ HB.out).mono ?_; rintro e w3 ⟨rfl, hb3⟩)
    go_roundw
    case rel => exact ⟨p, rfl, ⟨HPQ.out.1, by have := HPQ.out.2; omega, HS.out⟩, below_then HB.out hb3 HB.out.size⟩
    case measure => have := HPQ.out; simp [intOf]; omega
  ·have HS : Hid ((-1 : Int) = domL ks ps n k t) := by
    show _ = _
    rw [← HA.out.2.2]
    unfold domU
    rw [if_neg h0]
   clear HA
   go_wp2
   go_ret
   exact ⟨ret_int HS.out, below_then HZ.out HB.out HZ.out.size⟩
end
def nHi (ks : List Int) (p : Int) (b : Bool) : Prop := b = false → parOk ks p ∨ p < -1
theorem nHi.of {ks ps : List Int} {k q : Nat} (h : ShW ks ps k) (hq : q < ks.length) : nHi ks q (decide ((3 : Int) ≤ ks.getD q 0)) := fun hb => .inl (parOk.of h hq (by have := of_decide_eq_false hb; omega))
section
variable {ks ps : List Int} {n : Nat}
theorem leave_lt (h : ShF ks ps n) {s : Nat} {d : Int} : ∀ k ∈ leaveL ps n s d, k < n := fun k hk => ((mem_leaveL h).1 hk).1
theorem leave_len (h : ShF ks ps n) (s : Nat) (d : Int) : (leaveL ps n s d).length ≤ n := nodup_len n _ (leaveL_nodup s d) (leave_lt h)
theorem enter_in (h : ShF ks ps n) {past : Nat → Nat} (hp : PastOk ks ps n past) {t : Nat} {d : Int} (ht : t < n) (hu : Und ps t d) (hne : (t : Int) ≠ d) {k : Nat} (hm : k ∈ enterL ks ps n past d t) : k < n ∧ (k : Int) ≠ d ∧ Und ps k d := by
 obtain ⟨⟨j, hj, hk, hS⟩, _⟩ := enterL_LC h hp ht hu hne
 exact enterL_und h hj hk hS hm
theorem enter_len (h : ShF ks ps n) {past : Nat → Nat} (hp : PastOk ks ps n past) {t : Nat} {d : Int} (ht : t < n) (hu : Und ps t d) (hne : (t : Int) ≠ d) : (enterL ks ps n past d t).length ≤ n :=
 nodup_len n _ (enterL_LC h hp ht hu hne).2.1 fun _ hk => (enter_in h hp ht hu hne hk).1
end
theorem kids_ints {w : World} {base : Nat} {v : Value} {l : List Nat} (h : OwnI w base v (l.map fun k : Nat => (k : Int))) (hk : ∀ k ∈ l, k < 1000) (hl : l.length ≤ 1000) :
  ∃ A c, v = .slice A l.length c ∧ IntsAt w (.slice A l.length c) (l.map fun k : Nat => (k : Int)) := by
 have h1 := OwnN.of h
 obtain ⟨A, c, rfl⟩ := own_slice h1
 exact ⟨A, c, rfl, nat_ints h1 hk hl⟩
def ListTo (l : List Nat) (w : World) (e : Ending) (w' : World) : Prop := ∃ A c, e = .returned (.slice A l.length c) ∧ IntsAt w' (.slice A l.length c) (l.map fun k : Nat => (k : Int)) ∧ Below w.heap.size w w'
theorem KidsTo.list {l : List Nat} {w : World} {e : Ending} {w' : World} (h : KidsTo l w e w') (hk : ∀ k ∈ l, k < 1000) (hl : l.length ≤ 1000) : ListTo l w e w' := by
 obtain ⟨v, rfl, ho, hb⟩ := h
 obtain ⟨A, c, rfl, hi⟩ := kids_ints ho hk hl
 exact ⟨A, c, rfl, hi, hb⟩
def adn (a b : Nat) : Nat := a &&& (4294967295 - b)
theorem adn_bit {a b : Nat} (ha : a < 4294967296) (hb : b < 4294967296) (j : Nat) : (adn a b).testBit j = (a.testBit j && !b.testBit j) := by
 unfold adn
 rw [Nat.testBit_and, show 4294967295 - b = 2 ^ 32 - (b + 1) by omega, Nat.testBit_two_pow_sub_succ (show b < 2 ^ 32 from hb)]
 by_cases hj : j < 32
 ·rw [decide_eq_true hj, Bool.true_and]
 ·rw [Nat.testBit_lt_two_pow (Nat.lt_of_lt_of_le ha (Nat.pow_le_pow_right (n := 2) (by omega) (show 32 ≤ j by omega)))]; simp
theorem adn_lt {a b : Nat} (ha : a < 4294967296) : adn a b < 4294967296 := Nat.lt_of_le_of_lt Nat.and_le_left ha
theorem adn_u32 {a b : Nat} (ha : a < 4294967296) (hb : b < 4294967296) : bits .andNot .u32 (a : Int) (b : Int) = ((adn a b : Nat) : Int) := u32_andNot_nat a b ha hb
section
variable {ks ps : List Int} {n : Nat}
def rem1 (ks ps : List Int) (n s : Nat) (M : List Nat) (p : Nat) : List Nat := if keepsB ks ps n p = true then M.set p (setN (insL ps s p n)) else M
def rememL (ks ps : List Int) (n s : Nat) (M : List Nat) (l : List Nat) : List Nat := l.foldl (rem1 ks ps n s) M
theorem rem1_len (s p : Nat) (M : List Nat) : (rem1 ks ps n s M p).length = M.length := by unfold rem1; split <;> simp
theorem rememL_len (s : Nat) : ∀ (l M : List Nat), (rememL ks ps n s M l).length = M.length
 | [], _ => rfl
 | p :: l, M => by
  show (rememL ks ps n s (rem1 ks ps n s M p) l).length = _
  rw [rememL_len s l, rem1_len]
theorem rememL_snoc (s : Nat) (M l : List Nat) (p : Nat) : rememL ks ps n s M (l ++ [p]) = rem1 ks ps n s (rememL ks ps n s M l) p := by unfold rememL; rw [List.foldl_append]; rfl
theorem rem1_getD (s p i : Nat) {M : List Nat} (hp : p < M.length) : (rem1 ks ps n s M p).getD i 0 = if i = p ∧ keepsB ks ps n p = true then setN (insL ps s p n) else M.getD i 0 := by
 unfold rem1
 by_cases hk : keepsB ks ps n p = true
 ·rw [if_pos hk]
  simp only [List.getD_eq_getElem?_getD, List.getElem?_set]
  by_cases e : p = i
  ·subst e; simp [hp, hk]
  ·rw [if_neg e, if_neg (by rintro ⟨h, _⟩; exact e h.symm)]
 ·rw [if_neg hk, if_neg (by rintro ⟨_, h⟩; exact hk h)]
theorem rememL_getD (s i : Nat) : ∀ (l M : List Nat), (∀ p ∈ l, p < M.length) → (rememL ks ps n s M l).getD i 0 = if i ∈ l ∧ keepsB ks ps n i = true then setN (insL ps s i n) else M.getD i 0
 | [], M, _ => by simp [rememL]
 | p :: l, M, h => by
  show (rememL ks ps n s (rem1 ks ps n s M p) l).getD i 0 = _
  rw [rememL_getD s i l _ (fun q hq => by rw [rem1_len]; exact h q (List.mem_cons_of_mem _ hq)), rem1_getD s p i (h p List.mem_cons_self)]
  by_cases hm : i ∈ l
  ·by_cases hk : keepsB ks ps n i = true
   ·rw [if_pos ⟨hm, hk⟩, if_pos ⟨List.mem_cons_of_mem _ hm, hk⟩]
   ·rw [if_neg (fun h => hk h.2), if_neg (by rintro ⟨rfl, h⟩; exact hk h), if_neg (fun h => hk h.2)]
  ·rw [if_neg (fun h => hm h.1)]
   by_cases e : i = p
   ·subst e
    by_cases hk : keepsB ks ps n i = true
    ·rw [if_pos ⟨rfl, hk⟩, if_pos ⟨List.mem_cons_self, hk⟩]
    ·rw [if_neg (fun h => hk h.2), if_neg (fun h => hk h.2)]
   ·rw [if_neg (fun h => e h.1), if_neg (fun h => by
     rcases List.mem_cons.1 h.1 with h1 | h1
     ·exact e h1
     ·exact hm h1)]
theorem ins_lt (ps : List Int) (s : Nat) (t : Int) (n : Nat) : ∀ k ∈ insL ps s t n, k < n := fun k hk => by
 unfold insL at hk
 exact List.mem_range.1 (List.mem_filter.1 hk).1
theorem rem1_lt {s p : Nat} {M : List Nat} (h : ∀ x ∈ M, x < 2 ^ n) : ∀ x ∈ rem1 ks ps n s M p, x < 2 ^ n := fun x hx => by
 unfold rem1 at hx
 split at hx
 ·rcases List.mem_or_eq_of_mem_set hx with h1 | h1
  ·exact h x h1
  ·rw [h1]; exact setN_lt (ins_lt ps s p n)
 ·exact h x hx
theorem rememL_lt {s : Nat} : ∀ (l M : List Nat), (∀ x ∈ M, x < 2 ^ n) → ∀ x ∈ rememL ks ps n s M l, x < 2 ^ n
 | [], _, h => h
 | p :: l, M, h => rememL_lt l (rem1 ks ps n s M p) (rem1_lt h)
def padL (n : Nat) (rs : List Nat) : List Nat := rs ++ List.replicate (n - rs.length) 0
theorem padL_len {rs : List Nat} (h : rs.length ≤ n) : (padL n rs).length = n := by unfold padL; rw [List.length_append, List.length_replicate]; omega
theorem padL_lt {rs : List Nat} (h : ∀ x ∈ rs, x < 2 ^ n) : ∀ x ∈ padL n rs, x < 2 ^ n := fun x hx => by
 unfold padL at hx
 rcases List.mem_append.1 hx with h1 | h1
 ·exact h x h1
 ·rw [(List.mem_replicate.1 h1).2]; exact Nat.two_pow_pos n
end
theorem own_rowU {w : World} {base g : Nat} {M : List Nat} (hb : base ≤ g) (hg : w.heap[g]? = some (.cells (ucl M).toArray 37 (0, 0))) (hm : M.length ≤ 1000) : OwnU w base (.slice (some ⟨g, 0, none⟩) M.length M.length) M := by
 refine ⟨by rw [ucl_len, Nat.mul_one], .inr ⟨g, M.length, (ucl M).toArray, rfl, hb, hg, Nat.le_refl _, by unfold maxLen; omega, by simp [ucl_len], ?_⟩⟩
 have : M.length * 1 = (ucl M).length := by rw [ucl_len, Nat.mul_one]
 rw [this]
 simp
theorem ucl_set (M : List Nat) (i x : Nat) : ucl (M.set i x) = (ucl M).set i (.int .u32 (x : Int)) := by simp [ucl, List.map_set]
theorem ownU_cell {w : World} {base g c : Nat} {M : List Nat} {m : Nat} (h : OwnU w base (.slice (some ⟨g, 0, none⟩) m c) M) {k : Nat} (hk : k < M.length) : w.cell? ⟨g, k, none⟩ = some (.int .u32 (M[k] : Nat)) := by
 obtain ⟨g', cap', e', _, _, _, hc⟩ := own_form h (by omega)
 injection e' with e1
 injection e1 with e1
 injection e1 with e1
 subst e1
 exact hc _ _ (ucl_at M k hk)
theorem mk_u32 (n : Nat) (hn : n ≤ 1000) (W : World) : (Instr.makeSlice 38 (.int .i64 n) (.int .i64 n)).run Tryz.prog W = .ok (.slice (some ⟨W.heap.size, 0, none⟩) n n) (W.alloc (.cells (Array.replicate n (Value.int .u32 0)) 37)) := by
 obtain ⟨i0, hi, hz0, hz1, hz2⟩ := info_parts Tryz.infoU5
 have h := run_make (P := Tryz.prog) W 38 37 i0 _ Tryz.underlying38 hi hz0 .i64 .i64 (n : Int) (n : Int) (by omega) (Int.le_refl _) (by rw [hz2]; omega) (by omega)
 rw [h, Int.toNat_natCast, hz1, Nat.mul_one]
 congr 3
 apply Array.ext
 ·simp [madeCells]
 ·intro j h1 h2
  simp [madeCells, Value.cells, Nat.mod_one]
def RemToB (n : Nat) (M : List Nat) (w : World) (e : Ending) (w' : World) : Prop := ∃ g, e = .returned (.slice (some ⟨g, 0, none⟩) n n) ∧ w.heap.size ≤ g ∧ U32sAt w' (.slice (some ⟨g, 0, none⟩) n n) M ∧ Below w.heap.size w w'
section
variable {ks ps : List Int} {A B : Option Addr} {n c d : Nat}
set_option maxHeartbeats 4000000 in
theorem Remember_B (s : Nat) (AL : Option Addr) (cL : Nat) (L : List Nat) (v : Value) (rs : List Nat) (w : World) (h : IntsAt w (.slice A n c) ks ∧ IntsAt w (.slice B n d) ps) (hf : ShF ks ps n) (h0 : 0 < n) (hn : n ≤ 24) (hs : s < 4294967296)
  (hL : IntsAt w (.slice AL L.length cL) (L.map fun k : Nat => (k : Int))) (hLn : ∀ k ∈ L, k < n) (hLl : L.length ≤ 1000) (hu : U32sAt w v rs) (hrl : rs.length ≤ n) (hrs : ∀ x ∈ rs, x < 2 ^ n) :
  Calls Tryz.prog 72 #[.agg #[.slice A n c, .slice B n d], .int .u32 s, .slice AL L.length cL, v] w (RemToB n (rememL ks ps n s (padL n rs) L) w) := by
 obtain ⟨A7, c7, rfl⟩ := u32s_form hu
 have x0 := box_0 w 27 (.slice A n c) (.slice B n d)
 have x1 := box_1 w 27 (.slice A n c) (.slice B n d)
 have hz := box_b w (.cells #[.slice A n c, .slice B n d] 27)
 have hlt0 : w.heap.size < (w.alloc (.cells #[.slice A n c, .slice B n d] 27)).heap.size := by simp
 have S1 := Lib.hid (shp_below h hz)
 have HU := Lib.hid (hu.below hz)
 have HLi := Lib.hid (hL.below hz)
 have HZ := Lib.hid hz
 have HF := Lib.hid hf
 have HLn := Lib.hid hLn
 have HRS := Lib.hid hrs
 have HMK := Lib.hid (mk_u32 n (by omega))
 clear h hz hf hu hL hLn hrs
 go_enter Tryz.func72, Tryz.ntmps72
 go_upto_region 1 with (fail)
 generalize w.alloc (.cells #[.slice A n c, .slice B n d] 27) = w0 at *
 have VA := Lib.hid (val_any w0 S1.out HF.out h0 hn)
 have RM := Lib.hid (fun W (hW : Below w0.heap.size w0 W) (p : Nat) => remembers_any (p : Int) W (shp_below S1.out hW) HF.out h0 hn)
 have ID := Lib.hid (fun W (hW : Below w0.heap.size w0 W) (p : Nat) => inside_any s (p : Int) W (shp_below S1.out hW) HF.out hn hs)
 go_upto_region 3 with (go_at_call 102; refine VA.out.mono ?_; rintro e w1 ⟨rfl, hb1⟩)
 have HB1 := Lib.hid hb1
 have hbs1 := hb1.size
 have y0 := (hb1.cell (p := ⟨w.heap.size, 0, none⟩) hlt0).trans x0
 have y1 := (hb1.cell (p := ⟨w.heap.size, 1, none⟩) hlt0).trans x1
 have hmk := HMK.out w1
 have hrow : (w1.alloc (.cells (Array.replicate n (Value.int .u32 0)) 37)).heap[w1.heap.size]? = some (.cells (List.replicate n (Value.int .u32 0)).toArray 37 (0, 0)) := by rw [List.toArray_replicate]; exact heap_alloc_new w1 _
 have HRW := Lib.hid hrow
 have hB2 : Below w0.heap.size w0 (w1.alloc (.cells (Array.replicate n (Value.int .u32 0)) 37)) := hb1.alloc hbs1 _
 have HB2 := Lib.hid hB2
 have U2 := Lib.hid (HU.out.below hB2)
 have hminn : Nat.min rs.length n = rs.length := Nat.min_eq_left hrl
 clear hb1 hrow hB2
 go_upto_region 4 with (fail)
 clear hmk
 generalize w1.alloc (.cells (Array.replicate n (Value.int .u32 0)) 37) = w2 at *
 have hsz1 : (Tryz.prog.info? 37).map (·.size) = some 1 := by kernel_rfl
 obtain ⟨X1, hX1⟩ : ∃ X1, X1 = ucl rs := ⟨_, rfl⟩
 have HX1 := Lib.hid hX1
 have hXl : X1.length = rs.length := by rw [hX1, ucl_len]
 have hXo : ∀ u ∈ X1, u.oneCell' = true := by rw [hX1]; exact ucl_one rs
 have hXc : 0 < X1.length → ∃ ad, A7 = some ad ∧ ∀ j u, X1[j]? = some u → w2.cell? (ad.add j) = some u := fun hp => by
  rw [hX1, ucl_len] at hp
  obtain ⟨b, off, e, hb, hx, _⟩ := u32s_cell U2.out (k := 0) hp
  refine ⟨⟨b, off, none⟩, e, fun j u hu => ?_⟩
  have hj : j < rs.length := by
   have := (List.getElem?_eq_some_iff.1 hu).1
   rw [hX1, ucl_len] at this
   exact this
  obtain ⟨b', off', e', _, hx', _⟩ := u32s_cell U2.out (k := j) hj
  rw [e] at e'
  injection e' with e'
  injection e' with e1 e2
  subst e1; subst e2
  rw [Go.WideShapes.add_plain, hx', ← hu, hX1, ucl_at rs j hj]
  simp [List.getD_eq_getElem?_getD, hj]
 have HXL := Lib.hid hXl
 have HXO := Lib.hid hXo
 have HXC := Lib.hid hXc
 clear hX1 hXl hXo hXc
 go_wp2_with ((with_reducible show wpList _ _ _ _ _ _); refine wpList_copy_splice (o := ⟨some 21, _, _, _, _, _⟩) rfl _ _ _ _ rfl 37 Tryz.underlying38 hsz1 _ _ _ _ _ _ rfl rfl w1.heap.size 0 (List.replicate n (Value.int .u32 0)) 37 HRW.out X1 (by rw [HXL.out]; exact hminn.symm) (fun hp => ⟨rfl, HXC.out hp⟩) (by rw [HXL.out, List.length_replicate]; omega) HXO.out w0.heap.size w0 HB2.out hbs1 ?_; intro w3 HG3 hB3)
 have hsp : splice (List.replicate n (Value.int .u32 0)) 0 X1 = ucl (padL n rs) := by
  rw [HX1.out]
  unfold splice padL ucl
  rw [List.take_zero, List.nil_append, Nat.zero_add, List.length_map, List.drop_replicate, List.map_append, List.map_replicate]
  rfl
 have hPL : (padL n rs).length = n := padL_len hrl
 have HO0 : Hid (OwnU w3 w0.heap.size (.slice (some ⟨w1.heap.size, 0, none⟩) n n) (padL n rs)) := by
  have h9 := HG3.out
  rw [hsp] at h9
  have := own_rowU (w := w3) hbs1 h9 (by omega)
  rw [hPL] at this
  exact this
 have HPL := Lib.hid hPL
 have HB3 := Lib.hid hB3
 have HRL : Hid (∀ l, (rememL ks ps n s (padL n rs) l).length = n) := fun l => by rw [rememL_len, HPL.out]
 have HRT : Hid (∀ l, ∀ x ∈ rememL ks ps n s (padL n rs) l, x < 2 ^ n) := fun l => rememL_lt l _ (padL_lt HRS.out)
 have SNOC : Hid (∀ j (hj : j < L.length), rememL ks ps n s (padL n rs) (L.take (j + 1)) = rem1 ks ps n s (rememL ks ps n s (padL n rs) (L.take j)) L[j]) := fun j hj => by
  rw [List.take_succ_eq_append_getElem hj, rememL_snoc]
 clear hsp hPL hB3 HG3 HX1 HXL HXO HXC HRW
 generalize w1.heap.size = g at *
 generalize padL n rs = M0 at *
 go_loopw [24] (fun i wr => ∃ j : Nat, j ≤ L.length ∧ i = .int .i64 j ∧ Hid (OwnU wr w0.heap.size (.slice (some ⟨g, 0, none⟩) n n) (rememL ks ps n s M0 (L.take j))) ∧ Hid (Below w0.heap.size w0 wr)) (fun i _ => L.length - (intOf i).toNat)
 case atStart => exact ⟨0, Nat.zero_le _, rfl, HO0.out, HB3.out⟩
 case round =>
  obtain ⟨j, hj, rfl, HO, HB⟩ := hrel
  have z0 := (HB.out.cell (p := ⟨w.heap.size, 0, none⟩) hlt0).trans x0
  have z1 := (HB.out.cell (p := ⟨w.heap.size, 1, none⟩) hlt0).trans x1
  have hbz := HB.out.size
  have hrl2 := HRL.out (L.take j)
  by_cases hlt : j < L.length
  ·have hji : (j : Int) < L.length := by omega
   obtain ⟨b9, off9, rfl, hb9, hx9⟩ := nat_cell (HLi.out.below HB.out) hlt
   have hsn := SNOC.out j hlt
   have hpn := HLn.out _ (List.getElem_mem hlt)
   have hpi : (L[j] : Int) < n := by omega
   have RMp := Lib.hid (RM.out wr HB.out L[j])
   have IDp := Lib.hid (fun W (hW : Below w0.heap.size w0 W) => ID.out W hW L[j])
   have hR1 : rem1 ks ps n s (rememL ks ps n s M0 (L.take j)) L[j] = if keepsB ks ps n L[j] = true then (rememL ks ps n s M0 (L.take j)).set L[j] (setN (insL ps s L[j] n)) else rememL ks ps n s M0 (L.take j) := rfl
   rw [hR1] at hsn
   have HIL := Lib.hid (ins_lt ps s (L[j] : Nat) n)
   have hill := insL_len ps s (L[j] : Nat) n
   clear hR1
   generalize hkb : keepsB ks ps n L[j] = kb at *
   have HKB := Lib.hid hkb
   clear hkb HKB
   generalize L[j] = p at *
   cases kb
   ·rw [if_neg (by simp)] at hsn
    have HNw : Hid (∀ W, Below wr.heap.size wr W → OwnU W w0.heap.size (.slice (some ⟨g, 0, none⟩) n n) (rememL ks ps n s M0 (L.take (j + 1)))) := fun W hW => by rw [hsn]; exact own_below HO.out hW hbz
    clear hsn
    go_wp2_with (go_at_call 105; refine RMp.out.mono ?_; rintro e w4 ⟨rfl, hb4⟩)
    go_roundw
    case rel => exact ⟨j + 1, by omega, by go_num, HNw.out _ hb4, below_then HB.out hb4 hbz⟩
    case measure => simp [intOf]; omega
   ·rw [if_pos rfl] at hsn
    have HSN := Lib.hid hsn
    clear hsn
    generalize rememL ks ps n s M0 (L.take j) = M at *
    generalize insL ps s p n = IL at *
    have hIL32 : ∀ k ∈ IL, k < 32 := fun k hk => by have := HIL.out k hk; omega
    have HI32 := Lib.hid hIL32
    have hst32 : setN IL < 4294967296 := setN_lt (n := 32) hIL32
    clear hIL32
    go_wp2_with (first
     | (go_at_call 105; refine RMp.out.mono ?_; rintro e w4 ⟨rfl, hb4⟩; have HB4 := Lib.hid (below_then HB.out hb4 hbz); have HO4 := Lib.hid (own_below HO.out hb4 hbz); have y40 := (HB4.out.cell (p := ⟨w.heap.size, 0, none⟩) hlt0).trans x0; have y41 := (HB4.out.cell (p := ⟨w.heap.size, 1, none⟩) hlt0).trans x1; clear hb4)
     | (go_at_call 103; (refine (IDp.out _ HB4.out).mono ?_; rintro e w5 ⟨v5, rfl, hO5, hb5⟩; have HB5 := Lib.hid (below_then HB4.out hb5 HB4.out.size); have HO5 : Hid (OwnU w5 w0.heap.size (.slice (some ⟨g, 0, none⟩) n n) M) := (own_below HO4.out hb5 HB4.out.size); obtain ⟨A5, c5, rfl, hi5⟩ := kids_ints hO5 (fun k hk => by have := HIL.out k hk; omega) (by omega); have UNI := Lib.hid (union_any IL c5 w5 hi5 HI32.out); have c6 := ownU_cell HO5.out (k := p) (by omega); have HO5x : w5.ownsRow w0.heap.size 37 1 (.slice (some ⟨g, 0, none⟩) n n) n (ucl M) := (by have h8 := HO5.out; unfold OwnU at h8; rw [hrl2] at h8; exact h8); have f6 := World.ownsRow.frozenAt HO5x p; have hg5 := (World.ownsRow.lt HO5x g rfl); have HOX := Lib.hid HO5x; clear hb5 hO5 hi5 HO5x))
     | (go_at_call 106; refine UNI.out.mono ?_; rintro e w6 ⟨rfl, rfl⟩))
    have HNw : Hid (OwnU (w5.setCell ⟨g, p, none⟩ (.int .u32 (setN IL : Nat))) w0.heap.size (.slice (some ⟨g, 0, none⟩) n n) (rememL ks ps n s M0 (L.take (j + 1)))) := by
     show World.ownsRow _ _ _ _ _ _ _
     rw [HSN.out, List.length_set, ucl_set, hrl2]
     exact (World.ownsRow.stored HOX.out p (.int .u32 (setN IL : Nat))).1
    have HB6 := Lib.hid (set_below (k := p) (u := .int .u32 (setN IL : Nat)) HB5.out HB5.out.size hg5.1)
    go_roundw
    case rel => exact ⟨j + 1, by omega, by go_num, HNw, HB6⟩
    case measure => simp [intOf]; omega
  ·have e : j = L.length := by omega
   subst e
   rw [List.take_length] at HO hrl2
   have HUA : Hid (U32sAt wr (.slice (some ⟨g, 0, none⟩) n n) (rememL ks ps n s M0 L)) := OwnU.at HO.out (fun x hx => Nat.lt_of_lt_of_le (HRT.out L x hx) (Nat.pow_le_pow_right (n := 2) (by omega) (show n ≤ 32 by omega))) (by omega)
   go_wp2
   go_ret
   exact ⟨g, rfl, by omega, HUA.out, below_then HZ.out HB.out HZ.out.size⟩
end
end Go.Proofs.YtaoinedndnleoaaGreat
