/-
  Package shape: Valid.
-/
import Derived.Test.YtnnmjmjbfeoggaaGreatDoorDigits
import Derived.Lib.BitFns
import Derived.Laws.ShiftsVar
import Derived.Maps.Range
import Derived.BigQuiet
namespace Go.Proofs.YtnnmjmjbfeoggaaGreatDoor
set_option maxRecDepth 100000
open Go.ChangeShapes Go.WideShapes Go.ChangeAt Go.RowKit

def IntsC (W : World) (v : Value) (zs : List Int) : Prop := IntsAt W v zs ∧ ∃ A c, v = .slice A zs.length c ∧ zs.length ≤ c
section
variable {H : Type} {enc : TypeId × Value → H}
theorem arg_intsC {t : TypeId} {d : DataW H} {W : World} {base : Nat} {v : Value} {p : List MemPlace} (ht : Tryz.prog.underlying t = some (.slice 3)) (hc : Tryz.prog.cellsOf 3 = 1)
    (hv : Value.okWide Tryz.prog W .any base t v) (h : DataW.Trod enc Tryz.prog W 0 (fun _ => true) true t v d p) : ∃ zs, IntsC W v zs := by
  obtain ⟨A, n, c, rfl⟩ := okWide_slice ht hv
  obtain ⟨fuel, hf⟩ := h
  rcases open_ints ht Tryz.underlying3 hc hf with ⟨hcs, _⟩ | ⟨a, len, cap, zs, hcs, _, hl, hm, hn, _, hcell, hwf⟩
  · simp [Value.cells] at hcs
    obtain ⟨rfl, rfl, rfl⟩ := hcs
    exact ⟨[], ⟨_, _, rfl, Nat.zero_le _, fun k h => by simp at h⟩, _, _, rfl, Nat.zero_le _⟩
  · simp [Value.cells] at hcs
    obtain ⟨rfl, rfl, rfl⟩ := hcs
    rw [if_pos rfl] at hn
    refine ⟨zs.take n, ⟨some a, c, by rw [List.length_take, Nat.min_eq_left (by omega)], by rw [List.length_take]; omega, fun k h => ?_⟩, some a, c, by rw [List.length_take, Nat.min_eq_left (by omega)], by rw [List.length_take]; omega⟩
    have hk : k < zs.length := by rw [List.length_take] at h; omega
    have hk' := hcell k hk
    have e : (zs.take n)[k] = zs[k] := by simp
    have e2 : zs.getD k 0 = zs[k] := by simp [List.getD_eq_getElem?_getD, List.getElem?_eq_getElem hk]
    rw [e2] at hk'
    obtain ⟨b, off, spot⟩ := a
    have hsp : spot = none := by
      have h0 := hcell 0 (by omega)
      simpa [Addr.add] using World.cell?_spot h0
    subst hsp
    rw [Go.WideShapes.add_plain] at hk'
    rw [e]
    exact ⟨b, off, rfl, World.block_lt_of_cell? W _ hk', hk', hwf _ (List.getElem_mem _)⟩
end
theorem IntsC.below {w w' : World} {v : Value} {zs : List Int} (h : IntsC w v zs) (hb : Below w.heap.size w w') : IntsC w' v zs := ⟨h.1.below hb, h.2⟩
end Go.Proofs.YtnnmjmjbfeoggaaGreatDoor
namespace Go.Proofs.YtnnmjmjbfeoggaaGreatDoor
set_option maxRecDepth 100000

/-- how many of the first k bits are 1 -/
def cntTo (s : Nat) : Nat → Nat
  | 0 => 0
  | k + 1 => cntTo s k + (s.testBit k).toNat
def cnt (s : Nat) : Nat := cntTo s 32
theorem cntTo_le (s : Nat) : ∀ k, cntTo s k ≤ k
  | 0 => Nat.le_refl _
  | k + 1 => by
    have := cntTo_le s k
    have : (s.testBit k).toNat ≤ 1 := by cases s.testBit k <;> decide
    simp only [cntTo]; omega
theorem cnt_le (s : Nat) : cnt s ≤ 32 := cntTo_le s 32
theorem cntTo_or_and (s t : Nat) : ∀ k, cntTo s k + cntTo t k = cntTo (s ||| t) k + cntTo (s &&& t) k
  | 0 => rfl
  | k + 1 => by
    have := cntTo_or_and s t k
    simp only [cntTo, Nat.testBit_or, Nat.testBit_and]
    cases s.testBit k <;> cases t.testBit k <;> simp <;> omega
theorem cntTo_mono {s t : Nat} (h : ∀ i, s.testBit i = true → t.testBit i = true) : ∀ k, cntTo s k ≤ cntTo t k
  | 0 => Nat.le_refl _
  | k + 1 => by
    have ih := cntTo_mono h k
    have hk := h k
    simp only [cntTo]
    cases hs : s.testBit k
    · simp; omega
    · rw [hk hs]; simp; omega
theorem cntTo_zero : ∀ k, cntTo 0 k = 0
  | 0 => rfl
  | k + 1 => by simp [cntTo, cntTo_zero k]
theorem cnt_zero : cnt 0 = 0 := cntTo_zero 32
theorem cnt_all : cnt 4294967295 = 32 := by decide
theorem cntTo_add (s a : Nat) : ∀ b, cntTo s (a + b) = cntTo s a + cntTo (s / 2 ^ a) b
  | 0 => rfl
  | b + 1 => by
    have ih := cntTo_add s a b
    rw [← Nat.add_assoc]
    simp only [cntTo]
    rw [ih, Nat.testBit_div_two_pow, Nat.add_comm b a]
    omega
theorem cntTo_mod (s n : Nat) : ∀ k, k ≤ n → cntTo (s % 2 ^ n) k = cntTo s k
  | 0, _ => rfl
  | k + 1, h => by
    simp only [cntTo]
    rw [cntTo_mod s n k (by omega), Nat.testBit_mod_two_pow]
    simp [show k < n by omega]
/-- the document's count: what is left to count behind k bits -/
theorem cntTo_rest {s k : Nat} (h : s / 2 ^ k = 0) : ∀ m, cntTo s (k + m) = cntTo s k := fun m => by
  rw [cntTo_add, h, cntTo_zero]; rfl
theorem cnt_bit (s k : Nat) : (s / 2 ^ k) % 2 = (s.testBit k).toNat := by
  rw [Nat.testBit_eq_decide_div_mod_eq]
  have : s / 2 ^ k % 2 < 2 := Nat.mod_lt _ (by omega)
  by_cases h : s / 2 ^ k % 2 = 1
  · simp [h]
  · have : s / 2 ^ k % 2 = 0 := by omega
    simp [this]
theorem cnt8 : ∀ n : Fin 256, Lib.pop8 (n.val : Int) = (cntTo n.val 8 : Int) := by decide +kernel
theorem cnt_bytes (s : Nat) : cnt s = cntTo (s / 2 ^ 24 % 2 ^ 8) 8 + cntTo (s / 2 ^ 16 % 2 ^ 8) 8 + cntTo (s / 2 ^ 8 % 2 ^ 8) 8 + cntTo (s % 2 ^ 8) 8 := by
  rw [cntTo_mod _ 8 8 (by omega), cntTo_mod _ 8 8 (by omega), cntTo_mod _ 8 8 (by omega), cntTo_mod _ 8 8 (by omega)]
  have h1 : cntTo s 32 = _ := cntTo_add s 24 8
  have h2 : cntTo s 24 = _ := cntTo_add s 16 8
  have h3 : cntTo s 16 = _ := cntTo_add s 8 8
  unfold cnt
  omega

/-- a set (how many; which) is broken -/
def brk (s : Nat) (a : Int × Nat) : Bool := decide (a.1 ≤ (cnt (s &&& a.2) : Int))
/-- as Go tells it: -1: none -/
def fstI (s : Nat) (l : List (Int × Nat)) : Int := match l.findIdx? (brk s) with
  | some k => k
  | none => -1
theorem fst_hit {s : Nat} {l : List (Int × Nat)} {k : Nat} (hk : k < l.length) (h : brk s l[k] = true) (hn : ∀ j (hj : j < k), brk s l[j] = false) : fstI s l = k := by
  unfold fstI
  have : l.findIdx? (brk s) = some k := by
    rw [List.findIdx?_eq_some_iff_getElem]
    exact ⟨hk, h, fun j hj => by simp [hn j hj]⟩
  rw [this]
theorem fst_miss {s : Nat} {l : List (Int × Nat)} (hn : ∀ j (hj : j < l.length), brk s l[j] = false) : fstI s l = -1 := by
  unfold fstI
  have : l.findIdx? (brk s) = none := by
    rw [List.findIdx?_eq_none_iff]
    intro x hx
    obtain ⟨j, hj, rfl⟩ := List.getElem_of_mem hx
    exact hn j hj
  rw [this]
theorem fst_cases (s : Nat) (l : List (Int × Nat)) : (fstI s l = -1 ∧ ∀ j (hj : j < l.length), brk s l[j] = false) ∨ ∃ k, ∃ hk : k < l.length, fstI s l = k ∧ brk s l[k] = true ∧ ∀ j (hj : j < k), brk s l[j] = false := by
  by_cases h : ∀ j (hj : j < l.length), brk s l[j] = false
  · exact .inl ⟨fst_miss h, h⟩
  · right
    unfold fstI
    cases e : l.findIdx? (brk s) with
    | none =>
      rw [List.findIdx?_eq_none_iff] at e
      exact absurd (fun j hj => e _ (List.getElem_mem hj)) h
    | some k =>
      rw [List.findIdx?_eq_some_iff_getElem] at e
      obtain ⟨hk, h1, h2⟩ := e
      exact ⟨k, hk, rfl, h1, fun j hj => by simpa using h2 j hj⟩
theorem brk_more {s t : Nat} {a : Int × Nat} (h : brk s a = true) : brk (s ||| t) a = true := by
  unfold brk at *
  have : cnt (s &&& a.2) ≤ cnt ((s ||| t) &&& a.2) := cntTo_mono (fun i hi => by
    simp only [Nat.testBit_and, Nat.testBit_or, Bool.and_eq_true, Bool.or_eq_true] at *
    exact ⟨.inl hi.1, hi.2⟩) 32
  simp only [decide_eq_true_eq] at *
  omega
theorem less_apart {s t : Nat} {l : List (Int × Nat)} (h : fstI (s ||| t) l < 0) : fstI s l = -1 := by
  rcases fst_cases s l with ⟨e, _⟩ | ⟨k, hk, _, hb, _⟩
  · exact e
  · rcases fst_cases (s ||| t) l with ⟨_, h2⟩ | ⟨m, _, e2, _⟩
    · have := h2 k hk
      rw [brk_more hb] at this; cases this
    · omega
theorem fst_take_no {s : Nat} {l : List (Int × Nat)} {k : Nat} (hk : k < l.length) (hn : ∀ j (hj : j < k), brk s l[j] = false) : fstI s (l.take k) = -1 :=
  fst_miss fun j hj => by
    have hj' : j < k := by rw [List.length_take] at hj; omega
    rw [List.getElem_take]
    exact hn j hj'
theorem fst_take_yes {s : Nat} {l : List (Int × Nat)} {k : Nat} (hk : k < l.length) (h : brk s l[k] = true) (hn : ∀ j (hj : j < k), brk s l[j] = false) : fstI s (l.take (k + 1)) = k :=
  fst_hit (by rw [List.length_take]; omega) (by rw [List.getElem_take]; exact h) fun j hj => by rw [List.getElem_take]; exact hn j hj
end Go.Proofs.YtnnmjmjbfeoggaaGreatDoor
namespace Go.Proofs.YtnnmjmjbfeoggaaGreatDoor
set_option maxRecDepth 100000

/-- a state that may be in, and may hold states -/
def hl (ks : List Int) (i : Nat) : Bool := ks.getD i 0 == 1 || ks.getD i 0 == 2
def szN (ks ps : List Int) : Nat := min ks.length ps.length
/-- is a state one of another's (-1: the top's), and may it be in? -/
def isKid (ks ps : List Int) (a : Int) (k : Nat) : Bool := ps.getD k 0 == a && hl ks k
def kidsTo (ps : List Int) (a : Int) : Nat → List Nat
  | 0 => []
  | k + 1 => if ps.getD k 0 = a then kidsTo ps a k ++ [k] else kidsTo ps a k
theorem mem_kidsTo {ps : List Int} {a : Int} {j : Nat} : ∀ {n : Nat}, j ∈ kidsTo ps a n ↔ j < n ∧ ps.getD j 0 = a
  | 0 => by simp [kidsTo]
  | n + 1 => by
    have ih := mem_kidsTo (ps := ps) (a := a) (j := j) (n := n)
    unfold kidsTo
    split
    · rename_i h
      rw [List.mem_append, ih, List.mem_singleton]
      constructor
      · rintro (⟨h1, h2⟩ | rfl)
        · exact ⟨by omega, h2⟩
        · exact ⟨by omega, h⟩
      · rintro ⟨h1, h2⟩
        by_cases e : j = n
        · exact .inr e
        · exact .inl ⟨by omega, h2⟩
    · rename_i h
      rw [ih]
      constructor
      · rintro ⟨h1, h2⟩; exact ⟨by omega, h2⟩
      · rintro ⟨h1, h2⟩
        refine ⟨?_, h2⟩
        by_cases e : j = n
        · subst e; exact absurd h2 h
        · omega
theorem kidsTo_len (ps : List Int) (a : Int) : ∀ n, (kidsTo ps a n).length ≤ n
  | 0 => Nat.le_refl _
  | n + 1 => by
    have := kidsTo_len ps a n
    unfold kidsTo
    split
    · rw [List.length_append, List.length_singleton]; omega
    · omega
/-- the first state of another (-1: none) -/
def iniTo (ks ps : List Int) (a : Int) (n : Nat) : Int := match (List.range n).find? (isKid ks ps a) with
  | some k => k
  | none => -1
theorem ini_hit {ks ps : List Int} {a : Int} {n k : Nat} (hk : k < n) (h : isKid ks ps a k = true) (hn : ∀ j, j < k → isKid ks ps a j = false) : iniTo ks ps a n = k := by
  unfold iniTo
  have : (List.range n).find? (isKid ks ps a) = some k := by
    rw [List.find?_range_eq_some]
    exact ⟨h, List.mem_range.2 hk, fun j hj => by simp [hn j hj]⟩
  rw [this]
theorem ini_miss {ks ps : List Int} {a : Int} {n : Nat} (hn : ∀ j, j < n → isKid ks ps a j = false) : iniTo ks ps a n = -1 := by
  unfold iniTo
  have : (List.range n).find? (isKid ks ps a) = none := by
    rw [List.find?_eq_none]
    intro j hj
    simp [hn j (List.mem_range.1 hj)]
  rw [this]
/-- the set of the states of another that may be in -/
def opn (ks ps : List Int) (a : Int) : Nat → Nat
  | 0 => 0
  | k + 1 => if isKid ks ps a k then opn ks ps a k ||| 2 ^ k else opn ks ps a k
theorem opn_bit (ks ps : List Int) (a : Int) (j : Nat) : ∀ n, (opn ks ps a n).testBit j = (decide (j < n) && isKid ks ps a j)
  | 0 => by simp [opn]
  | n + 1 => by
    have ih := opn_bit ks ps a j n
    unfold opn
    by_cases e : j = n
    · subst e
      split
      · rename_i h
        simp [Nat.testBit_or, Nat.testBit_two_pow, h]
      · rename_i h
        rw [ih]; simp [h]
    · have e2 : decide (j < n + 1) = decide (j < n) := by by_cases h : j < n <;> simp <;> omega
      split
      · rw [Nat.testBit_or, ih, Nat.testBit_two_pow, e2]
        have : decide (n = j) = false := by simp; omega
        rw [this, Bool.or_false]
      · rw [ih, e2]
theorem opn_lt (ks ps : List Int) (a : Int) (n : Nat) : opn ks ps a n < 2 ^ n := by
  apply Nat.lt_pow_two_of_testBit
  intro i hi
  rw [opn_bit]
  have : decide (i < n) = false := by simp; omega
  rw [this]; rfl
/-- a state's parent, as the program reads it -/
def par (ps : List Int) (k : Nat) : Int := min (ps.getD k 0) ((k : Int) - 1)
/-- may a state that is in a set be there? -/
def settl (ks ps : List Int) (s k : Nat) : Bool :=
  hl ks k && !(decide (0 ≤ par ps k) && !s.testBit (par ps k).toNat) &&
    (if ks.getD k 0 = 2 then s &&& opn ks ps k (szN ks ps) == opn ks ps k (szN ks ps) else opn ks ps k (szN ks ps) == 0 || cnt (s &&& opn ks ps k (szN ks ps)) == 1)
/-- a configuration -/
def prop (ks ps : List Int) (s : Nat) : Bool :=
  decide (s / 2 ^ szN ks ps = 0) && cnt (s &&& opn ks ps (-1) (szN ks ps)) == 1 && (List.range (szN ks ps)).all fun k => !s.testBit k || settl ks ps s k
/-- does a state fit into what stands ahead of it? -/
def fitS (ks ps : List Int) (k : Nat) : Bool :=
  !(decide (ks.getD k 0 < 1) || decide (4 < ks.getD k 0) || decide (ps.getD k 0 < -1) || decide ((k : Int) ≤ ps.getD k 0)) &&
    (if hl ks k then decide (ps.getD k 0 < 0) || hl ks (ps.getD k 0).toNat else decide (0 ≤ ps.getD k 0) && ks.getD (ps.getD k 0).toNat 0 == 1)
/-- has a place a first state, if it has any? -/
def iniB (ks ps : List Int) (a : Int) : Bool := !(decide (0 < (kidsTo ps a (szN ks ps)).length) && decide (iniTo ks ps a (szN ks ps) < 0))
def valB (ks ps : List Int) : Bool :=
  ks.length == ps.length && decide (1 ≤ ks.length) && decide (ks.length ≤ 24) && (List.range ks.length).all (fitS ks ps) && (List.range (ks.length + 1)).all fun i => iniB ks ps ((i : Int) - 1)
end Go.Proofs.YtnnmjmjbfeoggaaGreatDoor
namespace Go.Proofs.YtnnmjmjbfeoggaaGreatDoor
set_option maxRecDepth 100000
open Go.ChangeShapes Go.WideShapes Go.ChangeAt Go.RowKit

/-- a block that holds a shape, as a call's parameter -/
def box (w : World) (t : TypeId) (u v : Value) : World := w.alloc (.cells #[u, v] t)
theorem box_0 (w : World) (t : TypeId) (u v : Value) : (w.alloc (.cells #[u, v] t)).cell? ⟨w.heap.size, 0, none⟩ = some u := by rw [cell_of_row _ _ _ _ _ _ (heap_alloc_new w _)]; rfl
theorem box_1 (w : World) (t : TypeId) (u v : Value) : (w.alloc (.cells #[u, v] t)).cell? ⟨w.heap.size, 1, none⟩ = some v := by rw [cell_of_row _ _ _ _ _ _ (heap_alloc_new w _)]; rfl
theorem box_b (w : World) (o : Obj) : Below w.heap.size w (w.alloc o) := (Below.refl _ _).alloc (Nat.le_refl _) _
theorem box_x {w : World} {b off : Nat} {v : Value} (o : Obj) (hb : b < w.heap.size) (hx : w.cell? ⟨b, off, none⟩ = some v) : (w.alloc o).cell? ⟨b, off, none⟩ = some v := (World.cell?_alloc_lt _ _ _ hb).trans hx
theorem ints_form {w : World} {u : Value} {zs : List Int} (h : IntsAt w u zs) : ∃ A c, u = .slice A zs.length c := let ⟨A, c, e, _⟩ := h; ⟨A, c, e⟩
theorem ints_cell {w : World} {A : Option Addr} {n c : Nat} {zs : List Int} (h : IntsAt w (.slice A n c) zs) {k : Nat} (hk : k < zs.length) : ∃ b off, A = some ⟨b, off, none⟩ ∧ b < w.heap.size ∧ w.cell? ⟨b, off + k, none⟩ = some (.int .i64 (zs.getD k 0)) ∧ (Lit.int .i64 (zs.getD k 0)).wf = true := by
  obtain ⟨A', c', e, hl, hc⟩ := h
  obtain ⟨b, off, e2, hb, hx, hw⟩ := hc k hk
  injection e with e1 _ _
  subst e1
  have e3 : zs.getD k 0 = zs[k] := by simp [List.getD_eq_getElem?_getD, List.getElem?_eq_getElem hk]
  rw [e3]
  exact ⟨b, off, e2, hb, hx, hw⟩

theorem size_any (t : TypeId) (A B : Option Addr) (n c m d : Nat) (w : World) (hn : n ≤ 1000) (hm : m ≤ 1000) :
    Calls Tryz.prog 107 #[.agg #[.slice A n c, .slice B m d]] w fun e w' => e = .returned (.int .i64 (min n m : Nat)) ∧ Below w.heap.size w w' := by
  have x0 := box_0 w 47 (.slice A n c) (.slice B m d)
  have x1 := box_1 w 47 (.slice A n c) (.slice B m d)
  have HZ := Lib.hid (box_b w (.cells #[.slice A n c, .slice B m d] 47))
  have HM : Hid (min (n : Int) m = ((min n m : Nat) : Int)) := by show _ = _; omega
  go_enter Tryz.func107, Tryz.ntmps107
  go_wp2
  all_goals
    go_ret
    exact ⟨ret_int (by omega), HZ.out⟩
theorem holds_any (ks : List Int) (A B : Option Addr) (n c m d k : Nat) (w : World) (h : IntsAt w (.slice A n c) ks) (hn : n = ks.length) (hk : k < n) (hk2 : k < 1000) :
    Calls Tryz.prog 108 #[.agg #[.slice A n c, .slice B m d], .int .i64 k] w fun e w' => e = .returned (.bool (hl ks k)) ∧ Below w.heap.size w w' := by
  obtain ⟨b, off, rfl, hb, hx, hw⟩ := ints_cell h (k := k) (by omega)
  have x0 := box_0 w 47 (.slice (some ⟨b, off, none⟩) n c) (.slice B m d)
  have x1 := box_1 w 47 (.slice (some ⟨b, off, none⟩) n c) (.slice B m d)
  have x2 := box_x (.cells #[.slice (some ⟨b, off, none⟩) n c, .slice B m d] 47) hb hx
  have HZ := Lib.hid (box_b w (.cells #[.slice (some ⟨b, off, none⟩) n c, .slice B m d] 47))
  have HV : Hid (hl ks k = (ks.getD k 0 == 1 || ks.getD k 0 == 2)) := rfl
  have hki : (k : Int) < n := by omega
  clear hx h hn hw
  generalize ks.getD k 0 = z at *
  rcases bor_cases (a := z == 1) with g | g
  · have HV2 : Hid (hl ks k = true) := by show _ = _; rw [HV.out, g]; rfl
    clear HV
    go_enter Tryz.func108, Tryz.ntmps108
    go_wp2
    go_ret
    exact ⟨ret_bool HV2.out.symm, HZ.out⟩
  · have HV2 : Hid (hl ks k = (z == 2)) := by show _ = _; rw [HV.out, g]; rfl
    clear HV
    go_enter Tryz.func108, Tryz.ntmps108
    go_wp2
    go_ret
    exact ⟨ret_bool HV2.out.symm, HZ.out⟩
theorem parent_any (ps : List Int) (A B : Option Addr) (n c m d k : Nat) (w : World) (h : IntsAt w (.slice B m d) ps) (hm : m = ps.length) (hk : k < m) (hk2 : k < 1000) :
    Calls Tryz.prog 64 #[.agg #[.slice A n c, .slice B m d], .int .i64 k] w fun e w' => e = .returned (.int .i64 (par ps k)) ∧ Below w.heap.size w w' := by
  obtain ⟨b, off, rfl, hb, hx, hw⟩ := ints_cell h (k := k) (by omega)
  have x0 := box_0 w 47 (.slice A n c) (.slice (some ⟨b, off, none⟩) m d)
  have x1 := box_1 w 47 (.slice A n c) (.slice (some ⟨b, off, none⟩) m d)
  have x2 := box_x (.cells #[.slice A n c, .slice (some ⟨b, off, none⟩) m d] 47) hb hx
  have HZ := Lib.hid (box_b w (.cells #[.slice A n c, .slice (some ⟨b, off, none⟩) m d] 47))
  have HV : Hid (par ps k = min (ps.getD k 0) ((k : Int) - 1)) := rfl
  have hki : (k : Int) < m := by omega
  clear hx h hm hw
  generalize ps.getD k 0 = z at *
  go_enter Tryz.func64, Tryz.ntmps64
  go_wp2
  all_goals
    go_ret
    exact ⟨ret_int (by have := HV.out; omega), HZ.out⟩
end Go.Proofs.YtnnmjmjbfeoggaaGreatDoor
namespace Go.Proofs.YtnnmjmjbfeoggaaGreatDoor
set_option maxRecDepth 100000
open Go.ChangeShapes Go.WideShapes Go.ChangeAt Go.RowKit

theorem shp_below {w w' : World} {u v : Value} {ks ps : List Int} (h : IntsAt w u ks ∧ IntsAt w v ps) (hb : Below w.heap.size w w') : IntsAt w' u ks ∧ IntsAt w' v ps := ⟨h.1.below hb, h.2.below hb⟩
theorem two_lt {k : Nat} (h : k < 32) : 2 ^ k < 4294967296 := Nat.pow_lt_pow_right (a := 2) (by omega) h
theorem two_val {i : Nat} (h : i < 32) : (2 : Int) ^ i % 4294967296 = ((2 ^ i : Nat) : Int) := by
  have := two_lt h
  have e : (2 : Int) ^ i = ((2 ^ i : Nat) : Int) := by norm_cast
  rw [e]; exact Int.emod_eq_of_lt (Int.natCast_nonneg _) (Int.ofNat_lt.2 this)
theorem opn_32 (ks ps : List Int) (a : Int) {n : Nat} (h : n ≤ 32) : opn ks ps a n < 4294967296 :=
  Nat.lt_of_lt_of_le (opn_lt ks ps a n) (Nat.pow_le_pow_right (n := 2) (by omega) h)

end Go.Proofs.YtnnmjmjbfeoggaaGreatDoor
namespace Go.Proofs.YtnnmjmjbfeoggaaGreatDoor
set_option maxRecDepth 100000
open Go.ChangeShapes Go.WideShapes Go.ChangeAt Go.RowKit

theorem Tryz.infoInt : (Tryz.prog.info? 3).map (fun i => (i.zero, i.size, i.bytes)) = some (some (.int .i64 0), 1, 8) := by kernel_rfl
theorem own_mono2 {w : World} {base base' e size n : Nat} {v : Value} {xs : List Value} (h : w.ownsRow base e size v n xs) (hle : base' ≤ base) : w.ownsRow base' e size v n xs :=
  ⟨h.1, h.2.elim .inl fun ⟨g, cap, cur, e, hb, r⟩ => .inr ⟨g, cap, cur, e, Nat.le_trans hle hb, r⟩⟩
def icells (l : List Int) : List Value := l.map (Value.int .i64)
/-- a list of integers in memory of the call's own -/
def OwnI (w : World) (base : Nat) (v : Value) (l : List Int) : Prop := w.ownsRow base 3 1 v l.length (icells l)

section
variable (ks ps : List Int) (A B : Option Addr) (n c m d : Nat) (w : World)
set_option maxHeartbeats 1000000 in
theorem Initial_any (a : Int) (h : IntsAt w (.slice A n c) ks ∧ IntsAt w (.slice B m d) ps) (hn : n = ks.length) (hm : m = ps.length) (hn2 : n ≤ 100) (hm2 : m ≤ 100) :
    Calls Tryz.prog 58 #[.agg #[.slice A n c, .slice B m d], .int .i64 a] w fun e w' => e = .returned (.int .i64 (iniTo ks ps a (szN ks ps))) ∧ Below w.heap.size w w' := by
  have x0 := box_0 w 47 (.slice A n c) (.slice B m d)
  have x1 := box_1 w 47 (.slice A n c) (.slice B m d)
  have hz := box_b w (.cells #[.slice A n c, .slice B m d] 47)
  have S1 := Lib.hid (shp_below h hz)
  have HZ := Lib.hid hz
  have hlt : w.heap.size < (w.alloc (.cells #[.slice A n c, .slice B m d] 47)).heap.size := by simp
  have SZ := Lib.hid (fun W => size_any 47 A B n c m d W (by omega) (by omega))
  have HN : Hid (szN ks ps = min n m) := by show _ = _; rw [hn, hm]; rfl
  have H1 := Lib.hid hn
  have H2 := Lib.hid hm
  clear h hz hn hm
  go_enter Tryz.func58, Tryz.ntmps58
  go_wp2_with (go_at_call 107; refine (SZ.out _).mono ?_; rintro e w1 ⟨rfl, hb1⟩)
  have y0 := (hb1.cell (p := ⟨w.heap.size, 0, none⟩) hlt).trans x0
  have y1 := (hb1.cell (p := ⟨w.heap.size, 1, none⟩) hlt).trans x1
  have S2 := Lib.hid (shp_below S1.out hb1)
  have HZ2 := Lib.hid (below_then HZ.out hb1 HZ.out.size)
  have hlt2 : w.heap.size < w1.heap.size := Nat.lt_of_lt_of_le hlt hb1.size
  clear S1 HZ x0 x1 hb1 hlt SZ
  have hqm : min n m ≤ m := Nat.min_le_right _ _
  have hqn : min n m ≤ n := Nat.min_le_left _ _
  generalize min n m = q at *
  go_loopw [5, 8] (fun _ i wr => ∃ k : Nat, k ≤ q ∧ i = .int .i64 k ∧ Hid (Below w1.heap.size w1 wr) ∧ Hid (∀ j, j < k → isKid ks ps a j = false)) (fun _ i _ => q - (intOf i).toNat)
  case atStart => exact ⟨0, Nat.zero_le _, rfl, Below.refl _ _, fun j hj => by omega⟩
  case round =>
    obtain ⟨k, hk, rfl, HB, HI⟩ := hrel
    have z0 := (HB.out.cell (p := ⟨w.heap.size, 0, none⟩) hlt2).trans y0
    have z1 := (HB.out.cell (p := ⟨w.heap.size, 1, none⟩) hlt2).trans y1
    by_cases hlt : k < q
    · have hkm : (k : Int) < m := by omega
      obtain ⟨b, off, rfl, hb, hx, hw⟩ := ints_cell (HB.out |> shp_below S2.out).2 (k := k) (by have := H2.out; omega)
      have HO := Lib.hid (holds_any ks A (some ⟨b, off, none⟩) n c m d k wr (shp_below S2.out HB.out).1 H1.out (by omega) (by omega))
      have HT : Hid (isKid ks ps a k = false → ∀ j, j < k + 1 → isKid ks ps a j = false) := fun hh j hj => by
        by_cases e : j = k
        · subst e; exact hh
        · exact HI.out j (by omega)
      have HH : Hid (isKid ks ps a k = true → iniTo ks ps a q = k) := fun hh => ini_hit hlt hh HI.out
      have HD : Hid (isKid ks ps a k = (ps.getD k 0 == a && hl ks k)) := rfl
      clear HI hw
      generalize ps.getD k 0 = z at *
      generalize hl ks k = hb2 at *
      rcases bor_cases (a := z == a) with g | g
      · cases hb2
        · have HT2 := Lib.hid (HT.out (by rw [HD.out, g]; rfl))
          clear HT HH HD
          go_wp2_with (go_at_call 108; refine HO.out.mono ?_; rintro e w2 ⟨rfl, hb2⟩)
          go_roundw
          case rel => exact ⟨k + 1, by omega, by go_num, below_then HB.out hb2 HB.out.size, HT2⟩
          case measure => simp [intOf]; omega
        · have HE := Lib.hid (HH.out (by rw [HD.out, g]; rfl))
          clear HT HH HD
          go_wp2_with (go_at_call 108; refine HO.out.mono ?_; rintro e w2 ⟨rfl, hb2⟩)
          go_ret
          exact ⟨ret_int (by rw [HN.out, HE.out]), below_then HZ2.out (below_then HB.out hb2 HB.out.size) HZ2.out.size⟩
      · have HT2 := Lib.hid (HT.out (by rw [HD.out, g]; rfl))
        clear HT HH HD HO
        go_wp2
        go_roundw
        case rel => exact ⟨k + 1, by omega, by go_num, HB, HT2⟩
        case measure => simp [intOf]; omega
    · have HE : Hid (iniTo ks ps a q = -1) := ini_miss fun j hj => HI.out j (by omega)
      clear HI
      go_wp2
      go_ret
      exact ⟨ret_int (by rw [HN.out, HE.out]), below_then HZ2.out HB.out HZ2.out.size⟩
def KidsTo (l : List Nat) (w : World) (e : Ending) (w' : World) : Prop := ∃ v, e = .returned v ∧ OwnI w' w.heap.size v (l.map fun k : Nat => (k : Int)) ∧ Below w.heap.size w w'
theorem kidsTo_mk {l l' : List Nat} {w w' : World} {v : Value} (e : l' = l) (h : OwnI w' w.heap.size v (l'.map fun k : Nat => (k : Int))) (hb : Below w.heap.size w w') : KidsTo l w (.returned v) w' := by
  subst e; exact ⟨v, rfl, h, hb⟩
theorem icells_snoc (l : List Nat) (k : Nat) : icells ((l ++ [k]).map fun k : Nat => (k : Int)) = icells (l.map fun k : Nat => (k : Int)) ++ [.int .i64 (k : Int)] := by simp [icells]
set_option maxHeartbeats 1000000 in
theorem Kids_any (a : Int) (h : IntsAt w (.slice A n c) ks ∧ IntsAt w (.slice B m d) ps) (hn : n = ks.length) (hm : m = ps.length) (hn2 : n ≤ 100) (hm2 : m ≤ 100) :
    Calls Tryz.prog 103 #[.agg #[.slice A n c, .slice B m d], .int .i64 a] w (KidsTo (kidsTo ps a (szN ks ps)) w) := by
  obtain ⟨i0, hi, hz0, hz1, hz2⟩ := info_parts Tryz.infoInt
  have x0 := box_0 w 47 (.slice A n c) (.slice B m d)
  have x1 := box_1 w 47 (.slice A n c) (.slice B m d)
  have hz := box_b w (.cells #[.slice A n c, .slice B m d] 47)
  have S1 := Lib.hid (shp_below h hz)
  have HZ := Lib.hid hz
  have hlt : w.heap.size < (w.alloc (.cells #[.slice A n c, .slice B m d] 47)).heap.size := by simp
  have SZ := Lib.hid (fun W => size_any 47 A B n c m d W (by omega) (by omega))
  have HN : Hid (szN ks ps = min n m) := by show _ = _; rw [hn, hm]; rfl
  have H1 := Lib.hid hn
  have H2 := Lib.hid hm
  clear h hz hn hm
  go_enter Tryz.func103, Tryz.ntmps103
  go_wp2_with (go_at_call 107; refine (SZ.out _).mono ?_; rintro e w1 ⟨rfl, hb1⟩)
  have y0 := (hb1.cell (p := ⟨w.heap.size, 0, none⟩) hlt).trans x0
  have y1 := (hb1.cell (p := ⟨w.heap.size, 1, none⟩) hlt).trans x1
  have S2 := Lib.hid (shp_below S1.out hb1)
  have HZ2 := Lib.hid (below_then HZ.out hb1 HZ.out.size)
  have hlt2 : w.heap.size < w1.heap.size := Nat.lt_of_lt_of_le hlt hb1.size
  clear S1 HZ x0 x1 hb1 hlt SZ
  have hqm : min n m ≤ m := Nat.min_le_right _ _
  have hqn : min n m ≤ n := Nat.min_le_left _ _
  generalize min n m = q at *
  go_loopw [5, 9] (fun v i wr => ∃ k : Nat, k ≤ q ∧ i = .int .i64 k ∧ Hid (OwnI wr w1.heap.size v ((kidsTo ps a k).map fun k : Nat => (k : Int))) ∧ Hid (Below w1.heap.size w1 wr)) (fun _ i _ => q - (intOf i).toNat)
  case atStart => exact ⟨0, Nat.zero_le _, rfl, World.ownsRow_nil _ _ _ _, Below.refl _ _⟩
  case round =>
    obtain ⟨k, hk, rfl, HO, HB⟩ := hrel
    have hbz := HB.out.size
    by_cases hlt : k < q
    · have z1 := (HB.out.cell (p := ⟨w.heap.size, 1, none⟩) hlt2).trans y1
      have hkm : (k : Int) < m := by omega
      obtain ⟨b, off, rfl, hb, hx, hw⟩ := ints_cell (HB.out |> shp_below S2.out).2 (k := k) (by have := H2.out; omega)
      have hsn : kidsTo ps a (k + 1) = if ps.getD k 0 = a then kidsTo ps a k ++ [k] else kidsTo ps a k := rfl
      have hln := kidsTo_len ps a k
      have hlm : ((kidsTo ps a k).map fun k : Nat => (k : Int)).length = (kidsTo ps a k).length := List.length_map ..
      clear hw
      generalize ps.getD k 0 = z at *
      obtain ⟨A5, c5, rfl⟩ := own_slice HO.out
      rcases bor_cases (a := z == a) with g | g
      · have e : z = a := by simpa using g
        rw [if_pos e] at hsn
        have HS := Lib.hid hsn
        clear hsn e
        go_wp2_with (at_builtin; go_must (refine wpList_append_own _ rfl (.tmp 19) (.tmp 21) 23 rfl w1.heap.size 3 i0 _ 1 8 Tryz.underlying23 hi hz0 hz1 hz2 rfl (by decide) _ _ _ rfl (HO.out.alloc _) ⟨wr.heap.size, 0, none⟩ 1 1 [.int .i64 k] rfl rfl (cells_new _ _ _) (by intro u hu; simp at hu; subst hu; rfl) (by unfold maxLen; omega) (by omega) (by simp; omega) ?_); intro v' w4 hown' hg' _)
        have hg2 : wr.grownBy w4 (Value.slice A5 ((kidsTo ps a k).map fun k : Nat => (k : Int)).length c5).ownBlock := (World.grownBy_alloc _ _ _).andThen hg' (fun j e => .inr e)
        have HNw : Hid (OwnI w4 w1.heap.size v' ((kidsTo ps a (k + 1)).map fun k : Nat => (k : Int))) := by
          show w4.ownsRow _ _ _ _ _ _
          rw [HS.out, icells_snoc, List.length_map, List.length_append, ← List.length_map (f := fun k : Nat => (k : Int))]
          exact hown'
        have HB4 := Lib.hid (HB.out.grown hg2 hbz (fun j e => (HO.out.lt j e).1))
        clear hown' hg' hg2
        go_roundw
        case rel => exact ⟨k + 1, by omega, by go_num, HNw, HB4⟩
        case measure => simp [intOf]; omega
      · have e : ¬ z = a := by simpa using g
        rw [if_neg e] at hsn
        have HNw : Hid (OwnI wr w1.heap.size (.slice A5 ((kidsTo ps a k).map fun k : Nat => (k : Int)).length c5) ((kidsTo ps a (k + 1)).map fun k : Nat => (k : Int))) := by show OwnI _ _ _ _; rw [hsn]; exact HO.out
        clear hsn e
        go_wp2
        go_roundw
        case rel => exact ⟨k + 1, by omega, by go_num, HNw, HB⟩
        case measure => simp [intOf]; omega
    · have HK : Hid (kidsTo ps a k = kidsTo ps a (szN ks ps)) := by show _ = _; rw [HN.out]; congr 1; omega
      go_wp2
      go_ret
      exact kidsTo_mk HK.out (own_mono2 HO.out (by omega)) (below_then HZ2.out HB.out HZ2.out.size)
end
end Go.Proofs.YtnnmjmjbfeoggaaGreatDoor
namespace Go.Proofs.YtnnmjmjbfeoggaaGreatDoor
set_option maxRecDepth 100000
open Go.ChangeShapes Go.WideShapes Go.ChangeAt Go.RowKit

def okI (l : List Int) : Prop := ∀ x ∈ l, (Lit.int .i64 x).wf = true
theorem icells_length (l : List Int) : (icells l).length = l.length := List.length_map ..
theorem icells_at (l : List Int) (j : Nat) (h : j < l.length) : (icells l)[j]? = some (.int .i64 l[j]) := by simp [icells, h]
theorem icells_one (l : List Int) : ∀ u ∈ icells l, u.oneCell' = true := by
  intro u hu
  simp only [icells, List.mem_map] at hu
  obtain ⟨p, _, rfl⟩ := hu
  rfl
theorem ints_of_own {w : World} {base c : Nat} {A : Option Addr} {l : List Int} (h : OwnI w base (.slice A l.length c) l) (ho : okI l) (hl : l.length ≤ 1000) : IntsAt w (.slice A l.length c) l := by
  refine ⟨A, c, rfl, by unfold maxLen; omega, fun k hk => ?_⟩
  obtain ⟨g, cap', e, _, hg, _, hc⟩ := own_form h (by omega)
  have eA : A = some ⟨g, 0, none⟩ := by injection e
  exact ⟨g, 0, eA, hg, by rw [Nat.zero_add]; exact hc _ _ (icells_at l k hk), ho _ (List.getElem_mem hk)⟩
theorem okI_of {w : World} {u : Value} {l : List Int} (h : IntsAt w u l) : okI l := fun x hx => by
  obtain ⟨A, c, _, _, hc⟩ := h
  obtain ⟨j, hj, rfl⟩ := List.getElem_of_mem hx
  obtain ⟨_, _, _, _, _, hw⟩ := hc j hj
  exact hw
theorem okI_take {l : List Int} (h : okI l) (n : Nat) : okI (l.take n) := fun x hx => h x (List.mem_of_mem_take hx)
def CopyITo (l : List Int) (w : World) (e : Ending) (w' : World) : Prop := ∃ v, e = .returned v ∧ OwnI w' w.heap.size v l ∧ Below w.heap.size w w'
set_option maxHeartbeats 2000000 in
theorem CopyI_any (l : List Int) (A : Option Addr) (cap : Nat) (w : World) (h : IntsAt w (.slice A l.length cap) l) (ha : l.length ≤ 1000) :
    Calls Tryz.prog 48 #[.slice A l.length cap] w (CopyITo l w) := by
  obtain ⟨i0, hi, hz0, hz1, hz2⟩ := info_parts Tryz.infoInt
  cases A with
  | none =>
    have e0 : l = [] := by
      cases l with
      | nil => rfl
      | cons x r =>
        obtain ⟨A', c', e, _, hc⟩ := h
        obtain ⟨b, off, e2, _⟩ := hc 0 (by simp)
        injection e with e1
        rw [← e1] at e2
        cases e2
    subst e0
    clear h
    go_enter Tryz.func48, Tryz.ntmps48
    go_wp2
    go_ret
    exact ⟨_, rfl, World.ownsRow_nil _ _ _ _, Below.refl _ _⟩
  | some a =>
    have HC : Hid (∀ j u, (icells l)[j]? = some u → w.cell? (a.add j) = some u) := fun j u hu => by
      have hj : j < l.length := by
        have := (List.getElem?_eq_some_iff.1 hu).1
        rwa [icells_length] at this
      obtain ⟨A', c', e, _, hc⟩ := h
      obtain ⟨b, off, e2, _, hx, _⟩ := hc j hj
      injection e with e1
      rw [← e1] at e2
      injection e2 with e2
      subst e2
      rw [icells_at l j hj] at hu
      rw [Go.WideShapes.add_plain, hx]; exact hu
    have HO := Lib.hid (icells_one l)
    have HL := Lib.hid (icells_length l)
    have HE : Hid (∀ v W, W.ownsRow w.heap.size 3 1 v l.length (icells l) → OwnI W w.heap.size v l) := fun v W h => h
    clear h
    generalize icells l = xs at *
    go_enter Tryz.func48, Tryz.ntmps48
    go_wp2_with (at_builtin; go_must (refine wpList_append_own _ rfl (.const (.slice none 0 0)) (.tmp 3) 23 rfl w.heap.size 3 i0 _ 1 8 Tryz.underlying23 hi hz0 hz1 hz2 rfl (by decide) (.slice none 0 0) 0 [] rfl (World.ownsRow_nil _ _ _ _) a l.length cap xs rfl (by have := HL.out; omega) HC.out HO.out (by unfold maxLen; omega) (by omega) (by simp) ?_); intro v' w4 hown' hg' _)
    have hg2 : w.grownBy w4 none := hg'
    go_ret
    refine ⟨v', rfl, HE.out _ _ (by simpa using hown'), hg2.os, hg2.tape, hg2.output, hg2.size, fun j hj => hg2.block j hj (by simp)⟩
theorem prop_one : prop [1] [-1] 1 = true := by decide +kernel
theorem one_ints (w : World) (x : Int) (hx : (Lit.int .i64 x).wf = true) : IntsAt (w.alloc (.cells #[.int .i64 x] 3)) (.slice (some ⟨w.heap.size, 0, none⟩) 1 1) [x] :=
  ⟨_, 1, rfl, by unfold maxLen; simp, fun k hk => by
    simp at hk
    subst hk
    exact ⟨_, 0, rfl, by simp, by rw [cell_of_row _ _ _ _ _ _ (heap_alloc_new w _)]; rfl, hx⟩⟩
end Go.Proofs.YtnnmjmjbfeoggaaGreatDoor
namespace Go.Proofs.YtnnmjmjbfeoggaaGreatDoor
set_option maxRecDepth 100000
open Go.ChangeShapes Go.WideShapes Go.ChangeAt Go.RowKit

section
variable (ks ps : List Int) (A B : Option Addr) (n c m d : Nat) (w : World)
set_option maxHeartbeats 2000000 in
theorem fits_any (k : Nat) (h : IntsAt w (.slice A n c) ks ∧ IntsAt w (.slice B m d) ps) (hn : n = ks.length) (hm : m = ps.length) (hn2 : n ≤ 24) (hk : k < n) (hk2 : k < m) :
    Calls Tryz.prog 102 #[.agg #[.slice A n c, .slice B m d], .int .i64 k] w fun e w' => e = .returned (.bool (fitS ks ps k)) ∧ Below w.heap.size w w' := by
  obtain ⟨b, off, rfl, hb, hx, hw⟩ := ints_cell h.1 (k := k) (by omega)
  obtain ⟨b2, off2, rfl, hb2, hx2, hw2⟩ := ints_cell h.2 (k := k) (by omega)
  have x0 := box_0 w 47 (.slice (some ⟨b, off, none⟩) n c) (.slice (some ⟨b2, off2, none⟩) m d)
  have x1 := box_1 w 47 (.slice (some ⟨b, off, none⟩) n c) (.slice (some ⟨b2, off2, none⟩) m d)
  have xk := box_x (.cells #[.slice (some ⟨b, off, none⟩) n c, .slice (some ⟨b2, off2, none⟩) m d] 47) hb hx
  have xp := box_x (.cells #[.slice (some ⟨b, off, none⟩) n c, .slice (some ⟨b2, off2, none⟩) m d] 47) hb2 hx2
  have hz := box_b w (.cells #[.slice (some ⟨b, off, none⟩) n c, .slice (some ⟨b2, off2, none⟩) m d] 47)
  have hlt : w.heap.size < (w.alloc (.cells #[.slice (some ⟨b, off, none⟩) n c, .slice (some ⟨b2, off2, none⟩) m d] 47)).heap.size := by simp
  have S0 := Lib.hid (shp_below h hz)
  have HZ := Lib.hid hz
  have H1 := Lib.hid hn
  have H2 := Lib.hid hm
  have hki : (k : Int) < n := by omega
  have hkj : (k : Int) < m := by omega
  have HV : Hid (fitS ks ps k = (!(decide (ks.getD k 0 < 1) || decide (4 < ks.getD k 0) || decide (ps.getD k 0 < -1) || decide ((k : Int) ≤ ps.getD k 0)) &&
    (if hl ks k then decide (ps.getD k 0 < 0) || hl ks (ps.getD k 0).toNat else decide (0 ≤ ps.getD k 0) && ks.getD (ps.getD k 0).toNat 0 == 1))) := rfl
  clear hx hw hx2 hw2 h hz hn hm
  generalize hz : ks.getD k 0 = z at *
  generalize hp : ps.getD k 0 = p at *
  clear hz hp
  go_enter Tryz.func102, Tryz.ntmps102
  go_upto_region 1 with (fail)
  generalize w.alloc (.cells #[.slice (some ⟨b, off, none⟩) n c, .slice (some ⟨b2, off2, none⟩) m d] 47) = w0 at *
  have hbw : b < w0.heap.size := Nat.lt_of_lt_of_le hb HZ.out.size
  clear hb hb2
  go_quiet (fail)
  have HO := Lib.hid (fun W (hW : Below w0.heap.size w0 W) (k : Nat) (hk : k < n) => holds_any ks (some ⟨b, off, none⟩) (some ⟨b2, off2, none⟩) n c m d k W (shp_below S0.out hW).1 H1.out hk (by omega))
  have hZ2 : Below w0.heap.size w0 (w0.drewN nq) := below_drewN (Below.refl _ _) nq
  have z0 := (hZ2.cell (p := ⟨w.heap.size, 0, none⟩) hlt).trans x0
  have z1 := (hZ2.cell (p := ⟨w.heap.size, 1, none⟩) hlt).trans x1
  generalize w0.drewN nq = w1 at *
  have HC : Hid (∀ j : Nat, j < n → ∃ W0 : Nat, W0 = 0 ∧ w1.cell? ⟨b, off + j, none⟩ = some (.int .i64 (ks.getD j 0))) := fun j hj => by
    obtain ⟨b', off', e, hb', hx', _⟩ := ints_cell S0.out.1 (k := j) (by have := H1.out; omega)
    injection e with e
    injection e with e1 e2
    subst e1; subst e2
    exact ⟨0, rfl, (hZ2.cell (p := ⟨b, off + j, none⟩) hb').trans hx'⟩
  clear x0 x1 xk xp S0
  by_cases c1 : z < 1
  · have HV2 : Hid (fitS ks ps k = false) := by show _ = _; rw [HV.out]; simp [c1]
    clear HV
    go_wp2
    go_ret
    exact ⟨ret_bool HV2.out.symm, below_then HZ.out hZ2 HZ.out.size⟩
  by_cases c2 : 4 < z
  · have HV2 : Hid (fitS ks ps k = false) := by show _ = _; rw [HV.out]; simp [c2]
    clear HV
    go_wp2
    go_ret
    exact ⟨ret_bool HV2.out.symm, below_then HZ.out hZ2 HZ.out.size⟩
  by_cases c3 : p < -1
  · have HV2 : Hid (fitS ks ps k = false) := by show _ = _; rw [HV.out]; simp [c3]
    clear HV
    go_wp2
    go_ret
    exact ⟨ret_bool HV2.out.symm, below_then HZ.out hZ2 HZ.out.size⟩
  by_cases c4 : (k : Int) ≤ p
  · have HV2 : Hid (fitS ks ps k = false) := by show _ = _; rw [HV.out]; simp [c4]
    clear HV
    go_wp2
    go_ret
    exact ⟨ret_bool HV2.out.symm, below_then HZ.out hZ2 HZ.out.size⟩
  have HV2 : Hid (fitS ks ps k = if hl ks k then decide (p < 0) || hl ks p.toNat else decide (0 ≤ p) && ks.getD p.toNat 0 == 1) := by
    show _ = _
    rw [HV.out]
    have e1 : decide (z < 1) = false := by simpa using c1
    have e2 : decide (4 < z) = false := by simpa using c2
    have e3 : decide (p < -1) = false := by simpa using c3
    have e4 : decide ((k : Int) ≤ p) = false := by simpa using c4
    rw [e1, e2, e3, e4]; rfl
  clear HV
  have HH := Lib.hid (HO.out w1 hZ2 k hk)
  generalize hl ks k = t at *
  go_upto_region 4 with (fail)
  cases t
  · by_cases c5 : p < 0
    · have HV3 : Hid (fitS ks ps k = false) := by
        show _ = _
        rw [HV2.out]
        have : decide (0 ≤ p) = false := by simp; omega
        simp [this]
      clear HV2
      go_wp2_with (go_at_call 108; refine HH.out.mono ?_; rintro e w2 ⟨rfl, hb2⟩)
      go_ret
      exact ⟨ret_bool HV3.out.symm, below_then HZ.out (below_then hZ2 hb2 hZ2.size) HZ.out.size⟩
    · obtain ⟨q, rfl⟩ : ∃ q : Nat, p = q := ⟨p.toNat, by omega⟩
      have hq : q < n := by omega
      have HV3 : Hid (fitS ks ps k = (ks.getD q 0 == 1)) := by
        show _ = _
        rw [HV2.out]
        simp
      have hqi : (q : Int) < n := by omega
      obtain ⟨_, _, xq⟩ := HC.out q hq
      clear HV2 HC
      generalize ks.getD q 0 = y at *
      go_upto_region 5 with (go_at_call 108; refine HH.out.mono ?_; rintro e w2 ⟨rfl, hb2⟩)
      have y0 := (hb2.cell (p := ⟨w.heap.size, 0, none⟩) (Nat.lt_of_lt_of_le hlt hZ2.size)).trans z0
      have y1 := (hb2.cell (p := ⟨w.heap.size, 1, none⟩) (Nat.lt_of_lt_of_le hlt hZ2.size)).trans z1
      have yq := (hb2.cell (p := ⟨b, off + q, none⟩) (Nat.lt_of_lt_of_le hbw hZ2.size)).trans xq
      go_wp2
      go_ret
      exact ⟨ret_bool HV3.out.symm, below_then HZ.out (below_then hZ2 hb2 hZ2.size) HZ.out.size⟩
  · by_cases c5 : p < 0
    · have HV3 : Hid (fitS ks ps k = true) := by
        show _ = _
        rw [HV2.out]
        simp [c5]
      clear HV2
      go_wp2_with (go_at_call 108; refine HH.out.mono ?_; rintro e w2 ⟨rfl, hb2⟩)
      go_ret
      exact ⟨ret_bool HV3.out.symm, below_then HZ.out (below_then hZ2 hb2 hZ2.size) HZ.out.size⟩
    · obtain ⟨q, rfl⟩ : ∃ q : Nat, p = q := ⟨p.toNat, by omega⟩
      have hq : q < n := by omega
      have HV3 : Hid (fitS ks ps k = hl ks q) := by
        show _ = _
        rw [HV2.out]
        have : decide ((q : Int) < 0) = false := by simp
        rw [this]; rfl
      clear HV2 HC
      have HQ := Lib.hid (fun W hW => HO.out W hW q hq)
      clear HO
      generalize hl ks q = y at *
      go_upto_region 6 with (go_at_call 108; refine HH.out.mono ?_; rintro e w2 ⟨rfl, hb2⟩)
      have h2 := below_then hZ2 hb2 hZ2.size
      have y0 := (hb2.cell (p := ⟨w.heap.size, 0, none⟩) (Nat.lt_of_lt_of_le hlt hZ2.size)).trans z0
      have y1 := (hb2.cell (p := ⟨w.heap.size, 1, none⟩) (Nat.lt_of_lt_of_le hlt hZ2.size)).trans z1
      go_wp2_with (go_at_call 108; refine (HQ.out _ h2).mono ?_; rintro e w3 ⟨rfl, hb3⟩)
      go_ret
      exact ⟨ret_bool HV3.out.symm, below_then HZ.out (below_then h2 hb3 h2.size) HZ.out.size⟩
theorem valB_def (ks ps : List Int) : valB ks ps = (ks.length == ps.length && decide (1 ≤ ks.length) && decide (ks.length ≤ 24) && (List.range ks.length).all (fitS ks ps) && (List.range (ks.length + 1)).all fun i => iniB ks ps ((i : Int) - 1)) := rfl
set_option maxHeartbeats 2000000 in
theorem Valid_any (h : IntsAt w (.slice A n c) ks ∧ IntsAt w (.slice B m d) ps) (hn : n = ks.length) (hm : m = ps.length) (hn2 : n ≤ 100) (hm2 : m ≤ 100) :
    Calls Tryz.prog 53 #[.agg #[.slice A n c, .slice B m d]] w fun e w' => e = .returned (.bool (valB ks ps)) ∧ Below w.heap.size w w' := by
  have x0 := box_0 w 47 (.slice A n c) (.slice B m d)
  have x1 := box_1 w 47 (.slice A n c) (.slice B m d)
  have hz := box_b w (.cells #[.slice A n c, .slice B m d] 47)
  have hlt : w.heap.size < (w.alloc (.cells #[.slice A n c, .slice B m d] 47)).heap.size := by simp
  have S0 := Lib.hid (shp_below h hz)
  have HZ := Lib.hid hz
  have H1 := Lib.hid hn
  have H2 := Lib.hid hm
  have HV := Lib.hid (valB_def ks ps)
  rw [← hn, ← hm] at HV
  clear h hz hn hm
  by_cases hnm : n = m
  · subst hnm
    have HN : Hid (szN ks ps = n) := by show _ = _; unfold szN; have := H1.out; have := H2.out; omega
    by_cases h1 : 1 ≤ n
    · by_cases h24 : n ≤ 24
      · have HV2 : Hid (valB ks ps = ((List.range n).all (fitS ks ps) && (List.range (n + 1)).all fun i => iniB ks ps ((i : Int) - 1))) := by
          show _ = _
          rw [HV.out]
          have e1 : decide (1 ≤ n) = true := by simpa using h1
          have e2 : decide (n ≤ 24) = true := by simpa using h24
          rw [e1, e2]; simp
        clear HV
        go_enter Tryz.func53, Tryz.ntmps53
        go_upto_region 4 with (fail)
        generalize w.alloc (.cells #[.slice A n c, .slice B n d] 47) = w0 at *
        have FT := Lib.hid (fun W (hW : Below w0.heap.size w0 W) k hk => fits_any ks ps A B n c n d W k (shp_below S0.out hW) H1.out H2.out h24 hk hk)
        have KD : Hid (∀ W, Below w0.heap.size w0 W → ∀ a, Calls Tryz.prog 103 #[.agg #[.slice A n c, .slice B n d], .int .i64 a] W (KidsTo (kidsTo ps a n) W)) := fun W hW a => by
          have := Kids_any ks ps A B n c n d W a (shp_below S0.out hW) H1.out H2.out hn2 hm2
          rwa [HN.out] at this
        have IN : Hid (∀ W, Below w0.heap.size w0 W → ∀ a, Calls Tryz.prog 58 #[.agg #[.slice A n c, .slice B n d], .int .i64 a] W fun e w' => e = .returned (.int .i64 (iniTo ks ps a n)) ∧ Below W.heap.size W w') := fun W hW a => by
          have := Initial_any ks ps A B n c n d W a (shp_below S0.out hW) H1.out H2.out hn2 hm2
          rwa [HN.out] at this
        clear S0
        go_upto_region 5 with (fail)
        go_loopw [23] (fun i wr => ∃ k : Nat, k ≤ n ∧ i = .int .i64 k ∧ Hid (Below w0.heap.size w0 wr) ∧ Hid (∀ j, j < k → fitS ks ps j = true)) (fun i _ => n - (intOf i).toNat)
        case atStart => exact ⟨0, Nat.zero_le _, rfl, Below.refl _ _, fun j hj => by omega⟩
        case round =>
          obtain ⟨k, hk, rfl, HB, HI⟩ := hrel
          have z0 := (HB.out.cell (p := ⟨w.heap.size, 0, none⟩) hlt).trans x0
          have z1 := (HB.out.cell (p := ⟨w.heap.size, 1, none⟩) hlt).trans x1
          by_cases hlk : k < n
          · have HF := Lib.hid (FT.out wr HB.out k hlk)
            have HX : Hid (fitS ks ps k = true → ∀ j, j < k + 1 → fitS ks ps j = true) := fun hh j hj => by
              by_cases e : j = k
              · subst e; exact hh
              · exact HI.out j (by omega)
            have HY : Hid (fitS ks ps k = false → valB ks ps = false) := fun hh => by
              rw [HV2.out]
              have : (List.range n).all (fitS ks ps) = false := by
                rw [List.all_eq_false]
                exact ⟨k, List.mem_range.2 hlk, by simp [hh]⟩
              rw [this]; rfl
            clear HI FT KD IN
            generalize fitS ks ps k = b1 at *
            cases b1
            · have HY2 := Lib.hid (HY.out rfl)
              clear HX HY
              go_wp2_with (go_at_call 102; refine HF.out.mono ?_; rintro e w5 ⟨rfl, hb5⟩)
              go_ret
              exact ⟨ret_bool HY2.out.symm, below_then HZ.out (below_then HB.out hb5 HB.out.size) HZ.out.size⟩
            · have HX2 := Lib.hid (HX.out rfl)
              clear HX HY
              go_wp2_with (go_at_call 102; refine HF.out.mono ?_; rintro e w5 ⟨rfl, hb5⟩)
              go_roundw
              case rel => exact ⟨k + 1, by omega, by go_num, below_then HB.out hb5 HB.out.size, HX2⟩
              case measure => simp [intOf]; omega
          · have HE : Hid (valB ks ps = (List.range (n + 1)).all fun i => iniB ks ps ((i : Int) - 1)) := by
              show _ = _
              have : (List.range n).all (fitS ks ps) = true := by
                rw [List.all_eq_true]
                intro j hj
                exact HI.out j (by have := List.mem_range.1 hj; omega)
              rw [HV2.out, this]; rfl
            clear HI FT HV2
            obtain ⟨w2, rfl⟩ : ∃ w2 : World, w2 = wr := ⟨_, rfl⟩
            go_wp2
            go_loopw [5] (fun i wr => ∃ k : Nat, k ≤ n + 1 ∧ i = .int .i64 ((k : Int) - 1) ∧ Hid (Below w0.heap.size w0 wr) ∧ Hid (∀ j : Nat, j < k → iniB ks ps ((j : Int) - 1) = true)) (fun i _ => ((n : Int) - intOf i).toNat)
            case atStart => exact ⟨0, Nat.zero_le _, rfl, HB, fun j hj => by omega⟩
            case round =>
              obtain ⟨i, hi, rfl, HB2, HI⟩ := hrel
              have y0 := (HB2.out.cell (p := ⟨w.heap.size, 0, none⟩) hlt).trans x0
              have y1 := (HB2.out.cell (p := ⟨w.heap.size, 1, none⟩) hlt).trans x1
              by_cases hli : i < n + 1
              · have HX : Hid (iniB ks ps ((i : Int) - 1) = true → ∀ j : Nat, j < i + 1 → iniB ks ps ((j : Int) - 1) = true) := fun hh j hj => by
                  by_cases e : j = i
                  · subst e; exact hh
                  · exact HI.out j (by omega)
                have HY : Hid (iniB ks ps ((i : Int) - 1) = false → valB ks ps = false) := fun hh => by
                  rw [HE.out, List.all_eq_false]
                  exact ⟨i, List.mem_range.2 hli, by simp [hh]⟩
                have HD : Hid (iniB ks ps ((i : Int) - 1) = !(decide (0 < (kidsTo ps ((i : Int) - 1) n).length) && decide (iniTo ks ps ((i : Int) - 1) n < 0))) := by show _ = _; unfold iniB; rw [HN.out]
                have K1 := Lib.hid (KD.out wr HB2.out ((i : Int) - 1))
                have I1 := Lib.hid (fun W hW => IN.out W hW ((i : Int) - 1))
                have hln := kidsTo_len ps ((i : Int) - 1) n
                clear HI KD IN
                generalize ha : (i : Int) - 1 = a at *
                have hai : a < (n : Int) := by omega
                have HA := Lib.hid ha
                clear ha
                generalize iniTo ks ps a n = r at *
                have hll : ((kidsTo ps a n).map fun k : Nat => (k : Int)).length = (kidsTo ps a n).length := List.length_map ..
                have hw24 : IntKind.i64.wrap (a + 1) = a + 1 := by rw [IntKind.wrap_i64]; have := HA.out; omega
                by_cases hz0 : (kidsTo ps a n).length = 0
                · have HX2 := Lib.hid (HX.out (by rw [HD.out, hz0]; rfl))
                  rw [hz0] at hll
                  have HLL := Lib.hid hll
                  clear HX HY HD hz0 hll hln I1
                  go_wp2_with (go_at_call 103; refine K1.out.mono ?_; rintro e w5 ⟨v, rfl, ho, hb5⟩; obtain ⟨A5, c5, rfl⟩ := own_slice ho; rw [HLL.out])
                  go_roundw
                  case rel => exact ⟨i + 1, by omega, by have := HA.out; go_num, below_then HB2.out hb5 HB2.out.size, HX2⟩
                  case measure => show ((n : Int) - (a + 1)).toNat < ((n : Int) - a).toNat; omega
                · have hpos : (0 : Int) < (kidsTo ps a n).length := by omega
                  have hpn : 0 < (kidsTo ps a n).length := by omega
                  have HD2 : Hid (iniB ks ps a = !decide (r < 0)) := by
                    show _ = _
                    rw [HD.out, decide_eq_true hpn]; rfl
                  have HLL := Lib.hid hll
                  clear HD hz0 hll
                  generalize (kidsTo ps a n).length = l at *
                  by_cases hr : r < 0
                  · have HY2 := Lib.hid (HY.out (by rw [HD2.out, decide_eq_true hr]; rfl))
                    clear HX HY HD2
                    go_wp2_with (first
                      | (go_at_call 103; refine K1.out.mono ?_; rintro e w5 ⟨v, rfl, ho, hb5⟩; obtain ⟨A5, c5, rfl⟩ := own_slice ho; rw [HLL.out]; have h5 := below_then HB2.out hb5 HB2.out.size; have t0 := (h5.cell (p := ⟨w.heap.size, 0, none⟩) hlt).trans x0; have t1 := (h5.cell (p := ⟨w.heap.size, 1, none⟩) hlt).trans x1)
                      | (go_at_call 58; refine (I1.out _ h5).mono ?_; rintro e w6 ⟨rfl, hb6⟩))
                    go_ret
                    exact ⟨ret_bool HY2.out.symm, below_then HZ.out (below_then h5 hb6 h5.size) HZ.out.size⟩
                  · have HX2 := Lib.hid (HX.out (by rw [HD2.out, decide_eq_false hr]; rfl))
                    clear HX HY HD2
                    go_wp2_with (first
                      | (go_at_call 103; refine K1.out.mono ?_; rintro e w5 ⟨v, rfl, ho, hb5⟩; obtain ⟨A5, c5, rfl⟩ := own_slice ho; rw [HLL.out]; have h5 := below_then HB2.out hb5 HB2.out.size; have t0 := (h5.cell (p := ⟨w.heap.size, 0, none⟩) hlt).trans x0; have t1 := (h5.cell (p := ⟨w.heap.size, 1, none⟩) hlt).trans x1)
                      | (go_at_call 58; refine (I1.out _ h5).mono ?_; rintro e w6 ⟨rfl, hb6⟩))
                    go_roundw
                    case rel => exact ⟨i + 1, by omega, by have := HA.out; go_num, below_then h5 hb6 h5.size, HX2⟩
                    case measure => show ((n : Int) - (a + 1)).toNat < ((n : Int) - a).toNat; omega
              · have HE2 : Hid (valB ks ps = true) := by
                  show _ = _
                  rw [HE.out, List.all_eq_true]
                  intro j hj
                  exact HI.out j (by have := List.mem_range.1 hj; omega)
                clear HI
                have hge : decide ((i : Int) - 1 < n) = false := by simp; omega
                go_wp2
                go_ret
                exact ⟨ret_bool HE2.out.symm, below_then HZ.out HB2.out HZ.out.size⟩
      · have HV2 : Hid (valB ks ps = false) := by
          show _ = _
          rw [HV.out]
          have e2 : decide (n ≤ 24) = false := by simpa using h24
          rw [e2]; simp
        clear HV
        go_enter Tryz.func53, Tryz.ntmps53
        go_wp2
        go_ret
        exact ⟨ret_bool HV2.out.symm, HZ.out⟩
    · have HV2 : Hid (valB ks ps = false) := by
        show _ = _
        rw [HV.out]
        have e2 : decide (1 ≤ n) = false := by simpa using h1
        rw [e2]; simp
      clear HV
      go_enter Tryz.func53, Tryz.ntmps53
      go_wp2
      go_ret
      exact ⟨ret_bool HV2.out.symm, HZ.out⟩
  · have HV2 : Hid (valB ks ps = false) := by
      show _ = _
      rw [HV.out]
      have e2 : (n == m) = false := by simpa using hnm
      rw [e2]; rfl
    clear HV
    have hnm' : ((n : Int) != m) = true := by simp; omega
    go_enter Tryz.func53, Tryz.ntmps53
    go_wp2
    go_ret
    exact ⟨ret_bool HV2.out.symm, HZ.out⟩
end
end Go.Proofs.YtnnmjmjbfeoggaaGreatDoor
