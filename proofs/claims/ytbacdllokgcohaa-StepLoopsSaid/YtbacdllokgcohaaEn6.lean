/-
  The library's Reverse and Insert, of lists of states in memory of the call's own.
-/
import Derived.Test.YtbacdllokgcohaaEn5
import Derived.Test.YtbacdllokgcohaaShelf2
import Derived.Lib.OwnBridge
namespace Go.Proofs.Ytbacdllokgcohaa
set_option maxRecDepth 100000
open Go.ChangeShapes Go.WideShapes Go.ChangeAt Go.RowKit

theorem rev_own {w : World} {base c : Nat} {A : Option Addr} {l : List Nat} (h : OwnN w base (.slice A l.length c) l) (hl : l.length ≤ 1000) :
    Calls Try.prog 103 #[.slice A l.length c] w fun e w' => e = .returned (.tuple #[]) ∧ OwnN w' base (.slice A l.length c) l.reverse ∧ ∀ W0, Below base W0 w → Below base W0 w' := by
  by_cases h0 : l.length = 0
  · have e : l = [] := List.eq_nil_of_length_eq_zero h0
    subst e
    refine (Try.slices_Reverse_int_empty A c w).mono fun e w' ⟨he, hw⟩ => ⟨he, ?_, fun _ hb => ?_⟩
    · rw [hw]; exact h
    · rw [hw]; exact hb
  · have hne : Value.slice A l.length c ≠ .slice none 0 0 := fun e => by injection e; omega
    obtain ⟨g, cap, e, hbg, hlt, hn, hm, hzl, hH⟩ := Lib.holds_of_ownsRow (enc := Value.int .i64) (zs := l.map fun k : Nat => (k : Int)) h hne
    injection e with e1 _ e3
    subst e1; subst e3
    have hR := Try.slices_Reverse_int g 0 c (l.map fun k : Nat => (k : Int)) w hH (by rw [List.length_map]; omega)
    rw [List.length_map] at hR
    refine hR.mono fun e w' ⟨he, q, hw⟩ => ⟨he, ?_, fun W0 hb => ?_⟩
    · have h5 := Lib.ownsRow_putRow (enc := Value.int .i64) (q := q) (k := l.length) (ys := (l.map fun k : Nat => (k : Int)).reverse) (zs := l.map fun k : Nat => (k : Int)) h (by rw [List.length_reverse, List.length_map]) (Nat.le_refl _)
      rw [List.take_of_length_le (by rw [List.length_reverse, List.length_map]; exact Nat.le_refl _)] at h5
      rw [hw]
      unfold OwnN icells
      rw [List.length_reverse, List.map_reverse]
      exact h5
    · rw [hw]
      exact Lib.below_putRow hb hbg

/-- cells set one behind the other -/
def setMany : Array Value → Nat → List Value → Array Value
  | cs, _, [] => cs
  | cs, o, v :: r => setMany (cs.setIfInBounds o v) (o + 1) r
theorem setMany_size : ∀ (vs : List Value) (o : Nat) (cs : Array Value), (setMany cs o vs).size = cs.size
  | [], _, _ => rfl
  | v :: r, o, cs => by rw [setMany, setMany_size r, Array.size_setIfInBounds]
theorem setMany_out : ∀ (vs : List Value) (o : Nat) (cs : Array Value) (j : Nat), j < o ∨ o + vs.length ≤ j → (setMany cs o vs)[j]? = cs[j]?
  | [], _, _, _, _ => rfl
  | v :: r, o, cs, j, h => by
    rw [List.length_cons] at h
    rw [setMany, setMany_out r (o + 1) _ j (by omega), Array.getElem?_setIfInBounds_ne (by omega)]
theorem setMany_in : ∀ (vs : List Value) (o : Nat) (cs : Array Value) (j : Nat) (hj : j < vs.length), o + vs.length ≤ cs.size → (setMany cs o vs)[o + j]? = some vs[j]
  | [], _, _, j, hj, _ => by simp at hj
  | v :: r, o, cs, 0, _, h => by
    rw [List.length_cons] at h
    rw [setMany, setMany_out r (o + 1) _ (o + 0) (by omega)]
    rw [Nat.add_zero, Array.getElem?_setIfInBounds_self_of_lt (by omega)]
    rfl
  | v :: r, o, cs, j + 1, hj, h => by
    rw [List.length_cons] at h hj
    rw [setMany, show o + (j + 1) = o + 1 + j by omega, setMany_in r (o + 1) _ j (by omega) (by rw [Array.size_setIfInBounds]; omega)]
    rfl
theorem setCells_row {g : Nat} {t : TypeId} {f : Nat × Nat} : ∀ (vs : List Value) (o : Nat) (w : World) (cur : Array Value), w.heap[g]? = some (.cells cur t f) → (w.setCells g o vs).heap[g]? = some (.cells (setMany cur o vs) t f)
  | [], _, _, _, h => h
  | v :: r, o, w, cur, h => setCells_row r (o + 1) _ _ (heap_set h v)
theorem setCells_grows {g : Nat} : ∀ (vs : List Value) (o : Nat) (w : World), w.grownBy (w.setCells g o vs) (some g)
  | [], _, _ => ⟨rfl, rfl, rfl, Nat.le_refl _, fun _ _ _ => rfl⟩
  | v :: r, o, w => (grown_setCell w g o v).andThen (setCells_grows r (o + 1) _) (fun j e => .inr e)
theorem grows_two (w : World) (o : Obj) (a b : Nat) (vs vs' : List Value) (row : Option Nat) : w.grownBy ((((w.alloc o).drew.setCells w.heap.size a vs).drew).setCells w.heap.size b vs') row := by
  have h1 : (w.alloc o).grownBy (w.alloc o).drew (some w.heap.size) := ⟨rfl, rfl, rfl, Nat.le_refl _, fun _ _ _ => rfl⟩
  have h2 := h1.andThen (setCells_grows (g := w.heap.size) vs a _) (fun j e => .inr e)
  have h3 : ((w.alloc o).drew.setCells w.heap.size a vs).grownBy (((w.alloc o).drew.setCells w.heap.size a vs).drew) (some w.heap.size) := ⟨rfl, rfl, rfl, Nat.le_refl _, fun _ _ _ => rfl⟩
  have h4 := (h2.andThen h3 (fun j e => .inr e)).andThen (setCells_grows (g := w.heap.size) vs' b _) (fun j e => .inr e)
  exact (World.grownBy_alloc w o row).andThen h4 (fun j e => .inl (by injection e with e; omega))
theorem own_row {w : World} {base g gc : Nat} {cur : Array Value} {l : List Nat} (hb : base ≤ g) (hg : w.heap[g]? = some (.cells cur 3 (0, 0))) (hs : cur.size = gc) (hle : l.length ≤ gc) (hm : gc ≤ maxLen)
    (hc : ∀ j (hj : j < l.length), cur[j]? = some (.int .i64 (l[j] : Nat))) : OwnN w base (.slice (some ⟨g, 0, none⟩) l.length gc) l := by
  refine ⟨by rw [icells_length, List.length_map, Nat.mul_one], .inr ⟨g, gc, cur, rfl, hb, hg, hle, hm, by rw [Nat.mul_one]; exact hs, ?_⟩⟩
  apply List.ext_getElem?
  intro j
  rw [Nat.mul_one, List.getElem?_take]
  by_cases hj : j < l.length
  · rw [if_pos hj, Array.getElem?_toList, hc j hj]
    simp [icells, hj]
  · rw [if_neg hj]
    have : (icells (l.map fun k : Nat => (k : Int)))[j]? = none := List.getElem?_eq_none (by rw [icells_length, List.length_map]; omega)
    rw [this]
theorem nat_cells (l : List Nat) (j : Nat) (hj : j < l.length) : (icells (l.map fun k : Nat => (k : Int)))[j]? = some (.int .i64 (l[j] : Nat)) := by simp [icells, hj]
set_option maxHeartbeats 1000000 in
/-- a state put ahead of a list -/
theorem ins_own {w : World} {base b x c : Nat} {v : Value} {l : List Nat} (h : OwnN w base v l) (hl0 : 0 < l.length) (hl : l.length ≤ 900) (hbase : base ≤ w.heap.size)
    (hu : w.heap[b]? = some (.cells #[.int .i64 (x : Int)] 3 (0, 0))) (hb : v.ownBlock ≠ some b) :
    Calls Try.prog 107 #[v, .int .i64 0, .slice (some ⟨b, 0, none⟩) 1 c] w fun e w' => ∃ v', e = .returned v' ∧ OwnN w' base v' (x :: l) ∧ w.grownBy w' v.ownBlock := by
  have hcl : (icells (l.map fun k : Nat => (k : Int))).length = l.length := by rw [icells_length, List.length_map]
  rcases h.2 with ⟨_, h0⟩ | ⟨g, cap, cur, rfl, hbg, hg, hnc, hcm, hcs, htk⟩
  · omega
  · rw [Nat.mul_one] at hcs htk
    have hm2 : cap ≤ 9223372036854775807 := by unfold maxLen at hcm; omega
    have hbg' : b ≠ g := fun e => hb (by rw [e]; rfl)
    have hcell : ∀ j, w.cell? ⟨g, j, none⟩ = cur[j]? := fun j => cell_of_row w g j cur _ _ hg
    have hcc : ∀ j v, (icells (l.map fun k : Nat => (k : Int)))[j]? = some v → w.cell? ⟨g, 0 + j, none⟩ = some v := fun j v hv => by
      have hj : j < l.length := by have := (List.getElem?_eq_some_iff.1 hv).1; omega
      rw [Nat.zero_add, hcell, ← Array.getElem?_toList]
      rw [← htk, List.getElem?_take, if_pos hj] at hv
      exact hv
    have hvv : ∀ j v, ([.int .i64 (x : Int)] : List Value)[j]? = some v → w.cell? ⟨b, 0 + j, none⟩ = some v := fun j v hv => by
      have hj : j = 0 := by have := (List.getElem?_eq_some_iff.1 hv).1; simp at this; exact this
      subst hj
      rw [cell_of_row w b _ _ _ _ hu]; exact hv
    have h1v : ∀ v ∈ ([.int .i64 (x : Int)] : List Value), v.oneCell' = true := by
      intro u hu; simp at hu; subst hu; rfl
    by_cases hroom : l.length + 1 ≤ cap
    · have hI := Any2.slices_Insert_int_shift Try.layIns g 0 l.length cap 0 b 0 1 c (icells (l.map fun k : Nat => (k : Int))) [.int .i64 (x : Int)] w hl0 (by omega) hroom hm2 hbg' hcl rfl hcc
        (fun j hj => by rw [Nat.zero_add, hcell, Array.getElem?_eq_getElem (by omega)]; rfl) (fun j hj => by simp [World.frozen?, hg]) hvv (icells_one _) h1v
        3 3 1 cap (by simp [World.shape?, hu]) (by simp [World.shape?, hg, hcs]) (by omega) (by simp [World.frozen?, hu]) (by simp [World.frozen?, hu])
      refine Calls.mono (show Calls Try.prog 107 _ w _ from hI) fun e w' ⟨he, hw⟩ => ⟨_, he, ?_, ?_⟩
      · have h1 : w'.heap[g]? = some (.cells (setMany (setMany cur (0 + (0 + 1)) ((icells (l.map fun k : Nat => (k : Int))).drop 0)) (0 + 0) [.int .i64 (x : Int)]) 3 (0, 0)) := by
          rw [hw]
          exact setCells_row _ _ _ _ (setCells_row _ _ _ _ hg)
        have := own_row (w := w') (base := base) (l := x :: l) hbg h1 (by rw [setMany_size, setMany_size]; exact hcs) (by rw [List.length_cons]; exact hroom) hcm (fun j hj => by
          cases j with
          | zero =>
            have := setMany_in [.int .i64 (x : Int)] (0 + 0) (setMany cur (0 + (0 + 1)) ((icells (l.map fun k : Nat => (k : Int))).drop 0)) 0 (by simp) (by rw [setMany_size]; simp; omega)
            simpa using this
          | succ j =>
            rw [List.length_cons] at hj
            rw [setMany_out _ _ _ _ (.inr (by simp)), List.drop_zero]
            have := setMany_in (icells (l.map fun k : Nat => (k : Int))) (0 + (0 + 1)) cur j (by omega) (by omega)
            rw [List.getElem_cons_succ, show j + 1 = 0 + (0 + 1) + j by omega, this]
            have h9 := nat_cells l j (by omega)
            rw [List.getElem?_eq_getElem (by omega)] at h9
            exact h9)
        rw [List.length_cons] at this
        exact this
      · rw [hw]
        have h0 : w.grownBy w.drew (some g) := ⟨rfl, rfl, rfl, Nat.le_refl _, fun _ _ _ => rfl⟩
        exact (h0.andThen (setCells_grows _ _ _) (fun j e => .inr e)).andThen (setCells_grows _ _ _) (fun j e => .inr e)
    · have hI := Any2.slices_Insert_int_grow Try.layIns g 0 l.length cap 0 b 0 1 c (icells (l.map fun k : Nat => (k : Int))) [.int .i64 (x : Int)] w hl0 (by omega) hnc (by omega) (by omega) hcl rfl hcc hvv (icells_one _) h1v
      refine Calls.mono (show Calls Try.prog 107 _ w _ from hI) fun e w' ⟨he, hw⟩ => ⟨_, he, ?_, ?_⟩
      · have hge := grownCap_ge w (l.length + 1) cap 3
        have hcm2 := grownCap_le_maxLen w (l.length + 1) cap 3 (by unfold maxLen; omega)
        have hw1 : w'.heap[w.heap.size]? = some (.cells (setMany (setMany ((((icells (l.map fun k : Nat => (k : Int))).take 0).toArray ++ Builtin.zeroCells (Value.int .i64 0).cells (l.length + 1 - 0) ++ Builtin.zeroCells (Value.int .i64 0).cells (grownCap w (l.length + 1) cap 3 - (l.length + 1)))) 0 [.int .i64 (x : Int)]) (0 + 1) ((icells (l.map fun k : Nat => (k : Int))).drop 0)) 3 (0, 0)) := by
          rw [hw]
          exact setCells_row _ _ _ _ (setCells_row _ _ _ _ (heap_alloc_new w _))
        have hsz : (((icells (l.map fun k : Nat => (k : Int))).take 0).toArray ++ Builtin.zeroCells (Value.int .i64 0).cells (l.length + 1 - 0) ++ Builtin.zeroCells (Value.int .i64 0).cells (grownCap w (l.length + 1) cap 3 - (l.length + 1))).size = grownCap w (l.length + 1) cap 3 := by
          simp only [Array.size_append, List.size_toArray, size_zeroCells, List.take_zero, List.length_nil]
          have : (Value.int .i64 0).cells.size = 1 := rfl
          rw [this]
          omega
        have := own_row (w := w') (base := base) (l := x :: l) hbase hw1 (by rw [setMany_size, setMany_size]; exact hsz) (by rw [List.length_cons]; exact hge) hcm2 (fun j hj => by
          cases j with
          | zero =>
            rw [setMany_out _ _ _ _ (.inl (by omega))]
            have := setMany_in [.int .i64 (x : Int)] 0 _ 0 (by simp) (Nat.le_trans (by simp) (Nat.le_trans hge (Nat.le_of_eq hsz.symm)))
            simpa using this
          | succ j =>
            rw [List.length_cons] at hj
            rw [List.drop_zero]
            have := setMany_in (icells (l.map fun k : Nat => (k : Int))) (0 + 1) (setMany _ 0 [.int .i64 (x : Int)]) j (by omega) (by rw [setMany_size, hsz]; omega)
            rw [List.getElem_cons_succ, show j + 1 = 0 + 1 + j by omega, this]
            have h9 := nat_cells l j (by omega)
            rw [List.getElem?_eq_getElem (by omega)] at h9
            exact h9)
        rw [List.length_cons] at this
        exact this
      · rw [hw]
        exact grows_two w _ _ _ _ _ _
end Go.Proofs.Ytbacdllokgcohaa
