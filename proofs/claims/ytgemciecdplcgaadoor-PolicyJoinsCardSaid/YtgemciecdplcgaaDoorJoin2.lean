/-
  Lines counted on, in their cells; a list of rules in new memory, behind another.
-/
import Derived.Test.YtgemciecdplcgaaDoorJoin1
import Derived.Test.YtgemciecdplcgaaDoorPol6
import Derived.Test.YtgemciecdplcgaaDoorPol7
import Derived.Laws.OwnMore
namespace Go.Proofs.YtgemciecdplcgaaDoor
set_option maxRecDepth 100000
open Go.ChangeShapes Go.WideShapes Go.ChangeAt Go.RowKit

theorem own_cap2 {w : World} {base e size n c : Nat} {A : Option Addr} {xs : List Value} (h : w.ownsRow base e size (.slice A n c) n xs) : n ≤ c := by
  rcases h.2 with ⟨hv, h0⟩ | ⟨g, cap', cur, hv, _, _, hc, _⟩
  · omega
  · injection hv with _ _ hcc; omega
def bump (d : Nat) (x : RL) : RL := (x.1, x.2.1 + d, x.2.2)
theorem rcells_set (d : Nat) : ∀ (acc : List RL) (k : Nat) (h : k < acc.length), rcells (acc.set k (bump d acc[k])) = (rcells acc).set (k * 11 + 10) (.int .i64 ((acc[k].2.1 + d : Nat) : Int))
  | x :: r, 0, _ => by
    show rcell (bump d x) ++ rcells r = (rcell x ++ rcells r).set _ _
    rw [List.set_append_left _ _ (by rw [rcell_len]; omega)]
    obtain ⟨⟨kd, nm, l, rn, rm, rf, rt, rb, ra, ri⟩, ln, L⟩ := x
    rfl
  | x :: r, k + 1, h => by
    have hk : k < r.length := by simpa using h
    show rcell x ++ rcells (r.set k (bump d r[k])) = (rcell x ++ rcells r).set _ _
    rw [List.set_append_right _ _ (by rw [rcell_len]; omega), rcell_len, show (k + 1) * 11 + 10 - 11 = k * 11 + 10 by omega, rcells_set d r k hk]
    rfl
theorem RowsAt.bumped {w : World} {base g cap d : Nat} {acc : List RL} (h : RowsAt w base (.slice (some ⟨g, 0, none⟩) acc.length cap) acc) (k : Nat) (hk : k < acc.length) :
    RowsAt (w.setCell ⟨g, k * 11 + 10, none⟩ (.int .i64 ((acc[k].2.1 + d : Nat) : Int))) base (.slice (some ⟨g, 0, none⟩) acc.length cap) (acc.set k (bump d acc[k])) := by
  refine ⟨?_, fun x hx => ?_⟩
  · rw [rcells_set d acc k hk, List.length_set]
    exact (h.1.stored (k * 11 + 10) _).1
  · have hxo : OwnL w base x.2.2 x.1.list := by
      rcases List.mem_or_eq_of_mem_set hx with hx | hx
      · exact h.2 x hx
      · rw [hx]; exact h.2 acc[k] (List.getElem_mem hk)
    exact World.ownsRow.kept hxo (grown_setCell w g _ _) (own_apart hxo h.1)
/-- so many of the first rules counted on -/
def Bumped (d k : Nat) (acc acc' : List RL) : Prop := acc'.length = acc.length ∧ ∀ i (h : i < acc.length) (h' : i < acc'.length), acc'[i] = if i < k then bump d acc[i] else acc[i]
theorem bumped_none (d : Nat) (acc : List RL) : Bumped d 0 acc acc := ⟨rfl, fun i h h' => by simp⟩
theorem bumped_next {d k : Nat} {acc acc' : List RL} (h : Bumped d k acc acc') (hk : k < acc'.length) : Bumped d (k + 1) acc (acc'.set k (bump d acc'[k])) := by
  obtain ⟨h1, h2⟩ := h
  refine ⟨by simpa using h1, fun i hi hi' => ?_⟩
  have hi2 : i < acc'.length := by omega
  rw [List.getElem_set]
  by_cases hik : k = i
  · subst hik
    rw [if_pos rfl, h2 k hi hi2, if_neg (by omega), if_pos (by omega)]
  · rw [if_neg hik, h2 i hi hi2]
    by_cases h3 : i < k
    · rw [if_pos h3, if_pos (by omega)]
    · rw [if_neg h3, if_neg (by omega)]
theorem bumped_all {d : Nat} {acc acc' : List RL} (h : Bumped d acc.length acc acc') : acc'.map er = shiftL d (acc.map er) := by
  obtain ⟨h1, h2⟩ := h
  apply List.ext_getElem
  · simp [shiftL, h1]
  · intro i hi hi'
    have hi1 : i < acc.length := by simpa [shiftL] using hi'
    have hi2 : i < acc'.length := by omega
    simp only [List.getElem_map, shiftL]
    rw [h2 i hi1 hi2, if_pos hi1]
    rfl
theorem bumped_at {d k : Nat} {acc acc' : List RL} (h : Bumped d k acc acc') (hk : k < acc.length) (hk' : k < acc'.length) : acc'[k] = acc[k] := by
  rw [h.2 k hk hk', if_neg (by omega)]
theorem rcells_one {w : World} {base : Nat} {acc : List RL} (h : ∀ x ∈ acc, OwnL w base x.2.2 x.1.list) : ∀ u ∈ rcells acc, u.oneCell' = true := by
  intro u hu
  obtain ⟨x, hx, hu⟩ := List.mem_flatMap.1 hu
  obtain ⟨B, c, e⟩ := own_slice (h x hx)
  obtain ⟨r, ln, L⟩ := x
  obtain rfl : L = .slice B r.list.length c := e
  simp only [rcell, List.mem_cons, List.mem_nil_iff, or_false] at hu
  rcases hu with rfl | rfl | rfl | rfl | rfl | rfl | rfl | rfl | rfl | rfl | rfl <;> rfl
theorem rcells_len (acc : List RL) : (rcells acc).length = acc.length * 11 := by
  induction acc with
  | nil => rfl
  | cons x r ih => show (rcell x ++ rcells r).length = _; rw [List.length_append, ih, rcell_len, List.length_cons]; omega
theorem own_none {w : World} {base e size n n' c : Nat} {xs : List Value} (h : w.ownsRow base e size (.slice none n' c) n xs) : n = 0 ∧ c = 0 := by
  rcases h.2 with ⟨hv, h0⟩ | ⟨g, cap', cur, hv, _⟩
  · injection hv with _ _ hc; exact ⟨h0, hc⟩
  · injection hv with e; cases e
theorem own_some {w : World} {base e size n n' c : Nat} {a : Addr} {xs : List Value} (h : w.ownsRow base e size (.slice (some a) n' c) n xs) : ∃ g, a = ⟨g, 0, none⟩ := by
  rcases h.2 with ⟨hv, h0⟩ | ⟨g, cap', cur, hv, _⟩
  · injection hv with e; cases e
  · injection hv with e; exact ⟨g, Option.some.inj e⟩
def CopyTo (n : Nat) (xs : List Value) (w : World) (e : Ending) (w' : World) : Prop := ∃ v, e = .returned v ∧ w'.ownsRow w.heap.size 42 11 v n xs ∧ Below w.heap.size w w'
set_option maxHeartbeats 2000000 in
theorem Copy_any (acc : List RL) (A : Option Addr) (cap base : Nat) (w : World) (h : RowsAt w base (.slice A acc.length cap) acc) (ha : acc.length ≤ 1000) :
    Calls Tryd.prog 14 #[.slice A acc.length cap] w (CopyTo acc.length (rcells acc) w) := by
  obtain ⟨i0, hi, hz0, hz1, hz2⟩ := info_parts Tryd.infoRule
  cases A with
  | none =>
    obtain ⟨h0, rfl⟩ := own_none h.1
    have e0 : acc = [] := List.length_eq_zero_iff.1 h0
    subst e0
    clear h
    go_enter Tryd.func14, Tryd.ntmps14
    go_wp2
    go_ret
    exact ⟨_, rfl, World.ownsRow_nil _ _ _ _, Below.refl _ _⟩
  | some a =>
    obtain ⟨g, rfl⟩ := own_some h.1
    have hc : ∀ j u, (rcells acc)[j]? = some u → w.cell? ((⟨g, 0, none⟩ : Addr).add j) = some u := h.1.cells (g := g) rfl
    have hone := rcells_one h.2
    have hlen := rcells_len acc
    have HC := Lib.hid hc
    have HO := Lib.hid hone
    have HL := Lib.hid hlen
    clear h hc hone hlen
    generalize rcells acc = xs at *
    go_enter Tryd.func14, Tryd.ntmps14
    go_wp2_with (at_builtin; go_must (refine wpList_append_own _ rfl (.const (.slice none 0 0)) (.tmp 3) 23 rfl w.heap.size 42 i0 _ 11 152 Tryd.underlying23 hi hz0 hz1 hz2 rfl (by decide) (.slice none 0 0) 0 [] rfl (World.ownsRow_nil _ _ _ _) ⟨g, 0, none⟩ acc.length cap xs rfl HL.out HC.out HO.out (by unfold maxLen; omega) (by omega) (Nat.le_refl _) ?_); intro v' w4 hown' hg' _)
    have hg2 : w.grownBy w4 none := hg'
    go_ret
    refine ⟨v', rfl, by simpa using hown', hg2.os, hg2.tape, hg2.output, hg2.size, fun j hj => hg2.block j hj (by simp)⟩
theorem pol_num (N : Nat) : ∀ (ls : List Tx) (n : Nat) (acc l : List (Ru × Nat)), n + ls.length ≤ N + 1 → (∀ x ∈ acc, x.2 ≤ N) → polL ls n acc = .ok l → ∀ x ∈ l, x.2 ≤ N
  | [], _, acc, l, _, ha, h => by rw [polL] at h; cases h; exact ha
  | t :: r, n, acc, l, hn, ha, h => by
    simp only [List.length_cons] at hn
    rw [polL] at h
    cases hp : parseL t with
    | bad c k => rw [hp] at h; cases h
    | empty => rw [hp] at h; exact pol_num N r _ _ _ (by omega) ha h
    | ok u =>
      rw [hp] at h
      simp only at h
      split at h
      · cases h
      · refine pol_num N r _ _ _ (by omega) ?_ h
        intro x hx
        rcases List.mem_append.1 hx with hx | hx
        · exact ha x hx
        · rw [List.mem_singleton.1 hx]; simp only; omega
theorem ok_of {p : PolR} (h : isOk p = true) : ∃ l, p = .ok l := by
  cases p with
  | ok l => exact ⟨l, rfl⟩
  | limit => cases h
  | bad n c k => cases h
theorem rcells_app (l m : List RL) : rcells (l ++ m) = rcells l ++ rcells m := by simp [rcells]
theorem polT_num {s : List UInt8} {l : List (Ru × Nat)} (h : polT s = .ok l) : ∀ x ∈ l, x.2 ≤ s.count 10 + 1 := by
  unfold polT at h
  split at h
  · cases h
  · exact pol_num _ _ _ _ _ (by have := lines_count s; omega) (fun x hx => by cases hx) h
theorem RowsAt.poked {w : World} {base : Nat} {v : Value} {acc : List RL} (h : RowsAt w base v acc) {g : Nat} (hg : g < base) (j : Nat) (u : Value) : RowsAt (w.setCell ⟨g, j, none⟩ u) base v acc :=
  ⟨ownsRow_setCell_below h.1 hg u, fun x hx => ownsRow_setCell_below (h.2 x hx) hg u⟩
end Go.Proofs.YtgemciecdplcgaaDoor
