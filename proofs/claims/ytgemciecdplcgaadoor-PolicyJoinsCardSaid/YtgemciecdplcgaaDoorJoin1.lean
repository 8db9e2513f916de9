/-
  The texts of two policies put together, as lists; a range over a text counts the ends of its lines.
-/
import Derived.Test.YtgemciecdplcgaaDoorPol1
import Derived.Test.YtgemciecdplcgaaDoorPlay1
import Derived.Laws.RangeAny
namespace Go.Proofs.YtgemciecdplcgaaDoor
set_option maxRecDepth 100000
open Go.ChangeShapes Go.WideShapes Go.ChangeAt Go.RowKit

def isOk : PolR → Bool
  | .ok _ => true
  | _ => false
def shiftL (d : Nat) (l : List (Ru × Nat)) : List (Ru × Nat) := l.map fun x => (x.1, x.2 + d)
theorem pol_append : ∀ (l1 l2 : List Tx) (n : Nat) (acc : List (Ru × Nat)), polL (l1 ++ l2) n acc = match polL l1 n acc with
    | .ok a => polL l2 (n + l1.length) a
    | r => r
  | [], l2, n, acc => by simp [polL]
  | t :: r, l2, n, acc => by
    rw [List.cons_append, polL, polL]
    cases hp : parseL t with
    | bad c k => rfl
    | empty => simp only; rw [pol_append r l2]; simp only [List.length_cons, show n + 1 + r.length = n + (r.length + 1) by omega]
    | ok u =>
      simp only
      by_cases h : acc.length = 160
      · rw [if_pos h, if_pos h]
      · rw [if_neg h, if_neg h, pol_append r l2]; simp only [List.length_cons, show n + 1 + r.length = n + (r.length + 1) by omega]
theorem pol_len : ∀ (ls : List Tx) (n : Nat) (acc l : List (Ru × Nat)), polL ls n acc = .ok l → l.length ≤ acc.length + ls.length
  | [], _, acc, l, h => by rw [polL] at h; cases h; simp
  | t :: r, n, acc, l, h => by
    rw [polL] at h
    cases hp : parseL t with
    | bad c k => rw [hp] at h; cases h
    | empty => rw [hp] at h; have := pol_len r _ _ _ h; simp only [List.length_cons]; omega
    | ok u =>
      rw [hp] at h
      simp only at h
      split at h
      · cases h
      · have := pol_len r _ _ _ h; simp only [List.length_cons, List.length_append, List.length_nil] at this ⊢; omega
/-- the same lines further down, behind other rules -/
theorem pol_move (d : Nat) : ∀ (ls : List Tx) (n : Nat) (acc acc' l : List (Ru × Nat)), acc'.length + ls.length ≤ 160 → polL ls n acc = .ok l → ∃ s, l = acc ++ s ∧ polL ls (n + d) acc' = .ok (acc' ++ shiftL d s)
  | [], n, acc, acc', l, _, h => by rw [polL] at h; cases h; exact ⟨[], by simp, by simp [polL, shiftL]⟩
  | t :: r, n, acc, acc', l, hl, h => by
    simp only [List.length_cons] at hl
    rw [polL] at h ⊢
    cases hp : parseL t with
    | bad c k => rw [hp] at h; cases h
    | empty =>
      rw [hp] at h
      simp only at h ⊢
      obtain ⟨s, e1, e2⟩ := pol_move d r (n + 1) acc acc' l (by omega) h
      exact ⟨s, e1, by rw [show n + d + 1 = n + 1 + d by omega]; exact e2⟩
    | ok u =>
      rw [hp] at h
      simp only at h ⊢
      split at h
      · cases h
      · obtain ⟨s, e1, e2⟩ := pol_move d r (n + 1) (acc ++ [(u, n)]) (acc' ++ [(u, n + d)]) l (by simp only [List.length_append, List.length_cons, List.length_nil]; omega) h
        refine ⟨(u, n) :: s, by rw [e1]; simp, ?_⟩
        rw [if_neg (by omega), show n + d + 1 = n + 1 + d by omega, e2]
        simp [shiftL]
/-- what is wrong in some lines is so behind other rules, too -/
theorem pol_wrong : ∀ (ls : List Tx) (n n' : Nat) (acc acc' : List (Ru × Nat)), acc.length ≤ acc'.length → acc'.length ≤ 160 → isOk (polL ls n acc) = false → ∃ a c k, polL ls n' acc' = .bad a c k
  | [], n, n', acc, acc', _, _, h => by rw [polL] at h; cases h
  | t :: r, n, n', acc, acc', ha, hm, h => by
    rw [polL] at h ⊢
    cases hp : parseL t with
    | bad c k => exact ⟨_, _, _, rfl⟩
    | empty => rw [hp] at h; exact pol_wrong r (n + 1) (n' + 1) acc acc' ha hm h
    | ok u =>
      rw [hp] at h
      simp only at h ⊢
      by_cases h2 : acc'.length = 160
      · rw [if_pos h2]; exact ⟨_, _, _, rfl⟩
      · rw [if_neg h2]
        by_cases h1 : acc.length = 160
        · omega
        · rw [if_neg h1] at h
          exact pol_wrong r (n + 1) (n' + 1) _ _ (by simp; omega) (by simp; omega) h
theorem lines_count : ∀ l : List UInt8, (linesL l).length = l.count 10 + 1
  | [] => rfl
  | c :: r => by
    have ih := lines_count r
    by_cases hc : c = 10
    · subst hc; rw [lines_end]; simp [ih]
    · obtain ⟨a, t, h⟩ := lines_ne r
      rw [h] at ih
      rw [lines_cons hc h, List.count_cons_of_ne hc, ← ih]; rfl
theorem pol_blank : ∀ (g n : Nat) (ls : List Tx) (acc : List (Ru × Nat)), polL (List.replicate g [] ++ ls) n acc = polL ls (n + g) acc
  | 0, _, _, _ => rfl
  | g + 1, n, ls, acc => by
    rw [List.replicate_succ, List.cons_append, polL, parse_nil]
    simp only
    rw [pol_blank g (n + 1) ls acc, show n + 1 + g = n + (g + 1) by omega]
/-- the rules of both, the second ones' lines counted on -/
theorem pol_join {a b : List UInt8} {g : Nat} {x y : List (Ru × Nat)} (hs : a.length + 1 + g + b.length ≤ 4096) (hc : a.count 10 + b.count 10 ≤ 150) (hx : polT (a ++ [10]) = .ok x) (hy : polT b = .ok y) :
    polT (a ++ [10] ++ List.replicate g 10 ++ b) = .ok (x ++ shiftL (a.count 10 + 1 + g) y) := by
  have la := lines_count a
  have lb := lines_count b
  unfold polT at hx hy ⊢
  rw [if_neg (by simp; omega)] at hx
  rw [if_neg (by omega)] at hy
  rw [if_neg (by simp; omega)]
  have e1 : linesL (a ++ [10]) = linesL a ++ [[]] := lines_more a []
  have e2 : linesL (a ++ [10] ++ List.replicate g 10 ++ b) = linesL a ++ (List.replicate g [] ++ linesL b) := by
    rw [show a ++ [10] ++ List.replicate g 10 ++ b = a ++ 10 :: (List.replicate g 10 ++ b) by simp, lines_more, lines_ends]
  rw [e1, pol_append] at hx
  rw [e2, pol_append]
  cases hl : polL (linesL a) 1 [] with
  | limit => rw [hl] at hx; cases hx
  | bad c k d => rw [hl] at hx; cases hx
  | ok z =>
    rw [hl] at hx
    simp only [pol_nil] at hx
    cases hx
    simp only
    rw [pol_blank]
    have hzl := pol_len _ _ _ _ hl
    simp only [List.length_nil] at hzl
    obtain ⟨s, e3, e4⟩ := pol_move (a.count 10 + 1 + g) (linesL b) 1 [] x y (by omega) hy
    rw [show 1 + (linesL a).length + g = 1 + (a.count 10 + 1 + g) by omega, e4]
    rw [List.nil_append] at e3
    rw [e3]
theorem pol_joinBad {a b : List UInt8} {g : Nat} (hs : a.length + 1 + g + b.length ≤ 4096) (hc : a.count 10 + b.count 10 ≤ 150) (h : isOk (polT (a ++ [10])) = false ∨ isOk (polT b) = false) :
    ∃ n c k, polT (a ++ [10] ++ List.replicate g 10 ++ b) = .bad n c k := by
  have la := lines_count a
  unfold polT at h ⊢
  rw [if_neg (by simp; omega), if_neg (by omega)] at h
  rw [if_neg (by simp; omega)]
  have e1 : linesL (a ++ [10]) = linesL a ++ [[]] := lines_more a []
  have e2 : linesL (a ++ [10] ++ List.replicate g 10 ++ b) = linesL a ++ (List.replicate g [] ++ linesL b) := by
    rw [show a ++ [10] ++ List.replicate g 10 ++ b = a ++ 10 :: (List.replicate g 10 ++ b) by simp, lines_more, lines_ends]
  rw [e1, pol_append] at h
  rw [e2, pol_append]
  cases hl : polL (linesL a) 1 [] with
  | limit =>
    obtain ⟨n, c, k, e⟩ := pol_wrong (linesL a) 1 1 [] [] (Nat.le_refl _) (by simp) (by rw [hl]; rfl)
    rw [hl] at e; cases e
  | bad c k d => exact ⟨_, _, _, rfl⟩
  | ok z =>
    have hzl := pol_len _ _ _ _ hl
    simp only [List.length_nil] at hzl
    rw [hl] at h
    simp only [pol_nil] at h
    rcases h with h | h
    · cases h
    · simp only
      rw [pol_blank]
      exact pol_wrong (linesL b) 1 _ [] z (by simp) (by omega) h

/-! ### a range over a text -/
theorem decode_wide (s : ByteArray) (pos : Nat) (h : pos < s.size) : 1 ≤ (Utf8.decode s pos).2 ∧ pos + (Utf8.decode s pos).2 ≤ s.size ∧ ∀ k, 1 ≤ k → k < (Utf8.decode s pos).2 → (s.get! (pos + k)).toNat / 64 = 2 := by
  simp only [Utf8.decode]
  repeat' split
  all_goals simp only [Bool.and_eq_true, decide_eq_true_eq, beq_iff_eq] at *
  all_goals refine ⟨by omega, by omega, fun k h1 h2 => ?_⟩
  all_goals first
    | omega
    | ((have hk : k = 1 := by omega); subst hk; omega)
    | ((have hk : k = 1 ∨ k = 2 := by omega); rcases hk with hk | hk <;> subst hk <;> omega)
    | ((have hk : k = 1 ∨ k = 2 ∨ k = 3 := by omega); rcases hk with hk | hk | hk <;> subst hk <;> omega)
/-- how many ends of lines there are up to a place -/
def nlTo (s : ByteArray) (pos : Nat) : Nat := (s.data.toList.take pos).count 10
theorem get_eq (s : ByteArray) (pos : Nat) (h : pos < s.size) : s.get! pos = s[pos] := by
  have := get_at s pos h
  simpa using this
theorem nlTo_far (s : ByteArray) (pos : Nat) : ∀ d, (∀ k, k < d → pos + k < s.size ∧ s.get! (pos + k) ≠ 10) → nlTo s (pos + d) = nlTo s pos
  | 0, _ => rfl
  | d + 1, h => by
    obtain ⟨h1, h2⟩ := h d (by omega)
    have ih := nlTo_far s pos d fun k hk => h k (by omega)
    have hl : pos + d < s.data.toList.length := by rw [size_list]; exact h1
    unfold nlTo at ih ⊢
    rw [← Nat.add_assoc, List.take_succ_eq_append_getElem hl, List.count_append, ih]
    have e : s.data.toList[pos + d] = s.get! (pos + d) := by rw [get_eq s _ h1]; rfl
    rw [e]
    simp [h2]
theorem nlTo_next (s : ByteArray) (pos : Nat) (h : pos < s.size) : nlTo s (pos + (Utf8.decode s pos).2) = nlTo s pos + if (s[pos].toNat : Int) = 10 then 1 else 0 := by
  obtain ⟨h1, h2, h3⟩ := decode_wide s pos h
  have hl : pos < s.data.toList.length := by rw [size_list]; exact h
  have e1 : nlTo s (pos + 1) = nlTo s pos + if (s[pos].toNat : Int) = 10 then 1 else 0 := by
    unfold nlTo
    rw [List.take_succ_eq_append_getElem hl, List.count_append]
    have e : s.data.toList[pos] = s[pos] := rfl
    rw [e]
    by_cases h10 : s[pos] = 10
    · rw [h10]; rfl
    · have : ¬ (s[pos].toNat : Int) = 10 := fun he => h10 (UInt8.toNat_inj.1 (show s[pos].toNat = 10 by omega))
      rw [if_neg this]; simp [h10]
  obtain ⟨d, hd⟩ : ∃ d, (Utf8.decode s pos).2 = d + 1 := ⟨(Utf8.decode s pos).2 - 1, by omega⟩
  rw [hd] at h2 h3 ⊢
  rw [show pos + (d + 1) = pos + 1 + d by omega, nlTo_far s (pos + 1) d fun k hk => ?_, e1]
  refine ⟨by omega, fun he => ?_⟩
  have := h3 (1 + k) (by omega) (by omega)
  rw [show pos + (1 + k) = pos + 1 + k by omega, he] at this
  exact absurd this (by decide)
theorem nlTo_all (s : ByteArray) : nlTo s s.size = nl s := by
  unfold nlTo nl
  rw [List.take_of_length_le (by rw [size_list]; exact Nat.le_refl _)]
end Go.Proofs.YtgemciecdplcgaaDoor
