/-
  The lines of a text; what the text of a policy is read as: plain lists.
-/
import Derived.Test.YtgemciecdplcgaaDoorPlain04
import Derived.Lib.SplitLaws
namespace Go.Proofs.YtgemciecdplcgaaDoor
set_option maxRecDepth 100000

/-- the lines of a text: what lies between its bytes 10 -/
def linesL : List UInt8 → List (List UInt8)
  | [] => [[]]
  | c :: r => if c = 10 then [] :: linesL r else match linesL r with
    | [] => [[c]]
    | a :: t => (c :: a) :: t
theorem lines_end (r : List UInt8) : linesL (10 :: r) = [] :: linesL r := by rw [linesL, if_pos rfl]
theorem lines_cons {c : UInt8} (hc : c ≠ 10) {r a : List UInt8} {t : List (List UInt8)} (h : linesL r = a :: t) : linesL (c :: r) = (c :: a) :: t := by
  rw [linesL, if_neg hc, h]
theorem lines_ne : ∀ l : List UInt8, ∃ a t, linesL l = a :: t
  | [] => ⟨_, _, rfl⟩
  | c :: r => by
    by_cases hc : c = 10
    · subst hc; exact ⟨_, _, lines_end r⟩
    · obtain ⟨a, t, h⟩ := lines_ne r
      exact ⟨_, _, lines_cons hc h⟩
theorem lines_more : ∀ a b : List UInt8, linesL (a ++ 10 :: b) = linesL a ++ linesL b
  | [], b => by rw [List.nil_append, lines_end]; rfl
  | c :: r, b => by
    have ih := lines_more r b
    by_cases hc : c = 10
    · subst hc; rw [List.cons_append, lines_end, lines_end, ih]; rfl
    · obtain ⟨a, t, h⟩ := lines_ne r
      rw [h] at ih
      rw [List.cons_append, lines_cons hc ih, lines_cons hc h]; rfl
theorem lines_plain : ∀ {l : List UInt8}, (∀ c ∈ l, c ≠ 10) → linesL l = [l]
  | [], _ => rfl
  | c :: r, h => by
    rw [lines_cons (h c List.mem_cons_self) (lines_plain fun x hx => h x (List.mem_cons_of_mem _ hx))]
theorem lines_len : ∀ l : List UInt8, (linesL l).length ≤ l.length + 1 ∧ ∀ x ∈ linesL l, x.length ≤ l.length
  | [] => ⟨by simp [linesL], by simp [linesL]⟩
  | c :: r => by
    obtain ⟨h1, h2⟩ := lines_len r
    by_cases hc : c = 10
    · subst hc
      rw [lines_end]
      exact ⟨by simp only [List.length_cons]; omega, fun x hx => by rcases List.mem_cons.1 hx with rfl | hx; · simp
                                                                    · have := h2 x hx; simp only [List.length_cons]; omega⟩
    · obtain ⟨a, t, h⟩ := lines_ne r
      rw [h] at h1 h2
      rw [lines_cons hc h]
      refine ⟨by simp only [List.length_cons] at h1 ⊢; omega, fun x hx => ?_⟩
      rcases List.mem_cons.1 hx with rfl | hx
      · have := h2 a List.mem_cons_self; simp only [List.length_cons]; omega
      · have := h2 x (List.mem_cons_of_mem _ hx); simp only [List.length_cons]; omega
/-- the library's cutting at byte 10 -/
theorem lines_split : ∀ s : List UInt8, Lib.splitK [10] 0 (Lib.count s [10]) s = linesL s
  | [] => by rw [Lib.count_miss (by simp [Lib.index])]; rfl
  | c :: r => by
    have ih := lines_split r
    by_cases hc : c = 10
    · subst hc
      rw [Lib.count_cons_eq, lines_end, ← ih, Nat.add_comm, Lib.splitK]
      have hix : Lib.index (10 :: r) [10] = 0 := by simp [Lib.index, List.isPrefixOf]
      rw [hix]; simp
    · have hp : ([10] : List UInt8).isPrefixOf (c :: r) = false := by simp [List.isPrefixOf, Ne.symm hc]
      have hix : Lib.index (c :: r) [10] = if Lib.index r [10] == -1 then -1 else Lib.index r [10] + 1 := by rw [Lib.index, hp]; simp
      rw [Lib.count_cons_ne c 10 r hc]
      by_cases hm : Lib.index r [10] = -1
      · rw [Lib.count_miss hm, Lib.splitK] at ih
        rw [Lib.count_miss hm, Lib.splitK, lines_cons hc ih.symm]
      · have hge := Lib.index_ge r [10]
        obtain ⟨j, hj⟩ : ∃ j : Nat, Lib.index r [10] = j := ⟨(Lib.index r [10]).toNat, by omega⟩
        rw [hj, if_neg (by simp)] at hix
        have hcount := Lib.count_hit (s := r) (sub := [10]) (by simp) hj
        generalize Lib.count (List.drop (j + ([10] : List UInt8).length) r) [10] = k at hcount
        rw [Nat.add_comm] at hcount
        rw [hcount, Lib.splitK, hj, if_neg (by simp)] at ih
        rw [hcount, Lib.splitK, hix, if_neg (by simp; omega), lines_cons hc ih.symm]
        simp [show ((j : Int) + 1).toNat = j + 1 by omega]

/-- what a text of rules is read as: what is wrong first, or the rules, each with its line's number -/
inductive PolR where
  | limit
  | bad (n c : Nat) (k : Int)
  | ok (l : List (Ru × Nat))
/-- the lines from the n-th on, some rules read -/
def polL : List (List UInt8) → Nat → List (Ru × Nat) → PolR
  | [], _, acc => .ok acc
  | t :: r, n, acc => match parseL t with
    | .bad c k => .bad n c k
    | .empty => polL r (n + 1) acc
    | .ok u => if acc.length = 160 then .bad n 1 5 else polL r (n + 1) (acc ++ [(u, n)])
theorem pol_end {ls : List (List UInt8)} {k n : Nat} {acc : List (Ru × Nat)} (h : ls.length ≤ k) : polL (ls.drop k) n acc = .ok acc := by
  rw [List.drop_of_length_le h]; rfl
theorem pol_bad {ls : List (List UInt8)} {k n : Nat} {acc : List (Ru × Nat)} (h : k < ls.length) {c : Nat} {d : Int} (hp : parseL ls[k] = .bad c d) : polL (ls.drop k) n acc = .bad n c d := by
  rw [List.drop_eq_getElem_cons h, polL, hp]
theorem pol_empty {ls : List (List UInt8)} {k n : Nat} {acc : List (Ru × Nat)} (h : k < ls.length) (hp : parseL ls[k] = .empty) : polL (ls.drop k) n acc = polL (ls.drop (k + 1)) (n + 1) acc := by
  rw [List.drop_eq_getElem_cons h, polL, hp]
theorem pol_full {ls : List (List UInt8)} {k n : Nat} {acc : List (Ru × Nat)} (h : k < ls.length) {u : Ru} (hp : parseL ls[k] = .ok u) (ha : acc.length = 160) : polL (ls.drop k) n acc = .bad n 1 5 := by
  rw [List.drop_eq_getElem_cons h, polL, hp]; simp [ha]
theorem pol_ok {ls : List (List UInt8)} {k n : Nat} {acc : List (Ru × Nat)} (h : k < ls.length) {u : Ru} (hp : parseL ls[k] = .ok u) (ha : acc.length ≠ 160) : polL (ls.drop k) n acc = polL (ls.drop (k + 1)) (n + 1) (acc ++ [(u, n)]) := by
  rw [List.drop_eq_getElem_cons h, polL, hp]; simp [ha]
end Go.Proofs.YtgemciecdplcgaaDoor
