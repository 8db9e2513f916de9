/-
  The texts that PolicyLimits makes, and what they are read as: plain lists.
-/
import Derived.Test.YtgemciecdplcgaaDoorPol0
namespace Go.Proofs.YtgemciecdplcgaaDoor
set_option maxRecDepth 100000
open Go.RowKit

theorem parse_nil : parseL [] = .empty := by
  have h1 : badL [] = 0 := by decide +kernel
  have h2 : partL [] = [] := by decide +kernel
  unfold parseL
  rw [h1, if_neg (by omega)]
  unfold wordsL
  rw [h1, h2, toks_nil]; rfl
theorem parse_spaces (n : Nat) : parseL (blanks n) = .empty := by
  have h := parse_blanks n []
  rw [parse_nil, List.append_nil] at h
  exact h
def userLine : List UInt8 := [117, 115, 101, 114, 32, 117]
def roleLine : List UInt8 := [114, 111, 108, 101, 32, 97]
def wrongLine : List UInt8 := [119, 114, 111, 110, 103]
theorem parse_user : parseL userLine = .ok { kind := 2, name := [117] } :=
  parse_join (l := [[117, 115, 101, 114], [117]]) (by simp) (by decide) (by kernel_rfl) (by kernel_rfl)
theorem parse_role : parseL roleLine = .ok { kind := 1, name := [97] } :=
  parse_join (l := [[114, 111, 108, 101], [97]]) (by simp) (by decide) (by kernel_rfl) (by kernel_rfl)
theorem parse_wrong1 : parseL wrongLine = .bad 1 2 := by
  obtain ⟨h1, h2⟩ := words_join (l := [wrongLine]) (by decide)
  rw [join_one] at h1 h2
  unfold parseL
  rw [h1, h2]; kernel_rfl

/-- so many lines of a user -/
def usersT : Nat → List UInt8
  | 0 => []
  | n + 1 => userLine ++ 10 :: usersT n
theorem users_snoc : ∀ n, usersT n ++ (userLine ++ [10]) = usersT (n + 1)
  | 0 => rfl
  | n + 1 => by
    have ih := users_snoc n
    rw [usersT, List.append_assoc, List.cons_append, ih]; rfl
theorem users_len : ∀ n, (usersT n).length = 7 * n
  | 0 => rfl
  | n + 1 => by rw [usersT]; simp [users_len n, userLine]; omega
theorem users_lines : ∀ n, linesL (usersT n) = List.replicate n userLine ++ [[]]
  | 0 => rfl
  | n + 1 => by
    rw [usersT, lines_more, users_lines n, lines_plain (by decide), List.replicate_succ]; rfl
theorem pol_nil (n : Nat) (acc : List (Ru × Nat)) : polL [[]] n acc = .ok acc := by
  rw [polL, parse_nil]; rfl
theorem pol_users : ∀ (n k : Nat) (acc : List (Ru × Nat)), acc.length = k → k ≤ 160 →
    (k + n ≤ 160 → ∃ l, polL (List.replicate n userLine ++ [[]]) (k + 1) acc = .ok l ∧ l.length = k + n) ∧ (160 < k + n → polL (List.replicate n userLine ++ [[]]) (k + 1) acc = .bad 161 1 5)
  | 0, k, acc, h, hk => ⟨fun _ => ⟨acc, pol_nil _ _, h⟩, fun h => by omega⟩
  | n + 1, k, acc, h, hk => by
    by_cases h160 : k = 160
    · subst h160
      refine ⟨fun h => by omega, fun _ => ?_⟩
      rw [List.replicate_succ, List.cons_append, polL, parse_user]
      simp [h]
    · obtain ⟨h1, h2⟩ := pol_users n (k + 1) (acc ++ [({ kind := 2, name := [117] }, k + 1)]) (by simp [h]) (by omega)
      rw [List.replicate_succ, List.cons_append, polL, parse_user]
      simp only [h, h160, if_false]
      exact ⟨fun h3 => by obtain ⟨l, h4, h5⟩ := h1 (by omega); exact ⟨l, h4, by omega⟩, fun h3 => h2 (by omega)⟩
/-- what a text is read as -/
def polT (s : List UInt8) : PolR := if 4096 < s.length then .limit else polL (linesL s) 1 []
theorem polT_some {n : Nat} (h : n ≤ 160) : ∃ l, polT (usersT n) = .ok l ∧ l.length = n := by
  have hl := users_len n
  obtain ⟨l, h1, h2⟩ := (pol_users n 0 [] rfl (by omega)).1 (by omega)
  refine ⟨l, ?_, by omega⟩
  unfold polT
  rw [if_neg (by omega), users_lines]
  exact h1
theorem polT_more {n : Nat} (h : 160 < n) (h2 : n ≤ 200) : polT (usersT n) = .bad 161 1 5 := by
  have hl := users_len n
  unfold polT
  rw [if_neg (by omega), users_lines]
  exact (pol_users n 0 [] rfl (by omega)).2 (by omega)
theorem polT_blanks {m : Nat} (h : m ≤ 4096) : polT (blanks m) = .ok [] := by
  unfold polT
  rw [if_neg (by simp [blanks]; omega), lines_plain (by intro c hc; simp [blanks] at hc; rw [hc.2]; decide), polL, parse_spaces]
  rfl
theorem polT_limit {m : Nat} (h : 4096 < m) : polT (blanks m) = .limit := by
  unfold polT
  rw [if_pos (by simp [blanks]; omega)]
theorem polT_nil : polT [] = .ok [] := polT_blanks (m := 0) (by omega)
theorem polT_role : polT (roleLine ++ [10]) = .ok [({ kind := 1, name := [97] }, 1)] := by
  unfold polT
  rw [if_neg (by decide), show linesL (roleLine ++ [10]) = [roleLine, []] by decide +kernel, polL, parse_role]
  exact pol_nil _ _

/-- so many lines, wrong from one of them on -/
def tailT (a : Nat) : Nat → List UInt8
  | 0 => []
  | i + 1 => tailT a i ++ (if a ≤ i then wrongLine ++ [10] else [10])
theorem tail_len (a : Nat) : ∀ i, (tailT a i).length ≤ 6 * i
  | 0 => by simp [tailT]
  | i + 1 => by
    have := tail_len a i
    rw [tailT, List.length_append]
    split
    · simp [wrongLine]; omega
    · simp; omega
theorem tail_low (a : Nat) : ∀ i, i ≤ a → tailT a i = List.replicate i 10
  | 0, _ => rfl
  | i + 1, h => by rw [tailT, tail_low a i (by omega), if_neg (by omega), List.replicate_succ']
theorem tail_high (a : Nat) : ∀ d, ∃ r, tailT a (a + d + 1) = List.replicate a 10 ++ (wrongLine ++ 10 :: r)
  | 0 => ⟨[], by rw [Nat.add_zero, tailT, tail_low a a (Nat.le_refl _), if_pos (Nat.le_refl _)]⟩
  | d + 1 => by
    obtain ⟨r, h⟩ := tail_high a d
    exact ⟨r ++ (wrongLine ++ [10]), by rw [tailT, if_pos (by omega), show a + (d + 1) = a + d + 1 by omega, h]; simp⟩
theorem lines_ends (x : List UInt8) : ∀ n, linesL (List.replicate n 10 ++ x) = List.replicate n [] ++ linesL x
  | 0 => rfl
  | n + 1 => by rw [List.replicate_succ, List.cons_append, lines_end, lines_ends x n]; rfl
theorem pol_ends (r : List (List UInt8)) : ∀ n k, polL (List.replicate n [] ++ wrongLine :: r) k [] = .bad (k + n) 1 2
  | 0, k => by rw [List.replicate_zero, List.nil_append, polL, parse_wrong1]; rfl
  | n + 1, k => by
    rw [List.replicate_succ, List.cons_append, polL, parse_nil, show k + (n + 1) = k + 1 + n by omega]
    exact pol_ends r n (k + 1)
theorem polT_tail {a : Nat} (h : a < 20) : polT (tailT a 20) = .bad (a + 1) 1 2 := by
  have hl := tail_len a 20
  obtain ⟨r, e⟩ := tail_high a (19 - a)
  rw [show a + (19 - a) + 1 = 20 by omega] at e
  unfold polT
  rw [if_neg (by omega), e, lines_ends, lines_more, lines_plain (by decide), Nat.add_comm]
  exact pol_ends (linesL r) a 1
end Go.Proofs.YtgemciecdplcgaaDoor
