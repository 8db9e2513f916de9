/-
  The plain: a line that is a rule; policies.
-/
import Derived.Test.YtahhepmhdcbplaaGreatDoorShift
import Derived.Lib.Join
import Derived.Lib.SplitLaws
namespace Go.Proofs.YtahhepmhdcbplaaGreatDoor
set_option maxRecDepth 100000

/-- words with a blank between -/
def joinP (l : List Tx) : Tx := Lib.join l [32]
/-- a byte of a word; a byte of a line ahead of its comment -/
def gb (b : UInt8) : Bool := decide (33 ≤ b.toNat) && decide (b.toNat ≤ 126) && decide (b.toNat ≠ 35)
def gw (t : Tx) : Bool := !t.isEmpty && t.all gb
def OkL (l : Tx) : Prop := ∀ b ∈ l, 32 ≤ b.toNat ∧ b.toNat ≤ 126 ∧ b.toNat ≠ 35
def posn : List Tx → Nat → List (Nat × Tx)
  | [], _ => []
  | a :: r, c => (c, a) :: posn r (c + a.length + 1)
theorem tx_posn (l : List Tx) : ∀ c, tx (posn l c) = l := by
  induction l with
  | nil => intro c; rfl
  | cons a r ih => intro c; show a :: tx (posn r _) = _; rw [ih]
theorem posn_len (l : List Tx) (c : Nat) : (posn l c).length = l.length := by
  have := congrArg List.length (tx_posn l c); simpa [tx] using this
theorem posn_pos (l : List Tx) : ∀ c, 1 ≤ c → ∀ x ∈ posn l c, 1 ≤ x.1 := by
  induction l with
  | nil => intro c _ x hx; simp [posn] at hx
  | cons a r ih =>
    intro c hc x hx
    rw [posn, List.mem_cons] at hx
    rcases hx with rfl | hx
    · exact hc
    · exact ih _ (by omega) x hx
theorem gw_ne {t : Tx} (h : gw t = true) : t ≠ [] := by rintro rfl; simp [gw] at h
theorem gw_ok {t : Tx} (h : gw t = true) : OkL t := by
  intro b hb
  have := h
  simp only [gw, Bool.and_eq_true, List.all_eq_true] at this
  have := this.2 b hb
  simp [gb] at this; omega
theorem gw_no {t : Tx} (h : gw t = true) : ∀ b ∈ t, b ≠ 32 := by
  intro b hb e
  subst e
  have := h
  simp only [gw, Bool.and_eq_true, List.all_eq_true] at this
  have := this.2 _ hb
  simp [gb] at this
theorem word_self {a : Tx} (h : ∀ b ∈ a, b ≠ 32) (r : Tx) : word (a ++ 32 :: r) = a ∧ word a = a := by
  induction a with
  | nil => exact ⟨word_nil_blank r, rfl⟩
  | cons b a ih =>
    have hb : b ≠ 32 := h b (List.mem_cons_self ..)
    obtain ⟨i1, i2⟩ := ih fun x hx => h x (List.mem_cons_of_mem _ hx)
    exact ⟨by rw [List.cons_append, word_cons hb, i1], by rw [word_cons hb, i2]⟩
theorem join_cons2 (a b : Tx) (r : List Tx) : joinP (a :: b :: r) = a ++ 32 :: joinP (b :: r) := by
  simp [joinP, Lib.join]
theorem join_one (a : Tx) : joinP [a] = a := by simp [joinP, Lib.join]
theorem toks_join (l : List Tx) : (∀ t ∈ l, gw t = true) → ∀ c, toks (joinP l) c = posn l c := by
  induction l with
  | nil => intro _ c; exact toks_nil c
  | cons a r ih =>
    intro h c
    have ha := h a (List.mem_cons_self ..)
    have hr := ih fun t ht => h t (List.mem_cons_of_mem _ ht)
    cases r with
    | nil =>
      rw [join_one]
      have hw := (word_self (gw_no ha) []).2
      rw [toks_word (by rw [hw]; exact gw_ne ha), hw, List.drop_of_length_le (Nat.le_refl _), toks_nil]; rfl
    | cons b r =>
      rw [join_cons2]
      have hw := (word_self (gw_no ha) (joinP (b :: r))).1
      rw [toks_word (by rw [hw]; exact gw_ne ha), hw, List.drop_left, toks_blank, hr]; rfl
theorem ok_join (l : List Tx) : (∀ t ∈ l, gw t = true) → OkL (joinP l) := by
  induction l with
  | nil => intro _ b hb; simp [joinP, Lib.join] at hb
  | cons a r ih =>
    intro h
    have ha := gw_ok (h a (List.mem_cons_self ..))
    have hr := ih fun t ht => h t (List.mem_cons_of_mem _ ht)
    cases r with
    | nil => rw [join_one]; exact ha
    | cons b r =>
      rw [join_cons2]
      intro x hx
      rw [List.mem_append, List.mem_cons] at hx
      rcases hx with hx | rfl | hx
      · exact ha x hx
      · decide
      · exact hr x hx
theorem part_ok {l : Tx} (h : OkL l) : partL l = l := by
  unfold partL upTo
  induction l with
  | nil => rfl
  | cons b r ih =>
    have hb := (h b (List.mem_cons_self ..)).2.2
    have h1 : (b != 35) = true := by rw [bne_iff_ne]; rintro rfl; exact hb rfl
    rw [List.takeWhile_cons, if_pos h1, ih fun x hx => h x (List.mem_cons_of_mem _ hx)]
theorem badCol_ok (l : Tx) : OkL l → ∀ i, badCol l i = 0 := by
  induction l with
  | nil => intro _ i; rfl
  | cons b r ih =>
    intro h i
    have := h b (List.mem_cons_self ..)
    rw [badCol, if_neg (by omega)]
    exact ih (fun x hx => h x (List.mem_cons_of_mem _ hx)) _
theorem bad_ok {l : Tx} (h : OkL l) : badL l = 0 := by unfold badL; rw [part_ok h]; exact badCol_ok l h 0
theorem words_join {l : List Tx} (h : ∀ t ∈ l, gw t = true) : badL (joinP l) = 0 ∧ wordsL (joinP l) = posn l 1 := by
  have ho := ok_join l h
  exact ⟨bad_ok ho, by unfold wordsL; rw [if_pos (bad_ok ho), part_ok ho]; exact toks_join l h 1⟩
/-! ### what is wrong, without the columns -/
def dupT (seen : List Tx) : List Tx → Bool
  | [] => false
  | t :: r => decide (t ∈ seen) || dupT (seen ++ [t]) r
theorem again_dup (ws : List (Nat × Tx)) : (∀ x ∈ ws, 1 ≤ x.1) → ∀ seen, (0 < againP seen ws ↔ dupT seen (tx ws) = true) := by
  induction ws with
  | nil => intro _ seen; simp [againP, dupT, tx]
  | cons a r ih =>
    intro h seen
    obtain ⟨c, t⟩ := a
    have hc : 1 ≤ c := h (c, t) (List.mem_cons_self ..)
    have hr := ih (fun x hx => h x (List.mem_cons_of_mem _ hx)) (seen ++ [t])
    rw [againP, show tx ((c, t) :: r) = t :: tx r from rfl, dupT]
    by_cases hm : t ∈ seen
    · rw [if_pos hm]; simp [hm]; omega
    · rw [if_neg hm, hr]; simp [hm]
def listT (r : Ru) (T : List Tx) : List Tx := T.drop (T.length - r.list.length)
def wrongT (r : Ru) (T : List Tx) : Bool :=
  if r.kind = 1 then dupT [r.name] (listT r T)
  else if r.kind = 2 ∨ r.kind = 3 ∨ r.kind = 6 then dupT [] (listT r T)
  else if r.kind = 4 ∨ r.kind = 5 then decide (r.n < 2 ∨ (r.list.length : Int) < r.n) || dupT [] (listT r T)
  else if r.kind = 7 then decide (r.n = 0) || !timeP r.m
  else if r.kind = 11 then !timeP r.n
  else false
theorem tx_drop (ws : List (Nat × Tx)) (n : Nat) : tx (ws.drop n) = (tx ws).drop n := by simp [tx, List.map_drop]
theorem colAt_pos {ws : List (Nat × Tx)} (hp : ∀ x ∈ ws, 1 ≤ x.1) {j : Nat} (h : j < ws.length) : 0 < colAt ws j := by
  rw [colAt_eq h]; have := hp _ (List.getElem_mem h); omega
theorem wrong_T {r : Ru} {ws : List (Nat × Tx)} (hp : ∀ x ∈ ws, 1 ≤ x.1) (hF : Formed ws.length r) : (0 < wrongP r ws ↔ wrongT r (tx ws) = true) := by
  have hl : listT r (tx ws) = tx (listP r ws) := by unfold listT listP; rw [tx_drop, show (tx ws).length = ws.length by simp [tx]]
  have hpl : ∀ x ∈ listP r ws, 1 ≤ x.1 := fun x hx => hp x (List.mem_of_mem_drop hx)
  have hA := again_dup (listP r ws) hpl
  obtain ⟨_, hk, _⟩ := hF
  unfold wrongP wrongT
  rw [hl]
  by_cases h1 : r.kind = 1
  · rw [if_pos h1, if_pos h1]; exact hA _
  rw [if_neg h1, if_neg h1]
  by_cases h2 : r.kind = 2 ∨ r.kind = 3 ∨ r.kind = 6
  · rw [if_pos h2, if_pos h2]; exact hA _
  rw [if_neg h2, if_neg h2]
  by_cases h3 : r.kind = 4 ∨ r.kind = 5
  · rw [if_pos h3, if_pos h3]
    have h2 : 2 ≤ ws.length := by omega
    by_cases hn : r.n < 2 ∨ (r.list.length : Int) < r.n
    · rw [if_pos hn]; have := colAt_pos hp (show 1 < ws.length by omega); simp [hn]; omega
    · rw [if_neg hn, hA]; simp [hn]
  rw [if_neg h3, if_neg h3]
  by_cases h4 : r.kind = 7
  · rw [if_pos h4, if_pos h4]
    have h2 : 4 ≤ ws.length := by omega
    by_cases hn : r.n = 0
    · rw [if_pos hn]; have := colAt_pos hp (show 2 < ws.length by omega); simp [hn]; omega
    · rw [if_neg hn]
      by_cases ht : timeP r.m = false
      · rw [if_pos ht]; have := colAt_pos hp (show 3 < ws.length by omega); simp [ht]; omega
      · rw [if_neg ht]; simp [hn, eq_true_of_ne_false ht]
  rw [if_neg h4, if_neg h4]
  by_cases h5 : r.kind = 11
  · rw [if_pos h5, if_pos h5]
    have h2 : 2 ≤ ws.length := by omega
    by_cases ht : timeP r.n = false
    · rw [if_pos ht]; have := colAt_pos hp (show 1 < ws.length by omega); simp [ht]; omega
    · rw [if_neg ht]; simp [eq_true_of_ne_false ht]
  rw [if_neg h5, if_neg h5]; simp
/-! ### a line of words, read -/
theorem mis_end {ws : List (Nat × Tx)} {s : St} (hp : ∀ x ∈ ws, 1 ≤ x.1) (h1 : 0 < ws.length) : misP ws s = 0 ↔ (ws.length ≤ s.k ∧ s.m = false) := by
  refine ⟨mis_zero hp h1, fun ⟨a, b⟩ => ?_⟩
  unfold misP
  rw [if_neg (by omega), if_pos b]
/-- the rule of words; none -/
def readT (T : List Tx) : Option Ru := if T.length ≤ (ruleP T).2.k ∧ (ruleP T).2.m = false ∧ wrongT (ruleP T).1 T = false then some (ruleP T).1 else none
theorem parse_join {l : List Tx} (hl : l ≠ []) (h : ∀ t ∈ l, gw t = true) {r : Ru} (hr : ruleP l = (r, ⟨l.length, false⟩)) (hw : wrongT r l = false) : parseL (joinP l) = .ok r := by
  obtain ⟨h1, h2⟩ := words_join h
  have ht := tx_posn l 1
  have hlen := posn_len l 1
  have hpos := posn_pos l 1 (Nat.le_refl _)
  have hF : Formed l.length r := by have := formed (T := l) (by rw [hr]) (by rw [hr]; exact Nat.le_refl _); rw [hr] at this; exact this
  unfold parseL
  rw [h1, h2, if_neg (by omega), if_neg (by intro e; rw [e] at hlen; exact hl (List.eq_nil_of_length_eq_zero hlen.symm))]
  have hm : misP (posn l 1) ⟨l.length, false⟩ = 0 := by unfold misP; rw [hlen, if_neg (by simp), if_pos rfl]
  have hwr : ¬ 0 < wrongP r (posn l 1) := by rw [wrong_T hpos (by rw [hlen]; exact hF), ht, hw]; simp
  unfold parseW
  rw [ht, hr, hm, if_neg (by omega), if_neg hwr]
end Go.Proofs.YtahhepmhdcbplaaGreatDoor
namespace Go.Proofs.YtahhepmhdcbplaaGreatDoor
set_option maxRecDepth 100000

/-- the lines of a text: what lies between its bytes 10 -/
def linesL : List UInt8 → List (List UInt8)
  | [] => [[]]
  | c :: r => if c = 10 then [] :: linesL r else match linesL r with
    | [] => [[c]]
    | a :: t => (c :: a) :: t
theorem lines_end (r : List UInt8) : linesL (10 :: r) = [] :: linesL r := by rw [linesL, if_pos rfl]
theorem lines_cons {c : UInt8} (hc : c ≠ 10) {r a : List UInt8} {t : List (List UInt8)} (h : linesL r = a :: t) : linesL (c :: r) = (c :: a) :: t := by
  rw [linesL, if_neg hc, h]
theorem lines_ne : ∀ l : List UInt8, ∃ a t, linesL l = a :: t
  | [] => ⟨_, _, rfl⟩
  | c :: r => by
    by_cases hc : c = 10
    · subst hc; exact ⟨_, _, lines_end r⟩
    · obtain ⟨a, t, h⟩ := lines_ne r
      exact ⟨_, _, lines_cons hc h⟩
theorem lines_more : ∀ a b : List UInt8, linesL (a ++ 10 :: b) = linesL a ++ linesL b
  | [], b => by rw [List.nil_append, lines_end]; rfl
  | c :: r, b => by
    have ih := lines_more r b
    by_cases hc : c = 10
    · subst hc; rw [List.cons_append, lines_end, lines_end, ih]; rfl
    · obtain ⟨a, t, h⟩ := lines_ne r
      rw [h] at ih
      rw [List.cons_append, lines_cons hc ih, lines_cons hc h]; rfl
theorem lines_plain : ∀ {l : List UInt8}, (∀ c ∈ l, c ≠ 10) → linesL l = [l]
  | [], _ => rfl
  | c :: r, h => by
    rw [lines_cons (h c List.mem_cons_self) (lines_plain fun x hx => h x (List.mem_cons_of_mem _ hx))]
theorem lines_len : ∀ l : List UInt8, (linesL l).length ≤ l.length + 1 ∧ ∀ x ∈ linesL l, x.length ≤ l.length
  | [] => ⟨by simp [linesL], by simp [linesL]⟩
  | c :: r => by
    obtain ⟨h1, h2⟩ := lines_len r
    by_cases hc : c = 10
    · subst hc
      rw [lines_end]
      exact ⟨by simp only [List.length_cons]; omega, fun x hx => by rcases List.mem_cons.1 hx with rfl | hx; · simp
                                                                    · have := h2 x hx; simp only [List.length_cons]; omega⟩
    · obtain ⟨a, t, h⟩ := lines_ne r
      rw [h] at h1 h2
      rw [lines_cons hc h]
      refine ⟨by simp only [List.length_cons] at h1 ⊢; omega, fun x hx => ?_⟩
      rcases List.mem_cons.1 hx with rfl | hx
      · have := h2 a List.mem_cons_self; simp only [List.length_cons]; omega
      · have := h2 x (List.mem_cons_of_mem _ hx); simp only [List.length_cons]; omega
/-- the library's cutting at byte 10 -/
theorem lines_split : ∀ s : List UInt8, Lib.splitK [10] 0 (Lib.count s [10]) s = linesL s
  | [] => by rw [Lib.count_miss (by simp [Lib.index])]; rfl
  | c :: r => by
    have ih := lines_split r
    by_cases hc : c = 10
    · subst hc
      rw [Lib.count_cons_eq, lines_end, ← ih, Nat.add_comm, Lib.splitK]
      have hix : Lib.index (10 :: r) [10] = 0 := by simp [Lib.index, List.isPrefixOf]
      rw [hix]; simp
    · have hp : ([10] : List UInt8).isPrefixOf (c :: r) = false := by simp [List.isPrefixOf, Ne.symm hc]
      have hix : Lib.index (c :: r) [10] = if Lib.index r [10] == -1 then -1 else Lib.index r [10] + 1 := by rw [Lib.index, hp]; simp
      rw [Lib.count_cons_ne c 10 r hc]
      by_cases hm : Lib.index r [10] = -1
      · rw [Lib.count_miss hm, Lib.splitK] at ih
        rw [Lib.count_miss hm, Lib.splitK, lines_cons hc ih.symm]
      · have hge := Lib.index_ge r [10]
        obtain ⟨j, hj⟩ : ∃ j : Nat, Lib.index r [10] = j := ⟨(Lib.index r [10]).toNat, by omega⟩
        rw [hj, if_neg (by simp)] at hix
        have hcount := Lib.count_hit (s := r) (sub := [10]) (by simp) hj
        generalize Lib.count (List.drop (j + ([10] : List UInt8).length) r) [10] = k at hcount
        rw [Nat.add_comm] at hcount
        rw [hcount, Lib.splitK, hj, if_neg (by simp)] at ih
        rw [hcount, Lib.splitK, hix, if_neg (by simp; omega), lines_cons hc ih.symm]
        simp [show ((j : Int) + 1).toNat = j + 1 by omega]

/-- what a text of rules is read as: what is wrong first, or the rules, each with its line's number -/
inductive PolR where
  | limit
  | bad (n c : Nat) (k : Int)
  | ok (l : List (Ru × Nat))
/-- the lines from the n-th on, some rules read -/
def polL : List (List UInt8) → Nat → List (Ru × Nat) → PolR
  | [], _, acc => .ok acc
  | t :: r, n, acc => match parseL t with
    | .bad c k => .bad n c k
    | .empty => polL r (n + 1) acc
    | .ok u => if acc.length = 160 then .bad n 1 5 else polL r (n + 1) (acc ++ [(u, n)])
theorem pol_end {ls : List (List UInt8)} {k n : Nat} {acc : List (Ru × Nat)} (h : ls.length ≤ k) : polL (ls.drop k) n acc = .ok acc := by
  rw [List.drop_of_length_le h]; rfl
theorem pol_bad {ls : List (List UInt8)} {k n : Nat} {acc : List (Ru × Nat)} (h : k < ls.length) {c : Nat} {d : Int} (hp : parseL ls[k] = .bad c d) : polL (ls.drop k) n acc = .bad n c d := by
  rw [List.drop_eq_getElem_cons h, polL, hp]
theorem pol_empty {ls : List (List UInt8)} {k n : Nat} {acc : List (Ru × Nat)} (h : k < ls.length) (hp : parseL ls[k] = .empty) : polL (ls.drop k) n acc = polL (ls.drop (k + 1)) (n + 1) acc := by
  rw [List.drop_eq_getElem_cons h, polL, hp]
theorem pol_full {ls : List (List UInt8)} {k n : Nat} {acc : List (Ru × Nat)} (h : k < ls.length) {u : Ru} (hp : parseL ls[k] = .ok u) (ha : acc.length = 160) : polL (ls.drop k) n acc = .bad n 1 5 := by
  rw [List.drop_eq_getElem_cons h, polL, hp]; simp [ha]
theorem pol_ok {ls : List (List UInt8)} {k n : Nat} {acc : List (Ru × Nat)} (h : k < ls.length) {u : Ru} (hp : parseL ls[k] = .ok u) (ha : acc.length ≠ 160) : polL (ls.drop k) n acc = polL (ls.drop (k + 1)) (n + 1) (acc ++ [(u, n)]) := by
  rw [List.drop_eq_getElem_cons h, polL, hp]; simp [ha]
end Go.Proofs.YtahhepmhdcbplaaGreatDoor
namespace Go.Proofs.YtahhepmhdcbplaaGreatDoor
set_option maxRecDepth 100000
open Go.RowKit

theorem parse_nil : parseL [] = .empty := by
  have h1 : badL [] = 0 := by decide +kernel
  have h2 : partL [] = [] := by decide +kernel
  unfold parseL
  rw [h1, if_neg (by omega)]
  unfold wordsL
  rw [h1, h2, toks_nil]; rfl
theorem parse_spaces (n : Nat) : parseL (blanks n) = .empty := by
  have h := parse_blanks n []
  rw [parse_nil, List.append_nil] at h
  exact h
def userLine : List UInt8 := [117, 115, 101, 114, 32, 117]
def roleLine : List UInt8 := [114, 111, 108, 101, 32, 97]
def wrongLine : List UInt8 := [119, 114, 111, 110, 103]
theorem parse_user : parseL userLine = .ok { kind := 2, name := [117] } :=
  parse_join (l := [[117, 115, 101, 114], [117]]) (by simp) (by decide) (by kernel_rfl) (by kernel_rfl)
theorem parse_role : parseL roleLine = .ok { kind := 1, name := [97] } :=
  parse_join (l := [[114, 111, 108, 101], [97]]) (by simp) (by decide) (by kernel_rfl) (by kernel_rfl)
theorem parse_wrong1 : parseL wrongLine = .bad 1 2 := by
  obtain ⟨h1, h2⟩ := words_join (l := [wrongLine]) (by decide)
  rw [join_one] at h1 h2
  unfold parseL
  rw [h1, h2]; kernel_rfl

/-- so many lines of a user -/
def usersT : Nat → List UInt8
  | 0 => []
  | n + 1 => userLine ++ 10 :: usersT n
theorem users_snoc : ∀ n, usersT n ++ (userLine ++ [10]) = usersT (n + 1)
  | 0 => rfl
  | n + 1 => by
    have ih := users_snoc n
    rw [usersT, List.append_assoc, List.cons_append, ih]; rfl
theorem users_len : ∀ n, (usersT n).length = 7 * n
  | 0 => rfl
  | n + 1 => by rw [usersT]; simp [users_len n, userLine]; omega
theorem users_lines : ∀ n, linesL (usersT n) = List.replicate n userLine ++ [[]]
  | 0 => rfl
  | n + 1 => by
    rw [usersT, lines_more, users_lines n, lines_plain (by decide), List.replicate_succ]; rfl
theorem pol_nil (n : Nat) (acc : List (Ru × Nat)) : polL [[]] n acc = .ok acc := by
  rw [polL, parse_nil]; rfl
theorem pol_users : ∀ (n k : Nat) (acc : List (Ru × Nat)), acc.length = k → k ≤ 160 →
    (k + n ≤ 160 → ∃ l, polL (List.replicate n userLine ++ [[]]) (k + 1) acc = .ok l ∧ l.length = k + n) ∧ (160 < k + n → polL (List.replicate n userLine ++ [[]]) (k + 1) acc = .bad 161 1 5)
  | 0, k, acc, h, hk => ⟨fun _ => ⟨acc, pol_nil _ _, h⟩, fun h => by omega⟩
  | n + 1, k, acc, h, hk => by
    by_cases h160 : k = 160
    · subst h160
      refine ⟨fun h => by omega, fun _ => ?_⟩
      rw [List.replicate_succ, List.cons_append, polL, parse_user]
      simp [h]
    · obtain ⟨h1, h2⟩ := pol_users n (k + 1) (acc ++ [({ kind := 2, name := [117] }, k + 1)]) (by simp [h]) (by omega)
      rw [List.replicate_succ, List.cons_append, polL, parse_user]
      simp only [h, h160, if_false]
      exact ⟨fun h3 => by obtain ⟨l, h4, h5⟩ := h1 (by omega); exact ⟨l, h4, by omega⟩, fun h3 => h2 (by omega)⟩
/-- what a text is read as -/
def polT (s : List UInt8) : PolR := if 4096 < s.length then .limit else polL (linesL s) 1 []
theorem polT_some {n : Nat} (h : n ≤ 160) : ∃ l, polT (usersT n) = .ok l ∧ l.length = n := by
  have hl := users_len n
  obtain ⟨l, h1, h2⟩ := (pol_users n 0 [] rfl (by omega)).1 (by omega)
  refine ⟨l, ?_, by omega⟩
  unfold polT
  rw [if_neg (by omega), users_lines]
  exact h1
theorem polT_more {n : Nat} (h : 160 < n) (h2 : n ≤ 200) : polT (usersT n) = .bad 161 1 5 := by
  have hl := users_len n
  unfold polT
  rw [if_neg (by omega), users_lines]
  exact (pol_users n 0 [] rfl (by omega)).2 (by omega)
theorem polT_blanks {m : Nat} (h : m ≤ 4096) : polT (blanks m) = .ok [] := by
  unfold polT
  rw [if_neg (by simp [blanks]; omega), lines_plain (by intro c hc; simp [blanks] at hc; rw [hc.2]; decide), polL, parse_spaces]
  rfl
theorem polT_limit {m : Nat} (h : 4096 < m) : polT (blanks m) = .limit := by
  unfold polT
  rw [if_pos (by simp [blanks]; omega)]
theorem polT_nil : polT [] = .ok [] := polT_blanks (m := 0) (by omega)
theorem polT_role : polT (roleLine ++ [10]) = .ok [({ kind := 1, name := [97] }, 1)] := by
  unfold polT
  rw [if_neg (by decide), show linesL (roleLine ++ [10]) = [roleLine, []] by decide +kernel, polL, parse_role]
  exact pol_nil _ _

/-- so many lines, wrong from one of them on -/
def tailT (a : Nat) : Nat → List UInt8
  | 0 => []
  | i + 1 => tailT a i ++ (if a ≤ i then wrongLine ++ [10] else [10])
theorem tail_len (a : Nat) : ∀ i, (tailT a i).length ≤ 6 * i
  | 0 => by simp [tailT]
  | i + 1 => by
    have := tail_len a i
    rw [tailT, List.length_append]
    split
    · simp [wrongLine]; omega
    · simp; omega
theorem tail_low (a : Nat) : ∀ i, i ≤ a → tailT a i = List.replicate i 10
  | 0, _ => rfl
  | i + 1, h => by rw [tailT, tail_low a i (by omega), if_neg (by omega), List.replicate_succ']
theorem tail_high (a : Nat) : ∀ d, ∃ r, tailT a (a + d + 1) = List.replicate a 10 ++ (wrongLine ++ 10 :: r)
  | 0 => ⟨[], by rw [Nat.add_zero, tailT, tail_low a a (Nat.le_refl _), if_pos (Nat.le_refl _)]⟩
  | d + 1 => by
    obtain ⟨r, h⟩ := tail_high a d
    exact ⟨r ++ (wrongLine ++ [10]), by rw [tailT, if_pos (by omega), show a + (d + 1) = a + d + 1 by omega, h]; simp⟩
theorem lines_ends (x : List UInt8) : ∀ n, linesL (List.replicate n 10 ++ x) = List.replicate n [] ++ linesL x
  | 0 => rfl
  | n + 1 => by rw [List.replicate_succ, List.cons_append, lines_end, lines_ends x n]; rfl
theorem pol_ends (r : List (List UInt8)) : ∀ n k, polL (List.replicate n [] ++ wrongLine :: r) k [] = .bad (k + n) 1 2
  | 0, k => by rw [List.replicate_zero, List.nil_append, polL, parse_wrong1]; rfl
  | n + 1, k => by
    rw [List.replicate_succ, List.cons_append, polL, parse_nil, show k + (n + 1) = k + 1 + n by omega]
    exact pol_ends r n (k + 1)
theorem polT_tail {a : Nat} (h : a < 20) : polT (tailT a 20) = .bad (a + 1) 1 2 := by
  have hl := tail_len a 20
  obtain ⟨r, e⟩ := tail_high a (19 - a)
  rw [show a + (19 - a) + 1 = 20 by omega] at e
  unfold polT
  rw [if_neg (by omega), e, lines_ends, lines_more, lines_plain (by decide), Nat.add_comm]
  exact pol_ends (linesL r) a 1
end Go.Proofs.YtahhepmhdcbplaaGreatDoor
