/-
  policy.Of, policy.Parse, policy.Print; rules that are small.
-/
import Derived.Test.YtnnmjmjbfeoggaaGreatDoorOkP
import Derived.Lib.SplitLaws
import Derived.Test.YtnnmjmjbfeoggaaGreatDoorSameL
import Derived.OwnWalk
import Derived.Test.YtnnmjmjbfeoggaaGreatDoorRuleEq
import Derived.Test.YtnnmjmjbfeoggaaGreatDoorClone
import Derived.Deep.DeepMust
import Derived.Test.YtnnmjmjbfeoggaaGreatDoorPlain06
import Derived.Test.YtnnmjmjbfeoggaaGreatDoorShelf2
import Derived.Shelf.Strings.Split
import Derived.Test.YtnnmjmjbfeoggaaGreatDoorDigits
import Derived.Test.YtnnmjmjbfeoggaaGreatDoorRuleSt
import Derived.Test.YtnnmjmjbfeoggaaGreatDoorPrint4
import Derived.Test.YtnnmjmjbfeoggaaGreatDoorBld
namespace Go.Proofs.YtnnmjmjbfeoggaaGreatDoor
set_option maxRecDepth 100000

/-- the lines of a text: what lies between its bytes 10 -/
def linesL : List UInt8 → List (List UInt8)
  | [] => [[]]
  | c :: r => if c = 10 then [] :: linesL r else match linesL r with
    | [] => [[c]]
    | a :: t => (c :: a) :: t
theorem lines_end (r : List UInt8) : linesL (10 :: r) = [] :: linesL r := by rw [linesL, if_pos rfl]
theorem lines_cons {c : UInt8} (hc : c ≠ 10) {r a : List UInt8} {t : List (List UInt8)} (h : linesL r = a :: t) : linesL (c :: r) = (c :: a) :: t := by
  rw [linesL, if_neg hc, h]
theorem lines_ne : ∀ l : List UInt8, ∃ a t, linesL l = a :: t
  | [] => ⟨_, _, rfl⟩
  | c :: r => by
    by_cases hc : c = 10
    · subst hc; exact ⟨_, _, lines_end r⟩
    · obtain ⟨a, t, h⟩ := lines_ne r
      exact ⟨_, _, lines_cons hc h⟩
theorem lines_more : ∀ a b : List UInt8, linesL (a ++ 10 :: b) = linesL a ++ linesL b
  | [], b => by rw [List.nil_append, lines_end]; rfl
  | c :: r, b => by
    have ih := lines_more r b
    by_cases hc : c = 10
    · subst hc; rw [List.cons_append, lines_end, lines_end, ih]; rfl
    · obtain ⟨a, t, h⟩ := lines_ne r
      rw [h] at ih
      rw [List.cons_append, lines_cons hc ih, lines_cons hc h]; rfl
theorem lines_plain : ∀ {l : List UInt8}, (∀ c ∈ l, c ≠ 10) → linesL l = [l]
  | [], _ => rfl
  | c :: r, h => by
    rw [lines_cons (h c List.mem_cons_self) (lines_plain fun x hx => h x (List.mem_cons_of_mem _ hx))]
theorem lines_len : ∀ l : List UInt8, (linesL l).length ≤ l.length + 1 ∧ ∀ x ∈ linesL l, x.length ≤ l.length
  | [] => ⟨by simp [linesL], by simp [linesL]⟩
  | c :: r => by
    obtain ⟨h1, h2⟩ := lines_len r
    by_cases hc : c = 10
    · subst hc
      rw [lines_end]
      exact ⟨by simp only [List.length_cons]; omega, fun x hx => by rcases List.mem_cons.1 hx with rfl | hx; · simp
                                                                    · have := h2 x hx; simp only [List.length_cons]; omega⟩
    · obtain ⟨a, t, h⟩ := lines_ne r
      rw [h] at h1 h2
      rw [lines_cons hc h]
      refine ⟨by simp only [List.length_cons] at h1 ⊢; omega, fun x hx => ?_⟩
      rcases List.mem_cons.1 hx with rfl | hx
      · have := h2 a List.mem_cons_self; simp only [List.length_cons]; omega
      · have := h2 x (List.mem_cons_of_mem _ hx); simp only [List.length_cons]; omega
/-- the library's cutting at byte 10 -/
theorem lines_split : ∀ s : List UInt8, Lib.splitK [10] 0 (Lib.count s [10]) s = linesL s
  | [] => by rw [Lib.count_miss (by simp [Lib.index])]; rfl
  | c :: r => by
    have ih := lines_split r
    by_cases hc : c = 10
    · subst hc
      rw [Lib.count_cons_eq, lines_end, ← ih, Nat.add_comm, Lib.splitK]
      have hix : Lib.index (10 :: r) [10] = 0 := by simp [Lib.index, List.isPrefixOf]
      rw [hix]; simp
    · have hp : ([10] : List UInt8).isPrefixOf (c :: r) = false := by simp [List.isPrefixOf, Ne.symm hc]
      have hix : Lib.index (c :: r) [10] = if Lib.index r [10] == -1 then -1 else Lib.index r [10] + 1 := by rw [Lib.index, hp]; simp
      rw [Lib.count_cons_ne c 10 r hc]
      by_cases hm : Lib.index r [10] = -1
      · rw [Lib.count_miss hm, Lib.splitK] at ih
        rw [Lib.count_miss hm, Lib.splitK, lines_cons hc ih.symm]
      · have hge := Lib.index_ge r [10]
        obtain ⟨j, hj⟩ : ∃ j : Nat, Lib.index r [10] = j := ⟨(Lib.index r [10]).toNat, by omega⟩
        rw [hj, if_neg (by simp)] at hix
        have hcount := Lib.count_hit (s := r) (sub := [10]) (by simp) hj
        generalize Lib.count (List.drop (j + ([10] : List UInt8).length) r) [10] = k at hcount
        rw [Nat.add_comm] at hcount
        rw [hcount, Lib.splitK, hj, if_neg (by simp)] at ih
        rw [hcount, Lib.splitK, hix, if_neg (by simp; omega), lines_cons hc ih.symm]
        simp [show ((j : Int) + 1).toNat = j + 1 by omega]

/-- what a text of rules is read as: what is wrong first, or the rules, each with its line's number -/
inductive PolR where
  | limit
  | bad (n c : Nat) (k : Int)
  | ok (l : List (Ru × Nat))
/-- the lines from the n-th on, some rules read -/
def polL : List (List UInt8) → Nat → List (Ru × Nat) → PolR
  | [], _, acc => .ok acc
  | t :: r, n, acc => match parseL t with
    | .bad c k => .bad n c k
    | .empty => polL r (n + 1) acc
    | .ok u => if acc.length = 160 then .bad n 1 5 else polL r (n + 1) (acc ++ [(u, n)])
theorem pol_end {ls : List (List UInt8)} {k n : Nat} {acc : List (Ru × Nat)} (h : ls.length ≤ k) : polL (ls.drop k) n acc = .ok acc := by
  rw [List.drop_of_length_le h]; rfl
theorem pol_bad {ls : List (List UInt8)} {k n : Nat} {acc : List (Ru × Nat)} (h : k < ls.length) {c : Nat} {d : Int} (hp : parseL ls[k] = .bad c d) : polL (ls.drop k) n acc = .bad n c d := by
  rw [List.drop_eq_getElem_cons h, polL, hp]
theorem pol_empty {ls : List (List UInt8)} {k n : Nat} {acc : List (Ru × Nat)} (h : k < ls.length) (hp : parseL ls[k] = .empty) : polL (ls.drop k) n acc = polL (ls.drop (k + 1)) (n + 1) acc := by
  rw [List.drop_eq_getElem_cons h, polL, hp]
theorem pol_full {ls : List (List UInt8)} {k n : Nat} {acc : List (Ru × Nat)} (h : k < ls.length) {u : Ru} (hp : parseL ls[k] = .ok u) (ha : acc.length = 160) : polL (ls.drop k) n acc = .bad n 1 5 := by
  rw [List.drop_eq_getElem_cons h, polL, hp]; simp [ha]
theorem pol_ok {ls : List (List UInt8)} {k n : Nat} {acc : List (Ru × Nat)} (h : k < ls.length) {u : Ru} (hp : parseL ls[k] = .ok u) (ha : acc.length ≠ 160) : polL (ls.drop k) n acc = polL (ls.drop (k + 1)) (n + 1) (acc ++ [(u, n)]) := by
  rw [List.drop_eq_getElem_cons h, polL, hp]; simp [ha]
end Go.Proofs.YtnnmjmjbfeoggaaGreatDoor
namespace Go.Proofs.YtnnmjmjbfeoggaaGreatDoor
set_option maxRecDepth 100000
open Go.RowKit

theorem parse_nil : parseL [] = .empty := by
  have h1 : badL [] = 0 := by decide +kernel
  have h2 : partL [] = [] := by decide +kernel
  unfold parseL
  rw [h1, if_neg (by omega)]
  unfold wordsL
  rw [h1, h2, toks_nil]; rfl
theorem parse_spaces (n : Nat) : parseL (blanks n) = .empty := by
  have h := parse_blanks n []
  rw [parse_nil, List.append_nil] at h
  exact h
def userLine : List UInt8 := [117, 115, 101, 114, 32, 117]
def roleLine : List UInt8 := [114, 111, 108, 101, 32, 97]
def wrongLine : List UInt8 := [119, 114, 111, 110, 103]
theorem parse_user : parseL userLine = .ok { kind := 2, name := [117] } :=
  parse_join (l := [[117, 115, 101, 114], [117]]) (by simp) (by decide) (by kernel_rfl) (by kernel_rfl)
theorem parse_role : parseL roleLine = .ok { kind := 1, name := [97] } :=
  parse_join (l := [[114, 111, 108, 101], [97]]) (by simp) (by decide) (by kernel_rfl) (by kernel_rfl)
theorem parse_wrong1 : parseL wrongLine = .bad 1 2 := by
  obtain ⟨h1, h2⟩ := words_join (l := [wrongLine]) (by decide)
  rw [join_one] at h1 h2
  unfold parseL
  rw [h1, h2]; kernel_rfl

/-- so many lines of a user -/
def usersT : Nat → List UInt8
  | 0 => []
  | n + 1 => userLine ++ 10 :: usersT n
theorem users_snoc : ∀ n, usersT n ++ (userLine ++ [10]) = usersT (n + 1)
  | 0 => rfl
  | n + 1 => by
    have ih := users_snoc n
    rw [usersT, List.append_assoc, List.cons_append, ih]; rfl
theorem users_len : ∀ n, (usersT n).length = 7 * n
  | 0 => rfl
  | n + 1 => by rw [usersT]; simp [users_len n, userLine]; omega
theorem users_lines : ∀ n, linesL (usersT n) = List.replicate n userLine ++ [[]]
  | 0 => rfl
  | n + 1 => by
    rw [usersT, lines_more, users_lines n, lines_plain (by decide), List.replicate_succ]; rfl
theorem pol_nil (n : Nat) (acc : List (Ru × Nat)) : polL [[]] n acc = .ok acc := by
  rw [polL, parse_nil]; rfl
theorem pol_users : ∀ (n k : Nat) (acc : List (Ru × Nat)), acc.length = k → k ≤ 160 →
    (k + n ≤ 160 → ∃ l, polL (List.replicate n userLine ++ [[]]) (k + 1) acc = .ok l ∧ l.length = k + n) ∧ (160 < k + n → polL (List.replicate n userLine ++ [[]]) (k + 1) acc = .bad 161 1 5)
  | 0, k, acc, h, hk => ⟨fun _ => ⟨acc, pol_nil _ _, h⟩, fun h => by omega⟩
  | n + 1, k, acc, h, hk => by
    by_cases h160 : k = 160
    · subst h160
      refine ⟨fun h => by omega, fun _ => ?_⟩
      rw [List.replicate_succ, List.cons_append, polL, parse_user]
      simp [h]
    · obtain ⟨h1, h2⟩ := pol_users n (k + 1) (acc ++ [({ kind := 2, name := [117] }, k + 1)]) (by simp [h]) (by omega)
      rw [List.replicate_succ, List.cons_append, polL, parse_user]
      simp only [h, h160, if_false]
      exact ⟨fun h3 => by obtain ⟨l, h4, h5⟩ := h1 (by omega); exact ⟨l, h4, by omega⟩, fun h3 => h2 (by omega)⟩
/-- what a text is read as -/
def polT (s : List UInt8) : PolR := if 4096 < s.length then .limit else polL (linesL s) 1 []
theorem polT_some {n : Nat} (h : n ≤ 160) : ∃ l, polT (usersT n) = .ok l ∧ l.length = n := by
  have hl := users_len n
  obtain ⟨l, h1, h2⟩ := (pol_users n 0 [] rfl (by omega)).1 (by omega)
  refine ⟨l, ?_, by omega⟩
  unfold polT
  rw [if_neg (by omega), users_lines]
  exact h1
theorem polT_more {n : Nat} (h : 160 < n) (h2 : n ≤ 200) : polT (usersT n) = .bad 161 1 5 := by
  have hl := users_len n
  unfold polT
  rw [if_neg (by omega), users_lines]
  exact (pol_users n 0 [] rfl (by omega)).2 (by omega)
theorem polT_blanks {m : Nat} (h : m ≤ 4096) : polT (blanks m) = .ok [] := by
  unfold polT
  rw [if_neg (by simp [blanks]; omega), lines_plain (by intro c hc; simp [blanks] at hc; rw [hc.2]; decide), polL, parse_spaces]
  rfl
theorem polT_limit {m : Nat} (h : 4096 < m) : polT (blanks m) = .limit := by
  unfold polT
  rw [if_pos (by simp [blanks]; omega)]
theorem polT_nil : polT [] = .ok [] := polT_blanks (m := 0) (by omega)
theorem polT_role : polT (roleLine ++ [10]) = .ok [({ kind := 1, name := [97] }, 1)] := by
  unfold polT
  rw [if_neg (by decide), show linesL (roleLine ++ [10]) = [roleLine, []] by decide +kernel, polL, parse_role]
  exact pol_nil _ _

/-- so many lines, wrong from one of them on -/
def tailT (a : Nat) : Nat → List UInt8
  | 0 => []
  | i + 1 => tailT a i ++ (if a ≤ i then wrongLine ++ [10] else [10])
theorem tail_len (a : Nat) : ∀ i, (tailT a i).length ≤ 6 * i
  | 0 => by simp [tailT]
  | i + 1 => by
    have := tail_len a i
    rw [tailT, List.length_append]
    split
    · simp [wrongLine]; omega
    · simp; omega
theorem tail_low (a : Nat) : ∀ i, i ≤ a → tailT a i = List.replicate i 10
  | 0, _ => rfl
  | i + 1, h => by rw [tailT, tail_low a i (by omega), if_neg (by omega), List.replicate_succ']
theorem tail_high (a : Nat) : ∀ d, ∃ r, tailT a (a + d + 1) = List.replicate a 10 ++ (wrongLine ++ 10 :: r)
  | 0 => ⟨[], by rw [Nat.add_zero, tailT, tail_low a a (Nat.le_refl _), if_pos (Nat.le_refl _)]⟩
  | d + 1 => by
    obtain ⟨r, h⟩ := tail_high a d
    exact ⟨r ++ (wrongLine ++ [10]), by rw [tailT, if_pos (by omega), show a + (d + 1) = a + d + 1 by omega, h]; simp⟩
theorem lines_ends (x : List UInt8) : ∀ n, linesL (List.replicate n 10 ++ x) = List.replicate n [] ++ linesL x
  | 0 => rfl
  | n + 1 => by rw [List.replicate_succ, List.cons_append, lines_end, lines_ends x n]; rfl
theorem pol_ends (r : List (List UInt8)) : ∀ n k, polL (List.replicate n [] ++ wrongLine :: r) k [] = .bad (k + n) 1 2
  | 0, k => by rw [List.replicate_zero, List.nil_append, polL, parse_wrong1]; rfl
  | n + 1, k => by
    rw [List.replicate_succ, List.cons_append, polL, parse_nil, show k + (n + 1) = k + 1 + n by omega]
    exact pol_ends r n (k + 1)
theorem polT_tail {a : Nat} (h : a < 20) : polT (tailT a 20) = .bad (a + 1) 1 2 := by
  have hl := tail_len a 20
  obtain ⟨r, e⟩ := tail_high a (19 - a)
  rw [show a + (19 - a) + 1 = 20 by omega] at e
  unfold polT
  rw [if_neg (by omega), e, lines_ends, lines_more, lines_plain (by decide), Nat.add_comm]
  exact pol_ends (linesL r) a 1
end Go.Proofs.YtnnmjmjbfeoggaaGreatDoor
namespace Go.Proofs.YtnnmjmjbfeoggaaGreatDoor
set_option maxRecDepth 100000
open Go.ChangeShapes Go.WideShapes Go.ChangeAt Go.RowKit

/-- a rule, its line, its list's slice -/
abbrev RL := Ru × Nat × Value
def er (x : RL) : Ru × Nat := (x.1, x.2.1)
def rcell (x : RL) : List Value := [.int .i64 x.1.kind, .string (bs x.1.name), x.2.2, .int .i64 x.1.n, .int .i64 x.1.m, .string (bs x.1.from_), .string (bs x.1.to_), .string (bs x.1.by_), .string (bs x.1.task), .string (bs x.1.in_), .int .i64 x.2.1]
def rcells (l : List RL) : List Value := l.flatMap rcell
theorem rcells_snoc (l : List RL) (x : RL) : rcells (l ++ [x]) = rcells l ++ rcell x := by simp [rcells]
/-- rules in memory of the call's own -/
def RowsAt (w : World) (base : Nat) (v : Value) (acc : List RL) : Prop := w.ownsRow base 28 11 v acc.length (rcells acc) ∧ ∀ x ∈ acc, OwnL w base x.2.2 x.1.list
theorem own_base {w : World} {base base' e size n : Nat} {v : Value} {xs : List Value} (h : w.ownsRow base e size v n xs) (hb : base' ≤ base) : w.ownsRow base' e size v n xs := by
  obtain ⟨h1, h2⟩ := h
  refine ⟨h1, ?_⟩
  rcases h2 with h2 | ⟨g, cap, cur, h3, h4, h5⟩
  · exact .inl h2
  · exact .inr ⟨g, cap, cur, h3, Nat.le_trans hb h4, h5⟩
theorem RowsAt.below {w w' : World} {base : Nat} {v : Value} {acc : List RL} (h : RowsAt w base v acc) (hb : Below w.heap.size w w') (hB : base ≤ w.heap.size) : RowsAt w' base v acc :=
  ⟨own_below h.1 hb hB, fun x hx => own_below (h.2 x hx) hb hB⟩
theorem RowsAt.base {w : World} {base base' : Nat} {v : Value} {acc : List RL} (h : RowsAt w base v acc) (hB : base' ≤ base) : RowsAt w base' v acc :=
  ⟨own_base h.1 hB, fun x hx => own_base (h.2 x hx) hB⟩
theorem rows_nil (w : World) (base : Nat) : RowsAt w base (.slice none 0 0) [] := ⟨World.ownsRow_nil _ _ _ _, fun _ h => by cases h⟩
/-- a list of texts does not lie where rules lie -/
theorem own_apart {w : World} {base base' n : Nat} {L v : Value} {l : List Tx} {xs : List Value} (h : OwnL w base L l) (h' : w.ownsRow base' 28 11 v n xs) : L.ownBlock = none ∨ L.ownBlock ≠ v.ownBlock := by
  rcases h.2 with ⟨hv, _⟩ | ⟨g, cap, cur, hv, _, hg, _⟩
  · left; rw [hv]; rfl
  · right
    rcases h'.2 with ⟨hv', _⟩ | ⟨g', cap', cur', hv', _, hg', _⟩
    · rw [hv, hv']; simp [Value.ownBlock]
    · rw [hv, hv']
      intro e
      have e2 : g = g' := by simpa [Value.ownBlock] using e
      subst e2
      rw [hg] at hg'
      simp at hg'

theorem Tryz.infoRule : (Tryz.prog.info? 28).map (fun i => (i.zero, i.size, i.bytes)) = some (some (.agg #[.int .i64 0, .string ⟨#[]⟩, .slice none 0 0, .int .i64 0, .int .i64 0, .string ⟨#[]⟩, .string ⟨#[]⟩, .string ⟨#[]⟩, .string ⟨#[]⟩, .string ⟨#[]⟩, .int .i64 0]), 11, 152) := by kernel_rfl
end Go.Proofs.YtnnmjmjbfeoggaaGreatDoor
namespace Go.Proofs.YtnnmjmjbfeoggaaGreatDoor
set_option maxRecDepth 100000
open Go.ChangeShapes Go.WideShapes Go.ChangeAt Go.RowKit

/-- integers in a block's cells, from its first on -/
def KAt (w : World) (A : Option Addr) (ks : List Int) : Prop := ∀ j (h : j < ks.length), ∃ b, A = some ⟨b, 0, none⟩ ∧ b < w.heap.size ∧ w.cell? ⟨b, j, none⟩ = some (.int .i64 ks[j])
theorem KAt.below {w w' : World} {A : Option Addr} {ks : List Int} (h : KAt w A ks) (hb : Below w.heap.size w w') : KAt w' A ks := fun j hj =>
  let ⟨b, e, hl, hc⟩ := h j hj
  ⟨b, e, Nat.lt_of_lt_of_le hl hb.size, (hb.cell (p := ⟨b, j, none⟩) hl).trans hc⟩
def IdxTo (ks : List Int) (x : Int) (w : World) (e : Ending) (w' : World) : Prop := ∃ r : Int, e = .returned (.int .i64 r) ∧ decide (0 ≤ r) = decide (x ∈ ks) ∧ w = w'
theorem idxTo_mk {ks : List Int} {x r : Int} {w : World} (h : decide (0 ≤ r) = decide (x ∈ ks)) : IdxTo ks x w (.returned (.int .i64 r)) w := ⟨r, rfl, h, rfl⟩
set_option maxHeartbeats 1000000 in
theorem IndexI_any (ks : List Int) (x : Int) (A : Option Addr) (c : Nat) (w : World) (h : KAt w A ks) (hl : ks.length ≤ 1000000) (_hc : ks.length ≤ c) :
    Calls Tryz.prog 100 #[.slice A ks.length c, .int .i64 x] w (IdxTo ks x w) := by
  go_enter Tryz.func100, Tryz.ntmps100
  go_wp2
  go_loop [5, 8] (fun _ i => ∃ k : Nat, k ≤ ks.length ∧ i = .int .i64 k ∧ Hid (x ∉ ks.take k)) (fun _ i => ks.length - (intOf i).toNat)
  case atStart => exact ⟨0, Nat.zero_le _, rfl, by show ¬ _; simp⟩
  case round =>
    obtain ⟨k, hk, rfl, HI⟩ := hrel
    by_cases hlt : k < ks.length
    · obtain ⟨b, rfl, _, hx⟩ := h k hlt
      have hsn : ks.take (k + 1) = ks.take k ++ [ks[k]] := by rw [List.take_succ_eq_append_getElem hlt]
      have hme : ks[k] ∈ ks := List.getElem_mem hlt
      clear h
      by_cases he : x = ks[k]
      · have HM : Hid (x ∈ ks) := by show _; rw [he]; exact hme
        have hb : (x == ks[k]) = true := by simp [he]
        clear he hme hsn
        go_wp2
        go_ret
        exact idxTo_mk (by simp [show x ∈ ks from HM])
      · have HT : Hid (x ∉ ks.take (k + 1)) := by
          show ¬ _
          rw [hsn, List.mem_append]
          exact fun hh => hh.elim HI.out (fun h => he (List.mem_singleton.1 h))
        have hb : (x == ks[k]) = false := by simp [he]
        clear he hme hsn
        go_wp2
        go_round
        case rel => exact ⟨k + 1, by omega, by go_num, HT⟩
        case measure => simp [intOf]; omega
    · have HT : Hid (x ∉ ks) := by have := HI.out; rw [List.take_of_length_le (by omega)] at this; exact this
      clear h
      go_wp2
      go_ret
      exact idxTo_mk (by simp [show x ∉ ks from HT.out])
theorem Contains_any (ks : List Int) (x : Int) (A : Option Addr) (c : Nat) (w : World) (h : KAt w A ks) (hl : ks.length ≤ 1000000) (hc : ks.length ≤ c) :
    Calls Tryz.prog 50 #[.slice A ks.length c, .int .i64 x] w fun e w' => e = .returned (.bool (decide (x ∈ ks))) ∧ w = w' := by
  have HI := Lib.hid (IndexI_any ks x A c w h hl hc)
  clear h
  go_enter Tryz.func50, Tryz.ntmps50
  go_wp2_with (go_at_call 100; refine HI.out.mono ?_; rintro e w1 ⟨r, rfl, hr, rfl⟩; have HR := Lib.hid hr; clear hr)
  go_ret
  exact ⟨ret_bool HR.out, rfl⟩
/-! ### rules in cells -/
theorem rcell_len (x : RL) : (rcell x).length = 11 := rfl
theorem rcells_at : ∀ (acc : List RL) (j f : Nat) (h : j < acc.length), f < 11 → (rcells acc)[j * 11 + f]? = (rcell acc[j])[f]?
  | x :: r, 0, f, _, hf => by
    show (rcell x ++ rcells r)[_]? = _
    rw [List.getElem?_append_left (by rw [rcell_len]; omega)]; simp
  | x :: r, j + 1, f, h, hf => by
    show (rcell x ++ rcells r)[_]? = _
    rw [List.getElem?_append_right (by rw [rcell_len]; omega), rcell_len, show (j + 1) * 11 + f - 11 = j * 11 + f by omega]
    exact rcells_at r j f (by simpa using h) hf
/-- rules that can be read -/
def RIn (w : World) (A : Option Addr) (acc : List RL) : Prop := ∀ j (h : j < acc.length), ∃ g, A = some ⟨g, 0, none⟩ ∧ g < w.heap.size ∧ (∀ f u, f < 11 → (rcell acc[j])[f]? = some u → w.cell? ⟨g, j * 11 + f, none⟩ = some u) ∧
  ∃ B c, acc[j].2.2 = .slice B acc[j].1.list.length c ∧ ListAt w B c acc[j].1.list
theorem RIn.below {w w' : World} {A : Option Addr} {acc : List RL} (h : RIn w A acc) (hb : Below w.heap.size w w') : RIn w' A acc := fun j hj =>
  let ⟨g, e, hl, hc, B, c, e2, hL⟩ := h j hj
  ⟨g, e, Nat.lt_of_lt_of_le hl hb.size, fun f u hf hu => (hb.cell (p := ⟨g, j * 11 + f, none⟩) hl).trans (hc f u hf hu), B, c, e2, hL.below hb⟩
theorem rIn_of {w : World} {base cap : Nat} {A : Option Addr} {acc : List RL} (h : RowsAt w base (.slice A acc.length cap) acc) : RIn w A acc := fun j hj => by
  obtain ⟨g, cap', e, _, hl, _, hc⟩ := own_form h.1 (by omega)
  have eA : A = some ⟨g, 0, none⟩ := by injection e
  obtain ⟨B, c, e2⟩ := own_slice (h.2 acc[j] (List.getElem_mem hj))
  refine ⟨g, eA, hl, fun f u hf hu => hc _ _ (by rw [rcells_at acc j f hj hf]; exact hu), B, c, e2, ?_⟩
  have ho := h.2 acc[j] (List.getElem_mem hj)
  rw [e2] at ho
  exact listAt_of ho
end Go.Proofs.YtnnmjmjbfeoggaaGreatDoor
namespace Go.Proofs.YtnnmjmjbfeoggaaGreatDoor
set_option maxRecDepth 100000
open Go.ChangeShapes Go.WideShapes Go.ChangeAt Go.RowKit

theorem pol_all (ls : List Tx) : (∀ t ∈ ls, t.length ≤ 4096) → ∀ (n : Nat) (acc l : List (Ru × Nat)), (∀ x ∈ acc, RuOk x.1) → acc.length ≤ 160 → polL ls n acc = .ok l → (∀ x ∈ l, RuOk x.1) ∧ l.length ≤ 160 := by
  induction ls with
  | nil =>
    intro _ n acc l ha hl h
    rw [polL] at h
    cases h
    exact ⟨ha, hl⟩
  | cons t r ih =>
    intro hle n acc l ha hl h
    rw [polL] at h
    cases hp : parseL t with
    | bad c k => rw [hp] at h; cases h
    | empty => rw [hp] at h; exact ih (fun x hx => hle x (List.mem_cons_of_mem _ hx)) _ _ _ ha hl h
    | ok u =>
      rw [hp] at h
      simp only at h
      split at h
      · cases h
      · rename_i h160
        refine ih (fun x hx => hle x (List.mem_cons_of_mem _ hx)) _ _ _ ?_ (by simp; omega) h
        intro x hx
        rcases List.mem_append.1 hx with hx | hx
        · exact ha x hx
        · rw [List.mem_singleton.1 hx]; exact ru_ok hp (hle t List.mem_cons_self)
theorem polT_all {s : List UInt8} {l : List (Ru × Nat)} (h : polT s = .ok l) : (∀ x ∈ l, RuOk x.1) ∧ l.length ≤ 160 := by
  unfold polT at h
  split at h
  · cases h
  · rename_i hs
    exact pol_all _ (fun t ht => by have := (lines_len s).2 t ht; omega) 1 [] l (fun x hx => by cases hx) (by simp) h

def kindIn (ks : List Int) (x : Ru × Nat) : Bool := decide (x.1.kind ∈ ks)
def OfTo (ks : List Int) (l : List (Ru × Nat)) (w : World) (e : Ending) (w' : World) : Prop := ∃ v acc, e = .returned v ∧ acc.map er = l.filter (kindIn ks) ∧ RowsAt w' w.heap.size v acc ∧ Below w.heap.size w w'
theorem ofTo_mk {ks : List Int} {l : List (Ru × Nat)} {w w' : World} {v : Value} {acc : List RL} (h1 : acc.map er = l.filter (kindIn ks)) (h2 : RowsAt w' w.heap.size v acc) (h3 : Below w.heap.size w w') : OfTo ks l w (.returned v) w' := ⟨v, acc, rfl, h1, h2, h3⟩
set_option maxHeartbeats 4000000 in
theorem Of_any6 (acc : List RL) (A : Option Addr) (cap : Nat) (ks : List Int) (KA : Option Addr) (kc : Nat) (w : World) (hR : RIn w A acc) (hK : KAt w KA ks) (hk : ks.length ≤ 1000) (hkc : ks.length ≤ kc) (ha : acc.length ≤ 1000) (_hac : acc.length ≤ cap) (hll : ∀ x ∈ acc, x.1.list.length ≤ 1000000) :
    Calls Tryz.prog 18 #[.slice A acc.length cap, .slice KA ks.length kc] w (OfTo ks (acc.map er) w) := by
  have HR := Lib.hid hR
  have HK := Lib.hid hK
  have HLL := Lib.hid hll
  clear hR hK hll
  obtain ⟨i0, hi, hz0, hz1, hz2⟩ := info_parts Tryz.infoRule
  go_enter Tryz.func18, Tryz.ntmps18
  go_upto_region 3 with fail
  go_loopw [5, 10] (fun l i wr => ∃ (k : Nat) (out : List RL), k ≤ acc.length ∧ i = .int .i64 k ∧ out.length ≤ k ∧ Hid (out.map er = ((acc.take k).map er).filter (kindIn ks)) ∧ Hid (RowsAt wr w.heap.size l out) ∧ Below w.heap.size w wr) (fun _ i _ => acc.length - (intOf i).toNat)
  case atStart => exact ⟨0, [], Nat.zero_le _, rfl, Nat.zero_le _, rfl, rows_nil _ _, Below.refl _ _⟩
  case round =>
    obtain ⟨k, out, hkk, rfl, hol, HO, HW, hbw⟩ := hrel
    by_cases hlt : k < acc.length
    · obtain ⟨g, rfl, hgl, hc, B, c, e2, hL⟩ := HR.out k hlt
      have hllk := HLL.out _ (List.getElem_mem hlt)
      have hsn : acc.take (k + 1) = acc.take k ++ [acc[k]] := by rw [List.take_succ_eq_append_getElem hlt]
      have HSN := Lib.hid hsn
      clear hsn
      have hbz := hbw.size
      have hL := hL.below hbw
      have q := fun f u hf hu => (hbw.cell (p := ⟨g, k * 11 + f, none⟩) hgl).trans (hc f u hf hu)
      clear hc
      generalize acc[k] = x at *
      obtain ⟨⟨kd, nm, l, rn, rm, rf, rt, rb, ra, ri⟩, ln, L⟩ := x
      obtain rfl : L = .slice B l.length c := e2
      simp only at hL hllk
      have q0 := q 0 _ (by omega) rfl; have q1 := q 1 _ (by omega) rfl; have q2 := q 2 _ (by omega) rfl; have q3 := q 3 _ (by omega) rfl; have q4 := q 4 _ (by omega) rfl; have q5 := q 5 _ (by omega) rfl; have q6 := q 6 _ (by omega) rfl; have q7 := q 7 _ (by omega) rfl; have q8 := q 8 _ (by omega) rfl; have q9 := q 9 _ (by omega) rfl; have q10 := q 10 _ (by omega) rfl
      simp only [Nat.add_zero] at q0
      clear q
      go_upto_region 5 with fail
      have RA : (wr.alloc (.cells #[.int .i64 kd, .string (bs nm), .slice B l.length c, .int .i64 rn, .int .i64 rm, .string (bs rf), .string (bs rt), .string (bs rb), .string (bs ra), .string (bs ri), .int .i64 ln] 28)).heap[wr.heap.size]? = some (.cells #[.int .i64 kd, .string (bs nm), .slice B l.length c, .int .i64 rn, .int .i64 rm, .string (bs rf), .string (bs rt), .string (bs rb), .string (bs ra), .string (bs ri), .int .i64 ln] 28 (0, 0)) := heap_alloc_new _ _
      have hb1 : Below wr.heap.size wr (wr.alloc (.cells #[.int .i64 kd, .string (bs nm), .slice B l.length c, .int .i64 rn, .int .i64 rm, .string (bs rf), .string (bs rt), .string (bs rb), .string (bs ra), .string (bs ri), .int .i64 ln] 28)) := (Below.refl _ _).alloc (Nat.le_refl _) _
      have hL1 := hL.below hb1
      have hK1 := HK.out.below (hbw.trans (hb1.mono hbz))
      have hs1 : (wr.alloc (.cells #[.int .i64 kd, .string (bs nm), .slice B l.length c, .int .i64 rn, .int .i64 rm, .string (bs rf), .string (bs rt), .string (bs rb), .string (bs ra), .string (bs ri), .int .i64 ln] 28)).heap.size = wr.heap.size + 1 := by simp
      generalize hw1 : wr.alloc (.cells #[.int .i64 kd, .string (bs nm), .slice B l.length c, .int .i64 rn, .int .i64 rm, .string (bs rf), .string (bs rt), .string (bs rb), .string (bs ra), .string (bs ri), .int .i64 ln] 28) = w1 at *
      clear hw1 q0 q1 q2 q3 q4 q5 q6 q7 q8 q9 q10 hL
      have HC := Lib.hid (Contains_any ks kd KA kc w1 hK1 (by omega) hkc)
      have HCL := Lib.hid (Clone_any l B c w1 hL1 (by omega))
      clear hK1 hL1
      have y0 := row_q0 RA
      by_cases hm : kd ∈ ks
      · have HE : Hid ((out ++ [((⟨kd, nm, l, rn, rm, rf, rt, rb, ra, ri⟩ : Ru), ln, Value.slice B l.length c)]).map er = ((acc.take (k + 1)).map er).filter (kindIn ks)) := by
          show _ = _
          rw [HSN.out, List.map_append, List.map_append, List.filter_append, HO.out]
          simp [kindIn, er, hm]
        rw [decide_eq_true hm] at HC
        clear hm HO HSN
        have y2 := row_q2 RA
        have f2 := row_fz RA 2
        go_upto_region 7 with (first
          | (go_at_call 50; refine HC.out.mono ?_; rintro e w2 ⟨rfl, rfl⟩)
          | (go_at_call 51; refine HCL.out.mono ?_; rintro e w2 ⟨v2, rfl, ho2, hb2⟩; obtain ⟨B2, c2, rfl⟩ := own_slice ho2; have RA2 := row_below RA hb2; have y2 := row_q2 RA2; have f2 := row_fz RA2 2))
        have hbs2 := hb2.size
        have R3 : (w2.setCell ⟨wr.heap.size, 2, none⟩ (.slice B2 l.length c2)).heap[wr.heap.size]? = some (.cells #[.int .i64 kd, .string (bs nm), .slice B2 l.length c2, .int .i64 rn, .int .i64 rm, .string (bs rf), .string (bs rt), .string (bs rb), .string (bs ra), .string (bs ri), .int .i64 ln] 28 (0, 0)) := by
          have h := heap_set (j := 2) RA2 (.slice B2 l.length c2)
          simpa using h
        have hg3 : w2.grownBy (w2.setCell ⟨wr.heap.size, 2, none⟩ (.slice B2 l.length c2)) (some wr.heap.size) := grown_setCell _ _ _ _
        have hb3 : Below wr.heap.size wr (w2.setCell ⟨wr.heap.size, 2, none⟩ (.slice B2 l.length c2)) := (below_then hb1 hb2 (by omega)).grown hg3 (by omega) (fun j hj => by cases hj; exact Nat.le_refl _)
        have HL3 : Hid (OwnL (w2.setCell ⟨wr.heap.size, 2, none⟩ (.slice B2 l.length c2)) w.heap.size (.slice B2 l.length c2) l) := own_base (World.ownsRow.kept ho2 hg3 (own_ne ho2 (by omega))) (by omega)
        have HW3 := Lib.hid (HW.out.below hb3 hbz)
        have hb4 := below_then hbw hb3 hbz
        generalize hw3 : w2.setCell ⟨wr.heap.size, 2, none⟩ (.slice B2 l.length c2) = w3 at *
        clear hw3 RA RA2 y0 y2 f2 hb2 ho2 hg3 HW HC HCL hb1 hb3
        obtain ⟨A0, cap0, rfl⟩ := own_slice HW3.out.1
        have p0 := row_q0 R3; have p1 := row_q1 R3; have p2 := row_q2 R3; have p3 := row_q3 R3; have p4 := row_q4 R3; have p5 := row_q5 R3; have p6 := row_q6 R3; have p7 := row_q7 R3; have p8 := row_q8 R3; have p9 := row_q9 R3; have p10 := row_q10 R3
        clear R3
        go_wp2_with (at_builtin; go_must (refine wpList_append_own _ rfl (.tmp 22) (.tmp 24) 22 rfl w.heap.size 28 i0 _ 11 152 Tryz.underlying22 hi hz0 hz1 hz2 rfl (by decide) _ _ _ rfl (HW3.out.1.alloc _) ⟨w3.heap.size, 0, none⟩ 1 1 [.int .i64 kd, .string (bs nm), .slice B2 l.length c2, .int .i64 rn, .int .i64 rm, .string (bs rf), .string (bs rt), .string (bs rb), .string (bs ra), .string (bs ri), .int .i64 ln] rfl rfl (cells_new _ _ _) (by intro u hu; simp at hu; rcases hu with rfl | rfl | rfl | rfl | rfl | rfl | rfl | rfl | rfl | rfl | rfl <;> rfl) (by unfold maxLen; omega) (by omega) (by have := hb4.size; simp; omega) ?_); intro v' w4 hown' hg' _)
        have hg2 : (w3.alloc (.cells #[.int .i64 kd, .string (bs nm), .slice B2 l.length c2, .int .i64 rn, .int .i64 rm, .string (bs rf), .string (bs rt), .string (bs rb), .string (bs ra), .string (bs ri), .int .i64 ln] 28)).grownBy w4 (Value.slice A0 out.length cap0).ownBlock := hg'
        have hb5 : Below w.heap.size w w4 := (hb4.alloc hb4.size _).grown hg2 (by have := hb4.size; simp; omega) (fun g hg => (HW3.out.1.lt g hg).1)
        clear hg'
        have HN : Hid (RowsAt w4 w.heap.size v' (out ++ [((⟨kd, nm, l, rn, rm, rf, rt, rb, ra, ri⟩ : Ru), ln, Value.slice B2 l.length c2)])) := by
          have hB : Below w3.heap.size w3 (w3.alloc (.cells #[.int .i64 kd, .string (bs nm), .slice B2 l.length c2, .int .i64 rn, .int .i64 rm, .string (bs rf), .string (bs rt), .string (bs rb), .string (bs ra), .string (bs ri), .int .i64 ln] 28)) := (Below.refl _ _).alloc (Nat.le_refl _) _
          have hba := hb4.size
          have hO := own_below HW3.out.1 hB hba
          refine ⟨?_, fun x hx => ?_⟩
          · rw [rcells_snoc, List.length_append]
            exact hown'
          · have hxo : OwnL w3 w.heap.size x.2.2 x.1.list := by
              rcases List.mem_append.1 hx with hx | hx
              · exact HW3.out.2 x hx
              · rw [List.mem_singleton.1 hx]; exact HL3.out
            exact (own_below hxo hB hba).kept hg2 (own_apart (own_below hxo hB hba) hO)
        clear hown' HW3 HL3
        go_roundw
        case rel => exact ⟨k + 1, _, by omega, by go_num, by simp; omega, (by show _ = _; rw [← HE.out]; simp [er]), HN.out, hb5⟩
        case measure => simp [intOf]; omega
      · have HE : Hid (out.map er = ((acc.take (k + 1)).map er).filter (kindIn ks)) := by
          show _ = _
          rw [HSN.out, List.map_append, List.filter_append, HO.out]
          simp [kindIn, er, hm]
        rw [decide_eq_false hm] at HC
        clear hm HO HSN
        go_wp2_with (go_at_call 50; refine HC.out.mono ?_; rintro e w2 ⟨rfl, rfl⟩)
        go_roundw
        case rel => exact ⟨k + 1, out, by omega, by go_num, by omega, HE.out, HW.out.below hb1 hbz, below_then hbw hb1 hbz⟩
        case measure => simp [intOf]; omega
    · have HE : Hid (out.map er = (acc.map er).filter (kindIn ks)) := by have := HO.out; rw [List.take_of_length_le (by omega)] at this; exact this
      clear HO
      go_wp2
      go_ret
      exact ofTo_mk HE.out HW.out hbw
theorem Of_any (acc : List RL) (A : Option Addr) (cap : Nat) (ks : List Int) (KA : Option Addr) (kc : Nat) (w : World) (hR : RIn w A acc) (hK : KAt w KA ks) (hk : ks.length ≤ 1000) (hkc : ks.length ≤ kc) (ha : acc.length ≤ 1000) (_hac : acc.length ≤ cap) (hll : ∀ x ∈ acc, x.1.list.length ≤ 4096) :
    Calls Tryz.prog 18 #[.slice A acc.length cap, .slice KA ks.length kc] w (OfTo ks (acc.map er) w) :=
  Of_any6 acc A cap ks KA kc w hR hK hk hkc ha _hac (fun x hx => Nat.le_trans (hll x hx) (by decide))
end Go.Proofs.YtnnmjmjbfeoggaaGreatDoor
namespace Go.Proofs.YtnnmjmjbfeoggaaGreatDoor
set_option maxRecDepth 100000
open Go.ChangeShapes Go.WideShapes Go.ChangeAt Go.RowKit

/-! ### strings.Split at a byte -/
theorem split_lines (s : ByteArray) : (Lib.splitB ⟨#[10]⟩ 0 (Lib.countB s ⟨#[10]⟩) s).map Value.string = (linesL s.data.toList).map fun t => Value.string (bs t) := by
  have h := Lib.splitB_data ⟨#[10]⟩ 0 (Lib.countB s ⟨#[10]⟩) s
  rw [show (⟨#[10]⟩ : ByteArray).data.toList = [10] from rfl, show Lib.countB s ⟨#[10]⟩ = Lib.count s.data.toList [10] from rfl, lines_split] at h
  rw [← h, show Lib.countB s ⟨#[10]⟩ = Lib.count s.data.toList [10] from rfl]
  simp [bs_list]
theorem split_cells (s : ByteArray) : ((Lib.splitB ⟨#[10]⟩ 0 (Lib.countB s ⟨#[10]⟩) s).map Value.string).toArray = ((linesL s.data.toList).map fun t => Value.string (bs t)).toArray := by rw [split_lines]
theorem split_count (s : ByteArray) : Lib.countB s ⟨#[10]⟩ + 1 = (linesL s.data.toList).length := by
  have h := congrArg List.length (split_lines s)
  rw [List.length_map, List.length_map, Lib.splitB_all ⟨#[10]⟩ (by decide) 0 _ s rfl] at h
  exact h

theorem genSplit_nl (s : ByteArray) (w : World) (hs : s.size ≤ 1000000) :
    Calls Tryz.prog 148 #[.string s, .string ⟨#[10]⟩, .int .i64 0, .int .i64 (-1)] w fun e w' =>
      e = .returned (.slice (some ⟨w.heap.size, 0, none⟩) (linesL s.data.toList).length (linesL s.data.toList).length) ∧ w' = w.alloc (.cells ((linesL s.data.toList).map fun t => Value.string (bs t)).toArray 9) := by
  have hle := Lib.countB_le ⟨#[10]⟩ (by decide) s.size s (Nat.le_refl _)
  have hlen := Lib.splitB_all ⟨#[10]⟩ (by decide) 0 _ s rfl
  have c := Any.strings_genSplit_core { Tryz.lays146 with } (by kernel_rfl) s ⟨#[10]⟩ 0 (-1) (Lib.countB s ⟨#[10]⟩ + 1) w (by omega) (by decide) (Nat.zero_le _)
    (fun x c _ => by have h := Any.strings_Index_one { Tryz.lays146 with } x 10 (w.alloc (.cells c 9)); rw [← Lib.index_one] at h; exact h) (by have h := Any.strings_Count_one { Tryz.lays146 with } s 10 w; rw [show Lib.countByte s.data.toList 10 = Lib.countB s ⟨#[10]⟩ from (Lib.count_one 10 s.data.toList).symm] at h; exact h) (by decide) (by decide) (by rw [if_pos (by decide)]; omega)
  rw [Nat.add_sub_cancel, hlen] at c
  have e2 : Lib.cellsOf (Lib.splitB ⟨#[10]⟩ 0 (Lib.countB s ⟨#[10]⟩) s) (Lib.countB s ⟨#[10]⟩ + 1) = ((Lib.splitB ⟨#[10]⟩ 0 (Lib.countB s ⟨#[10]⟩) s).map Value.string).toArray := by rw [← hlen]; exact Lib.cellsOf_full _
  rw [e2, split_cells, split_count] at c
  exact c
theorem Split_nl (s : ByteArray) (w : World) (hs : s.size ≤ 1000000) :
    Calls Tryz.prog 101 #[.string s, .string ⟨#[10]⟩] w fun e w' =>
      e = .returned (.slice (some ⟨w.heap.size, 0, none⟩) (linesL s.data.toList).length (linesL s.data.toList).length) ∧ w' = w.alloc (.cells ((linesL s.data.toList).map fun t => Value.string (bs t)).toArray 9) := by
  go_enter Tryz.func101, Tryz.ntmps101
  go_wp2_with (go_at_call 148; refine (genSplit_nl s _ hs).mono ?_; rintro e w' ⟨rfl, hw⟩; rw [hw])
  go_ret
  exact ⟨rfl, rfl⟩

/-- what policy.Parse answers -/
def PolTo (p : PolR) (w : World) (e : Ending) (w' : World) : Prop := Below w.heap.size w w' ∧ match p with
  | .limit => e = .returned (.tuple #[.slice none 0 0, .iface 36 (.int .i64 5)])
  | .bad n c k => ∃ b, e = .returned (.tuple #[.slice none 0 0, .iface 124 (.pointer (some ⟨b, 0, none⟩))]) ∧ w.heap.size ≤ b ∧ b < w'.heap.size ∧ FaultAt w' b n c k
  | .ok l => ∃ v acc, e = .returned (.tuple #[v, .nilIface]) ∧ acc.map er = l ∧ RowsAt w' w.heap.size v acc
theorem polTo_bad {p : PolR} {n c : Nat} {k : Int} {b : Nat} {w w' : World} (hp : p = .bad n c k) (hb : Below w.heap.size w w') (h1 : w.heap.size ≤ b) (h2 : b < w'.heap.size) (h3 : FaultAt w' b n c k) :
    PolTo p w (.returned (.tuple #[.slice none 0 0, .iface 124 (.pointer (some ⟨b, 0, none⟩))])) w' := by subst hp; exact ⟨hb, b, rfl, h1, h2, h3⟩
theorem polTo_ok {p : PolR} {v : Value} {acc : List RL} {w w' : World} (hp : p = .ok (acc.map er)) (hb : Below w.heap.size w w') (h : RowsAt w' w.heap.size v acc) :
    PolTo p w (.returned (.tuple #[v, .nilIface])) w' := by subst hp; exact ⟨hb, v, acc, rfl, rfl, h⟩
theorem fault_below {w w' : World} {b : Nat} {l c k : Int} (h : FaultAt w b l c k) (hl : b < w.heap.size) (hb : Below w.heap.size w w') : FaultAt w' b l c k :=
  ⟨(hb.cell (p := ⟨b, 0, none⟩) hl).trans h.1, (hb.cell (p := ⟨b, 1, none⟩) hl).trans h.2.1, (hb.cell (p := ⟨b, 2, none⟩) hl).trans h.2.2⟩
theorem parse_line (t : Tx) (n : Nat) (w : World) (h : t.length ≤ 4096) : Calls Tryz.prog 92 #[.string (bs t), .int .i64 n] w (ParseTo (parseL t) n w) :=
  Parse_any (bs t) n w (by rw [size_bs]; omega) (fun _ => by have := partL_le t; show (partL t).length ≤ _; omega)
end Go.Proofs.YtnnmjmjbfeoggaaGreatDoor
namespace Go.Proofs.YtnnmjmjbfeoggaaGreatDoor
set_option maxRecDepth 100000
open Go.ChangeShapes Go.WideShapes Go.ChangeAt Go.RowKit

theorem Pol_long (s : ByteArray) (w : World) (hs : 4096 < s.size) : Calls Tryz.prog 52 #[.string s] w (PolTo .limit w) := by
  have h : (4096 : Int) < s.size := by omega
  clear hs
  go_enter Tryz.func52, Tryz.ntmps52
  go_wp2
  go_ret2
  exact ⟨Below.refl _ _, rfl⟩
set_option maxHeartbeats 4000000 in
theorem Pol_lines (s : ByteArray) (ls : List Tx) (w : World) (hs : s.size ≤ 4096) (hn : ls.length ≤ 4097) (hle : ∀ t ∈ ls, t.length ≤ 4096)
    (hsp : ∀ W, Calls Tryz.prog 101 #[.string s, .string ⟨#[10]⟩] W fun e w' => e = .returned (.slice (some ⟨W.heap.size, 0, none⟩) ls.length ls.length) ∧ w' = W.alloc (.cells (ls.map fun t => Value.string (bs t)).toArray 9)) :
    Calls Tryz.prog 52 #[.string s] w (PolTo (polL ls 1 []) w) := by
  have hs' : ¬ (4096 : Int) < s.size := by omega
  have HSP := Lib.hid hsp
  have HLE := Lib.hid hle
  clear hsp hs hle
  obtain ⟨i0, hi, hz0, hz1, hz2⟩ := info_parts Tryz.infoRule
  go_enter Tryz.func52, Tryz.ntmps52
  go_upto_region 5 with (go_at_call 101; refine (HSP.out _).mono ?_; rintro e w1 ⟨rfl, rfl⟩)
  have HA : Hid (StrAt (w.alloc (.cells (ls.map fun t => Value.string (bs t)).toArray 9)) w.heap.size ls) := strAt_alloc w ls _
  have hz1' : (w.alloc (.cells (ls.map fun t => Value.string (bs t)).toArray 9)).heap.size = w.heap.size + 1 := by simp
  have HB1 : Hid (Below w.heap.size w (w.alloc (.cells (ls.map fun t => Value.string (bs t)).toArray 9))) := (Below.refl _ _).alloc (Nat.le_refl _) _
  generalize hw1 : w.alloc (.cells (ls.map fun t => Value.string (bs t)).toArray 9) = w1 at *
  clear hw1 HSP
  go_loopw [4, 18] (fun l i wr => ∃ (k : Nat) (acc : List RL), k ≤ ls.length ∧ i = .int .i64 k ∧ acc.length ≤ 160 ∧ Hid (polL ls 1 [] = polL (ls.drop k) (k + 1) (acc.map er)) ∧ Hid (RowsAt wr w1.heap.size l acc) ∧ Below w1.heap.size w1 wr) (fun _ i _ => ls.length - (intOf i).toNat)
  case atStart => exact ⟨0, [], Nat.zero_le _, rfl, Nat.zero_le _, rfl, rows_nil _ _, Below.refl _ _⟩
  case round =>
    obtain ⟨k, acc, hk, rfl, ha, HP, HR, hbw⟩ := hrel
    by_cases hlt : k < ls.length
    · have hx : wr.cell? ⟨w.heap.size, k, none⟩ = some (.string (bs ls[k])) := (hbw.cell (p := ⟨w.heap.size, k, none⟩) (by simp only; omega)).trans (HA.out k hlt)
      have hpar : ∀ W, Calls Tryz.prog 92 #[.string (bs ls[k]), .int .i64 ((k : Int) + 1)] W (ParseTo (parseL ls[k]) ((k : Int) + 1) W) := fun W => parse_line ls[k] (k + 1) W (HLE.out _ (List.getElem_mem hlt))
      have hbz := hbw.size
      generalize hp : parseL ls[k] = p at hpar
      have HPAR := Lib.hid hpar
      clear hpar
      generalize ls[k] = t at hx HPAR
      cases p with
      | bad c d =>
        have HE : Hid (polL ls 1 [] = .bad (k + 1) c d) := HP.out.trans (pol_bad hlt hp)
        clear HP hp HR
        have HPAR' : Hid (∀ W, Calls Tryz.prog 92 #[.string (bs t), .int .i64 ((k : Int) + 1)] W (ParseTo (.bad c d) ((k : Int) + 1) W)) := HPAR
        clear HPAR
        go_wp2_with (go_at_call 92; refine (HPAR'.out _).mono ?_; rintro e w2 ⟨hb2, fb, rfl, hf1, hf2, hF⟩; dsimp only [zeroV, zero11])
        have hs2 := hb2.size
        go_ret2
        exact polTo_bad HE.out ((below_then (below_then HB1.out hbw (by omega)) hb2 (by omega)).alloc (by omega) _) (by omega) (by simp; omega) (fault_below hF hf2 ((Below.refl _ _).alloc (Nat.le_refl _) _))
      | empty =>
        have HE : Hid (polL ls 1 [] = polL (ls.drop (k + 1)) (k + 1 + 1) (acc.map er)) := HP.out.trans (pol_empty hlt hp)
        clear HP hp
        have HPAR' : Hid (∀ W, Calls Tryz.prog 92 #[.string (bs t), .int .i64 ((k : Int) + 1)] W (ParseTo .empty ((k : Int) + 1) W)) := HPAR
        clear HPAR
        go_wp2_with (go_at_call 92; refine (HPAR'.out _).mono ?_; rintro e w2 ⟨hb2, rfl⟩; dsimp only [zeroV, zero11])
        have hs2 := hb2.size
        go_roundw
        case rel => exact ⟨k + 1, acc, by omega, by go_num, ha, HE.out, HR.out.below (hb2.alloc hs2 _) hbz, (below_then hbw hb2 hbz).alloc (by omega) _⟩
        case measure => simp [intOf]; omega
      | ok u =>
        obtain ⟨kd, nm, l, rn, rm, rf, rt, rb, ra, ri⟩ := u
        have HPAR' : Hid (∀ W, Calls Tryz.prog 92 #[.string (bs t), .int .i64 ((k : Int) + 1)] W (ParseTo (.ok ⟨kd, nm, l, rn, rm, rf, rt, rb, ra, ri⟩) ((k : Int) + 1) W)) := HPAR
        clear HPAR
        obtain ⟨A, cap, rfl⟩ := own_slice HR.out.1
        go_upto_region 12 with (go_at_call 92; refine (HPAR'.out _).mono ?_; rintro e w2 ⟨hb2, L1, rfl, ho1⟩; obtain ⟨A1, c1, rfl⟩ := own_slice ho1; dsimp only [ruV])
        have hs2 := hb2.size
        have RA : (w2.alloc (.cells #[.int .i64 kd, .string (bs nm), .slice A1 l.length c1, .int .i64 rn, .int .i64 rm, .string (bs rf), .string (bs rt), .string (bs rb), .string (bs ra), .string (bs ri), .int .i64 ((k : Int) + 1)] 28)).heap[w2.heap.size]? = some (.cells #[.int .i64 kd, .string (bs nm), .slice A1 l.length c1, .int .i64 rn, .int .i64 rm, .string (bs rf), .string (bs rt), .string (bs rb), .string (bs ra), .string (bs ri), .int .i64 ((k : Int) + 1)] 28 (0, 0)) := heap_alloc_new _ _
        have HL : Hid (OwnL (w2.alloc (.cells #[.int .i64 kd, .string (bs nm), .slice A1 l.length c1, .int .i64 rn, .int .i64 rm, .string (bs rf), .string (bs rt), .string (bs rb), .string (bs ra), .string (bs ri), .int .i64 ((k : Int) + 1)] 28)) w1.heap.size (.slice A1 l.length c1) l) := own_base (own_below ho1 ((Below.refl _ _).alloc (Nat.le_refl _) _) hs2) hbz
        have HR3 : Hid (RowsAt (w2.alloc (.cells #[.int .i64 kd, .string (bs nm), .slice A1 l.length c1, .int .i64 rn, .int .i64 rm, .string (bs rf), .string (bs rt), .string (bs rb), .string (bs ra), .string (bs ri), .int .i64 ((k : Int) + 1)] 28)) w1.heap.size (.slice A acc.length cap) acc) := HR.out.below (hb2.alloc hs2 _) hbz
        have hb3 : Below w1.heap.size w1 (w2.alloc (.cells #[.int .i64 kd, .string (bs nm), .slice A1 l.length c1, .int .i64 rn, .int .i64 rm, .string (bs rf), .string (bs rt), .string (bs rb), .string (bs ra), .string (bs ri), .int .i64 ((k : Int) + 1)] 28)) := (below_then hbw hb2 hbz).alloc (by omega) _
        have hs3 : w2.heap.size < (w2.alloc (.cells #[.int .i64 kd, .string (bs nm), .slice A1 l.length c1, .int .i64 rn, .int .i64 rm, .string (bs rf), .string (bs rt), .string (bs rb), .string (bs ra), .string (bs ri), .int .i64 ((k : Int) + 1)] 28)).heap.size := by simp
        clear ho1 HR HPAR'
        generalize hw3 : w2.alloc (.cells #[.int .i64 kd, .string (bs nm), .slice A1 l.length c1, .int .i64 rn, .int .i64 rm, .string (bs rf), .string (bs rt), .string (bs rb), .string (bs ra), .string (bs ri), .int .i64 ((k : Int) + 1)] 28) = w3 at *
        clear hw3 hb2
        by_cases hfull : acc.length = 160
        · have HE : Hid (polL ls 1 [] = .bad (k + 1) 1 5) := HP.out.trans (pol_full hlt hp (by simpa using hfull))
          clear HP hp HR3 HL
          rw [hfull]
          go_wp2
          go_ret2
          refine polTo_bad HE.out ((below_then HB1.out hb3 (by omega)).alloc (by omega) _) (by omega) (by simp) ?_
          exact ⟨new_cell w3 _ _ 0, new_cell w3 _ _ 1, new_cell w3 _ _ 2⟩
        · have HE : Hid (polL ls 1 [] = polL (ls.drop (k + 1)) (k + 1 + 1) ((acc ++ [((⟨kd, nm, l, rn, rm, rf, rt, rb, ra, ri⟩ : Ru), k + 1, Value.slice A1 l.length c1)]).map er)) := by
            show _ = _
            rw [List.map_append]
            exact HP.out.trans (pol_ok hlt hp (by simpa using hfull))
          clear HP hp
          have hfi : ¬ (acc.length : Int) = 160 := by omega
          have p0 := row_q0 RA; have p1 := row_q1 RA; have p2 := row_q2 RA; have p3 := row_q3 RA; have p4 := row_q4 RA; have p5 := row_q5 RA; have p6 := row_q6 RA; have p7 := row_q7 RA; have p8 := row_q8 RA; have p9 := row_q9 RA; have p10 := row_q10 RA
          clear RA
          go_wp2_with (at_builtin; go_must (refine wpList_append_own _ rfl (.tmp 44) (.tmp 46) 22 rfl w1.heap.size 28 i0 _ 11 152 Tryz.underlying22 hi hz0 hz1 hz2 rfl (by decide) _ _ _ rfl (HR3.out.1.alloc _) ⟨w3.heap.size, 0, none⟩ 1 1 [.int .i64 kd, .string (bs nm), .slice A1 l.length c1, .int .i64 rn, .int .i64 rm, .string (bs rf), .string (bs rt), .string (bs rb), .string (bs ra), .string (bs ri), .int .i64 ((k : Int) + 1)] rfl rfl (cells_new _ _ _) (by intro u hu; simp at hu; rcases hu with rfl | rfl | rfl | rfl | rfl | rfl | rfl | rfl | rfl | rfl | rfl <;> rfl) (by unfold maxLen; omega) (by omega) (by have := hb3.size; simp; omega) ?_); intro v' w4 hown' hg' _)
          have hg2 : (w3.alloc (.cells #[.int .i64 kd, .string (bs nm), .slice A1 l.length c1, .int .i64 rn, .int .i64 rm, .string (bs rf), .string (bs rt), .string (bs rb), .string (bs ra), .string (bs ri), .int .i64 ((k : Int) + 1)] 28)).grownBy w4 (Value.slice A acc.length cap).ownBlock := hg'
          have hb4 : Below w1.heap.size w1 w4 := (hb3.alloc (by have := hb3.size; omega) _).grown hg2 (by have := hb3.size; simp; omega) (fun g hg => (HR3.out.1.lt g hg).1)
          clear hg'
          have HN : Hid (RowsAt w4 w1.heap.size v' (acc ++ [((⟨kd, nm, l, rn, rm, rf, rt, rb, ra, ri⟩ : Ru), k + 1, Value.slice A1 l.length c1)])) := by
            have hB : Below w3.heap.size w3 (w3.alloc (.cells #[.int .i64 kd, .string (bs nm), .slice A1 l.length c1, .int .i64 rn, .int .i64 rm, .string (bs rf), .string (bs rt), .string (bs rb), .string (bs ra), .string (bs ri), .int .i64 ((k : Int) + 1)] 28)) := (Below.refl _ _).alloc (Nat.le_refl _) _
            have hba := hb3.size
            have hO := own_below HR3.out.1 hB hba
            refine ⟨?_, fun x hx => ?_⟩
            · rw [rcells_snoc, List.length_append]
              exact hown'
            · have hxo : OwnL w3 w1.heap.size x.2.2 x.1.list := by
                rcases List.mem_append.1 hx with hx | hx
                · exact HR3.out.2 x hx
                · rw [List.mem_singleton.1 hx]; exact HL.out
              exact (own_below hxo hB hba).kept hg2 (own_apart (own_below hxo hB hba) hO)
          clear hown' HR3 HL
          go_roundw
          case rel => exact ⟨k + 1, _, by omega, by go_num, by simp; omega, HE.out, HN.out, hb4⟩
          case measure => simp [intOf]; omega
    · have HE : Hid (polL ls 1 [] = .ok (acc.map er)) := HP.out.trans (pol_end (by omega))
      clear HP
      go_wp2
      go_ret2
      exact polTo_ok HE.out (below_then HB1.out hbw (by omega)) (HR.out.base (by omega))
theorem Pol_any (s : ByteArray) (w : World) : Calls Tryz.prog 52 #[.string s] w (PolTo (polT s.data.toList) w) := by
  unfold polT
  by_cases h : 4096 < s.data.toList.length
  · rw [if_pos h]; exact Pol_long s w h
  · rw [if_neg h]
    rw [size_list] at h
    obtain ⟨h1, h2⟩ := lines_len s.data.toList
    rw [size_list] at h1 h2
    exact Pol_lines s _ w (by omega) (by omega) (fun t ht => by have := h2 t ht; omega) (fun W => Split_nl s W (by omega))
end Go.Proofs.YtnnmjmjbfeoggaaGreatDoor
namespace Go.Proofs.YtnnmjmjbfeoggaaGreatDoor
set_option maxRecDepth 100000
open Go.ChangeShapes Go.WideShapes Go.ChangeAt Go.RowKit Go.Maps Go.WideMaps Go.ChangeMaps

theorem keepIs0 (w : World) : Calls Tryz.prog 14 #[.nilIface, .int .i64 0] w fun e w' => e = .returned (.bool true) ∧ w = w' := by
  go_enter Tryz.func14, Tryz.ntmps14
  go_wp2
  go_ret
  exact ⟨rfl, rfl⟩
/-! ### the document's example -/
set_option maxHeartbeats 1000000 in
theorem wakes03 (w : World) : Calls Tryz.prog 19 #[] w (TrueOn w) := by
  have p1 := fun W => Pol_any (bs []) W
  have p2 := fun W => Pol_any (bs (roleLine ++ [10])) W
  rw [list_bs] at p1 p2
  rw [polT_nil] at p1
  rw [polT_role] at p2
  have P1 : Hid (∀ W, Calls Tryz.prog 52 #[.string ⟨#[]⟩] W (PolTo (.ok []) W)) := p1
  have P2 : Hid (∀ W, Calls Tryz.prog 52 #[.string ⟨#[114, 111, 108, 101, 32, 97, 10]⟩] W (PolTo (.ok [({ kind := 1, name := [97] }, 1)]) W)) := p2
  clear p1 p2
  go_enter Tryz.func19, Tryz.ntmps19
  go_upto_region 2 with (go_at_call 52; refine (P1.out _).mono ?_; rintro e w1 ⟨hb1, v, acc, rfl, hacc, hR⟩; obtain ⟨A, cap, rfl⟩ := own_slice hR.1; have hl : acc.length = 0 := by simpa using congrArg List.length hacc)
  try rw [hl]
  clear hR hacc hl P1
  go_upto_region 3 with (go_at_call 52; refine (P2.out _).mono ?_; rintro e w2 ⟨hb2, v2, acc2, rfl, hacc2, hR2⟩; obtain ⟨A2, cap2, rfl⟩ := own_slice hR2.1; have hl2 : acc2.length = 1 := by simpa using congrArg List.length hacc2)
  try rw [hl2]
  clear hR2 hacc2 hl2 P2
  go_wp2
  go_ret
  exact ⟨rfl, below_then hb1 hb2 hb1.size⟩
end Go.Proofs.YtnnmjmjbfeoggaaGreatDoor
namespace Go.Proofs.YtnnmjmjbfeoggaaGreatDoor
set_option maxRecDepth 100000
open Go.ChangeShapes Go.WideShapes Go.ChangeAt Go.RowKit

theorem print_in (x : Ru) (A : Option Addr) (c : Nat) (ln : Int) (W : World) (hL : LIn W A c x.list) (hn : -9223372036854775808 ≤ x.n ∧ x.n ≤ 9223372036854775807) (hm : -9223372036854775808 ≤ x.m ∧ x.m ≤ 9223372036854775807) (hs : totR x ≤ 1048576) (hg : HandleAt W) (ht : TabAt W) :
    Calls Tryz.prog 42 #[ruV x (.slice A x.list.length c) ln] W (PrintTo (printP x) W) := by
  have h1 := line_sum x hn.1 hn.2 hm.1 hm.2
  have h2 := sum_len (lineP x)
  have h3 := join_sum (lineP x)
  have h4 := sum_len x.list
  have h5 : x.list.length ≤ 1048576 := by simp only [totR] at hs; omega
  exact print_any x A c ln W (hL.at (by omega)) (fun X hX => lineWords_any x A c ln X (hL.below hX) h5 hn.1 hn.2 hm.1 hm.2 (ht.below hX)) (by omega) (by omega) hg
end Go.Proofs.YtnnmjmjbfeoggaaGreatDoor
namespace Go.Proofs.YtnnmjmjbfeoggaaGreatDoor
set_option maxRecDepth 100000

def Small (x : Ru) : Prop := (-9223372036854775808 ≤ x.n ∧ x.n ≤ 9223372036854775807) ∧ (-9223372036854775808 ≤ x.m ∧ x.m ≤ 9223372036854775807) ∧ totR x ≤ 1048576
theorem small_line {r : Ru} {t : Tx} (h : Small r) (hp : printP r = some t) : t.length ≤ 1048636 := by
  obtain ⟨rfl, _⟩ := printP_some.1 hp
  have h1 := line_sum r h.1.1 h.1.2 h.2.1.1 h.2.1.2
  have h2 := join_sum (lineP r)
  have := h.2.2
  omega
end Go.Proofs.YtnnmjmjbfeoggaaGreatDoor
namespace Go.Proofs.YtnnmjmjbfeoggaaGreatDoor
set_option maxRecDepth 100000
open Go.ChangeShapes Go.WideShapes Go.ChangeAt Go.RowKit

noncomputable def lineStep (o : Option Tx) (r : Ru) : Option Tx := match o, printP r with
  | some p, some t => some (p ++ t ++ [10])
  | _, _ => none
noncomputable def linesOf (l : List Ru) : Option Tx := l.foldl lineStep (some [])
theorem linesOf_snoc (l : List Ru) (r : Ru) : linesOf (l ++ [r]) = lineStep (linesOf l) r := by simp [linesOf]
theorem step_none (l : List Ru) : l.foldl lineStep none = none := by
  induction l with
  | nil => rfl
  | cons r l ih => exact ih
theorem linesOf_none {l m : List Ru} (h : linesOf l = none) : linesOf (l ++ m) = none := by
  unfold linesOf at h ⊢
  rw [List.foldl_append, h, step_none]
def PrsTo (o : Option Tx) (n : Nat) (w : World) (e : Ending) (w' : World) : Prop := Below w.heap.size w w' ∧ match o with
  | none => e = .returned (.tuple #[.string ⟨#[]⟩, .iface 36 (.int .i64 1)])
  | some t => if 4096 < t.length ∨ 160 < n then e = .returned (.tuple #[.string ⟨#[]⟩, .iface 36 (.int .i64 5)]) else e = .returned (.tuple #[.string (bs t), .nilIface])
theorem bld_below {w w' : World} {b : Nat} {xs : List Value} (h : Lib.IsBuilder 97 5 b b xs w) (hb : Below w.heap.size w w') : Lib.IsBuilder 97 5 b b xs w' := by
  rcases h with ⟨h1, v, h2, h3, h4⟩ | ⟨h1, v, h2, h3, h4⟩
  · exact .inl ⟨h1, v, (hb.block _ (Array.getElem?_eq_some_iff.1 h2).1).trans h2, own_below h3 hb (Nat.le_of_lt (Array.getElem?_eq_some_iff.1 h2).1), h4⟩
  · exact .inr ⟨h1, v, (hb.block _ (Array.getElem?_eq_some_iff.1 h2).1).trans h2, own_below h3 hb (Nat.le_of_lt (Array.getElem?_eq_some_iff.1 h2).1), h4⟩
theorem cells_more (p t : Tx) : Lib.byteCells p ++ Lib.strCells (bs t) ++ Lib.strCells ⟨#[10]⟩ = Lib.byteCells (p ++ t ++ [10]) := by
  have e1 : Lib.strCells (bs t) = Lib.byteCells t := Lib.strCells_toArray t
  have e2 : Lib.strCells ⟨#[10]⟩ = Lib.byteCells [10] := Lib.strCells_toArray [10]
  rw [e1, e2]; simp [Lib.byteCells]
set_option maxHeartbeats 4000000 in
theorem PolPrint_any (acc : List RL) (A : Option Addr) (cap : Nat) (w : World) (hR : RIn w A acc) (ha : acc.length ≤ 1000) (_hac : acc.length ≤ cap) (hsm : ∀ x ∈ acc, Small x.1) (hli : ∀ x ∈ acc, ∀ B c, x.2.2 = .slice B x.1.list.length c → LIn w B c x.1.list) (hg : HandleAt w) (ht : TabAt w) :
    Calls Tryz.prog 12 #[.slice A acc.length cap] w (PrsTo (linesOf (acc.map (·.1))) acc.length w) := by
  have HR := Lib.hid hR
  have HS := Lib.hid hsm
  have HI := Lib.hid hli
  have HH := Lib.hid hg
  have HT := Lib.hid ht
  clear hR hsm hli hg ht
  have HB0 : Hid (Lib.IsBuilder 97 5 w.heap.size w.heap.size (Lib.byteCells []) (w.alloc (.cells #[.pointer none, .slice none 0 0] 97))) := .inl ⟨Nat.le_refl _, _, heap_alloc_new _ _, World.ownsRow_nil _ _ _ _, by simp [Value.ownBlock]⟩
  go_enter Tryz.func12, Tryz.ntmps12
  go_upto_region 3 with fail
  go_loopw [11] (fun i wr => ∃ (k : Nat) (p : Tx), k ≤ acc.length ∧ i = .int .i64 k ∧ Hid (linesOf ((acc.take k).map (·.1)) = some p) ∧ Hid (Lib.IsBuilder 97 5 w.heap.size w.heap.size (Lib.byteCells p) wr) ∧ Below w.heap.size w wr ∧ p.length ≤ k * 2000000) (fun i _ => acc.length - (intOf i).toNat)
  case atStart => exact ⟨0, [], Nat.zero_le _, rfl, rfl, HB0.out, (Below.refl _ _).alloc (Nat.le_refl _) _, by simp⟩
  case round =>
    obtain ⟨k, p, hk, rfl, HP, HBB, hbw, hpl⟩ := hrel
    by_cases hlt : k < acc.length
    · obtain ⟨g, rfl, hgl, hc, B, c, e2, hL⟩ := HR.out k hlt
      have hsk := HS.out _ (List.getElem_mem hlt)
      have hL := HI.out _ (List.getElem_mem hlt) B c e2
      have hsn : (acc.take (k + 1)).map (·.1) = (acc.take k).map (·.1) ++ [acc[k].1] := by rw [List.take_succ_eq_append_getElem hlt, List.map_append]; rfl
      have hall : (acc.take (k + 1)).map (·.1) ++ (acc.drop (k + 1)).map (·.1) = acc.map (·.1) := by rw [← List.map_append, List.take_append_drop]
      have hbz := hbw.size
      have hL := hL.below hbw
      have q := fun f u hf hu => (hbw.cell (p := ⟨g, k * 11 + f, none⟩) hgl).trans (hc f u hf hu)
      have HSN := Lib.hid hsn
      have HALL := Lib.hid hall
      clear hc hsn hall
      generalize acc[k] = x at *
      obtain ⟨⟨kd, nm, l, rn, rm, rf, rt, rb, ra, ri⟩, ln, L⟩ := x
      obtain rfl : L = .slice B l.length c := e2
      simp only at hL hsk HSN
      have q0 := q 0 _ (by omega) rfl; have q1 := q 1 _ (by omega) rfl; have q2 := q 2 _ (by omega) rfl; have q3 := q 3 _ (by omega) rfl; have q4 := q 4 _ (by omega) rfl; have q5 := q 5 _ (by omega) rfl; have q6 := q 6 _ (by omega) rfl; have q7 := q 7 _ (by omega) rfl; have q8 := q 8 _ (by omega) rfl; have q9 := q 9 _ (by omega) rfl; have q10 := q 10 _ (by omega) rfl
      simp only [Nat.add_zero] at q0
      clear q
      go_upto_region 5 with fail
      have RA : (wr.alloc (.cells #[.int .i64 kd, .string (bs nm), .slice B l.length c, .int .i64 rn, .int .i64 rm, .string (bs rf), .string (bs rt), .string (bs rb), .string (bs ra), .string (bs ri), .int .i64 ln] 28)).heap[wr.heap.size]? = some (.cells #[.int .i64 kd, .string (bs nm), .slice B l.length c, .int .i64 rn, .int .i64 rm, .string (bs rf), .string (bs rt), .string (bs rb), .string (bs ra), .string (bs ri), .int .i64 ln] 28 (0, 0)) := heap_alloc_new _ _
      have hb1 : Below wr.heap.size wr (wr.alloc (.cells #[.int .i64 kd, .string (bs nm), .slice B l.length c, .int .i64 rn, .int .i64 rm, .string (bs rf), .string (bs rt), .string (bs rb), .string (bs ra), .string (bs ri), .int .i64 ln] 28)) := (Below.refl _ _).alloc (Nat.le_refl _) _
      have hL1 := hL.below hb1
      have hbw1 := below_then hbw hb1 hbz
      have HB1 := Lib.hid (bld_below HBB.out hb1)
      generalize hw1 : wr.alloc (.cells #[.int .i64 kd, .string (bs nm), .slice B l.length c, .int .i64 rn, .int .i64 rm, .string (bs rf), .string (bs rt), .string (bs rb), .string (bs ra), .string (bs ri), .int .i64 ln] 28) = w1 at *
      clear hw1 q0 q1 q2 q3 q4 q5 q6 q7 q8 q9 q10 hL HBB
      have PI := print_in ⟨kd, nm, l, rn, rm, rf, rt, rb, ra, ri⟩ B c ln w1 hL1 hsk.1 hsk.2.1 hsk.2.2 (HH.out.below' hbw1) (HT.out.below hbw1)
      have HTL := Lib.hid (fun t => small_line (t := t) hsk)
      dsimp only [ruV] at PI
      have p0 := row_q0 RA; have p1 := row_q1 RA; have p2 := row_q2 RA; have p3 := row_q3 RA; have p4 := row_q4 RA; have p5 := row_q5 RA; have p6 := row_q6 RA; have p7 := row_q7 RA; have p8 := row_q8 RA; have p9 := row_q9 RA; have p10 := row_q10 RA
      clear RA hsk hL1
      cases hp : printP ⟨kd, nm, l, rn, rm, rf, rt, rb, ra, ri⟩ with
      | none =>
        rw [hp] at PI
        have HE : Hid (linesOf (acc.map (·.1)) = none) := by
          show _ = _
          rw [← HALL.out]
          refine linesOf_none ?_
          rw [HSN.out, linesOf_snoc, HP.out]
          simp [lineStep, hp]
        have PI2 := Lib.hid PI
        clear PI hp HALL HSN HP
        go_wp2_with (go_at_call 42; refine PI2.out.mono ?_; rintro e w2 ⟨hb2, rfl⟩)
        go_ret2
        rw [HE.out]
        exact ⟨below_then hbw1 hb2 hbw1.size, rfl⟩
      | some t =>
        rw [hp] at PI
        have htl := HTL.out t hp
        have HE : Hid (linesOf ((acc.take (k + 1)).map (·.1)) = some (p ++ t ++ [10])) := by
          show _ = _
          rw [HSN.out, linesOf_snoc, HP.out]
          simp [lineStep, hp]
        have PI2 := Lib.hid PI
        have hcl : (Lib.byteCells p).length = p.length := by simp [Lib.byteCells]
        clear PI hp HALL HSN HP
        have tok1 : True := trivial
        go_wp2_with (first
          | (go_at_call 42; refine PI2.out.mono ?_; rintro e w2 ⟨hb2, rfl⟩; have HB2 := Lib.hid (bld_below HB1.out hb2); have hbw2 := below_then hbw1 hb2 hbw1.size; have h2s := hbw2.size)
          | (have _t := tok1; go_at_call 43; refine (write_any _ _ _ (bs t) _ HB2.out (by rw [hcl, size_bs]; omega) h2s).mono ?_; rintro e w3 ⟨rfl, hB3, hb3⟩; have HB3 := Lib.hid hB3; have hbw3 := hbw2.trans hb3; have h3s := hbw3.size; clear hB3 tok1 _t)
          | (go_at_call 43; refine (write_any _ _ _ ⟨#[10]⟩ _ (.inr HB3.out) (by rw [List.length_append, hcl, Lib.strCells_length, size_bs]; have : (⟨#[10]⟩ : ByteArray).size = 1 := rfl; omega) h3s).mono ?_; rintro e w4 ⟨rfl, hB4, hb4⟩))
        go_roundw
        case rel => exact ⟨k + 1, _, by omega, by go_num, HE.out, by show Lib.IsBuilder _ _ _ _ _ _; rw [← cells_more]; exact .inr hB4, hbw3.trans hb4, by simp only [List.length_append, List.length_cons, List.length_nil]; omega⟩
        case measure => simp [intOf]; omega
    · have HE : Hid (linesOf (acc.map (·.1)) = some p) := by have := HP.out; rw [List.take_of_length_le (by omega)] at this; exact this
      have hcl : (Lib.byteCells p).length = p.length := by simp [Lib.byteCells]
      have hE := HE.out
      have hbz := hbw.size
      have LEN := Lib.hid (Tryz.Builder_Len w.heap.size w.heap.size (Lib.byteCells p) wr HBB.out)
      rw [hcl] at LEN
      clear HP
      by_cases h1 : 4096 < p.length
      · have d1 : decide ((4096 : Int) < (p.length : Int)) = true := decide_eq_true (by omega)
        go_wp2_with (go_at_call 44; refine LEN.out.mono ?_; rintro e w2 ⟨rfl, rfl⟩; try simp only [d1])
        go_ret2
        exact ⟨hbw, by rw [hE]; show (if _ then _ else _); rw [if_pos (.inl h1)] <;> rfl⟩
      · have d1 : decide ((4096 : Int) < (p.length : Int)) = false := decide_eq_false (by omega)
        by_cases h2 : 160 < acc.length
        · have d2 : decide ((160 : Int) < (acc.length : Int)) = true := decide_eq_true (by omega)
          go_wp2_with (go_at_call 44; refine LEN.out.mono ?_; rintro e w2 ⟨rfl, rfl⟩; try simp only [d1, d2])
          go_ret2
          exact ⟨hbw, by rw [hE]; show (if _ then _ else _); rw [if_pos (.inr h2)] <;> rfl⟩
        · have d2 : decide ((160 : Int) < (acc.length : Int)) = false := decide_eq_false (by omega)
          go_wp2_with (first
            | (go_at_call 44; refine LEN.out.mono ?_; rintro e w2 ⟨rfl, rfl⟩; try simp only [d1, d2])
            | (go_at_call 45; refine (Tryz.Builder_String_any w.heap.size w.heap.size p _ HBB.out hbz).mono ?_; rintro e w3 ⟨rfl, hb3⟩))
          go_ret2
          exact ⟨hbw.trans hb3, by rw [hE]; show (if _ then _ else _); rw [if_neg (by omega)] <;> rfl⟩
end Go.Proofs.YtnnmjmjbfeoggaaGreatDoor
namespace Go.Proofs.YtnnmjmjbfeoggaaGreatDoor

theorem toks_sum : ∀ (n : Nat) (l : Tx), l.length ≤ n → ∀ c, (joinP (tx (toks l c))).length ≤ l.length := by
  intro n
  induction n with
  | zero =>
    intro l h c
    have : l = [] := List.eq_nil_of_length_eq_zero (by omega)
    subst this
    simp [toks_nil, tx, joinP, Lib.join]
  | succ n ih =>
    intro l h c
    by_cases hl : l = []
    · subst hl; simp [toks_nil, tx, joinP, Lib.join]
    have hpos : 0 < l.length := List.length_pos_iff.2 hl
    have hw : (word l).length ≤ l.length := (List.takeWhile_sublist _).length_le
    rw [toks_step]
    have i := ih (l.drop ((word l).length + 1)) (by simp; omega) (c + (word l).length + 1)
    by_cases hd : l.drop ((word l).length + 1) = []
    · rw [hd, toks_nil, List.append_nil]
      split
      · simp [tx, joinP, Lib.join]
      · show (joinP [word l]).length ≤ _
        rw [join_one]; exact hw
    · have hdl := List.length_pos_iff.2 hd
      generalize toks (l.drop ((word l).length + 1)) (c + (word l).length + 1) = T at i ⊢
      rw [List.length_drop] at i hdl
      split
      · rw [List.nil_append]; omega
      · cases T with
        | nil =>
          show (joinP [word l]).length ≤ _
          rw [join_one]; exact hw
        | cons x T =>
          show (joinP (word l :: x.2 :: tx T)).length ≤ _
          rw [join_cons2]
          have i2 : (joinP (x.2 :: tx T)).length ≤ l.length - ((word l).length + 1) := i
          simp only [List.length_append, List.length_cons]
          omega
theorem told_len {L : Tx} {r : Ru} (h : parseL L = .ok r) : (joinP (lineP r)).length ≤ L.length := by
  rw [(parse_told h).2]
  unfold wordsL
  split
  · exact Nat.le_trans (toks_sum _ _ (Nat.le_refl _) _) (partL_le L)
  · simp [tx, joinP, Lib.join]
/-- the bytes of lines, an end of line behind each -/
def linesLen (ls : List Tx) : Nat := (ls.map (·.length + 1)).sum
theorem linesLen_all : ∀ s : Tx, linesLen (linesL s) = s.length + 1
  | [] => rfl
  | c :: r => by
    have ih := linesLen_all r
    by_cases hc : c = 10
    · subst hc; rw [lines_end]; simp only [linesLen, List.map_cons, List.sum_cons, List.length_nil, List.length_cons] at ih ⊢; omega
    · obtain ⟨a, t, e⟩ := lines_ne r
      rw [e] at ih
      rw [lines_cons hc e]; simp only [linesLen, List.map_cons, List.sum_cons, List.length_cons] at ih ⊢; omega
/-- Rules read from lines: each told and read again is itself, the lines told are no longer than those read, the numbers ascend. -/
theorem pol_told : ∀ (ls : List Tx) (n : Nat) (acc l : List (Ru × Nat)), polL ls n acc = .ok l → ∃ us : List (Ru × Nat), l = acc ++ us ∧ (∀ x ∈ us, parseL (joinP (lineP x.1)) = .ok x.1 ∧ n ≤ x.2) ∧
    linesLen (us.map (fun x => joinP (lineP x.1))) ≤ linesLen ls ∧ us.Pairwise (fun x y => x.2 < y.2)
  | [], n, acc, l, h => by
    rw [polL] at h; cases h
    exact ⟨[], by simp, by simp, by simp [linesLen], List.Pairwise.nil⟩
  | t :: r, n, acc, l, h => by
    rw [polL] at h
    split at h
    · cases h
    · obtain ⟨us, e, h1, h2, h3⟩ := pol_told r (n + 1) acc l h
      refine ⟨us, e, fun x hx => ⟨(h1 x hx).1, by have := (h1 x hx).2; omega⟩, ?_, h3⟩
      simp only [linesLen, List.map_cons, List.sum_cons] at h2 ⊢; omega
    · rename_i u hu
      split at h
      · cases h
      · obtain ⟨us, e, h1, h2, h3⟩ := pol_told r (n + 1) (acc ++ [(u, n)]) l h
        refine ⟨(u, n) :: us, by rw [e]; simp, ?_, ?_, ?_⟩
        · intro x hx
          rcases List.mem_cons.1 hx with rfl | hx
          · exact ⟨(parse_told hu).1, Nat.le_refl _⟩
          · exact ⟨(h1 x hx).1, by have := (h1 x hx).2; omega⟩
        · have := told_len hu
          simp only [linesLen, List.map_cons, List.sum_cons] at h2 ⊢; omega
        · exact List.Pairwise.cons (fun y hy => by have := (h1 y hy).2; show n < y.2; omega) h3
/-- rules told, a line each -/
def flatP (us : List Ru) : Tx := us.flatMap fun u => joinP (lineP u) ++ [10]
theorem flat_len (us : List Ru) : (flatP us).length = linesLen (us.map fun u => joinP (lineP u)) := by
  induction us with
  | nil => rfl
  | cons u us ih => simp only [flatP, linesLen, List.flatMap_cons, List.map_cons, List.sum_cons, List.length_append, List.length_cons, List.length_nil] at ih ⊢; omega
theorem step_told : ∀ (us : List Ru) (p : Tx), (∀ u ∈ us, parseL (joinP (lineP u)) = .ok u) → us.foldl lineStep (some p) = some (p ++ flatP us)
  | [], p, _ => by simp [flatP]
  | u :: us, p, h => by
    have hu : printP u = some (joinP (lineP u)) := printP_some.2 ⟨rfl, h u (List.mem_cons_self ..)⟩
    rw [List.foldl_cons, show lineStep (some p) u = some (p ++ joinP (lineP u) ++ [10]) by simp [lineStep, hu], step_told us _ (fun x hx => h x (List.mem_cons_of_mem _ hx))]
    simp [flatP]
theorem linesOf_told {us : List Ru} (h : ∀ u ∈ us, parseL (joinP (lineP u)) = .ok u) : linesOf us = some (flatP us) := by
  unfold linesOf; rw [step_told us [] h, List.nil_append]
theorem join_plain : ∀ {l : List Tx}, (∀ t ∈ l, gw t = true) → ∀ c ∈ joinP l, c ≠ 10
  | [], _ => by simp [joinP, Lib.join]
  | [a], h => by
    rw [join_one]
    intro c hc e
    subst e
    have := h a (List.mem_cons_self ..)
    simp only [gw, Bool.and_eq_true, List.all_eq_true] at this
    exact absurd (this.2 _ hc) (by decide)
  | a :: b :: r, h => by
    have ih := join_plain (l := b :: r) fun t ht => h t (List.mem_cons_of_mem _ ht)
    rw [join_cons2]
    intro c hc e
    subst e
    rcases List.mem_append.1 hc with hc | hc
    · have := h a (List.mem_cons_self ..)
      simp only [gw, Bool.and_eq_true, List.all_eq_true] at this
      exact absurd (this.2 _ hc) (by decide)
    · rcases List.mem_cons.1 hc with hc | hc
      · exact absurd hc (by decide)
      · exact ih _ hc rfl
theorem told_plain {u : Ru} (h : parseL (joinP (lineP u)) = .ok u) : ∀ c ∈ joinP (lineP u), c ≠ 10 :=
  join_plain (l := lineP u) (by rw [(parse_told h).2]; exact words_gw _)
theorem flat_lines : ∀ us : List Ru, (∀ u ∈ us, parseL (joinP (lineP u)) = .ok u) → linesL (flatP us) = us.map (fun u => joinP (lineP u)) ++ [[]]
  | [], _ => rfl
  | u :: us, h => by
    have e : flatP (u :: us) = joinP (lineP u) ++ 10 :: flatP us := by simp [flatP]
    rw [e, lines_more, lines_plain (told_plain (h u (List.mem_cons_self ..))), flat_lines us fun x hx => h x (List.mem_cons_of_mem _ hx)]; rfl
/-- rules, each with its place -/
def numP : List Ru → Nat → List (Ru × Nat)
  | [], _ => []
  | u :: us, n => (u, n) :: numP us (n + 1)
theorem pol_again : ∀ (us : List Ru) (n : Nat) (acc : List (Ru × Nat)), (∀ u ∈ us, parseL (joinP (lineP u)) = .ok u) → acc.length + us.length ≤ 160 → polL (us.map (fun u => joinP (lineP u)) ++ [[]]) n acc = .ok (acc ++ numP us n)
  | [], n, acc, _, _ => by
    show polL [[]] n acc = _
    rw [polL, parse_nil]; simp [polL, numP]
  | u :: us, n, acc, h, hl => by
    rw [List.map_cons, List.cons_append, polL, h u (List.mem_cons_self ..)]
    simp only [List.length_cons] at hl
    show (if acc.length = 160 then _ else _) = _
    rw [if_neg (by omega), pol_again us (n + 1) _ (fun x hx => h x (List.mem_cons_of_mem _ hx)) (by simp only [List.length_append, List.length_cons, List.length_nil]; omega)]
    simp [numP]
theorem num_map : ∀ (us : List Ru) (n : Nat), (numP us n).map (·.1) = us
  | [], _ => rfl
  | u :: us, n => by rw [numP, List.map_cons, num_map us (n + 1)]
theorem num_at : ∀ (us : List Ru) (n i : Nat) (h : i < (numP us n).length), (numP us n)[i].2 = n + i
  | u :: us, n, 0, _ => rfl
  | u :: us, n, i + 1, h => by
    have := num_at us (n + 1) i (by simp only [numP, List.length_cons] at h; omega)
    simp only [numP, List.getElem_cons_succ, this]; omega
/-- A text's rules, told: a text no longer than it and one byte, which is read as the same rules, a line each; told again it is that text. -/
theorem polT_told {s : Tx} {l : List (Ru × Nat)} (h : polT s = .ok l) (hl : l.length ≤ 160) (hs : s.length ≤ 4000) :
    linesOf (l.map (·.1)) = some (flatP (l.map (·.1))) ∧ (flatP (l.map (·.1))).length ≤ s.length + 1 ∧ polT (flatP (l.map (·.1))) = .ok (numP (l.map (·.1)) 1) ∧ l.Pairwise (fun x y => x.2 < y.2) := by
  unfold polT at h
  split at h
  · cases h
  obtain ⟨us, e, h1, h2, h3⟩ := pol_told _ _ _ _ h
  rw [List.nil_append] at e
  subst e
  have ht : ∀ u ∈ l.map (·.1), parseL (joinP (lineP u)) = .ok u := by
    intro u hu
    obtain ⟨x, hx, rfl⟩ := List.mem_map.1 hu
    exact (h1 x hx).1
  have hle : (flatP (l.map (·.1))).length ≤ s.length + 1 := by
    rw [flat_len, List.map_map]
    rw [linesLen_all] at h2
    exact h2
  refine ⟨linesOf_told ht, hle, ?_, h3⟩
  unfold polT
  rw [if_neg (by omega), flat_lines _ ht]
  exact pol_again _ 1 [] ht (by simpa using hl)
theorem pol_le : ∀ (ls : List Tx) (n : Nat) (acc l : List (Ru × Nat)), polL ls n acc = .ok l → acc.length ≤ 160 → l.length ≤ 160
  | [], n, acc, l, h, ha => by rw [polL] at h; cases h; exact ha
  | t :: r, n, acc, l, h, ha => by
    rw [polL] at h
    split at h
    · cases h
    · exact pol_le r _ acc l h ha
    · split at h
      · cases h
      · exact pol_le r _ _ l h (by simp only [List.length_append, List.length_cons, List.length_nil]; omega)
theorem polT_le {s : Tx} {l : List (Ru × Nat)} (h : polT s = .ok l) : l.length ≤ 160 := by
  unfold polT at h
  split at h
  · cases h
  exact pol_le _ _ _ _ h (by simp)
end Go.Proofs.YtnnmjmjbfeoggaaGreatDoor
namespace Go.Proofs.YtnnmjmjbfeoggaaGreatDoor
set_option maxRecDepth 100000

theorem sum_join : ∀ l : List Tx, sumL l ≤ (joinP l).length + 1
  | [] => by simp [sumL]
  | [a] => by rw [join_one]; simp only [sumL]; omega
  | a :: b :: r => by
    have ih := sum_join (b :: r)
    rw [join_cons2, List.length_append, List.length_cons]
    rw [show sumL (a :: b :: r) = a.length + 1 + sumL (b :: r) from rfl]; omega
theorem opt_ge (x y : Tx) : y.length ≤ sumL (optP x y) := by
  unfold optP
  split
  · rename_i e; simp [e]
  · simp only [sumL]; omega
theorem numV_lt (t : Tx) : 0 ≤ numV t ∧ numV t < 1000000000 := by
  unfold numV
  split
  · rename_i h
    simp only [isNum, Bool.and_eq_true, decide_eq_true_eq] at h
    obtain ⟨⟨⟨h1, h2⟩, _⟩, h4⟩ := h
    have hv := valL_lt h4
    have hp : 10 ^ t.length ≤ 10 ^ 9 := Nat.pow_le_pow_right (by omega) h2
    omega
  · omega
theorem idx_in (x : Tx) : ∀ (tbl : List Tx) (i : Int), 0 ≤ i → -1 ≤ idx tbl x i ∧ idx tbl x i ≤ i + tbl.length
  | [], i, _ => by simp only [idx, List.length_nil]; omega
  | t :: r, i, h => by
    have ih := idx_in x r (i + 1) (by omega)
    simp only [idx, List.length_cons]
    split
    · omega
    · omega
theorem rule_tot (T : List Tx) : totR (ruleP T).1 ≤ sumL (lineP (ruleP T).1) ∧ (-1 ≤ (ruleP T).1.n ∧ (ruleP T).1.n < 1000000000) ∧ (-1 ≤ (ruleP T).1.m ∧ (ruleP T).1.m < 1000000000) := by
  unfold ruleP
  generalize choiceP T kindT ⟨0, false⟩ = c
  obtain ⟨kd, s⟩ := c
  unfold bodyP
  simp only
  split
  · unfold roleP
    split
    · simp only [lineP, totR, sumL, List.length_nil]
      refine ⟨?_, by omega, by omega⟩
      simp only [if_true]
      split
      · rename_i e; simp only [e, sumL]; omega
      · simp only [sumL]; omega
    · simp only [lineP, totR, sumL, List.length_nil]
      refine ⟨?_, by omega, by omega⟩
      simp only [if_true, sumL]; omega
  · rename_i h1
    split
    · rename_i h2
      simp only [userP, lineP, totR, sumL, List.length_nil]
      refine ⟨?_, by omega, by omega⟩
      simp only [h1, h2, if_false, if_true, sumL]; omega
    · rename_i h2
      split
      · rename_i h3
        have hb := numV_lt (pk T s)
        simp only [ssdP, numberP, lineP, totR, sumL, List.length_nil]
        refine ⟨?_, by omega, by omega⟩
        simp only [h1, h2, h3, if_false, if_true, sumL]; omega
      · rename_i h3
        split
        · simp only [exclP, lineP, totR, sumL, List.length_nil]
          refine ⟨?_, by omega, by omega⟩
          simp only [show ¬ (6 : Int) = 1 by decide, show ¬ ((6 : Int) = 2 ∨ (6 : Int) = 3) by decide, show ¬ ((6 : Int) = 4 ∨ (6 : Int) = 5) by decide, if_false, if_true]; omega
        · split
          · have hb := numV_lt (pk T (nameP T s).2)
            have hc := numV_lt (pk T (numberP T (nameP T s).2).2)
            simp only [lendP, numberP, lineP, totR, sumL, List.length_nil] at hb hc ⊢
            refine ⟨?_, by omega, by omega⟩
            simp only [show ¬ (7 : Int) = 1 by decide, show ¬ ((7 : Int) = 2 ∨ (7 : Int) = 3) by decide, show ¬ ((7 : Int) = 4 ∨ (7 : Int) = 5) by decide, show ¬ (7 : Int) = 6 by decide, if_false, if_true, sumL]; omega
          · split
            · have hb := idx_in (pk T (nameP T s).2) stateT 0 (by omega)
              have hl : stateT.length = 5 := rfl
              simp only [stateP, choiceP, lineP, totR, sumL, List.length_nil] at hb ⊢
              have ho := opt_ge [105, 110] (optionP T [105, 110] (tk (decide (0 < idx stateT (pk T (nameP T s).2) 0)) (nameP T s).2)).1
              refine ⟨?_, by omega, by omega⟩
              simp only [show ¬ (8 : Int) = 1 by decide, show ¬ ((8 : Int) = 2 ∨ (8 : Int) = 3) by decide, show ¬ ((8 : Int) = 4 ∨ (8 : Int) = 5) by decide, show ¬ (8 : Int) = 6 by decide, show ¬ (8 : Int) = 7 by decide, if_false, if_true, sumL, List.cons_append, List.nil_append]; omega
            · split
              · simp only [onP, lineP, totR, sumL, List.length_nil]
                have h1 := opt_ge [98, 121] (optionP T [98, 121] (fromToP T (nameP T s).2).2.2).1
                have h2 := opt_ge [116, 97, 115, 107] (optionP T [116, 97, 115, 107] (optionP T [98, 121] (fromToP T (nameP T s).2).2.2).2).1
                refine ⟨?_, by omega, by omega⟩
                simp only [show ¬ (9 : Int) = 1 by decide, show ¬ ((9 : Int) = 2 ∨ (9 : Int) = 3) by decide, show ¬ ((9 : Int) = 4 ∨ (9 : Int) = 5) by decide, show ¬ (9 : Int) = 6 by decide, show ¬ (9 : Int) = 7 by decide, show ¬ (9 : Int) = 8 by decide, if_false, if_true, sumL, List.cons_append, List.nil_append, sum_app]; omega
              · split
                · simp only [autoP, lineP, totR, sumL, List.length_nil]
                  refine ⟨?_, by omega, by omega⟩
                  simp only [show ¬ (10 : Int) = 1 by decide, show ¬ ((10 : Int) = 2 ∨ (10 : Int) = 3) by decide, show ¬ ((10 : Int) = 4 ∨ (10 : Int) = 5) by decide, show ¬ (10 : Int) = 6 by decide, show ¬ (10 : Int) = 7 by decide, show ¬ (10 : Int) = 8 by decide, show ¬ (10 : Int) = 9 by decide, if_false, if_true, sumL]; omega
                · split
                  · have hb := numV_lt (pk T s)
                    simp only [afterP, numberP, lineP, totR, sumL, List.length_nil] at hb ⊢
                    refine ⟨?_, by omega, by omega⟩
                    simp only [show ¬ (11 : Int) = 1 by decide, show ¬ ((11 : Int) = 2 ∨ (11 : Int) = 3) by decide, show ¬ ((11 : Int) = 4 ∨ (11 : Int) = 5) by decide, show ¬ (11 : Int) = 6 by decide, show ¬ (11 : Int) = 7 by decide, show ¬ (11 : Int) = 8 by decide, show ¬ (11 : Int) = 9 by decide, show ¬ (11 : Int) = 10 by decide, if_false, if_true, sumL]; omega
                  · simp only [totR, sumL, List.length_nil]
                    exact ⟨by omega, by omega, by omega⟩
theorem parse_rule {L : Tx} {r : Ru} (h : parseL L = .ok r) : (ruleP (tx (wordsL L))).1 = r := by
  unfold parseL at h
  split at h
  · cases h
  split at h
  · cases h
  unfold parseW at h
  split at h
  · cases h
  split at h
  · cases h
  injection h
theorem small_of {r : Ru} (h : parseL (joinP (lineP r)) = .ok r) (hl : (joinP (lineP r)).length ≤ 8192) : Small r := by
  have hr := parse_rule h
  have ht := rule_tot (tx (wordsL (joinP (lineP r))))
  rw [hr] at ht
  have hs := sum_join (lineP r)
  exact ⟨by omega, by omega, by omega⟩
end Go.Proofs.YtnnmjmjbfeoggaaGreatDoor
