/-
  policy.Of.
-/
import Derived.Test.YtkgjcahcpeehjaaGreatDoorOkP
import Derived.Lib.SplitLaws
import Derived.Test.YtkgjcahcpeehjaaGreatDoorSameL
import Derived.OwnWalk
import Derived.Test.YtkgjcahcpeehjaaGreatDoorRuleEq
import Derived.Test.YtkgjcahcpeehjaaGreatDoorClone
import Derived.Deep.DeepMust
import Derived.Test.YtkgjcahcpeehjaaGreatDoorPlain06
namespace Go.Proofs.YtkgjcahcpeehjaaGreatDoor
set_option maxRecDepth 100000

/-- the lines of a text: what lies between its bytes 10 -/
def linesL : List UInt8 → List (List UInt8)
  | [] => [[]]
  | c :: r => if c = 10 then [] :: linesL r else match linesL r with
    | [] => [[c]]
    | a :: t => (c :: a) :: t
theorem lines_end (r : List UInt8) : linesL (10 :: r) = [] :: linesL r := by rw [linesL, if_pos rfl]
theorem lines_cons {c : UInt8} (hc : c ≠ 10) {r a : List UInt8} {t : List (List UInt8)} (h : linesL r = a :: t) : linesL (c :: r) = (c :: a) :: t := by
  rw [linesL, if_neg hc, h]
theorem lines_ne : ∀ l : List UInt8, ∃ a t, linesL l = a :: t
  | [] => ⟨_, _, rfl⟩
  | c :: r => by
    by_cases hc : c = 10
    · subst hc; exact ⟨_, _, lines_end r⟩
    · obtain ⟨a, t, h⟩ := lines_ne r
      exact ⟨_, _, lines_cons hc h⟩
theorem lines_more : ∀ a b : List UInt8, linesL (a ++ 10 :: b) = linesL a ++ linesL b
  | [], b => by rw [List.nil_append, lines_end]; rfl
  | c :: r, b => by
    have ih := lines_more r b
    by_cases hc : c = 10
    · subst hc; rw [List.cons_append, lines_end, lines_end, ih]; rfl
    · obtain ⟨a, t, h⟩ := lines_ne r
      rw [h] at ih
      rw [List.cons_append, lines_cons hc ih, lines_cons hc h]; rfl
theorem lines_plain : ∀ {l : List UInt8}, (∀ c ∈ l, c ≠ 10) → linesL l = [l]
  | [], _ => rfl
  | c :: r, h => by
    rw [lines_cons (h c List.mem_cons_self) (lines_plain fun x hx => h x (List.mem_cons_of_mem _ hx))]
theorem lines_len : ∀ l : List UInt8, (linesL l).length ≤ l.length + 1 ∧ ∀ x ∈ linesL l, x.length ≤ l.length
  | [] => ⟨by simp [linesL], by simp [linesL]⟩
  | c :: r => by
    obtain ⟨h1, h2⟩ := lines_len r
    by_cases hc : c = 10
    · subst hc
      rw [lines_end]
      exact ⟨by simp only [List.length_cons]; omega, fun x hx => by rcases List.mem_cons.1 hx with rfl | hx; · simp
                                                                    · have := h2 x hx; simp only [List.length_cons]; omega⟩
    · obtain ⟨a, t, h⟩ := lines_ne r
      rw [h] at h1 h2
      rw [lines_cons hc h]
      refine ⟨by simp only [List.length_cons] at h1 ⊢; omega, fun x hx => ?_⟩
      rcases List.mem_cons.1 hx with rfl | hx
      · have := h2 a List.mem_cons_self; simp only [List.length_cons]; omega
      · have := h2 x (List.mem_cons_of_mem _ hx); simp only [List.length_cons]; omega
/-- the library's cutting at byte 10 -/
theorem lines_split : ∀ s : List UInt8, Lib.splitK [10] 0 (Lib.count s [10]) s = linesL s
  | [] => by rw [Lib.count_miss (by simp [Lib.index])]; rfl
  | c :: r => by
    have ih := lines_split r
    by_cases hc : c = 10
    · subst hc
      rw [Lib.count_cons_eq, lines_end, ← ih, Nat.add_comm, Lib.splitK]
      have hix : Lib.index (10 :: r) [10] = 0 := by simp [Lib.index, List.isPrefixOf]
      rw [hix]; simp
    · have hp : ([10] : List UInt8).isPrefixOf (c :: r) = false := by simp [List.isPrefixOf, Ne.symm hc]
      have hix : Lib.index (c :: r) [10] = if Lib.index r [10] == -1 then -1 else Lib.index r [10] + 1 := by rw [Lib.index, hp]; simp
      rw [Lib.count_cons_ne c 10 r hc]
      by_cases hm : Lib.index r [10] = -1
      · rw [Lib.count_miss hm, Lib.splitK] at ih
        rw [Lib.count_miss hm, Lib.splitK, lines_cons hc ih.symm]
      · have hge := Lib.index_ge r [10]
        obtain ⟨j, hj⟩ : ∃ j : Nat, Lib.index r [10] = j := ⟨(Lib.index r [10]).toNat, by omega⟩
        rw [hj, if_neg (by simp)] at hix
        have hcount := Lib.count_hit (s := r) (sub := [10]) (by simp) hj
        generalize Lib.count (List.drop (j + ([10] : List UInt8).length) r) [10] = k at hcount
        rw [Nat.add_comm] at hcount
        rw [hcount, Lib.splitK, hj, if_neg (by simp)] at ih
        rw [hcount, Lib.splitK, hix, if_neg (by simp; omega), lines_cons hc ih.symm]
        simp [show ((j : Int) + 1).toNat = j + 1 by omega]

/-- what a text of rules is read as: what is wrong first, or the rules, each with its line's number -/
inductive PolR where
  | limit
  | bad (n c : Nat) (k : Int)
  | ok (l : List (Ru × Nat))
/-- the lines from the n-th on, some rules read -/
def polL : List (List UInt8) → Nat → List (Ru × Nat) → PolR
  | [], _, acc => .ok acc
  | t :: r, n, acc => match parseL t with
    | .bad c k => .bad n c k
    | .empty => polL r (n + 1) acc
    | .ok u => if acc.length = 160 then .bad n 1 5 else polL r (n + 1) (acc ++ [(u, n)])
theorem pol_end {ls : List (List UInt8)} {k n : Nat} {acc : List (Ru × Nat)} (h : ls.length ≤ k) : polL (ls.drop k) n acc = .ok acc := by
  rw [List.drop_of_length_le h]; rfl
theorem pol_bad {ls : List (List UInt8)} {k n : Nat} {acc : List (Ru × Nat)} (h : k < ls.length) {c : Nat} {d : Int} (hp : parseL ls[k] = .bad c d) : polL (ls.drop k) n acc = .bad n c d := by
  rw [List.drop_eq_getElem_cons h, polL, hp]
theorem pol_empty {ls : List (List UInt8)} {k n : Nat} {acc : List (Ru × Nat)} (h : k < ls.length) (hp : parseL ls[k] = .empty) : polL (ls.drop k) n acc = polL (ls.drop (k + 1)) (n + 1) acc := by
  rw [List.drop_eq_getElem_cons h, polL, hp]
theorem pol_full {ls : List (List UInt8)} {k n : Nat} {acc : List (Ru × Nat)} (h : k < ls.length) {u : Ru} (hp : parseL ls[k] = .ok u) (ha : acc.length = 160) : polL (ls.drop k) n acc = .bad n 1 5 := by
  rw [List.drop_eq_getElem_cons h, polL, hp]; simp [ha]
theorem pol_ok {ls : List (List UInt8)} {k n : Nat} {acc : List (Ru × Nat)} (h : k < ls.length) {u : Ru} (hp : parseL ls[k] = .ok u) (ha : acc.length ≠ 160) : polL (ls.drop k) n acc = polL (ls.drop (k + 1)) (n + 1) (acc ++ [(u, n)]) := by
  rw [List.drop_eq_getElem_cons h, polL, hp]; simp [ha]
end Go.Proofs.YtkgjcahcpeehjaaGreatDoor
namespace Go.Proofs.YtkgjcahcpeehjaaGreatDoor
set_option maxRecDepth 100000
open Go.RowKit

theorem parse_nil : parseL [] = .empty := by
  have h1 : badL [] = 0 := by decide +kernel
  have h2 : partL [] = [] := by decide +kernel
  unfold parseL
  rw [h1, if_neg (by omega)]
  unfold wordsL
  rw [h1, h2, toks_nil]; rfl
theorem parse_spaces (n : Nat) : parseL (blanks n) = .empty := by
  have h := parse_blanks n []
  rw [parse_nil, List.append_nil] at h
  exact h
def userLine : List UInt8 := [117, 115, 101, 114, 32, 117]
def roleLine : List UInt8 := [114, 111, 108, 101, 32, 97]
def wrongLine : List UInt8 := [119, 114, 111, 110, 103]
theorem parse_user : parseL userLine = .ok { kind := 2, name := [117] } :=
  parse_join (l := [[117, 115, 101, 114], [117]]) (by simp) (by decide) (by kernel_rfl) (by kernel_rfl)
theorem parse_role : parseL roleLine = .ok { kind := 1, name := [97] } :=
  parse_join (l := [[114, 111, 108, 101], [97]]) (by simp) (by decide) (by kernel_rfl) (by kernel_rfl)
theorem parse_wrong1 : parseL wrongLine = .bad 1 2 := by
  obtain ⟨h1, h2⟩ := words_join (l := [wrongLine]) (by decide)
  rw [join_one] at h1 h2
  unfold parseL
  rw [h1, h2]; kernel_rfl

/-- so many lines of a user -/
def usersT : Nat → List UInt8
  | 0 => []
  | n + 1 => userLine ++ 10 :: usersT n
theorem users_snoc : ∀ n, usersT n ++ (userLine ++ [10]) = usersT (n + 1)
  | 0 => rfl
  | n + 1 => by
    have ih := users_snoc n
    rw [usersT, List.append_assoc, List.cons_append, ih]; rfl
theorem users_len : ∀ n, (usersT n).length = 7 * n
  | 0 => rfl
  | n + 1 => by rw [usersT]; simp [users_len n, userLine]; omega
theorem users_lines : ∀ n, linesL (usersT n) = List.replicate n userLine ++ [[]]
  | 0 => rfl
  | n + 1 => by
    rw [usersT, lines_more, users_lines n, lines_plain (by decide), List.replicate_succ]; rfl
theorem pol_nil (n : Nat) (acc : List (Ru × Nat)) : polL [[]] n acc = .ok acc := by
  rw [polL, parse_nil]; rfl
theorem pol_users : ∀ (n k : Nat) (acc : List (Ru × Nat)), acc.length = k → k ≤ 160 →
    (k + n ≤ 160 → ∃ l, polL (List.replicate n userLine ++ [[]]) (k + 1) acc = .ok l ∧ l.length = k + n) ∧ (160 < k + n → polL (List.replicate n userLine ++ [[]]) (k + 1) acc = .bad 161 1 5)
  | 0, k, acc, h, hk => ⟨fun _ => ⟨acc, pol_nil _ _, h⟩, fun h => by omega⟩
  | n + 1, k, acc, h, hk => by
    by_cases h160 : k = 160
    · subst h160
      refine ⟨fun h => by omega, fun _ => ?_⟩
      rw [List.replicate_succ, List.cons_append, polL, parse_user]
      simp [h]
    · obtain ⟨h1, h2⟩ := pol_users n (k + 1) (acc ++ [({ kind := 2, name := [117] }, k + 1)]) (by simp [h]) (by omega)
      rw [List.replicate_succ, List.cons_append, polL, parse_user]
      simp only [h, h160, if_false]
      exact ⟨fun h3 => by obtain ⟨l, h4, h5⟩ := h1 (by omega); exact ⟨l, h4, by omega⟩, fun h3 => h2 (by omega)⟩
/-- what a text is read as -/
def polT (s : List UInt8) : PolR := if 4096 < s.length then .limit else polL (linesL s) 1 []
theorem polT_some {n : Nat} (h : n ≤ 160) : ∃ l, polT (usersT n) = .ok l ∧ l.length = n := by
  have hl := users_len n
  obtain ⟨l, h1, h2⟩ := (pol_users n 0 [] rfl (by omega)).1 (by omega)
  refine ⟨l, ?_, by omega⟩
  unfold polT
  rw [if_neg (by omega), users_lines]
  exact h1
theorem polT_more {n : Nat} (h : 160 < n) (h2 : n ≤ 200) : polT (usersT n) = .bad 161 1 5 := by
  have hl := users_len n
  unfold polT
  rw [if_neg (by omega), users_lines]
  exact (pol_users n 0 [] rfl (by omega)).2 (by omega)
theorem polT_blanks {m : Nat} (h : m ≤ 4096) : polT (blanks m) = .ok [] := by
  unfold polT
  rw [if_neg (by simp [blanks]; omega), lines_plain (by intro c hc; simp [blanks] at hc; rw [hc.2]; decide), polL, parse_spaces]
  rfl
theorem polT_limit {m : Nat} (h : 4096 < m) : polT (blanks m) = .limit := by
  unfold polT
  rw [if_pos (by simp [blanks]; omega)]
theorem polT_nil : polT [] = .ok [] := polT_blanks (m := 0) (by omega)
theorem polT_role : polT (roleLine ++ [10]) = .ok [({ kind := 1, name := [97] }, 1)] := by
  unfold polT
  rw [if_neg (by decide), show linesL (roleLine ++ [10]) = [roleLine, []] by decide +kernel, polL, parse_role]
  exact pol_nil _ _

/-- so many lines, wrong from one of them on -/
def tailT (a : Nat) : Nat → List UInt8
  | 0 => []
  | i + 1 => tailT a i ++ (if a ≤ i then wrongLine ++ [10] else [10])
theorem tail_len (a : Nat) : ∀ i, (tailT a i).length ≤ 6 * i
  | 0 => by simp [tailT]
  | i + 1 => by
    have := tail_len a i
    rw [tailT, List.length_append]
    split
    · simp [wrongLine]; omega
    · simp; omega
theorem tail_low (a : Nat) : ∀ i, i ≤ a → tailT a i = List.replicate i 10
  | 0, _ => rfl
  | i + 1, h => by rw [tailT, tail_low a i (by omega), if_neg (by omega), List.replicate_succ']
theorem tail_high (a : Nat) : ∀ d, ∃ r, tailT a (a + d + 1) = List.replicate a 10 ++ (wrongLine ++ 10 :: r)
  | 0 => ⟨[], by rw [Nat.add_zero, tailT, tail_low a a (Nat.le_refl _), if_pos (Nat.le_refl _)]⟩
  | d + 1 => by
    obtain ⟨r, h⟩ := tail_high a d
    exact ⟨r ++ (wrongLine ++ [10]), by rw [tailT, if_pos (by omega), show a + (d + 1) = a + d + 1 by omega, h]; simp⟩
theorem lines_ends (x : List UInt8) : ∀ n, linesL (List.replicate n 10 ++ x) = List.replicate n [] ++ linesL x
  | 0 => rfl
  | n + 1 => by rw [List.replicate_succ, List.cons_append, lines_end, lines_ends x n]; rfl
theorem pol_ends (r : List (List UInt8)) : ∀ n k, polL (List.replicate n [] ++ wrongLine :: r) k [] = .bad (k + n) 1 2
  | 0, k => by rw [List.replicate_zero, List.nil_append, polL, parse_wrong1]; rfl
  | n + 1, k => by
    rw [List.replicate_succ, List.cons_append, polL, parse_nil, show k + (n + 1) = k + 1 + n by omega]
    exact pol_ends r n (k + 1)
theorem polT_tail {a : Nat} (h : a < 20) : polT (tailT a 20) = .bad (a + 1) 1 2 := by
  have hl := tail_len a 20
  obtain ⟨r, e⟩ := tail_high a (19 - a)
  rw [show a + (19 - a) + 1 = 20 by omega] at e
  unfold polT
  rw [if_neg (by omega), e, lines_ends, lines_more, lines_plain (by decide), Nat.add_comm]
  exact pol_ends (linesL r) a 1
end Go.Proofs.YtkgjcahcpeehjaaGreatDoor
namespace Go.Proofs.YtkgjcahcpeehjaaGreatDoor
set_option maxRecDepth 100000
open Go.ChangeShapes Go.WideShapes Go.ChangeAt Go.RowKit

/-- a rule, its line, its list's slice -/
abbrev RL := Ru × Nat × Value
def er (x : RL) : Ru × Nat := (x.1, x.2.1)
def rcell (x : RL) : List Value := [.int .i64 x.1.kind, .string (bs x.1.name), x.2.2, .int .i64 x.1.n, .int .i64 x.1.m, .string (bs x.1.from_), .string (bs x.1.to_), .string (bs x.1.by_), .string (bs x.1.task), .string (bs x.1.in_), .int .i64 x.2.1]
def rcells (l : List RL) : List Value := l.flatMap rcell
theorem rcells_snoc (l : List RL) (x : RL) : rcells (l ++ [x]) = rcells l ++ rcell x := by simp [rcells]
/-- rules in memory of the call's own -/
def RowsAt (w : World) (base : Nat) (v : Value) (acc : List RL) : Prop := w.ownsRow base 24 11 v acc.length (rcells acc) ∧ ∀ x ∈ acc, OwnL w base x.2.2 x.1.list
theorem own_base {w : World} {base base' e size n : Nat} {v : Value} {xs : List Value} (h : w.ownsRow base e size v n xs) (hb : base' ≤ base) : w.ownsRow base' e size v n xs := by
  obtain ⟨h1, h2⟩ := h
  refine ⟨h1, ?_⟩
  rcases h2 with h2 | ⟨g, cap, cur, h3, h4, h5⟩
  · exact .inl h2
  · exact .inr ⟨g, cap, cur, h3, Nat.le_trans hb h4, h5⟩
theorem RowsAt.below {w w' : World} {base : Nat} {v : Value} {acc : List RL} (h : RowsAt w base v acc) (hb : Below w.heap.size w w') (hB : base ≤ w.heap.size) : RowsAt w' base v acc :=
  ⟨own_below h.1 hb hB, fun x hx => own_below (h.2 x hx) hb hB⟩
theorem RowsAt.base {w : World} {base base' : Nat} {v : Value} {acc : List RL} (h : RowsAt w base v acc) (hB : base' ≤ base) : RowsAt w base' v acc :=
  ⟨own_base h.1 hB, fun x hx => own_base (h.2 x hx) hB⟩
theorem rows_nil (w : World) (base : Nat) : RowsAt w base (.slice none 0 0) [] := ⟨World.ownsRow_nil _ _ _ _, fun _ h => by cases h⟩
/-- a list of texts does not lie where rules lie -/
theorem own_apart {w : World} {base base' n : Nat} {L v : Value} {l : List Tx} {xs : List Value} (h : OwnL w base L l) (h' : w.ownsRow base' 24 11 v n xs) : L.ownBlock = none ∨ L.ownBlock ≠ v.ownBlock := by
  rcases h.2 with ⟨hv, _⟩ | ⟨g, cap, cur, hv, _, hg, _⟩
  · left; rw [hv]; rfl
  · right
    rcases h'.2 with ⟨hv', _⟩ | ⟨g', cap', cur', hv', _, hg', _⟩
    · rw [hv, hv']; simp [Value.ownBlock]
    · rw [hv, hv']
      intro e
      have e2 : g = g' := by simpa [Value.ownBlock] using e
      subst e2
      rw [hg] at hg'
      simp at hg'

theorem Tryz.infoRule : (Tryz.prog.info? 24).map (fun i => (i.zero, i.size, i.bytes)) = some (some (.agg #[.int .i64 0, .string ⟨#[]⟩, .slice none 0 0, .int .i64 0, .int .i64 0, .string ⟨#[]⟩, .string ⟨#[]⟩, .string ⟨#[]⟩, .string ⟨#[]⟩, .string ⟨#[]⟩, .int .i64 0]), 11, 152) := by kernel_rfl
end Go.Proofs.YtkgjcahcpeehjaaGreatDoor
namespace Go.Proofs.YtkgjcahcpeehjaaGreatDoor
set_option maxRecDepth 100000
open Go.ChangeShapes Go.WideShapes Go.ChangeAt Go.RowKit

/-- integers in a block's cells, from its first on -/
def KAt (w : World) (A : Option Addr) (ks : List Int) : Prop := ∀ j (h : j < ks.length), ∃ b, A = some ⟨b, 0, none⟩ ∧ b < w.heap.size ∧ w.cell? ⟨b, j, none⟩ = some (.int .i64 ks[j])
theorem KAt.below {w w' : World} {A : Option Addr} {ks : List Int} (h : KAt w A ks) (hb : Below w.heap.size w w') : KAt w' A ks := fun j hj =>
  let ⟨b, e, hl, hc⟩ := h j hj
  ⟨b, e, Nat.lt_of_lt_of_le hl hb.size, (hb.cell (p := ⟨b, j, none⟩) hl).trans hc⟩
def IdxTo (ks : List Int) (x : Int) (w : World) (e : Ending) (w' : World) : Prop := ∃ r : Int, e = .returned (.int .i64 r) ∧ decide (0 ≤ r) = decide (x ∈ ks) ∧ w = w'
theorem idxTo_mk {ks : List Int} {x r : Int} {w : World} (h : decide (0 ≤ r) = decide (x ∈ ks)) : IdxTo ks x w (.returned (.int .i64 r)) w := ⟨r, rfl, h, rfl⟩
set_option maxHeartbeats 1000000 in
theorem IndexI_any (ks : List Int) (x : Int) (A : Option Addr) (c : Nat) (w : World) (h : KAt w A ks) (hl : ks.length ≤ 1000000) (_hc : ks.length ≤ c) :
    Calls Tryz.prog 129 #[.slice A ks.length c, .int .i64 x] w (IdxTo ks x w) := by
  go_enter Tryz.func129, Tryz.ntmps129
  go_wp2
  go_loop [5, 8] (fun _ i => ∃ k : Nat, k ≤ ks.length ∧ i = .int .i64 k ∧ Hid (x ∉ ks.take k)) (fun _ i => ks.length - (intOf i).toNat)
  case atStart => exact ⟨0, Nat.zero_le _, rfl, by show ¬ _; simp⟩
  case round =>
    obtain ⟨k, hk, rfl, HI⟩ := hrel
    by_cases hlt : k < ks.length
    · obtain ⟨b, rfl, _, hx⟩ := h k hlt
      have hsn : ks.take (k + 1) = ks.take k ++ [ks[k]] := by rw [List.take_succ_eq_append_getElem hlt]
      have hme : ks[k] ∈ ks := List.getElem_mem hlt
      clear h
      by_cases he : x = ks[k]
      · have HM : Hid (x ∈ ks) := by show _; rw [he]; exact hme
        have hb : (x == ks[k]) = true := by simp [he]
        clear he hme hsn
        go_wp2
        go_ret
        exact idxTo_mk (by simp [show x ∈ ks from HM])
      · have HT : Hid (x ∉ ks.take (k + 1)) := by
          show ¬ _
          rw [hsn, List.mem_append]
          exact fun hh => hh.elim HI.out (fun h => he (List.mem_singleton.1 h))
        have hb : (x == ks[k]) = false := by simp [he]
        clear he hme hsn
        go_wp2
        go_round
        case rel => exact ⟨k + 1, by omega, by go_num, HT⟩
        case measure => simp [intOf]; omega
    · have HT : Hid (x ∉ ks) := by have := HI.out; rw [List.take_of_length_le (by omega)] at this; exact this
      clear h
      go_wp2
      go_ret
      exact idxTo_mk (by simp [show x ∉ ks from HT.out])
theorem Contains_any (ks : List Int) (x : Int) (A : Option Addr) (c : Nat) (w : World) (h : KAt w A ks) (hl : ks.length ≤ 1000000) (hc : ks.length ≤ c) :
    Calls Tryz.prog 63 #[.slice A ks.length c, .int .i64 x] w fun e w' => e = .returned (.bool (decide (x ∈ ks))) ∧ w = w' := by
  have HI := Lib.hid (IndexI_any ks x A c w h hl hc)
  clear h
  go_enter Tryz.func63, Tryz.ntmps63
  go_wp2_with (go_at_call 129; refine HI.out.mono ?_; rintro e w1 ⟨r, rfl, hr, rfl⟩; have HR := Lib.hid hr; clear hr)
  go_ret
  exact ⟨ret_bool HR.out, rfl⟩
/-! ### rules in cells -/
theorem rcell_len (x : RL) : (rcell x).length = 11 := rfl
theorem rcells_at : ∀ (acc : List RL) (j f : Nat) (h : j < acc.length), f < 11 → (rcells acc)[j * 11 + f]? = (rcell acc[j])[f]?
  | x :: r, 0, f, _, hf => by
    show (rcell x ++ rcells r)[_]? = _
    rw [List.getElem?_append_left (by rw [rcell_len]; omega)]; simp
  | x :: r, j + 1, f, h, hf => by
    show (rcell x ++ rcells r)[_]? = _
    rw [List.getElem?_append_right (by rw [rcell_len]; omega), rcell_len, show (j + 1) * 11 + f - 11 = j * 11 + f by omega]
    exact rcells_at r j f (by simpa using h) hf
/-- rules that can be read -/
def RIn (w : World) (A : Option Addr) (acc : List RL) : Prop := ∀ j (h : j < acc.length), ∃ g, A = some ⟨g, 0, none⟩ ∧ g < w.heap.size ∧ (∀ f u, f < 11 → (rcell acc[j])[f]? = some u → w.cell? ⟨g, j * 11 + f, none⟩ = some u) ∧
  ∃ B c, acc[j].2.2 = .slice B acc[j].1.list.length c ∧ ListAt w B c acc[j].1.list
theorem RIn.below {w w' : World} {A : Option Addr} {acc : List RL} (h : RIn w A acc) (hb : Below w.heap.size w w') : RIn w' A acc := fun j hj =>
  let ⟨g, e, hl, hc, B, c, e2, hL⟩ := h j hj
  ⟨g, e, Nat.lt_of_lt_of_le hl hb.size, fun f u hf hu => (hb.cell (p := ⟨g, j * 11 + f, none⟩) hl).trans (hc f u hf hu), B, c, e2, hL.below hb⟩
theorem rIn_of {w : World} {base cap : Nat} {A : Option Addr} {acc : List RL} (h : RowsAt w base (.slice A acc.length cap) acc) : RIn w A acc := fun j hj => by
  obtain ⟨g, cap', e, _, hl, _, hc⟩ := own_form h.1 (by omega)
  have eA : A = some ⟨g, 0, none⟩ := by injection e
  obtain ⟨B, c, e2⟩ := own_slice (h.2 acc[j] (List.getElem_mem hj))
  refine ⟨g, eA, hl, fun f u hf hu => hc _ _ (by rw [rcells_at acc j f hj hf]; exact hu), B, c, e2, ?_⟩
  have ho := h.2 acc[j] (List.getElem_mem hj)
  rw [e2] at ho
  exact listAt_of ho
end Go.Proofs.YtkgjcahcpeehjaaGreatDoor
namespace Go.Proofs.YtkgjcahcpeehjaaGreatDoor
set_option maxRecDepth 100000
open Go.ChangeShapes Go.WideShapes Go.ChangeAt Go.RowKit

theorem pol_all (ls : List Tx) : (∀ t ∈ ls, t.length ≤ 4096) → ∀ (n : Nat) (acc l : List (Ru × Nat)), (∀ x ∈ acc, RuOk x.1) → acc.length ≤ 160 → polL ls n acc = .ok l → (∀ x ∈ l, RuOk x.1) ∧ l.length ≤ 160 := by
  induction ls with
  | nil =>
    intro _ n acc l ha hl h
    rw [polL] at h
    cases h
    exact ⟨ha, hl⟩
  | cons t r ih =>
    intro hle n acc l ha hl h
    rw [polL] at h
    cases hp : parseL t with
    | bad c k => rw [hp] at h; cases h
    | empty => rw [hp] at h; exact ih (fun x hx => hle x (List.mem_cons_of_mem _ hx)) _ _ _ ha hl h
    | ok u =>
      rw [hp] at h
      simp only at h
      split at h
      · cases h
      · rename_i h160
        refine ih (fun x hx => hle x (List.mem_cons_of_mem _ hx)) _ _ _ ?_ (by simp; omega) h
        intro x hx
        rcases List.mem_append.1 hx with hx | hx
        · exact ha x hx
        · rw [List.mem_singleton.1 hx]; exact ru_ok hp (hle t List.mem_cons_self)
theorem polT_all {s : List UInt8} {l : List (Ru × Nat)} (h : polT s = .ok l) : (∀ x ∈ l, RuOk x.1) ∧ l.length ≤ 160 := by
  unfold polT at h
  split at h
  · cases h
  · rename_i hs
    exact pol_all _ (fun t ht => by have := (lines_len s).2 t ht; omega) 1 [] l (fun x hx => by cases hx) (by simp) h

def kindIn (ks : List Int) (x : Ru × Nat) : Bool := decide (x.1.kind ∈ ks)
def OfTo (ks : List Int) (l : List (Ru × Nat)) (w : World) (e : Ending) (w' : World) : Prop := ∃ v acc, e = .returned v ∧ acc.map er = l.filter (kindIn ks) ∧ RowsAt w' w.heap.size v acc ∧ Below w.heap.size w w'
theorem ofTo_mk {ks : List Int} {l : List (Ru × Nat)} {w w' : World} {v : Value} {acc : List RL} (h1 : acc.map er = l.filter (kindIn ks)) (h2 : RowsAt w' w.heap.size v acc) (h3 : Below w.heap.size w w') : OfTo ks l w (.returned v) w' := ⟨v, acc, rfl, h1, h2, h3⟩
set_option maxHeartbeats 4000000 in
theorem Of_any6 (acc : List RL) (A : Option Addr) (cap : Nat) (ks : List Int) (KA : Option Addr) (kc : Nat) (w : World) (hR : RIn w A acc) (hK : KAt w KA ks) (hk : ks.length ≤ 1000) (hkc : ks.length ≤ kc) (ha : acc.length ≤ 1000) (_hac : acc.length ≤ cap) (hll : ∀ x ∈ acc, x.1.list.length ≤ 1000000) :
    Calls Tryz.prog 23 #[.slice A acc.length cap, .slice KA ks.length kc] w (OfTo ks (acc.map er) w) := by
  have HR := Lib.hid hR
  have HK := Lib.hid hK
  have HLL := Lib.hid hll
  clear hR hK hll
  obtain ⟨i0, hi, hz0, hz1, hz2⟩ := info_parts Tryz.infoRule
  go_enter Tryz.func23, Tryz.ntmps23
  go_upto_region 3 with fail
  go_loopw [5, 10] (fun l i wr => ∃ (k : Nat) (out : List RL), k ≤ acc.length ∧ i = .int .i64 k ∧ out.length ≤ k ∧ Hid (out.map er = ((acc.take k).map er).filter (kindIn ks)) ∧ Hid (RowsAt wr w.heap.size l out) ∧ Below w.heap.size w wr) (fun _ i _ => acc.length - (intOf i).toNat)
  case atStart => exact ⟨0, [], Nat.zero_le _, rfl, Nat.zero_le _, rfl, rows_nil _ _, Below.refl _ _⟩
  case round =>
    obtain ⟨k, out, hkk, rfl, hol, HO, HW, hbw⟩ := hrel
    by_cases hlt : k < acc.length
    · obtain ⟨g, rfl, hgl, hc, B, c, e2, hL⟩ := HR.out k hlt
      have hllk := HLL.out _ (List.getElem_mem hlt)
      have hsn : acc.take (k + 1) = acc.take k ++ [acc[k]] := by rw [List.take_succ_eq_append_getElem hlt]
      have HSN := Lib.hid hsn
      clear hsn
      have hbz := hbw.size
      have hL := hL.below hbw
      have q := fun f u hf hu => (hbw.cell (p := ⟨g, k * 11 + f, none⟩) hgl).trans (hc f u hf hu)
      clear hc
      generalize acc[k] = x at *
      obtain ⟨⟨kd, nm, l, rn, rm, rf, rt, rb, ra, ri⟩, ln, L⟩ := x
      obtain rfl : L = .slice B l.length c := e2
      simp only at hL hllk
      have q0 := q 0 _ (by omega) rfl; have q1 := q 1 _ (by omega) rfl; have q2 := q 2 _ (by omega) rfl; have q3 := q 3 _ (by omega) rfl; have q4 := q 4 _ (by omega) rfl; have q5 := q 5 _ (by omega) rfl; have q6 := q 6 _ (by omega) rfl; have q7 := q 7 _ (by omega) rfl; have q8 := q 8 _ (by omega) rfl; have q9 := q 9 _ (by omega) rfl; have q10 := q 10 _ (by omega) rfl
      simp only [Nat.add_zero] at q0
      clear q
      go_upto_region 5 with fail
      have RA : (wr.alloc (.cells #[.int .i64 kd, .string (bs nm), .slice B l.length c, .int .i64 rn, .int .i64 rm, .string (bs rf), .string (bs rt), .string (bs rb), .string (bs ra), .string (bs ri), .int .i64 ln] 24)).heap[wr.heap.size]? = some (.cells #[.int .i64 kd, .string (bs nm), .slice B l.length c, .int .i64 rn, .int .i64 rm, .string (bs rf), .string (bs rt), .string (bs rb), .string (bs ra), .string (bs ri), .int .i64 ln] 24 (0, 0)) := heap_alloc_new _ _
      have hb1 : Below wr.heap.size wr (wr.alloc (.cells #[.int .i64 kd, .string (bs nm), .slice B l.length c, .int .i64 rn, .int .i64 rm, .string (bs rf), .string (bs rt), .string (bs rb), .string (bs ra), .string (bs ri), .int .i64 ln] 24)) := (Below.refl _ _).alloc (Nat.le_refl _) _
      have hL1 := hL.below hb1
      have hK1 := HK.out.below (hbw.trans (hb1.mono hbz))
      have hs1 : (wr.alloc (.cells #[.int .i64 kd, .string (bs nm), .slice B l.length c, .int .i64 rn, .int .i64 rm, .string (bs rf), .string (bs rt), .string (bs rb), .string (bs ra), .string (bs ri), .int .i64 ln] 24)).heap.size = wr.heap.size + 1 := by simp
      generalize hw1 : wr.alloc (.cells #[.int .i64 kd, .string (bs nm), .slice B l.length c, .int .i64 rn, .int .i64 rm, .string (bs rf), .string (bs rt), .string (bs rb), .string (bs ra), .string (bs ri), .int .i64 ln] 24) = w1 at *
      clear hw1 q0 q1 q2 q3 q4 q5 q6 q7 q8 q9 q10 hL
      have HC := Lib.hid (Contains_any ks kd KA kc w1 hK1 (by omega) hkc)
      have HCL := Lib.hid (Clone_any l B c w1 hL1 (by omega))
      clear hK1 hL1
      have y0 := row_q0 RA
      by_cases hm : kd ∈ ks
      · have HE : Hid ((out ++ [((⟨kd, nm, l, rn, rm, rf, rt, rb, ra, ri⟩ : Ru), ln, Value.slice B l.length c)]).map er = ((acc.take (k + 1)).map er).filter (kindIn ks)) := by
          show _ = _
          rw [HSN.out, List.map_append, List.map_append, List.filter_append, HO.out]
          simp [kindIn, er, hm]
        rw [decide_eq_true hm] at HC
        clear hm HO HSN
        have y2 := row_q2 RA
        have f2 := row_fz RA 2
        go_upto_region 7 with (first
          | (go_at_call 63; refine HC.out.mono ?_; rintro e w2 ⟨rfl, rfl⟩)
          | (go_at_call 64; refine HCL.out.mono ?_; rintro e w2 ⟨v2, rfl, ho2, hb2⟩; obtain ⟨B2, c2, rfl⟩ := own_slice ho2; have RA2 := row_below RA hb2; have y2 := row_q2 RA2; have f2 := row_fz RA2 2))
        have hbs2 := hb2.size
        have R3 : (w2.setCell ⟨wr.heap.size, 2, none⟩ (.slice B2 l.length c2)).heap[wr.heap.size]? = some (.cells #[.int .i64 kd, .string (bs nm), .slice B2 l.length c2, .int .i64 rn, .int .i64 rm, .string (bs rf), .string (bs rt), .string (bs rb), .string (bs ra), .string (bs ri), .int .i64 ln] 24 (0, 0)) := by
          have h := heap_set (j := 2) RA2 (.slice B2 l.length c2)
          simpa using h
        have hg3 : w2.grownBy (w2.setCell ⟨wr.heap.size, 2, none⟩ (.slice B2 l.length c2)) (some wr.heap.size) := grown_setCell _ _ _ _
        have hb3 : Below wr.heap.size wr (w2.setCell ⟨wr.heap.size, 2, none⟩ (.slice B2 l.length c2)) := (below_then hb1 hb2 (by omega)).grown hg3 (by omega) (fun j hj => by cases hj; exact Nat.le_refl _)
        have HL3 : Hid (OwnL (w2.setCell ⟨wr.heap.size, 2, none⟩ (.slice B2 l.length c2)) w.heap.size (.slice B2 l.length c2) l) := own_base (World.ownsRow.kept ho2 hg3 (own_ne ho2 (by omega))) (by omega)
        have HW3 := Lib.hid (HW.out.below hb3 hbz)
        have hb4 := below_then hbw hb3 hbz
        generalize hw3 : w2.setCell ⟨wr.heap.size, 2, none⟩ (.slice B2 l.length c2) = w3 at *
        clear hw3 RA RA2 y0 y2 f2 hb2 ho2 hg3 HW HC HCL hb1 hb3
        obtain ⟨A0, cap0, rfl⟩ := own_slice HW3.out.1
        have p0 := row_q0 R3; have p1 := row_q1 R3; have p2 := row_q2 R3; have p3 := row_q3 R3; have p4 := row_q4 R3; have p5 := row_q5 R3; have p6 := row_q6 R3; have p7 := row_q7 R3; have p8 := row_q8 R3; have p9 := row_q9 R3; have p10 := row_q10 R3
        clear R3
        go_wp2_with (at_builtin; go_must (refine wpList_append_own _ rfl (.tmp 22) (.tmp 24) 36 rfl w.heap.size 24 i0 _ 11 152 Tryz.underlying36 hi hz0 hz1 hz2 rfl (by decide) _ _ _ rfl (HW3.out.1.alloc _) ⟨w3.heap.size, 0, none⟩ 1 1 [.int .i64 kd, .string (bs nm), .slice B2 l.length c2, .int .i64 rn, .int .i64 rm, .string (bs rf), .string (bs rt), .string (bs rb), .string (bs ra), .string (bs ri), .int .i64 ln] rfl rfl (cells_new _ _ _) (by intro u hu; simp at hu; rcases hu with rfl | rfl | rfl | rfl | rfl | rfl | rfl | rfl | rfl | rfl | rfl <;> rfl) (by unfold maxLen; omega) (by omega) (by have := hb4.size; simp; omega) ?_); intro v' w4 hown' hg' _)
        have hg2 : (w3.alloc (.cells #[.int .i64 kd, .string (bs nm), .slice B2 l.length c2, .int .i64 rn, .int .i64 rm, .string (bs rf), .string (bs rt), .string (bs rb), .string (bs ra), .string (bs ri), .int .i64 ln] 24)).grownBy w4 (Value.slice A0 out.length cap0).ownBlock := hg'
        have hb5 : Below w.heap.size w w4 := (hb4.alloc hb4.size _).grown hg2 (by have := hb4.size; simp; omega) (fun g hg => (HW3.out.1.lt g hg).1)
        clear hg'
        have HN : Hid (RowsAt w4 w.heap.size v' (out ++ [((⟨kd, nm, l, rn, rm, rf, rt, rb, ra, ri⟩ : Ru), ln, Value.slice B2 l.length c2)])) := by
          have hB : Below w3.heap.size w3 (w3.alloc (.cells #[.int .i64 kd, .string (bs nm), .slice B2 l.length c2, .int .i64 rn, .int .i64 rm, .string (bs rf), .string (bs rt), .string (bs rb), .string (bs ra), .string (bs ri), .int .i64 ln] 24)) := (Below.refl _ _).alloc (Nat.le_refl _) _
          have hba := hb4.size
          have hO := own_below HW3.out.1 hB hba
          refine ⟨?_, fun x hx => ?_⟩
          · rw [rcells_snoc, List.length_append]
            exact hown'
          · have hxo : OwnL w3 w.heap.size x.2.2 x.1.list := by
              rcases List.mem_append.1 hx with hx | hx
              · exact HW3.out.2 x hx
              · rw [List.mem_singleton.1 hx]; exact HL3.out
            exact (own_below hxo hB hba).kept hg2 (own_apart (own_below hxo hB hba) hO)
        clear hown' HW3 HL3
        go_roundw
        case rel => exact ⟨k + 1, _, by omega, by go_num, by simp; omega, (by show _ = _; rw [← HE.out]; simp [er]), HN.out, hb5⟩
        case measure => simp [intOf]; omega
      · have HE : Hid (out.map er = ((acc.take (k + 1)).map er).filter (kindIn ks)) := by
          show _ = _
          rw [HSN.out, List.map_append, List.filter_append, HO.out]
          simp [kindIn, er, hm]
        rw [decide_eq_false hm] at HC
        clear hm HO HSN
        go_wp2_with (go_at_call 63; refine HC.out.mono ?_; rintro e w2 ⟨rfl, rfl⟩)
        go_roundw
        case rel => exact ⟨k + 1, out, by omega, by go_num, by omega, HE.out, HW.out.below hb1 hbz, below_then hbw hb1 hbz⟩
        case measure => simp [intOf]; omega
    · have HE : Hid (out.map er = (acc.map er).filter (kindIn ks)) := by have := HO.out; rw [List.take_of_length_le (by omega)] at this; exact this
      clear HO
      go_wp2
      go_ret
      exact ofTo_mk HE.out HW.out hbw
theorem Of_any (acc : List RL) (A : Option Addr) (cap : Nat) (ks : List Int) (KA : Option Addr) (kc : Nat) (w : World) (hR : RIn w A acc) (hK : KAt w KA ks) (hk : ks.length ≤ 1000) (hkc : ks.length ≤ kc) (ha : acc.length ≤ 1000) (_hac : acc.length ≤ cap) (hll : ∀ x ∈ acc, x.1.list.length ≤ 4096) :
    Calls Tryz.prog 23 #[.slice A acc.length cap, .slice KA ks.length kc] w (OfTo ks (acc.map er) w) :=
  Of_any6 acc A cap ks KA kc w hR hK hk hkc ha _hac (fun x hx => Nat.le_trans (hll x hx) (by decide))
end Go.Proofs.YtkgjcahcpeehjaaGreatDoor
