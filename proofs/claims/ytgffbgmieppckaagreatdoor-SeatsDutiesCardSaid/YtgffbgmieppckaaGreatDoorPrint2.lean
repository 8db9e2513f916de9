import Derived.Test.YtgffbgmieppckaaGreatDoorParse
import Derived.Lib.Join
import Derived.Test.YtgffbgmieppckaaGreatDoorSplit
import Derived.Lib.SplitLaws
import Derived.Test.YtgffbgmieppckaaGreatDoorOwn
import Derived.OwnWalk
import Derived.Test.YtgffbgmieppckaaGreatDoorDT0
import Derived.Deep.DeepMust
namespace Go.Proofs.YtgffbgmieppckaaGreatDoor
set_option maxRecDepth 100000
def joinP (l : List Tx) : Tx := Lib.join l [32]
def gb (b : UInt8) : Bool := decide (33 ≤ b.toNat) && decide (b.toNat ≤ 126) && decide (b.toNat ≠ 35)
def gw (t : Tx) : Bool := !t.isEmpty && t.all gb
def OkL (l : Tx) : Prop := ∀ b ∈ l, 32 ≤ b.toNat ∧ b.toNat ≤ 126 ∧ b.toNat ≠ 35
def posn : List Tx → Nat → List (Nat × Tx)
  | [], _ => []
  | a :: r, c => (c, a) :: posn r (c + a.length + 1)
theorem tx_posn (l : List Tx) : ∀ c, tx (posn l c) = l := by
  induction l with
  | nil => intro c; rfl
  | cons a r ih => intro c; show a :: tx (posn r _) = _; rw [ih]
theorem posn_len (l : List Tx) (c : Nat) : (posn l c).length = l.length := by
  have := congrArg List.length (tx_posn l c); simpa [tx] using this
theorem posn_pos (l : List Tx) : ∀ c, 1 ≤ c → ∀ x ∈ posn l c, 1 ≤ x.1 := by
  induction l with
  | nil => intro c _ x hx; simp [posn] at hx
  | cons a r ih =>
    intro c hc x hx
    rw [posn, List.mem_cons] at hx
    rcases hx with rfl | hx
    · exact hc
    · exact ih _ (by omega) x hx
theorem gw_ne {t : Tx} (h : gw t = true) : t ≠ [] := by rintro rfl; simp [gw] at h
theorem gw_ok {t : Tx} (h : gw t = true) : OkL t := by
  intro b hb
  have := h
  simp only [gw, Bool.and_eq_true, List.all_eq_true] at this
  have := this.2 b hb
  simp [gb] at this; omega
theorem gw_no {t : Tx} (h : gw t = true) : ∀ b ∈ t, b ≠ 32 := by
  intro b hb e
  subst e
  have := h
  simp only [gw, Bool.and_eq_true, List.all_eq_true] at this
  have := this.2 _ hb
  simp [gb] at this
theorem word_self {a : Tx} (h : ∀ b ∈ a, b ≠ 32) (r : Tx) : word (a ++ 32 :: r) = a ∧ word a = a := by
  induction a with
  | nil => exact ⟨word_nil_blank r, rfl⟩
  | cons b a ih =>
    have hb : b ≠ 32 := h b (List.mem_cons_self ..)
    obtain ⟨i1, i2⟩ := ih fun x hx => h x (List.mem_cons_of_mem _ hx)
    exact ⟨by rw [List.cons_append, word_cons hb, i1], by rw [word_cons hb, i2]⟩
theorem join_cons2 (a b : Tx) (r : List Tx) : joinP (a :: b :: r) = a ++ 32 :: joinP (b :: r) := by
  simp [joinP, Lib.join]
theorem join_one (a : Tx) : joinP [a] = a := by simp [joinP, Lib.join]
theorem toks_join (l : List Tx) : (∀ t ∈ l, gw t = true) → ∀ c, toks (joinP l) c = posn l c := by
  induction l with
  | nil => intro _ c; exact toks_nil c
  | cons a r ih =>
    intro h c
    have ha := h a (List.mem_cons_self ..)
    have hr := ih fun t ht => h t (List.mem_cons_of_mem _ ht)
    cases r with
    | nil =>
      rw [join_one]
      have hw := (word_self (gw_no ha) []).2
      rw [toks_word (by rw [hw]; exact gw_ne ha), hw, List.drop_of_length_le (Nat.le_refl _), toks_nil]; rfl
    | cons b r =>
      rw [join_cons2]
      have hw := (word_self (gw_no ha) (joinP (b :: r))).1
      rw [toks_word (by rw [hw]; exact gw_ne ha), hw, List.drop_left, toks_blank, hr]; rfl
theorem ok_join (l : List Tx) : (∀ t ∈ l, gw t = true) → OkL (joinP l) := by
  induction l with
  | nil => intro _ b hb; simp [joinP, Lib.join] at hb
  | cons a r ih =>
    intro h
    have ha := gw_ok (h a (List.mem_cons_self ..))
    have hr := ih fun t ht => h t (List.mem_cons_of_mem _ ht)
    cases r with
    | nil => rw [join_one]; exact ha
    | cons b r =>
      rw [join_cons2]
      intro x hx
      rw [List.mem_append, List.mem_cons] at hx
      rcases hx with hx | rfl | hx
      · exact ha x hx
      · decide
      · exact hr x hx
theorem part_ok {l : Tx} (h : OkL l) : partL l = l := by
  unfold partL upTo
  induction l with
  | nil => rfl
  | cons b r ih =>
    have hb := (h b (List.mem_cons_self ..)).2.2
    have h1 : (b != 35) = true := by rw [bne_iff_ne]; rintro rfl; exact hb rfl
    rw [List.takeWhile_cons, if_pos h1, ih fun x hx => h x (List.mem_cons_of_mem _ hx)]
theorem badCol_ok (l : Tx) : OkL l → ∀ i, badCol l i = 0 := by
  induction l with
  | nil => intro _ i; rfl
  | cons b r ih =>
    intro h i
    have := h b (List.mem_cons_self ..)
    rw [badCol, if_neg (by omega)]
    exact ih (fun x hx => h x (List.mem_cons_of_mem _ hx)) _
theorem bad_ok {l : Tx} (h : OkL l) : badL l = 0 := by unfold badL; rw [part_ok h]; exact badCol_ok l h 0
theorem words_join {l : List Tx} (h : ∀ t ∈ l, gw t = true) : badL (joinP l) = 0 ∧ wordsL (joinP l) = posn l 1 := by
  have ho := ok_join l h
  exact ⟨bad_ok ho, by unfold wordsL; rw [if_pos (bad_ok ho), part_ok ho]; exact toks_join l h 1⟩
def dupT (seen : List Tx) : List Tx → Bool
  | [] => false
  | t :: r => decide (t ∈ seen) || dupT (seen ++ [t]) r
theorem again_dup (ws : List (Nat × Tx)) : (∀ x ∈ ws, 1 ≤ x.1) → ∀ seen, (0 < againP seen ws ↔ dupT seen (tx ws) = true) := by
  induction ws with
  | nil => intro _ seen; simp [againP, dupT, tx]
  | cons a r ih =>
    intro h seen
    obtain ⟨c, t⟩ := a
    have hc : 1 ≤ c := h (c, t) (List.mem_cons_self ..)
    have hr := ih (fun x hx => h x (List.mem_cons_of_mem _ hx)) (seen ++ [t])
    rw [againP, show tx ((c, t) :: r) = t :: tx r from rfl, dupT]
    by_cases hm : t ∈ seen
    · rw [if_pos hm]; simp [hm]; omega
    · rw [if_neg hm, hr]; simp [hm]
def listT (r : Ru) (T : List Tx) : List Tx := T.drop (T.length - r.list.length)
def wrongT (r : Ru) (T : List Tx) : Bool :=
  if r.kind = 1 then dupT [r.name] (listT r T)
  else if r.kind = 2 ∨ r.kind = 3 ∨ r.kind = 6 then dupT [] (listT r T)
  else if r.kind = 4 ∨ r.kind = 5 then decide (r.n < 2 ∨ (r.list.length : Int) < r.n) || dupT [] (listT r T)
  else if r.kind = 7 then decide (r.n = 0) || !timeP r.m
  else if r.kind = 11 then !timeP r.n
  else false
theorem tx_drop (ws : List (Nat × Tx)) (n : Nat) : tx (ws.drop n) = (tx ws).drop n := by simp [tx, List.map_drop]
theorem colAt_pos {ws : List (Nat × Tx)} (hp : ∀ x ∈ ws, 1 ≤ x.1) {j : Nat} (h : j < ws.length) : 0 < colAt ws j := by
  rw [colAt_eq h]; have := hp _ (List.getElem_mem h); omega
theorem wrong_T {r : Ru} {ws : List (Nat × Tx)} (hp : ∀ x ∈ ws, 1 ≤ x.1) (hF : Formed ws.length r) : (0 < wrongP r ws ↔ wrongT r (tx ws) = true) := by
  have hl : listT r (tx ws) = tx (listP r ws) := by unfold listT listP; rw [tx_drop, show (tx ws).length = ws.length by simp [tx]]
  have hpl : ∀ x ∈ listP r ws, 1 ≤ x.1 := fun x hx => hp x (List.mem_of_mem_drop hx)
  have hA := again_dup (listP r ws) hpl
  obtain ⟨_, hk, _⟩ := hF
  unfold wrongP wrongT
  rw [hl]
  by_cases h1 : r.kind = 1
  · rw [if_pos h1, if_pos h1]; exact hA _
  rw [if_neg h1, if_neg h1]
  by_cases h2 : r.kind = 2 ∨ r.kind = 3 ∨ r.kind = 6
  · rw [if_pos h2, if_pos h2]; exact hA _
  rw [if_neg h2, if_neg h2]
  by_cases h3 : r.kind = 4 ∨ r.kind = 5
  · rw [if_pos h3, if_pos h3]
    have h2 : 2 ≤ ws.length := by omega
    by_cases hn : r.n < 2 ∨ (r.list.length : Int) < r.n
    · rw [if_pos hn]; have := colAt_pos hp (show 1 < ws.length by omega); simp [hn]; omega
    · rw [if_neg hn, hA]; simp [hn]
  rw [if_neg h3, if_neg h3]
  by_cases h4 : r.kind = 7
  · rw [if_pos h4, if_pos h4]
    have h2 : 4 ≤ ws.length := by omega
    by_cases hn : r.n = 0
    · rw [if_pos hn]; have := colAt_pos hp (show 2 < ws.length by omega); simp [hn]; omega
    · rw [if_neg hn]
      by_cases ht : timeP r.m = false
      · rw [if_pos ht]; have := colAt_pos hp (show 3 < ws.length by omega); simp [ht]; omega
      · rw [if_neg ht]; simp [hn, eq_true_of_ne_false ht]
  rw [if_neg h4, if_neg h4]
  by_cases h5 : r.kind = 11
  · rw [if_pos h5, if_pos h5]
    have h2 : 2 ≤ ws.length := by omega
    by_cases ht : timeP r.n = false
    · rw [if_pos ht]; have := colAt_pos hp (show 1 < ws.length by omega); simp [ht]; omega
    · rw [if_neg ht]; simp [eq_true_of_ne_false ht]
  rw [if_neg h5, if_neg h5]; simp
theorem mis_end {ws : List (Nat × Tx)} {s : St} (hp : ∀ x ∈ ws, 1 ≤ x.1) (h1 : 0 < ws.length) : misP ws s = 0 ↔ (ws.length ≤ s.k ∧ s.m = false) := by
  refine ⟨mis_zero hp h1, fun ⟨a, b⟩ => ?_⟩
  unfold misP
  rw [if_neg (by omega), if_pos b]
theorem parse_join {l : List Tx} (hl : l ≠ []) (h : ∀ t ∈ l, gw t = true) {r : Ru} (hr : ruleP l = (r, ⟨l.length, false⟩)) (hw : wrongT r l = false) : parseL (joinP l) = .ok r := by
  obtain ⟨h1, h2⟩ := words_join h
  have ht := tx_posn l 1
  have hlen := posn_len l 1
  have hpos := posn_pos l 1 (Nat.le_refl _)
  have hF : Formed l.length r := by have := formed (T := l) (by rw [hr]) (by rw [hr]; exact Nat.le_refl _); rw [hr] at this; exact this
  unfold parseL
  rw [h1, h2, if_neg (by omega), if_neg (by intro e; rw [e] at hlen; exact hl (List.eq_nil_of_length_eq_zero hlen.symm))]
  have hm : misP (posn l 1) ⟨l.length, false⟩ = 0 := by unfold misP; rw [hlen, if_neg (by simp), if_pos rfl]
  have hwr : ¬ 0 < wrongP r (posn l 1) := by rw [wrong_T hpos (by rw [hlen]; exact hF), ht, hw]; simp
  unfold parseW
  rw [ht, hr, hm, if_neg (by omega), if_neg hwr]
end Go.Proofs.YtgffbgmieppckaaGreatDoor
namespace Go.Proofs.YtgffbgmieppckaaGreatDoor
set_option maxRecDepth 100000
open Go.ChangeShapes Go.WideShapes Go.ChangeAt Go.RowKit
def okW (l : List UInt8) : Prop := ∀ b ∈ l, 32 < b.toNat ∧ b.toNat ≤ 126 ∧ b ≠ 35
def okP (l : List UInt8) : Prop := ∀ b ∈ l, 32 ≤ b.toNat ∧ b.toNat ≤ 126 ∧ b ≠ 35
theorem okP_append {l m : List UInt8} (h : okP l) (k : okP m) : okP (l ++ m) := fun b hb => (List.mem_append.1 hb).elim (h b) (k b)
theorem upTo_ok {l : List UInt8} (h : okP l) (r : List UInt8) : upTo 35 (l ++ r) = l ++ upTo 35 r := by
  induction l with
  | nil => rfl
  | cons b l ih =>
    have hb : (b != 35) = true := by simpa using (h b (List.mem_cons_self ..)).2.2
    show List.takeWhile _ (b :: (l ++ r)) = _
    rw [List.takeWhile_cons, if_pos hb]
    exact congrArg (b :: ·) (ih fun x hx => h x (List.mem_cons_of_mem _ hx))
theorem badCol_okP {l : List UInt8} (h : okP l) (r : List UInt8) (i : Nat) : badCol (l ++ r) i = badCol r (i + l.length) := by
  induction l generalizing i with
  | nil => rfl
  | cons b l ih =>
    have hb := h b (List.mem_cons_self ..)
    show badCol (b :: (l ++ r)) i = _
    rw [badCol, if_neg (by omega), ih fun x hx => h x (List.mem_cons_of_mem _ hx)]
    congr 1; simp; omega
theorem word_ok {l : List UInt8} (h : okW l) (r : List UInt8) : word (l ++ r) = l ++ word r := by
  induction l with
  | nil => rfl
  | cons b l ih =>
    have hb : b ≠ 32 := by rintro rfl; have := (h _ (List.mem_cons_self ..)).1; exact absurd this (by decide)
    show word (b :: (l ++ r)) = _
    rw [word_cons hb, ih fun x hx => h x (List.mem_cons_of_mem _ hx)]; rfl
theorem toks_one {l : List UInt8} (h : okW l) (hne : l ≠ []) (c : Nat) : toks l c = [(c, l)] := by
  have hw := word_ok h []
  have e : word [] = [] := rfl
  rw [List.append_nil, e, List.append_nil] at hw
  rw [toks_word (by rw [hw]; exact hne), hw, List.drop_of_length_le (Nat.le_refl _), toks_nil]
theorem toks_append (l r : List UInt8) (c : Nat) : toks (l ++ 32 :: r) c = toks l c ++ toks r (c + l.length + 1) := by
  suffices H : ∀ n (l : List UInt8), l.length ≤ n → ∀ c, toks (l ++ 32 :: r) c = toks l c ++ toks r (c + l.length + 1) from H l.length l (Nat.le_refl _) c
  intro n
  induction n with
  | zero =>
    intro l h c
    have : l = [] := List.eq_nil_of_length_eq_zero (by omega)
    subst this
    rw [List.nil_append, toks_blank, toks_nil]; rfl
  | succ n ih =>
    intro l h c
    have hs := word_split l
    have key : word (l ++ 32 :: r) = word l := by
      have : ∀ m : List UInt8, word (m ++ 32 :: r) = word m := by
        intro m
        induction m with
        | nil => rw [List.nil_append, word_nil_blank]; rfl
        | cons b m im =>
          by_cases hb : b = 32
          · subst hb; rw [List.cons_append, word_nil_blank, word_nil_blank]
          · rw [List.cons_append, word_cons hb, word_cons hb, im]
      exact this l
    rw [toks_step, key]
    by_cases hl : (word l).length + 1 ≤ l.length
    · rw [List.drop_append_of_le_length hl, ih _ (by simp; omega), toks_step l c, List.append_assoc]
      congr 3
      simp; omega
    · have hle := word_le l
      have e : (word l).length = l.length := by omega
      have e2 : word l = l := by
        have := hs.1; rw [e, List.drop_of_length_le (Nat.le_refl _), List.append_nil] at this; exact this.symm
      rw [e2]
      have e3 : (l ++ 32 :: r).drop (l.length + 1) = r := by
        rw [← List.drop_drop, List.drop_left]; rfl
      rw [e3, toks_step l c, e2, List.drop_of_length_le (by omega), toks_nil, List.append_nil]
theorem badCol_zero {l : List UInt8} (h : okP l) (i : Nat) : badCol l i = 0 := by
  have := badCol_okP h [] i; simpa [badCol] using this
end Go.Proofs.YtgffbgmieppckaaGreatDoor
namespace Go.Proofs.YtgffbgmieppckaaGreatDoor
set_option maxRecDepth 100000
def linesL : List UInt8 → List (List UInt8)
  | [] => [[]]
  | c :: r => if c = 10 then [] :: linesL r else match linesL r with
    | [] => [[c]]
    | a :: t => (c :: a) :: t
theorem lines_end (r : List UInt8) : linesL (10 :: r) = [] :: linesL r := by rw [linesL, if_pos rfl]
theorem lines_cons {c : UInt8} (hc : c ≠ 10) {r a : List UInt8} {t : List (List UInt8)} (h : linesL r = a :: t) : linesL (c :: r) = (c :: a) :: t := by
  rw [linesL, if_neg hc, h]
theorem lines_ne : ∀ l : List UInt8, ∃ a t, linesL l = a :: t
  | [] => ⟨_, _, rfl⟩
  | c :: r => by
    by_cases hc : c = 10
    · subst hc; exact ⟨_, _, lines_end r⟩
    · obtain ⟨a, t, h⟩ := lines_ne r
      exact ⟨_, _, lines_cons hc h⟩
theorem lines_len : ∀ l : List UInt8, (linesL l).length ≤ l.length + 1 ∧ ∀ x ∈ linesL l, x.length ≤ l.length
  | [] => ⟨by simp [linesL], by simp [linesL]⟩
  | c :: r => by
    obtain ⟨h1, h2⟩ := lines_len r
    by_cases hc : c = 10
    · subst hc
      rw [lines_end]
      exact ⟨by simp only [List.length_cons]; omega, fun x hx => by rcases List.mem_cons.1 hx with rfl | hx; · simp
                                                                    · have := h2 x hx; simp only [List.length_cons]; omega⟩
    · obtain ⟨a, t, h⟩ := lines_ne r
      rw [h] at h1 h2
      rw [lines_cons hc h]
      refine ⟨by simp only [List.length_cons] at h1 ⊢; omega, fun x hx => ?_⟩
      rcases List.mem_cons.1 hx with rfl | hx
      · have := h2 a List.mem_cons_self; simp only [List.length_cons]; omega
      · have := h2 x (List.mem_cons_of_mem _ hx); simp only [List.length_cons]; omega
inductive PolR where
  | limit
  | bad (n c : Nat) (k : Int)
  | ok (l : List (Ru × Nat))
def polL : List (List UInt8) → Nat → List (Ru × Nat) → PolR
  | [], _, acc => .ok acc
  | t :: r, n, acc => match parseL t with
    | .bad c k => .bad n c k
    | .empty => polL r (n + 1) acc
    | .ok u => if acc.length = 160 then .bad n 1 5 else polL r (n + 1) (acc ++ [(u, n)])
end Go.Proofs.YtgffbgmieppckaaGreatDoor
namespace Go.Proofs.YtgffbgmieppckaaGreatDoor
set_option maxRecDepth 100000
open Go.RowKit
theorem parse_nil : parseL [] = .empty := by
  have h1 : badL [] = 0 := by decide +kernel
  have h2 : partL [] = [] := by decide +kernel
  unfold parseL
  rw [h1, if_neg (by omega)]
  unfold wordsL
  rw [h1, h2, toks_nil]; rfl
def polT (s : List UInt8) : PolR := if 4096 < s.length then .limit else polL (linesL s) 1 []
end Go.Proofs.YtgffbgmieppckaaGreatDoor
namespace Go.Proofs.YtgffbgmieppckaaGreatDoor
set_option maxRecDepth 100000
open Go.ChangeShapes Go.WideShapes Go.ChangeAt Go.RowKit
abbrev RL := Ru × Nat × Value
def er (x : RL) : Ru × Nat := (x.1, x.2.1)
def rcell (x : RL) : List Value := [.int .i64 x.1.kind, .string (bs x.1.name), x.2.2, .int .i64 x.1.n, .int .i64 x.1.m, .string (bs x.1.from_), .string (bs x.1.to_), .string (bs x.1.by_), .string (bs x.1.task), .string (bs x.1.in_), .int .i64 x.2.1]
def rcells (l : List RL) : List Value := l.flatMap rcell
theorem rcells_snoc (l : List RL) (x : RL) : rcells (l ++ [x]) = rcells l ++ rcell x := by simp [rcells]
def RowsAt (w : World) (base : Nat) (v : Value) (acc : List RL) : Prop := w.ownsRow base 31 11 v acc.length (rcells acc) ∧ ∀ x ∈ acc, OwnL w base x.2.2 x.1.list
theorem own_base {w : World} {base base' e size n : Nat} {v : Value} {xs : List Value} (h : w.ownsRow base e size v n xs) (hb : base' ≤ base) : w.ownsRow base' e size v n xs := by
  obtain ⟨h1, h2⟩ := h
  refine ⟨h1, ?_⟩
  rcases h2 with h2 | ⟨g, cap, cur, h3, h4, h5⟩
  · exact .inl h2
  · exact .inr ⟨g, cap, cur, h3, Nat.le_trans hb h4, h5⟩
theorem RowsAt.below {w w' : World} {base : Nat} {v : Value} {acc : List RL} (h : RowsAt w base v acc) (hb : Below w.heap.size w w') (hB : base ≤ w.heap.size) : RowsAt w' base v acc :=
  ⟨own_below h.1 hb hB, fun x hx => own_below (h.2 x hx) hb hB⟩
theorem RowsAt.base {w : World} {base base' : Nat} {v : Value} {acc : List RL} (h : RowsAt w base v acc) (hB : base' ≤ base) : RowsAt w base' v acc :=
  ⟨own_base h.1 hB, fun x hx => own_base (h.2 x hx) hB⟩
theorem rows_nil (w : World) (base : Nat) : RowsAt w base (.slice none 0 0) [] := ⟨World.ownsRow_nil _ _ _ _, fun _ h => by cases h⟩
theorem own_apart {w : World} {base base' n : Nat} {L v : Value} {l : List Tx} {xs : List Value} (h : OwnL w base L l) (h' : w.ownsRow base' 31 11 v n xs) : L.ownBlock = none ∨ L.ownBlock ≠ v.ownBlock := by
  rcases h.2 with ⟨hv, _⟩ | ⟨g, cap, cur, hv, _, hg, _⟩
  · left; rw [hv]; rfl
  · right
    rcases h'.2 with ⟨hv', _⟩ | ⟨g', cap', cur', hv', _, hg', _⟩
    · rw [hv, hv']; simp [Value.ownBlock]
    · rw [hv, hv']
      intro e
      have e2 : g = g' := by simpa [Value.ownBlock] using e
      subst e2
      rw [hg] at hg'
      simp at hg'
theorem Tryz.infoRule : (Tryz.prog.info? 31).map (fun i => (i.zero, i.size, i.bytes)) = some (some (.agg #[.int .i64 0, .string ⟨#[]⟩, .slice none 0 0, .int .i64 0, .int .i64 0, .string ⟨#[]⟩, .string ⟨#[]⟩, .string ⟨#[]⟩, .string ⟨#[]⟩, .string ⟨#[]⟩, .int .i64 0]), 11, 152) := by kernel_rfl
def KAt (w : World) (A : Option Addr) (ks : List Int) : Prop := ∀ j (h : j < ks.length), ∃ b, A = some ⟨b, 0, none⟩ ∧ b < w.heap.size ∧ w.cell? ⟨b, j, none⟩ = some (.int .i64 ks[j])
theorem KAt.below {w w' : World} {A : Option Addr} {ks : List Int} (h : KAt w A ks) (hb : Below w.heap.size w w') : KAt w' A ks := fun j hj =>
  let ⟨b, e, hl, hc⟩ := h j hj
  ⟨b, e, Nat.lt_of_lt_of_le hl hb.size, (hb.cell (p := ⟨b, j, none⟩) hl).trans hc⟩
def IdxTo (ks : List Int) (x : Int) (w : World) (e : Ending) (w' : World) : Prop := ∃ r : Int, e = .returned (.int .i64 r) ∧ decide (0 ≤ r) = decide (x ∈ ks) ∧ w = w'
theorem idxTo_mk {ks : List Int} {x r : Int} {w : World} (h : decide (0 ≤ r) = decide (x ∈ ks)) : IdxTo ks x w (.returned (.int .i64 r)) w := ⟨r, rfl, h, rfl⟩
set_option maxHeartbeats 1000000 in
theorem IndexI_any (ks : List Int) (x : Int) (A : Option Addr) (c : Nat) (w : World) (h : KAt w A ks) (hl : ks.length ≤ 1000000) (_hc : ks.length ≤ c) :
    Calls Tryz.prog 198 #[.slice A ks.length c, .int .i64 x] w (IdxTo ks x w) := by
  go_enter Tryz.func198, Tryz.ntmps198
  go_wp2
  go_loop [5, 8] (fun _ i => ∃ k : Nat, k ≤ ks.length ∧ i = .int .i64 k ∧ Hid (x ∉ ks.take k)) (fun _ i => ks.length - (intOf i).toNat)
  case atStart => exact ⟨0, Nat.zero_le _, rfl, by show ¬ _; simp⟩
  case round =>
    obtain ⟨k, hk, rfl, HI⟩ := hrel
    by_cases hlt : k < ks.length
    · obtain ⟨b, rfl, _, hx⟩ := h k hlt
      have hsn : ks.take (k + 1) = ks.take k ++ [ks[k]] := by rw [List.take_succ_eq_append_getElem hlt]
      have hme : ks[k] ∈ ks := List.getElem_mem hlt
      clear h
      by_cases he : x = ks[k]
      · have HM : Hid (x ∈ ks) := by show _; rw [he]; exact hme
        have hb : (x == ks[k]) = true := by simp [he]
        clear he hme hsn
        go_wp2
        go_ret
        exact idxTo_mk (by simp [show x ∈ ks from HM])
      · have HT : Hid (x ∉ ks.take (k + 1)) := by
          show ¬ _
          rw [hsn, List.mem_append]
          exact fun hh => hh.elim HI.out (fun h => he (List.mem_singleton.1 h))
        have hb : (x == ks[k]) = false := by simp [he]
        clear he hme hsn
        go_wp2
        go_round
        case rel => exact ⟨k + 1, by omega, by go_num, HT⟩
        case measure => simp [intOf]; omega
    · have HT : Hid (x ∉ ks) := by have := HI.out; rw [List.take_of_length_le (by omega)] at this; exact this
      clear h
      go_wp2
      go_ret
      exact idxTo_mk (by simp [show x ∉ ks from HT.out])
theorem Contains_any (ks : List Int) (x : Int) (A : Option Addr) (c : Nat) (w : World) (h : KAt w A ks) (hl : ks.length ≤ 1000000) (hc : ks.length ≤ c) :
    Calls Tryz.prog 140 #[.slice A ks.length c, .int .i64 x] w fun e w' => e = .returned (.bool (decide (x ∈ ks))) ∧ w = w' := by
  have HI := Lib.hid (IndexI_any ks x A c w h hl hc)
  clear h
  go_enter Tryz.func140, Tryz.ntmps140
  go_wp2_with (go_at_call 198; refine HI.out.mono ?_; rintro e w1 ⟨r, rfl, hr, rfl⟩; have HR := Lib.hid hr; clear hr)
  go_ret
  exact ⟨ret_bool HR.out, rfl⟩
theorem rcell_len (x : RL) : (rcell x).length = 11 := rfl
theorem rcells_at : ∀ (acc : List RL) (j f : Nat) (h : j < acc.length), f < 11 → (rcells acc)[j * 11 + f]? = (rcell acc[j])[f]?
  | x :: r, 0, f, _, hf => by
    show (rcell x ++ rcells r)[_]? = _
    rw [List.getElem?_append_left (by rw [rcell_len]; omega)]; simp
  | x :: r, j + 1, f, h, hf => by
    show (rcell x ++ rcells r)[_]? = _
    rw [List.getElem?_append_right (by rw [rcell_len]; omega), rcell_len, show (j + 1) * 11 + f - 11 = j * 11 + f by omega]
    exact rcells_at r j f (by simpa using h) hf
def RIn (w : World) (A : Option Addr) (acc : List RL) : Prop := ∀ j (h : j < acc.length), ∃ g, A = some ⟨g, 0, none⟩ ∧ g < w.heap.size ∧ (∀ f u, f < 11 → (rcell acc[j])[f]? = some u → w.cell? ⟨g, j * 11 + f, none⟩ = some u) ∧
  ∃ B c, acc[j].2.2 = .slice B acc[j].1.list.length c ∧ ListAt w B c acc[j].1.list
theorem RIn.below {w w' : World} {A : Option Addr} {acc : List RL} (h : RIn w A acc) (hb : Below w.heap.size w w') : RIn w' A acc := fun j hj =>
  let ⟨g, e, hl, hc, B, c, e2, hL⟩ := h j hj
  ⟨g, e, Nat.lt_of_lt_of_le hl hb.size, fun f u hf hu => (hb.cell (p := ⟨g, j * 11 + f, none⟩) hl).trans (hc f u hf hu), B, c, e2, hL.below hb⟩
theorem rIn_of {w : World} {base cap : Nat} {A : Option Addr} {acc : List RL} (h : RowsAt w base (.slice A acc.length cap) acc) : RIn w A acc := fun j hj => by
  obtain ⟨g, cap', e, _, hl, _, hc⟩ := own_form h.1 (by omega)
  have eA : A = some ⟨g, 0, none⟩ := by injection e
  obtain ⟨B, c, e2⟩ := own_slice (h.2 acc[j] (List.getElem_mem hj))
  refine ⟨g, eA, hl, fun f u hf hu => hc _ _ (by rw [rcells_at acc j f hj hf]; exact hu), B, c, e2, ?_⟩
  have ho := h.2 acc[j] (List.getElem_mem hj)
  rw [e2] at ho
  exact listAt_of ho
def LAt (w : World) (A : Option Addr) (c : Nat) (l : List Tx) : Prop := l.length ≤ c ∧ l.length ≤ 9223372036854775807 ∧ ∀ j (hj : j < l.length), ∃ g off, A = some ⟨g, off, none⟩ ∧ g < w.heap.size ∧ w.cell? ⟨g, off + j, none⟩ = some (.string (bs l[j]))
theorem LAt.below {w w' : World} {A : Option Addr} {c : Nat} {l : List Tx} (h : LAt w A c l) (hb : Below w.heap.size w w') : LAt w' A c l :=
  ⟨h.1, h.2.1, fun j hj => let ⟨g, off, e, hl, hc⟩ := h.2.2 j hj; ⟨g, off, e, Nat.lt_of_lt_of_le hl hb.size, (hb.cell hl).trans hc⟩⟩
theorem lAt_of {w : World} {A : Option Addr} {c : Nat} {l : List Tx} (h : ListAt w A c l) (hm : l.length ≤ 9223372036854775807) : LAt w A c l :=
  ⟨h.1, hm, fun j hj => let ⟨g, e, hl, hc⟩ := h.2 j hj; ⟨g, 0, e, hl, by rw [Nat.zero_add]; exact hc⟩⟩
def wordP (tbl : List Tx) (k : Int) : Tx := if k < 0 ∨ (tbl.length : Int) ≤ k then [] else tbl[k.toNat]?.getD []
theorem wordAt_any (t n c : Nat) (l : List Tx) (k : Int) (w : World) (h : StrAt w t l) (hn : n = l.length) (_hl : l.length ≤ 1000000) (_hc : l.length ≤ c) :
    Calls Tryz.prog 182 #[.slice (some ⟨t, 0, none⟩) n c, .int .i64 k] w fun e w' => e = .returned (.string (bs (wordP l k))) ∧ w = w' := by
  subst hn
  by_cases h1 : k < 0
  · have hv : wordP l k = [] := by unfold wordP; rw [if_pos (.inl h1)]
    rw [hv]
    go_enter Tryz.func182, Tryz.ntmps182
    go_wp2
    go_ret
    exact ⟨rfl, rfl⟩
  · obtain ⟨j, rfl⟩ : ∃ j : Nat, k = j := ⟨k.toNat, by omega⟩
    by_cases h2 : l.length ≤ j
    · have hv : wordP l j = [] := by unfold wordP; rw [if_pos (.inr (by omega))]
      rw [hv]
      go_enter Tryz.func182, Tryz.ntmps182
      go_wp2
      go_ret
      exact ⟨rfl, rfl⟩
    · have hj : j < l.length := by omega
      have hv : wordP l j = l[j] := by unfold wordP; rw [if_neg (by omega)]; simp [hj]
      have hx := h j hj
      rw [hv]
      generalize bs l[j] = X at *
      go_enter Tryz.func182, Tryz.ntmps182
      go_wp2
      go_ret
      exact ⟨rfl, rfl⟩
def optP (x y : Tx) : List Tx := if y = [] then [] else [x, y]
set_option maxHeartbeats 1000000 in
theorem Equal_any (la lb : List Tx) (A B : Option Addr) (ca cb : Nat) (w : World) (h1 : LAt w A ca la) (h2 : LAt w B cb lb) :
    Calls Tryz.prog 193 #[.slice A la.length ca, .slice B lb.length cb] w fun e w' => e = .returned (.bool (decide (la = lb))) ∧ Below w.heap.size w w' := by
  obtain ⟨c1, m1, H1⟩ := h1
  obtain ⟨c2, m2, H2⟩ := h2
  by_cases hl : la.length = lb.length
  · have HL := Lib.hid hl
    clear hl
    rw [← HL.out] at c2 m2 ⊢
    have H1' := Lib.hid H1
    have H2' := Lib.hid H2
    clear H1 H2
    go_enter Tryz.func193, Tryz.ntmps193
    go_wp2
    go_loopw [13] (fun i wr => ∃ k : Nat, k ≤ la.length ∧ i = .int .i64 k ∧ Hid (la.take k = lb.take k) ∧ ∃ n, wr = w.drewN n) (fun i _ => la.length - (intOf i).toNat)
    case atStart => exact ⟨0, Nat.zero_le _, rfl, rfl, 0, rfl⟩
    case round =>
      obtain ⟨k, hk, rfl, HT, n, rfl⟩ := hrel
      by_cases hlt : k < la.length
      · have hlt2 : k < lb.length := by have := HL.out; omega
        obtain ⟨g, off, rfl, _, x1⟩ := H1'.out k hlt
        obtain ⟨g', off', rfl, _, x2⟩ := H2'.out k hlt2
        by_cases he : la[k] = lb[k]
        · have hb : ((bs la[k]).toList != (bs lb[k]).toList) = false := by rw [Lib.toList_data, Lib.toList_data, list_bs, list_bs, he]; simp
          have hb' : ((bs la[k]).toList == (bs lb[k]).toList) = true := by rw [Lib.toList_data, Lib.toList_data, list_bs, list_bs, he]; simp
          have HN : Hid (la.take (k + 1) = lb.take (k + 1)) := by show _ = _; rw [List.take_succ_eq_append_getElem hlt, List.take_succ_eq_append_getElem hlt2, HT.out, he]
          clear he HT
          generalize bs la[k] = X at *
          generalize bs lb[k] = Y at *
          go_wp2
          go_quiet (fail)
          go_wp2
          go_roundw
          case rel => exact ⟨k + 1, by omega, by go_num, HN, _, rfl⟩
          case measure => simp [intOf]; omega
        · have hb : ((bs la[k]).toList != (bs lb[k]).toList) = true := by rw [Lib.toList_data, Lib.toList_data, list_bs, list_bs]; simpa using he
          have hb' : ((bs la[k]).toList == (bs lb[k]).toList) = false := by rw [Lib.toList_data, Lib.toList_data, list_bs, list_bs]; simpa using he
          have HF : Hid (decide (la = lb) = false) := by
            show _ = _
            rw [decide_eq_false_iff_not]
            intro e; apply he; subst e; rfl
          clear he HT
          generalize bs la[k] = X at *
          generalize bs lb[k] = Y at *
          go_wp2
          go_quiet (fail)
          go_wp2
          go_ret
          exact ⟨ret_bool HF.out.symm, below_drewN (below_drewN (Below.refl _ _) _) _⟩
      · have HE : Hid (decide (la = lb) = true) := by
          show _ = _
          rw [decide_eq_true_iff]
          have := HT.out
          rwa [List.take_of_length_le (by omega), List.take_of_length_le (by have := HL.out; omega)] at this
        go_wp2
        go_ret
        exact ⟨ret_bool HE.out.symm, below_drewN (Below.refl _ _) _⟩
  · have hd : decide (la = lb) = false := by rw [decide_eq_false_iff_not]; intro e; apply hl; rw [e]
    have hi : ((la.length : Int) != lb.length) = true := by simp; omega
    have hi2 : (la.length != lb.length) = true := by simpa using hl
    rw [hd]
    go_enter Tryz.func193, Tryz.ntmps193
    go_wp2
    go_ret
    exact ⟨rfl, Below.refl _ _⟩
def ValB (v : Value) (w : World) (e : Ending) (w' : World) : Prop := e = .returned v ∧ Below w.heap.size w w'
end Go.Proofs.YtgffbgmieppckaaGreatDoor
