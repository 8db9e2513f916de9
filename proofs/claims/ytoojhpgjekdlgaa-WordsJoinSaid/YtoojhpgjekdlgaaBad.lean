/-
  WordsBad: a byte that may not be is told by its column ahead of a comment; within one it is nothing: for every two texts and every byte.
-/
import Derived.Test.YtoojhpgjekdlgaaClean
import Derived.Test.YtoojhpgjekdlgaaWakes01
namespace Go.Proofs.Ytoojhpgjekdlgaa
open Go.ChangeShapes Go.WideShapes Go.ChangeAt Go.RowKit

/-- bytes that stand in a word -/
def okW (l : List UInt8) : Prop := ∀ b ∈ l, 32 < b.toNat ∧ b.toNat ≤ 126 ∧ b ≠ 35
/-- bytes that stand ahead of a comment -/
def okP (l : List UInt8) : Prop := ∀ b ∈ l, 32 ≤ b.toNat ∧ b.toNat ≤ 126 ∧ b ≠ 35
theorem okW.p {l : List UInt8} (h : okW l) : okP l := fun b hb => ⟨by have := (h b hb).1; omega, (h b hb).2⟩
theorem okP_append {l m : List UInt8} (h : okP l) (k : okP m) : okP (l ++ m) := fun b hb => (List.mem_append.1 hb).elim (h b) (k b)
theorem okP_blanks (n : Nat) : okP (List.replicate n 32) := fun b hb => by
  have := List.eq_of_mem_replicate hb; subst this; decide
theorem okW_clean (l : List UInt8) : okW (cleanL l) := by
  intro b hb
  rcases List.mem_cons.1 hb with rfl | hb
  · decide
  · have := (List.mem_filter.1 hb).2
    simp only [goodB, Bool.and_eq_true, decide_eq_true_eq, bne_iff_ne] at this
    exact ⟨this.1.1, by omega, by rintro rfl; exact this.2 rfl⟩
theorem clean_le (l : List UInt8) : (cleanL l).length ≤ 11 := by
  have := keepL_le (l.take 10); have h := List.length_take_le 10 l; unfold cleanL; omega
theorem clean_ne (l : List UInt8) : cleanL l ≠ [] := by simp [cleanL, keepL]
theorem upTo_ok {l : List UInt8} (h : okP l) (r : List UInt8) : upTo 35 (l ++ r) = l ++ upTo 35 r := by
  induction l with
  | nil => rfl
  | cons b l ih =>
    have hb : (b != 35) = true := by simpa using (h b (List.mem_cons_self ..)).2.2
    show List.takeWhile _ (b :: (l ++ r)) = _
    rw [List.takeWhile_cons, if_pos hb]
    exact congrArg (b :: ·) (ih fun x hx => h x (List.mem_cons_of_mem _ hx))
theorem badCol_ok {l : List UInt8} (h : okP l) (r : List UInt8) (i : Nat) : badCol (l ++ r) i = badCol r (i + l.length) := by
  induction l generalizing i with
  | nil => rfl
  | cons b l ih =>
    have hb := h b (List.mem_cons_self ..)
    show badCol (b :: (l ++ r)) i = _
    rw [badCol, if_neg (by omega), ih fun x hx => h x (List.mem_cons_of_mem _ hx)]
    congr 1; simp; omega
theorem word_ok {l : List UInt8} (h : okW l) (r : List UInt8) : word (l ++ r) = l ++ word r := by
  induction l with
  | nil => rfl
  | cons b l ih =>
    have hb : b ≠ 32 := by rintro rfl; have := (h _ (List.mem_cons_self ..)).1; exact absurd this (by decide)
    show word (b :: (l ++ r)) = _
    rw [word_cons hb, ih fun x hx => h x (List.mem_cons_of_mem _ hx)]; rfl
theorem toks_one {l : List UInt8} (h : okW l) (hne : l ≠ []) (c : Nat) : toks l c = [(c, l)] := by
  have hw := word_ok h []
  have e : word [] = [] := rfl
  rw [List.append_nil, e, List.append_nil] at hw
  rw [toks_word (by rw [hw]; exact hne), hw, List.drop_of_length_le (Nat.le_refl _), toks_nil]
/-- a blank parts what is ahead of it from what is behind it -/
theorem toks_append (l r : List UInt8) (c : Nat) : toks (l ++ 32 :: r) c = toks l c ++ toks r (c + l.length + 1) := by
  suffices H : ∀ n (l : List UInt8), l.length ≤ n → ∀ c, toks (l ++ 32 :: r) c = toks l c ++ toks r (c + l.length + 1) from H l.length l (Nat.le_refl _) c
  intro n
  induction n with
  | zero =>
    intro l h c
    have : l = [] := List.eq_nil_of_length_eq_zero (by omega)
    subst this
    rw [List.nil_append, toks_blank, toks_nil]; rfl
  | succ n ih =>
    intro l h c
    have hs := word_split l
    have key : word (l ++ 32 :: r) = word l := by
      have : ∀ m : List UInt8, word (m ++ 32 :: r) = word m := by
        intro m
        induction m with
        | nil => rw [List.nil_append, word_nil_blank]; rfl
        | cons b m im =>
          by_cases hb : b = 32
          · subst hb; rw [List.cons_append, word_nil_blank, word_nil_blank]
          · rw [List.cons_append, word_cons hb, word_cons hb, im]
      exact this l
    rw [toks_step, key]
    by_cases hl : (word l).length + 1 ≤ l.length
    · rw [List.drop_append_of_le_length hl, ih _ (by simp; omega), toks_step l c, List.append_assoc]
      congr 3
      simp; omega
    · have hle := word_le l
      have e : (word l).length = l.length := by omega
      have e2 : word l = l := by
        have := hs.1; rw [e, List.drop_of_length_le (Nat.le_refl _), List.append_nil] at this; exact this.symm
      rw [e2]
      have e3 : (l ++ 32 :: r).drop (l.length + 1) = r := by
        rw [← List.drop_drop, List.drop_left]; rfl
      rw [e3, toks_step l c, e2, List.drop_of_length_le (by omega), toks_nil, List.append_nil]
theorem toks_blanks (n : Nat) (l : List UInt8) (c : Nat) : toks (List.replicate n 32 ++ l) c = toks l (c + n) := by
  induction n generalizing c with
  | zero => rfl
  | succ n ih =>
    rw [List.replicate_succ, List.cons_append, toks_blank, ih]; congr 1; omega

/-- a part that is right, whatever comment is behind it -/
theorem part_note {l : List UInt8} (h : okP l) (r : List UInt8) : partL (l ++ 35 :: r) = l := by
  unfold partL; rw [upTo_ok h]; simp [upTo]
theorem part_whole {l : List UInt8} (h : okP l) : partL l = l := by
  have := upTo_ok h []; simpa [partL, upTo] using this
theorem badCol_zero {l : List UInt8} (h : okP l) (i : Nat) : badCol l i = 0 := by
  have := badCol_ok h [] i; simpa [badCol] using this
theorem part_bad {l : List UInt8} (h : okP l) (c : UInt8) (hc : c.toNat < 32 ∨ 126 < c.toNat) (r : List UInt8) : badL (l ++ c :: r) = l.length + 1 := by
  have h35 : (c != 35) = true := by rw [bne_iff_ne]; rintro rfl; exact absurd hc (by decide)
  unfold badL partL
  rw [upTo_ok h, badCol_ok h]
  show badCol (List.takeWhile _ (c :: r)) _ = _
  rw [List.takeWhile_cons, if_pos h35, badCol, if_pos hc]; omega

/-- Split where the part is right -/
theorem Split_note (l r : List UInt8) (ws : List (Nat × List UInt8)) (w : World) (h : okP l) (hl : l.length ≤ 100000) (hs : (bs (l ++ 35 :: r)).size ≤ maxLen) (hw : toks l 1 = ws) :
    Calls Try.prog 10 #[.string (bs (l ++ 35 :: r))] w (SplitTo ws 0 w) := by
  have hp := part_note h r
  have hb : badL (l ++ 35 :: r) = 0 := by unfold badL; rw [hp]; exact badCol_zero h 0
  have := Split_any (bs (l ++ 35 :: r)) w hs (fun _ => by rw [list_bs, hp]; omega)
  rw [list_bs, hb] at this
  rwa [show wordsL (l ++ 35 :: r) = ws by unfold wordsL; rw [hb, hp, if_pos rfl, hw]] at this
theorem Split_whole (l : List UInt8) (ws : List (Nat × List UInt8)) (w : World) (h : okP l) (hl : l.length ≤ 100000) (hw : toks l 1 = ws) :
    Calls Try.prog 10 #[.string (bs l)] w (SplitTo ws 0 w) := by
  have hp := part_whole h
  have hb : badL l = 0 := by unfold badL; rw [hp]; exact badCol_zero h 0
  have := Split_any (bs l) w (by rw [size_bs]; unfold maxLen; omega) (fun _ => by rw [list_bs, hp]; omega)
  rw [list_bs, hb] at this
  rwa [show wordsL l = ws by unfold wordsL; rw [hb, hp, if_pos rfl, hw]] at this
theorem Split_bad (l : List UInt8) (c : UInt8) (r : List UInt8) (n : Nat) (w : World) (h : okP l) (hc : c.toNat < 32 ∨ 126 < c.toNat) (hs : (bs (l ++ c :: r)).size ≤ maxLen) (hn : l.length + 1 = n) :
    Calls Try.prog 10 #[.string (bs (l ++ c :: r))] w (SplitTo [] n w) := by
  have hb := part_bad h c hc r
  have := Split_any (bs (l ++ c :: r)) w hs (fun e => by rw [list_bs, hb] at e; omega)
  rw [list_bs, hb, hn] at this
  rwa [show wordsL (l ++ c :: r) = [] by unfold wordsL; rw [hb, if_neg (by omega)]] at this

theorem bad_below {w w1 w2 w3 w4 : World} {o1 o2 : Obj} (h1 : Below w.heap.size w w1) (h2 : Below (w1.alloc o1).heap.size (w1.alloc o1) w2) (h3 : Below (w2.alloc o2).heap.size (w2.alloc o2) w3) (h4 : Below w3.heap.size w3 w4) : Below w.heap.size w w4 := by
  have z1 := h1.size
  have z2 := h2.size
  have z3 := h3.size
  simp at z2 z3
  exact below_then (below_then ((below_then (h1.alloc z1 _) h2 (by simp; omega)).alloc (by omega) _) h3 (by simp; omega)) h4 (by omega)
/-- the law behind its first test: the byte is one that may not be -/
theorem bad_rest (a b : ByteArray) (c d : Int) (w : World) (ha : a.size ≤ maxLen) (hb : b.size ≤ 140737488351232) (hd : d = if 32 ≤ c ∧ c ≤ 126 then 9 else c) (h0 : 0 ≤ c) (h1 : c ≤ 255) :
    Calls Try.prog 4 #[.string a, .string b, .int .u8 c] w (TrueOn w) := by
  have hbad : d < 32 ∨ 126 < d := by rw [hd]; split <;> omega
  have hd0 : 0 ≤ d := by rw [hd]; split <;> omega
  have hd1 : d ≤ 255 := by rw [hd]; split <;> omega
  obtain ⟨e, he⟩ : ∃ e : UInt8, d = (e.toNat : Int) := ⟨UInt8.ofNat d.toNat, by simp; omega⟩
  have hbe : e.toNat < 32 ∨ 126 < e.toNat := by omega
  have hA := okW_clean a.data.toList
  have hlen := clean_le a.data.toList
  have hne := clean_ne a.data.toList
  generalize hcl : cleanL a.data.toList = A at *
  have HCL := Lib.hid hcl
  have hP : okP (A ++ [32]) := okP_append hA.p (okP_blanks 1)
  have ht : toks (A ++ [32]) 1 = [(1, A)] := by
    have := toks_append A [] 1
    rw [this, toks_one hA hne, toks_nil]; rfl
  have HT := Lib.hid ht
  have hcv := fun W b cap => conv_one W b cap d hd0 hd1
  rw [he, byteOf_nat, ← he] at hcv
  have e0 : bs A ++ (⟨#[32]⟩ : ByteArray) = bs (A ++ [32]) := bs_append A [32]
  have e1 : bs (A ++ [32]) ++ bs [e] = bs (A ++ [32] ++ [e]) := bs_append _ _
  have e2 : bs (A ++ [32] ++ [e]) ++ b = bs (A ++ [32] ++ e :: b.data.toList) := by
    rw [← bs_list b, bs_append, list_bs]; simp
  have e3 : bs (A ++ [32]) ++ (⟨#[35]⟩ : ByteArray) = bs (A ++ [32] ++ [35]) := bs_append _ [35]
  have e4 : bs (A ++ [32] ++ [35]) ++ bs [e] = bs (A ++ [32] ++ [35] ++ [e]) := bs_append _ _
  have e5 : bs (A ++ [32] ++ [35] ++ [e]) ++ b = bs (A ++ [32] ++ 35 :: (e :: b.data.toList)) := by
    rw [← bs_list b, bs_append, list_bs]; simp
  have s0 : (bs A).size ≤ 11 := hlen
  have s1 : (bs (A ++ [32])).size ≤ 12 := by rw [size_bs]; simp; omega
  have s2 : (bs (A ++ [32] ++ [e])).size ≤ 13 := by rw [size_bs]; simp; omega
  have s3 : (bs (A ++ [32] ++ [35])).size ≤ 13 := by rw [size_bs]; simp; omega
  have s4 : (bs (A ++ [32] ++ [35] ++ [e])).size ≤ 14 := by rw [size_bs]; simp; omega
  have z1 : (bs (A ++ [32] ++ e :: b.data.toList)).size ≤ maxLen := by rw [size_bs]; simp; unfold maxLen; omega
  have z2 : (bs (A ++ [32] ++ 35 :: (e :: b.data.toList))).size ≤ maxLen := by rw [size_bs]; simp; unfold maxLen; omega
  have c1 := fun W => Split_bad (A ++ [32]) e b.data.toList _ W hP hbe z1 rfl
  have c2 := fun W => Split_note (A ++ [32]) (e :: b.data.toList) _ W hP (by simp; omega) z2 ht
  have hN : ((A ++ [32]).length : Int) = (bs (A ++ [32])).size := rfl
  have hN1 : (((A ++ [32]).length + 1 : Nat) : Int) = ((bs (A ++ [32])).size : Int) + 1 := rfl
  generalize bs (A ++ [32] ++ e :: b.data.toList) = T1 at *
  generalize bs (A ++ [32] ++ 35 :: (e :: b.data.toList)) = T2 at *
  generalize bs (A ++ [32] ++ [35] ++ [e]) = T3 at *
  generalize bs (A ++ [32] ++ [35]) = T4 at *
  generalize bs (A ++ [32] ++ [e]) = T5 at *
  have so : (bs [e]).size ≤ 1 := Nat.le_refl _
  generalize (A ++ [32]).length + 1 = N at *
  generalize bs (A ++ [32]) = T6 at *
  generalize bs [e] = T7 at *
  have C1 := Lib.hid c1
  have C2 := Lib.hid c2
  have HN := Lib.hid hN1
  clear c1 c2 hN hN1 ht hP hA hne hcl hbe he HT z1 z2 hlen
  unfold maxLen at ha
  have main : ∀ (D : Int), ((32 ≤ c ∧ c ≤ 126 ∧ D = 9) ∨ ((c < 32 ∨ 126 < c) ∧ D = c)) → D = d → Calls Try.prog 4 #[.string a, .string b, .int .u8 c] w (TrueOn w) := by
    intro D hD hDd
    subst hDd
    clear hd
    rcases hD with ⟨g1, g2, rfl⟩ | ⟨hg | hg, rfl⟩
    · go_enter Try.func4, Try.ntmps4
      go_wp2_with (first
        | (go_at_call 9; refine (clean_any _ _ (by unfold maxLen; omega)).mono ?_; rintro e w1 ⟨rfl, hb1⟩; rw [HCL.out])
        | (go_at_call_of 10 (Value.string T1); refine (C1.out _).mono ?_; rintro e w2 ⟨v2, rfl, hown2, hb2⟩; obtain ⟨A2, cap2, rfl⟩ := own_slice hown2; clear hown2; rw [HN.out])
        | (go_at_call_of 10 (Value.string T2); refine (C2.out _).mono ?_; rintro e w3 ⟨v3, rfl, hown3, hb3⟩; obtain ⟨A3, cap3, rfl⟩ := own_slice hown3; clear hown3)
        | (go_at_call 12; refine (wakes01 _).mono ?_; rintro e w4 ⟨rfl, hb4⟩))
      go_ret
      exact ⟨rfl, bad_below hb1 hb2 hb3 hb4⟩
    · go_enter Try.func4, Try.ntmps4
      go_wp2_with (first
        | (go_at_call 9; refine (clean_any _ _ (by unfold maxLen; omega)).mono ?_; rintro e w1 ⟨rfl, hb1⟩; rw [HCL.out])
        | (go_at_call_of 10 (Value.string T1); refine (C1.out _).mono ?_; rintro e w2 ⟨v2, rfl, hown2, hb2⟩; obtain ⟨A2, cap2, rfl⟩ := own_slice hown2; clear hown2; rw [HN.out])
        | (go_at_call_of 10 (Value.string T2); refine (C2.out _).mono ?_; rintro e w3 ⟨v3, rfl, hown3, hb3⟩; obtain ⟨A3, cap3, rfl⟩ := own_slice hown3; clear hown3)
        | (go_at_call 12; refine (wakes01 _).mono ?_; rintro e w4 ⟨rfl, hb4⟩))
      go_ret
      exact ⟨rfl, bad_below hb1 hb2 hb3 hb4⟩
    · have g1 : 32 ≤ D := by omega
      go_enter Try.func4, Try.ntmps4
      go_wp2_with (first
        | (go_at_call 9; refine (clean_any _ _ (by unfold maxLen; omega)).mono ?_; rintro e w1 ⟨rfl, hb1⟩; rw [HCL.out])
        | (go_at_call_of 10 (Value.string T1); refine (C1.out _).mono ?_; rintro e w2 ⟨v2, rfl, hown2, hb2⟩; obtain ⟨A2, cap2, rfl⟩ := own_slice hown2; clear hown2; rw [HN.out])
        | (go_at_call_of 10 (Value.string T2); refine (C2.out _).mono ?_; rintro e w3 ⟨v3, rfl, hown3, hb3⟩; obtain ⟨A3, cap3, rfl⟩ := own_slice hown3; clear hown3)
        | (go_at_call 12; refine (wakes01 _).mono ?_; rintro e w4 ⟨rfl, hb4⟩))
      go_ret
      exact ⟨rfl, bad_below hb1 hb2 hb3 hb4⟩
  by_cases hc : 32 ≤ c ∧ c ≤ 126
  · exact main 9 (.inl ⟨hc.1, hc.2, rfl⟩) (by rw [hd, if_pos hc])
  · exact main c (.inr ⟨by omega, rfl⟩) (by rw [hd, if_neg hc])
theorem bad_walk (w : World) (a : ByteArray) (ha : a.size ≤ 140737488351232) (b : ByteArray) (hb : b.size ≤ 140737488351232) (c : Int) (hc : (Lit.int .u8 c).wf = true) :
    Calls Try.prog 4 #[.string a, .string b, .int .u8 c] w (TrueOn w) := by
  have := bounds_u8 hc
  exact bad_rest a b c _ w (by unfold maxLen; omega) hb rfl this.1 this.2
end Go.Proofs.Ytoojhpgjekdlgaa
