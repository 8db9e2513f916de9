/-
  
-/
import Derived.Test.YtnnmjmjbfeoggaaGreatDoorParse
import Derived.Test.YtnnmjmjbfeoggaaGreatDoorDigits
import Derived.Lib.Builder
import Derived.Lib.AppendStr
import Derived.Lib.Hide
namespace Go.Proofs.YtnnmjmjbfeoggaaGreatDoor
set_option maxRecDepth 100000

def blanks (n : Nat) : List UInt8 := List.replicate n 32
def sh (n : Nat) (ws : List (Nat × Tx)) : List (Nat × Tx) := ws.map fun x => (x.1 + n, x.2)
def sh0 (n c : Nat) : Nat := if c = 0 then 0 else c + n
def shiftP (n : Nat) : PR → PR
  | .bad c k => .bad (c + n) k
  | p => p
theorem part_blanks (n : Nat) (L : List UInt8) : partL (blanks n ++ L) = blanks n ++ partL L := by
  induction n with
  | zero => rfl
  | succ n ih =>
    show upTo 35 (32 :: (blanks n ++ L)) = 32 :: (blanks n ++ partL L)
    rw [← ih]
    rfl
theorem badCol_shift (l : List UInt8) : ∀ i n, badCol l (i + n) = if badCol l i = 0 then 0 else badCol l i + n := by
  induction l with
  | nil => intro i n; rfl
  | cons b r ih =>
    intro i n
    rw [badCol, badCol]
    split
    · simp; omega
    · have := ih (i + 1) n
      rw [show i + 1 + n = i + n + 1 by omega] at this
      exact this
theorem badCol_blanks (n : Nat) (l : List UInt8) : ∀ i, badCol (blanks n ++ l) i = badCol l (i + n) := by
  induction n with
  | zero => intro i; rfl
  | succ n ih =>
    intro i
    show badCol (32 :: (blanks n ++ l)) i = _
    rw [badCol, if_neg (by decide), ih, show i + 1 + n = i + (n + 1) by omega]
theorem bad_blanks (n : Nat) (L : List UInt8) : badL (blanks n ++ L) = sh0 n (badL L) := by
  unfold badL sh0
  rw [part_blanks, badCol_blanks, badCol_shift]
theorem toks_shift (n : Nat) : ∀ (m : Nat) (l : List UInt8), l.length ≤ m → ∀ c, toks l (c + n) = sh n (toks l c) := by
  intro m
  induction m with
  | zero => intro l h c; have : l = [] := List.eq_nil_of_length_eq_zero (by omega); subst this; simp [toks_nil, sh]
  | succ m ih =>
    intro l h c
    rw [toks_step, toks_step l c]
    have hl := word_le l
    by_cases hd : (word l).length + 1 ≤ l.length
    · have H := ih (l.drop ((word l).length + 1)) (by simp; omega) (c + (word l).length + 1)
      rw [show c + n + (word l).length + 1 = c + (word l).length + 1 + n by omega, H]
      by_cases hw : (word l).length = 0
      · rw [if_pos hw, if_pos hw]; rfl
      · rw [if_neg hw, if_neg hw]; simp [sh]
    · rw [List.drop_of_length_le (by omega), toks_nil, toks_nil]
      by_cases hw : (word l).length = 0
      · rw [if_pos hw, if_pos hw]; rfl
      · rw [if_neg hw, if_neg hw]; simp [sh]
theorem toks_blanks (n : Nat) (l : List UInt8) : ∀ c, toks (blanks n ++ l) c = toks l (c + n) := by
  induction n with
  | zero => intro c; rfl
  | succ n ih =>
    intro c
    show toks (32 :: (blanks n ++ l)) c = _
    rw [toks_blank, ih, show c + 1 + n = c + (n + 1) by omega]
theorem words_blanks (n : Nat) (L : List UInt8) : wordsL (blanks n ++ L) = sh n (wordsL L) := by
  unfold wordsL
  rw [bad_blanks, part_blanks]
  by_cases h : badL L = 0
  · rw [if_pos h, if_pos (by simp [sh0, h]), toks_blanks, toks_shift n _ _ (Nat.le_refl _)]
  · rw [if_neg h, if_neg (by unfold sh0; rw [if_neg h]; omega)]; rfl
theorem tx_sh (n : Nat) (ws : List (Nat × Tx)) : tx (sh n ws) = tx ws := by simp [tx, sh]
theorem sh_len (n : Nat) (ws : List (Nat × Tx)) : (sh n ws).length = ws.length := by simp [sh]
theorem sh0_pos {n c : Nat} (h : 1 ≤ c) : sh0 n c = c + n := by unfold sh0; rw [if_neg (by omega)]
theorem colAt_sh (n : Nat) {ws : List (Nat × Tx)} (hp : ∀ x ∈ ws, 1 ≤ x.1) (j : Nat) : colAt (sh n ws) j = sh0 n (colAt ws j) := by
  by_cases h : j < ws.length
  · rw [colAt_eq (by rw [sh_len]; exact h), colAt_eq h, sh0_pos (hp _ (List.getElem_mem h))]
    simp [sh]
  · have h1 : (sh n ws).length ≤ j := by rw [sh_len]; omega
    have h2 : ws.length ≤ j := by omega
    unfold colAt
    rw [List.getElem?_eq_none h1, List.getElem?_eq_none h2]; rfl
theorem endP_sh (n : Nat) {ws : List (Nat × Tx)} (hp : ∀ x ∈ ws, 1 ≤ x.1) : endP (sh n ws) = sh0 n (endP ws) := by
  unfold endP
  rw [colAt_sh n hp, sh_len]
  by_cases h : 0 < ws.length
  · have h1 : ws.length - 1 < ws.length := by omega
    have h2 : ws.length - 1 < (sh n ws).length := by rw [sh_len]; omega
    have h3 := hp _ (List.getElem_mem h1)
    rw [colAt_eq h1, List.getElem?_eq_getElem h1, List.getElem?_eq_getElem h2, sh0_pos h3, sh0_pos (by omega)]
    simp [sh]; omega
  · have : ws = [] := List.eq_nil_of_length_eq_zero (by omega)
    subst this; rfl
theorem misP_sh (n : Nat) {ws : List (Nat × Tx)} (hp : ∀ x ∈ ws, 1 ≤ x.1) (s : St) : misP (sh n ws) s = sh0 n (misP ws s) := by
  unfold misP
  rw [sh_len]
  split
  · exact colAt_sh n hp _
  · split
    · rfl
    · exact endP_sh n hp
theorem againP_sh (n : Nat) (ws : List (Nat × Tx)) : (∀ x ∈ ws, 1 ≤ x.1) → ∀ seen, againP seen (sh n ws) = sh0 n (againP seen ws) := by
  induction ws with
  | nil => intro _ seen; rfl
  | cons a r ih =>
    intro hp seen
    obtain ⟨c, t⟩ := a
    show againP seen ((c + n, t) :: sh n r) = _
    rw [againP, againP]
    split
    · rw [sh0_pos (hp _ (List.mem_cons_self ..))]
    · exact ih (fun x hx => hp x (List.mem_cons_of_mem _ hx)) _
theorem wrongP_sh (n : Nat) (r : Ru) {ws : List (Nat × Tx)} (hp : ∀ x ∈ ws, 1 ≤ x.1) : wrongP r (sh n ws) = sh0 n (wrongP r ws) := by
  have hl : listP r (sh n ws) = sh n (listP r ws) := by unfold listP; rw [sh_len]; simp [sh, List.map_drop]
  have hpl : ∀ x ∈ listP r ws, 1 ≤ x.1 := fun x hx => hp x (List.mem_of_mem_drop hx)
  unfold wrongP
  rw [hl]
  split
  · exact againP_sh n _ hpl _
  · split
    · exact againP_sh n _ hpl _
    · split
      · split
        · exact colAt_sh n hp _
        · exact againP_sh n _ hpl _
      · split
        · split
          · exact colAt_sh n hp _
          · split
            · exact colAt_sh n hp _
            · rfl
        · split
          · split
            · exact colAt_sh n hp _
            · rfl
          · rfl
theorem parseW_sh (n : Nat) {ws : List (Nat × Tx)} (hp : ∀ x ∈ ws, 1 ≤ x.1) : parseW (sh n ws) = shiftP n (parseW ws) := by
  unfold parseW
  rw [tx_sh, misP_sh n hp, wrongP_sh n _ hp]
  generalize misP ws (ruleP (tx ws)).2 = M
  generalize wrongP (ruleP (tx ws)).1 ws = K
  by_cases h1 : 0 < M
  · rw [if_pos h1, sh0_pos h1, if_pos (by omega)]; rfl
  · have : M = 0 := by omega
    subst this
    rw [if_neg h1, if_neg (by simp [sh0])]
    by_cases h2 : 0 < K
    · rw [if_pos h2, sh0_pos h2, if_pos (by omega)]; rfl
    · have : K = 0 := by omega
      subst this
      rw [if_neg h2, if_neg (by simp [sh0])]; rfl
theorem parse_blanks (n : Nat) (L : List UInt8) : parseL (blanks n ++ L) = shiftP n (parseL L) := by
  unfold parseL
  rw [bad_blanks, words_blanks]
  by_cases h : 0 < badL L
  · rw [if_pos h, sh0_pos h, if_pos (by omega)]; rfl
  · have h0 : badL L = 0 := by omega
    rw [if_neg h, h0, if_neg (by simp [sh0])]
    by_cases hw : wordsL L = []
    · rw [if_pos hw, hw]; rfl
    · rw [if_neg hw, if_neg (by intro e; apply hw; have := congrArg List.length e; rw [sh_len] at this; exact List.eq_nil_of_length_eq_zero (by simpa using this))]
      exact parseW_sh n fun x hx => (words_bounds L x hx).1
/-! ### what is wrong is told within the line, or just behind it -/
theorem againP_le (B : Nat) (ws : List (Nat × Tx)) : (∀ x ∈ ws, x.1 ≤ B) → ∀ seen, againP seen ws ≤ B := by
  induction ws with
  | nil => intro _ seen; exact Nat.zero_le _
  | cons a r ih =>
    intro hp seen
    obtain ⟨c, t⟩ := a
    rw [againP]
    split
    · exact hp _ (List.mem_cons_self ..)
    · exact ih (fun x hx => hp x (List.mem_cons_of_mem _ hx)) _
theorem colAt_le {B : Nat} {ws : List (Nat × Tx)} (hp : ∀ x ∈ ws, x.1 ≤ B) (j : Nat) : colAt ws j ≤ B := by
  by_cases h : j < ws.length
  · rw [colAt_eq h]; exact hp _ (List.getElem_mem h)
  · unfold colAt; rw [List.getElem?_eq_none (by omega)]; exact Nat.zero_le _
theorem wrongP_le {B : Nat} (r : Ru) {ws : List (Nat × Tx)} (hp : ∀ x ∈ ws, x.1 ≤ B) : wrongP r ws ≤ B := by
  have hpl : ∀ x ∈ listP r ws, x.1 ≤ B := fun x hx => hp x (List.mem_of_mem_drop hx)
  have h1 := fun seen => againP_le B _ hpl seen
  have h2 := fun j => colAt_le hp j
  unfold wrongP
  split
  · exact h1 _
  · split
    · exact h1 _
    · split
      · split
        · exact h2 _
        · exact h1 _
      · split
        · split
          · exact h2 _
          · split
            · exact h2 _
            · exact Nat.zero_le _
        · split
          · split
            · exact h2 _
            · exact Nat.zero_le _
          · exact Nat.zero_le _
theorem misP_le {B : Nat} {ws : List (Nat × Tx)} (hp : ∀ x ∈ ws, x.1 + x.2.length ≤ B) (s : St) : misP ws s ≤ B := by
  unfold misP
  split
  · exact colAt_le (fun x hx => by have := hp x hx; omega) _
  · split
    · exact Nat.zero_le _
    · unfold endP
      by_cases h : 0 < ws.length
      · have h1 : ws.length - 1 < ws.length := by omega
        have := hp _ (List.getElem_mem h1)
        rw [colAt_eq h1, List.getElem?_eq_getElem h1]
        exact this
      · have : ws = [] := List.eq_nil_of_length_eq_zero (by omega)
        subst this; exact Nat.zero_le _
theorem parse_col {L : List UInt8} {c : Nat} {k : Int} (h : parseL L = .bad c k) : c ≤ L.length + 1 := by
  have hw := words_bounds L
  unfold parseL at h
  split at h
  · cases h
    have := badCol_le (partL L) 0
    have := partL_le L
    unfold badL
    omega
  · split at h
    · cases h
    · unfold parseW at h
      split at h
      · cases h; exact misP_le (fun x hx => (hw x hx).2.1) _
      · split at h
        · cases h; exact wrongP_le _ (fun x hx => by have := hw x hx; omega)
        · cases h
end Go.Proofs.YtnnmjmjbfeoggaaGreatDoor
namespace Go.Proofs.YtnnmjmjbfeoggaaGreatDoor
set_option maxRecDepth 100000
open Go.ChangeShapes Go.WideShapes Go.ChangeAt Go.RowKit

theorem Tryz.bldSize : (Tryz.prog.info? 97).map (·.size) = some 2 := by kernel_rfl
theorem Tryz.bldLies : liesAt Tryz.prog Tryz.prog.depth 97 (2 / Tryz.prog.cellsOf 97) 0 97 1 = true := by kernel_rfl
theorem check_used (b : Nat) (w : World) (h0 : w.cell? ⟨b, 0, none⟩ = some (.pointer (some ⟨b, 0, none⟩))) :
    Calls Tryz.prog 94 #[.pointer (some ⟨b, 0, none⟩)] w fun e w' => e = .returned (.tuple #[]) ∧ w' = w := by
  obtain ⟨j, hj, _⟩ := Option.map_eq_some_iff.1 Tryz.bldSize
  go_enter Tryz.func94, Tryz.ntmps94
  go_wp2
  rw [Lib.run_neq_ptr_same w _ Tryz.underlying94 hj]
  go_wp2
  go_end0
  exact ⟨rfl, rfl⟩
theorem check_fresh (b : Nat) (w : World) (h0 : w.cell? ⟨b, 0, none⟩ = some (.pointer none)) (hsh : w.shape? b = some (97, 2)) (hfz : w.frozen? ⟨b, 0, none⟩ = false) :
    Calls Tryz.prog 94 #[.pointer (some ⟨b, 0, none⟩)] w fun e w' => e = .returned (.tuple #[]) ∧ w' = w.setCell ⟨b, 0, none⟩ (.pointer (some ⟨b, 0, none⟩)) := by
  obtain ⟨j, hj, hjs⟩ := Option.map_eq_some_iff.1 Tryz.bldSize
  go_enter Tryz.func94, Tryz.ntmps94
  go_wp2
  rw [Lib.run_to_unsafe w ⟨b, 0, none⟩ Tryz.underlying94 Tryz.underlying164 hj (by rw [hjs]; decide) hsh (Nat.zero_lt_succ 1)]
  simp only [Result.andThen]
  rw [Oper.upon_value]
  go_wp2
  rw [run_callFunc_extern Tryz.func147 (by kernel_rfl) (by kernel_rfl) (by kernel_rfl) (e := Extern.AbiNoEscape.same) (by kernel_rfl)]
  rw [Lib.run_noEscape]
  simp only [Result.andThen]
  rw [Oper.upon_value]
  go_wp2
  rw [Lib.run_from_unsafe w ⟨b, 0, none⟩ Tryz.underlying164 Tryz.underlying94 hj hsh Tryz.bldLies]
  simp only [Result.andThen]
  rw [Oper.upon_value]
  go_wp2
  go_end0
  exact ⟨rfl, rfl⟩
theorem bcheck_any (B b : Nat) (xs : List Value) (w : World) (h : Lib.IsBuilder 97 5 B b xs w) :
    Calls Tryz.prog 94 #[.pointer (some ⟨b, 0, none⟩)] w fun e w' => e = .returned (.tuple #[]) ∧ (Lib.BuilderAt 97 5 B b (.pointer (some ⟨b, 0, none⟩)) xs w' ∧ Below B w w') := by
  rcases h with h | h
  · refine (check_fresh b w h.cell0 h.shape h.frozen0).mono ?_
    rintro e w' ⟨rfl, rfl⟩
    exact ⟨rfl, h.used _, (Below.refl B w).setCell (p := ⟨b, 0, none⟩) h.1 _⟩
  · refine (check_used b w h.cell0).mono ?_
    rintro e w' ⟨rfl, rfl⟩
    exact ⟨rfl, h, Below.refl B _⟩
theorem Tryz.infoByte8 : (Tryz.prog.info? 5).map (fun i => (i.zero, i.size, i.bytes)) = some (some (.int .u8 0), 1, 1) := by kernel_rfl
set_option maxHeartbeats 1000000 in
theorem write_any (B b : Nat) (xs : List Value) (s : ByteArray) (w : World) (h : Lib.IsBuilder 97 5 B b xs w) (hlen : xs.length + s.size ≤ 140737488355328) (hBw : B ≤ w.heap.size) :
    Calls Tryz.prog 43 #[.pointer (some ⟨b, 0, none⟩), .string s] w fun e w' => e = .returned (.tuple #[.int .i64 s.size, .nilIface]) ∧ (Lib.BuilderAt 97 5 B b (.pointer (some ⟨b, 0, none⟩)) (xs ++ Lib.strCells s) w' ∧ Below B w w') := by
  obtain ⟨i0, hi, hz0, hz1, hz2⟩ := info_parts Tryz.infoByte8
  have HC := Lib.hid (bcheck_any B b xs w h)
  clear h
  go_enter Tryz.func43, Tryz.ntmps43
  go_wp2_with (first
    | (go_at_call 94; refine HC.out.mono ?_; rintro e w1 ⟨rfl, h1, hb1⟩; obtain ⟨hB, v, hbk, hown, hne⟩ := h1; have c1 : w1.cell? ⟨b, 1, none⟩ = some v := (by rw [Lib.cell_of_heap hbk]; rfl); have h1s := hb1.size)
    | (at_builtin; refine Lib.wpList_append_own_string _ rfl _ _ 95 9 rfl B 5 i0 Tryz.underlying95 Tryz.underlying9 hi hz0 hz1 hz2 _ _ _ rfl hown s rfl (by unfold maxLen; omega) (by omega) (by omega) ?_; intro v' w2 hown' hgrow _; have hlt := (Array.getElem?_eq_some_iff.1 hbk).1; have hb2 : w2.heap[b]? = some (.cells #[.pointer (some ⟨b, 0, none⟩), v] 97 (0, 0)) := (by rw [hgrow.block b hlt (fun e => hne e.symm)]; exact hbk); have d1 : w2.cell? ⟨b, 1, none⟩ = some v := (by rw [Lib.cell_of_heap hb2]; rfl); have f1 : w2.frozen? ⟨b, 1, none⟩ = false := Lib.frozen_of_heap hb2 1; obtain ⟨ao, n', cap, rfl⟩ : ∃ ao n' cap, v' = .slice ao n' cap := (by rcases hown'.2 with ⟨hv, _⟩ | ⟨g, cap, cur, hv, _⟩ <;> exact ⟨_, _, _, hv⟩)))
  go_ret2
  refine ⟨rfl, ?_, ?_⟩
  · exact Lib.BuilderAt.put (T := 97) (e := 5) hB hb2 (bs' := xs ++ Lib.strCells s) (by simpa [Lib.strCells_length] using hown') (by decide)
  · exact (hb1.grown hgrow (by omega) (fun k hk => (hown.lt k hk).1)).setCell (p := ⟨b, 1, none⟩) hB _
end Go.Proofs.YtnnmjmjbfeoggaaGreatDoor
