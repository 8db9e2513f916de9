/-
  A reader stays within the words of its line; what a rule that was read is like.
-/
import Derived.Test.YtgemciecdplcgaaDoorPlain04
namespace Go.Proofs.YtgemciecdplcgaaDoor
set_option maxRecDepth 100000

theorem name_le {T : List Tx} {s : St} (h : s.k ≤ T.length) : (nameP T s).2.k ≤ T.length := tk_le h fun e => nameL_ne e
theorem number_le {T : List Tx} {s : St} (h : s.k ≤ T.length) : (numberP T s).2.k ≤ T.length := tk_le h fun e => isNum_ne e
theorem fixed_le {T : List Tx} {x : Tx} {s : St} (hx : x ≠ []) (h : s.k ≤ T.length) : (fixedP T x s).k ≤ T.length := tk_le h fun e => by rw [beq_iff_eq] at e; rw [e]; exact hx
theorem choice_le {T tbl : List Tx} {s : St} (h0 : tbl.head? = some []) (h : s.k ≤ T.length) : (choiceP T tbl s).2.k ≤ T.length := tk_le h fun e => by
  intro e2
  rw [e2] at e
  cases tbl with
  | nil => simp at h0
  | cons a r => simp at h0; subst h0; simp [idx] at e
theorem option_le {T : List Tx} {x : Tx} {s : St} (hx : x ≠ []) (h : s.k ≤ T.length) : (optionP T x s).2.k ≤ T.length := by
  unfold optionP
  split
  · rename_i e; exact name_le (tk_le h fun _ => by rw [e]; exact hx)
  · exact h
theorem fromTo_le {T : List Tx} {s : St} (h : s.k ≤ T.length) : (fromToP T s).2.2.k ≤ T.length :=
  name_le (fixed_le (by decide) (name_le (fixed_le (by decide) h)))
theorem names_le {T : List Tx} {least : Nat} (N : Nat) : ∀ (acc : List Tx) (s : St), s.k ≤ T.length → (namesP T least acc s N).2.k ≤ T.length := by
  induction N with
  | zero => intro _ _ h; exact h
  | succ N ih =>
    intro acc s h
    rw [namesP]
    split
    · exact ih _ _ (name_le h)
    · exact h
theorem rule_le (T : List Tx) : (ruleP T).2.k ≤ T.length := by
  have hc : (choiceP T kindT ⟨0, false⟩).2.k ≤ T.length := choice_le rfl (Nat.zero_le _)
  unfold ruleP
  generalize choiceP T kindT ⟨0, false⟩ = C at hc
  unfold bodyP
  split
  · unfold roleP
    split
    · rename_i _ e; exact names_le _ _ _ (tk_le (name_le hc) fun _ => by rw [e]; decide)
    · exact name_le hc
  split
  · exact names_le _ _ _ (name_le hc)
  split
  · exact names_le _ _ _ (number_le hc)
  split
  · exact names_le _ _ _ hc
  split
  · exact number_le (number_le (name_le hc))
  split
  · exact option_le (by decide) (choice_le rfl (name_le hc))
  split
  · exact option_le (by decide) (option_le (by decide) (fromTo_le (name_le hc)))
  split
  · exact fromTo_le hc
  split
  · exact fromTo_le (number_le hc)
  exact hc

/-- a rule that was read: its list is no longer than its line; its kind is one of the eleven -/
def RuOk (r : Ru) : Prop := r.list.length ≤ 4096 ∧ 1 ≤ r.kind ∧ r.kind ≤ 11
theorem ru_ok {L : Tx} {r : Ru} (h : parseL L = .ok r) (hL : L.length ≤ 4096) : RuOk r := by
  have hb := words_bounds L
  have hct := words_count L
  have hpl := partL_le L
  unfold parseL at h
  split at h
  · cases h
  · rename_i h0
    split at h
    · cases h
    · rename_i hne
      have hlen : (wordsL L).length ≤ L.length := by
        have := hct
        omega
      generalize wordsL L = ws at *
      unfold parseW at h
      split at h
      · cases h
      · rename_i h1
        split at h
        · cases h
        · cases h
          have hpos : 0 < ws.length := List.length_pos_iff.2 hne
          have hM0 : misP ws (ruleP (tx ws)).2 = 0 := by omega
          obtain ⟨_, hm⟩ := mis_zero (fun x hx => (hb x hx).1) hpos hM0
          obtain ⟨f1, f2, _⟩ := formed hm (rule_le (tx ws))
          rw [tx_len] at f1 f2
          refine ⟨by omega, ?_, ?_⟩
          · rcases f2 with f2 | f2 | f2 | f2 | f2 | f2 | f2 | ⟨f2 | f2 | f2, _⟩ | ⟨f2, _⟩ <;> rw [f2] <;> decide
          · rcases f2 with f2 | f2 | f2 | f2 | f2 | f2 | f2 | ⟨f2 | f2 | f2, _⟩ | ⟨f2, _⟩ <;> rw [f2] <;> decide
end Go.Proofs.YtgemciecdplcgaaDoor
