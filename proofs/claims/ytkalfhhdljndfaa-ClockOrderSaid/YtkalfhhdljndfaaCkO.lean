/-
  The order of Dues, plainly: by time, by document, by transition: a strict order of all of them.
-/
import Derived.Test.YtkalfhhdljndfaaCk4
import Derived.Sort.Statements
import Derived.Sort.Walk0
namespace Go.Proofs.Ytkalfhhdljndfaa
set_option maxRecDepth 100000

abbrev DueT := Int × List UInt8 × Int
def ltD (x y : DueT) : Prop := x.1 < y.1 ∨ x.1 = y.1 ∧ (x.2.1 < y.2.1 ∨ x.2.1 = y.2.1 ∧ x.2.2 < y.2.2)
theorem ltD_irrefl (x : DueT) : ¬ ltD x x := by
  rintro (h | ⟨_, h | ⟨_, h⟩⟩)
  · omega
  · exact List.lt_irrefl _ h
  · omega
theorem ltD_trans {x y z : DueT} (h1 : ltD x y) (h2 : ltD y z) : ltD x z := by
  obtain ⟨a, b, c⟩ := x
  obtain ⟨d, e, f⟩ := y
  obtain ⟨g, h, i⟩ := z
  rcases h1 with h1 | ⟨h1, h1' | ⟨h1', h1''⟩⟩ <;> rcases h2 with h2 | ⟨h2, h2' | ⟨h2', h2''⟩⟩ <;> simp only [ltD] at * 
  · exact .inl (by omega)
  · exact .inl (by omega)
  · exact .inl (by omega)
  · exact .inl (by omega)
  · exact .inr ⟨by omega, .inl (List.lt_trans h1' h2')⟩
  · exact .inr ⟨by omega, .inl (h2' ▸ h1')⟩
  · exact .inl (by omega)
  · exact .inr ⟨by omega, .inl (h1' ▸ h2')⟩
  · exact .inr ⟨by omega, .inr ⟨h1'.trans h2', by omega⟩⟩
theorem ltD_tri (x y : DueT) : ltD x y ∨ x = y ∨ ltD y x := by
  obtain ⟨a, b, c⟩ := x
  obtain ⟨d, e, f⟩ := y
  rcases (by omega : a < d ∨ a = d ∨ d < a) with h | rfl | h
  · exact .inl (.inl h)
  · by_cases h1 : b < e
    · exact .inl (.inr ⟨rfl, .inl h1⟩)
    · by_cases h2 : e < b
      · exact .inr (.inr (.inr ⟨rfl, .inl h2⟩))
      · obtain rfl : b = e := List.le_antisymm (α := UInt8) h2 h1
        rcases (by omega : c < f ∨ c = f ∨ f < c) with h | rfl | h
        · exact .inl (.inr ⟨rfl, .inr ⟨rfl, h⟩⟩)
        · exact .inr (.inl rfl)
        · exact .inr (.inr (.inr ⟨rfl, .inr ⟨rfl, h⟩⟩))
  · exact .inr (.inr (.inl h))
def cfD (x y : DueT) : Int := or3 (cmpI x.1 y.1) (cmpB x.2.1 y.2.1) (cmpI x.2.2 y.2.2)
theorem cmpI_neg (x y : Int) : (cmpI x y < 0 ↔ x < y) ∧ (cmpI x y = 0 ↔ x = y) := by
  unfold cmpI
  constructor <;> (split <;> first | omega | (split <;> omega))
theorem cmpB_neg (x y : List UInt8) : (cmpB x y < 0 ↔ x < y) ∧ (cmpB x y = 0 ↔ x = y) := by
  unfold cmpB
  rw [bytesLess_eq]
  by_cases h1 : x < y
  · rw [if_pos (by simpa using h1)]
    refine ⟨⟨fun _ => h1, fun _ => (by decide)⟩, ⟨fun h => absurd h (by decide), fun h => ?_⟩⟩
    subst h
    exact absurd h1 (List.lt_irrefl _)
  · rw [if_neg (by simpa using h1)]
    by_cases h2 : x = y
    · subst h2
      rw [if_pos (by simp)]
      exact ⟨⟨fun h => absurd h (by decide), fun h => absurd h h1⟩, ⟨fun _ => rfl, fun _ => rfl⟩⟩
    · rw [if_neg (by simpa using h2)]
      exact ⟨⟨fun h => absurd h (by decide), fun h => absurd h h1⟩, ⟨fun h => absurd h (by decide), fun h => absurd h h2⟩⟩
theorem cfD_neg (x y : DueT) : cfD x y < 0 ↔ ltD x y := by
  obtain ⟨a, b, c⟩ := x
  obtain ⟨d, e, f⟩ := y
  have h1 := cmpI_neg a d
  have h2 := cmpB_neg b e
  have h3 := cmpI_neg c f
  unfold cfD or3 ltD
  simp only
  by_cases ha : a = d
  · rw [if_neg (by rw [ne_eq, Classical.not_not]; exact h1.2.2 ha)]
    by_cases hb : b = e
    · rw [if_neg (by rw [ne_eq, Classical.not_not]; exact h2.2.2 hb), h3.1]
      constructor
      · intro h; exact .inr ⟨ha, .inr ⟨hb, h⟩⟩
      · rintro (h | ⟨_, h | ⟨_, h⟩⟩)
        · omega
        · subst hb; exact absurd h (List.lt_irrefl _)
        · exact h
    · rw [if_pos (fun h => hb (h2.2.1 h)), h2.1]
      constructor
      · intro h; exact .inr ⟨ha, .inl h⟩
      · rintro (h | ⟨_, h | ⟨h, _⟩⟩)
        · omega
        · exact h
        · exact absurd h hb
  · rw [if_pos (fun h => ha (h1.2.1 h)), h1.1]
    constructor
    · intro h; exact .inl h
    · rintro (h | ⟨h, _⟩)
      · exact h
      · exact absurd h ha
def ltB (x y : DueT) : Bool := decide (cfD x y < 0)
theorem ltB_iff (x y : DueT) : ltB x y = true ↔ ltD x y := by unfold ltB; rw [decide_eq_true_eq]; exact cfD_neg x y
theorem ltB_false (x y : DueT) : ltB x y = false ↔ ¬ ltD x y := by
  rw [← Bool.not_eq_true, ltB_iff]
theorem ltB_swo : Go.Sort.SWO ltB where
  irrefl x := (ltB_false x x).2 (ltD_irrefl x)
  trans x y z h1 h2 := (ltB_iff x z).2 (ltD_trans ((ltB_iff x y).1 h1) ((ltB_iff y z).1 h2))
  ntrans x y z h1 h2 := by
    rw [ltB_false] at *
    intro h
    rcases ltD_tri x y with h3 | h3 | h3
    · exact h1 h3
    · subst h3; exact h2 h
    · exact h2 (ltD_trans h3 h)
/-- sorted: none comes ahead of one that stands before it -/
def SrtD : List DueT → Prop
  | [] => True
  | x :: l => (∀ y ∈ l, ¬ ltD y x) ∧ SrtD l
/-- sorted lists of the same things are the same -/
theorem srt_unique : ∀ {l m : List DueT}, l.Perm m → SrtD l → SrtD m → l = m
  | [], m, hp, _, _ => (List.nil_perm.1 hp).symm
  | x :: l, [], hp, _, _ => absurd (List.perm_nil.1 hp) (by simp)
  | x :: l, y :: m, hp, hl, hm => by
    have e : x = y := by
      have hx : x ∈ y :: m := hp.subset List.mem_cons_self
      have hy : y ∈ x :: l := hp.symm.subset List.mem_cons_self
      rcases List.mem_cons.1 hx with h | h
      · exact h
      · rcases List.mem_cons.1 hy with h' | h'
        · exact h'.symm
        · rcases ltD_tri x y with h3 | h3 | h3
          · exact absurd h3 (hm.1 x h)
          · exact h3
          · exact absurd h3 (hl.1 y h')
    subst e
    rw [srt_unique (List.Perm.cons_inv hp) hl.2 hm.2]
/-- sorting one by one -/
def insO (x : DueT) : List DueT → List DueT
  | [] => [x]
  | y :: l => if ltB x y = true then x :: y :: l else y :: insO x l
def srtD (l : List DueT) : List DueT := l.foldr insO []
theorem insO_perm (x : DueT) : ∀ l, (insO x l).Perm (x :: l)
  | [] => List.Perm.refl _
  | y :: l => by
    unfold insO
    split
    · exact List.Perm.refl _
    · exact ((insO_perm x l).cons y).trans (List.Perm.swap x y l)
theorem insO_srt (x : DueT) : ∀ {l}, SrtD l → SrtD (insO x l)
  | [], _ => ⟨fun y h => (by cases h), trivial⟩
  | y :: l, h => by
    unfold insO
    split
    · rename_i hxy
      have hxy := (ltB_iff x y).1 hxy
      refine ⟨fun z hz hzx => ?_, h⟩
      rcases List.mem_cons.1 hz with rfl | hz
      · exact ltD_irrefl _ (ltD_trans hxy hzx)
      · exact h.1 z hz (ltD_trans hzx hxy)
    · rename_i hxy
      have hxy : ¬ ltD x y := fun h9 => hxy ((ltB_iff x y).2 h9)
      refine ⟨fun z hz => ?_, insO_srt x h.2⟩
      rcases List.mem_cons.1 ((insO_perm x l).subset hz) with rfl | hz
      · exact hxy
      · exact h.1 z hz
theorem srtD_perm : ∀ l, (srtD l).Perm l
  | [] => List.Perm.refl _
  | x :: l => (insO_perm x (srtD l)).trans ((srtD_perm l).cons x)
theorem srtD_srt : ∀ l, SrtD (srtD l)
  | [] => trivial
  | x :: l => insO_srt x (srtD_srt l)
/-- whatever is sorted and has the same things is srtD -/
theorem srtD_of {l m : List DueT} (hp : m.Perm l) (hs : SrtD m) : m = srtD l := srt_unique (hp.trans (srtD_perm l).symm) hs (srtD_srt l)
end Go.Proofs.Ytkalfhhdljndfaa
