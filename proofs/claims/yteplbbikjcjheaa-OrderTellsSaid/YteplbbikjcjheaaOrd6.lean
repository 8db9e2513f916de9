/-
  Orders of names by number: New and the calls.
-/
import Derived.Test.YteplbbikjcjheaaOrd5
import Derived.Test.YteplbbikjcjheaaPair1
namespace Go.Proofs.Yteplbbikjcjheaa
set_option maxRecDepth 100000
open Go.ChangeShapes Go.WideShapes Go.ChangeAt Go.RowKit

/-- an order of N names in memory, by the numbers of its names -/
def OrdR (w : World) (g N : Nat) (R : Nat → Nat → Bool) : Prop := N ≤ 24 ∧ ∃ bl, OrdAt w g (nmL N) bl ∧ (∀ i j, i < N → j < N → rel bl i j = R i j) ∧ ∀ i j, rel bl i j = true → i < N ∧ j < N
theorem OrdR.below {w w' : World} {g N : Nat} {R : Nat → Nat → Bool} (h : OrdR w g N R) (hb : Below w.heap.size w w') : OrdR w' g N R :=
  let ⟨hN, bl, ho, hr⟩ := h; ⟨hN, bl, ho.below hb, hr⟩
theorem ownL_nm {w : World} {base N : Nat} {v : Value} (h : OwnL w base v (nmL N)) : ∃ A c, v = .slice A N c := by
  obtain ⟨A, c, e⟩ := own_slice h
  exact ⟨A, c, by rw [e, nmL_length]⟩
theorem ownP_pr {w : World} {base : Nat} {v : Value} {ps : List (Nat × Nat)} (h : OwnP w base v (ps.map pnm)) : ∃ A c, v = .slice A ps.length c := by
  obtain ⟨A, c, e⟩ := own_slice h
  exact ⟨A, c, by rw [e, List.length_map]⟩
theorem listL_nm {w : World} {base N c : Nat} {A : Option Addr} (h : OwnL w base (.slice A N c) (nmL N)) : ListAt w A c (nmL N) := by
  refine listAt_of (base := base) ?_
  rw [nmL_length]; exact h
theorem listP_pr {w : World} {base c : Nat} {A : Option Addr} {ps : List (Nat × Nat)} (h : OwnP w base (.slice A ps.length c) (ps.map pnm)) : PAt w A c (ps.map pnm) := by
  refine pAt_of (base := base) ?_
  rw [List.length_map]; exact h
/-- the names' cells -/
theorem names_cells {w : World} {N c : Nat} {A : Option Addr} (h : ListAt w A c (nmL N)) (hN : 1 ≤ N) : ∃ g, A = some ⟨g, 0, none⟩ ∧ g < w.heap.size ∧ N ≤ c ∧ ∀ j, j < N → w.cell? ⟨g, j, none⟩ = some (.string (bs (nmN j))) := by
  obtain ⟨g, e, hl, _⟩ := h.2 0 (by rw [nmL_length]; omega)
  have hc := h.1
  rw [nmL_length] at hc
  refine ⟨g, e, hl, hc, fun j hj => ?_⟩
  obtain ⟨g', e', _, hc⟩ := h.2 j (by rw [nmL_length]; exact hj)
  obtain rfl : g = g' := by rw [e] at e'; simpa using e'
  rw [nmL_get] at hc
  exact hc
/-- any pairs: New answers as newP says -/
theorem New_of {W : World} (N : Nat) (ps : List (Nat × Nat)) (A B : Option Addr) (c d : Nat) (hN : N ≤ 1000) (hl : ps.length ≤ 1000) (h1 : ListAt W A c (nmL N)) (h2 : PAt W B d (ps.map pnm)) :
    Calls Try.prog 11 #[.slice A N c, .slice B ps.length d] W (NewTo (nmL N) (ps.map pnm) W) := by
  have h := New_any (nmL N) (ps.map pnm) A B c d W h1 h2 (by rw [nmL_length]; omega) (by rw [List.length_map]; omega)
  rwa [nmL_length, List.length_map] at h
def NewR2 (N : Nat) (ps : List (Nat × Nat)) (w : World) (e : Ending) (w' : World) : Prop := ∃ g, e = .returned (.tuple #[.pointer (some ⟨g, 0, none⟩), .nilIface]) ∧ OrdR w' g N (ab N ps) ∧ Below w.heap.size w w'
theorem New_nm {W : World} (N : Nat) (ps : List (Nat × Nat)) (A B : Option Addr) (c d : Nat) (hN : N ≤ 24) (hl : ps.length ≤ 1000) (h1 : ListAt W A c (nmL N)) (h2 : PAt W B d (ps.map pnm))
    (hps : ∀ p ∈ ps, p.1 < N ∧ p.2 < N) (hc : ∀ i, i < N → way (fun a b => ps.any fun p => p.1 == a && p.2 == b) N i i = false) :
    Calls Try.prog 11 #[.slice A N c, .slice B ps.length d] W (NewR2 N ps W) := by
  refine (New_of N ps A B c d (by omega) hl h1 h2).mono ?_
  rintro e w' ⟨hb, hm⟩
  obtain ⟨bl, e1, hr⟩ := new_nm hN hps hc
  rw [e1] at hm
  obtain ⟨g, he, ho⟩ := hm
  exact ⟨g, he, ⟨hN, bl, ho, hr⟩, hb⟩
theorem New_up {W : World} (N : Nat) (ps : List (Nat × Nat)) (A B : Option Addr) (c d : Nat) (hN : N ≤ 24) (hl : ps.length ≤ 1000) (h1 : ListAt W A c (nmL N)) (h2 : PAt W B d (ps.map pnm))
    (hps : ∀ p ∈ ps, p.1 < N ∧ p.2 < N ∧ p.1 < p.2) :
    Calls Try.prog 11 #[.slice A N c, .slice B ps.length d] W (NewR2 N ps W) :=
  New_nm N ps A B c d hN hl h1 h2 (fun p hp => ⟨(hps p hp).1, (hps p hp).2.1⟩) fun i _ => by
    cases h : way (fun a b => ps.any fun p => p.1 == a && p.2 == b) N i i
    · rfl
    · exact absurd (way_upB (fun p hp => (hps p hp).2.2) N i i h) (Nat.lt_irrefl _)
theorem Above_nm {w : World} {g N : Nat} {R : Nat → Nat → Bool} (h : OrdR w g N R) (i j : Nat) (hi : i < N) (hj : j < N) :
    Calls Try.prog 21 #[.pointer (some ⟨g, 0, none⟩), .string (bs (nmN i)), .string (bs (nmN j))] w fun e w' => e = .returned (.bool (R i j)) ∧ w = w' := by
  obtain ⟨hN, bl, ho, hr, _⟩ := h
  have := Above_any g (nmL N) bl w (nmN i) (nmN j) ho
  rwa [above_nm (by omega) bl hi hj, hr i j hi hj] at this
theorem ab_refl (N : Nat) (ps : List (Nat × Nat)) (i : Nat) : ab N ps i i = true := by simp [ab]
theorem ab_trans {N : Nat} {ps : List (Nat × Nat)} {i k j : Nat} (hk : k < N) (h1 : ab N ps i k = true) (h2 : ab N ps k j = true) : ab N ps i j = true := by
  unfold ab at *
  simp only [Bool.or_eq_true, beq_iff_eq] at *
  rcases h1 with rfl | h1
  · exact h2
  · rcases h2 with rfl | h2
    · exact .inr h1
    · exact .inr (way_trans N hk h1 h2)
theorem ab_anti {N : Nat} {ps : List (Nat × Nat)} (hps : ∀ p ∈ ps, p.1 < p.2) {i j : Nat} (hne : i ≠ j) (h1 : ab N ps i j = true) : ab N ps j i = false := by
  cases h2 : ab N ps j i
  · rfl
  · unfold ab at h1 h2
    simp only [Bool.or_eq_true, beq_iff_eq] at h1 h2
    have a := h1.resolve_left hne
    have b := h2.resolve_left (fun e => hne e.symm)
    have := way_upB hps N i j a
    have := way_upB hps N j i b
    omega
theorem ab_pair {N : Nat} {ps : List (Nat × Nat)} {p : Nat × Nat} (hp : p ∈ ps) : ab N ps p.1 p.2 = true := by
  unfold ab
  simp only [Bool.or_eq_true, beq_iff_eq]
  right
  apply way_base
  rw [List.any_eq_true]
  exact ⟨p, hp, by simp⟩
theorem prs_ok {zs : List Int} {n : Nat} : ∀ p ∈ prs zs n true, p.1 < n ∧ p.2 < n ∧ p.1 < p.2 := fun p hp => by
  have := prsTo_ok (min 20 (zs.length / 2)) p hp
  exact ⟨this.1, this.2.1, this.2.2 rfl⟩
theorem prs_len (zs : List Int) (n : Nat) (up : Bool) : (prs zs n up).length ≤ 20 := by
  have := prsTo_len zs n up (min 20 (zs.length / 2))
  unfold prs; omega
theorem nm_ne {i j : Nat} (hi : i < 3000) (hj : j < 3000) (h : i ≠ j) : ((bs (nmN i)).toList != (bs (nmN j)).toList) = true := by
  have e : ((bs (nmN i)).toList == (bs (nmN j)).toList) = false := by
    rw [beq_tx, beq_eq_false_iff_ne]; exact fun e => h (nmN_inj hi hj e)
  simp [bne, e]
end Go.Proofs.Yteplbbikjcjheaa
