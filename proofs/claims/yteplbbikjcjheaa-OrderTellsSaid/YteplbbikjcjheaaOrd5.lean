/-
  The document's example; what an order of names by number is like; the help Is at an order's errors.
-/
import Derived.Test.YteplbbikjcjheaaOrd4
import Derived.Test.YteplbbikjcjheaaPair0
import Derived.Test.YteplbbikjcjheaaClose
namespace Go.Proofs.Yteplbbikjcjheaa
set_option maxRecDepth 100000
open Go.ChangeShapes Go.WideShapes Go.ChangeAt Go.RowKit

theorem new_ab : newP [[97], [98]] [([97], [98])] = .ok [3, 2] := by rfl
theorem above_ab : aboveP [[97], [98]] [3, 2] [97] [98] = true := by decide
theorem above_ba : aboveP [[97], [98]] [3, 2] [98] [97] = false := by decide
set_option maxHeartbeats 1000000 in
theorem wakes04 (w : World) : Calls Try.prog 15 #[] w (TrueOn w) := by
  have R := heap_alloc_new w (.cells #[.string (bs [97]), .string (bs [98])] 9)
  have R2 := heap_alloc_new (w.alloc (.cells #[.string (bs [97]), .string (bs [98])] 9)) (.cells #[.string (bs [97]), .string (bs [98])] 31)
  have hb2 : Below w.heap.size w ((w.alloc (.cells #[.string (bs [97]), .string (bs [98])] 9)).alloc (.cells #[.string (bs [97]), .string (bs [98])] 31)) := ((Below.refl _ _).alloc (Nat.le_refl _) _).alloc (by simp) _
  have hn : ListAt ((w.alloc (.cells #[.string (bs [97]), .string (bs [98])] 9)).alloc (.cells #[.string (bs [97]), .string (bs [98])] 31)) (some ⟨w.heap.size, 0, none⟩) 2 [[97], [98]] :=
    ⟨Nat.le_refl _, fun j hj => ⟨_, rfl, by simp; omega, by
      rw [World.cell?_alloc_lt _ _ _ (by simp), cell_of_row _ _ _ _ _ _ R]
      simp at hj
      obtain rfl | rfl : j = 0 ∨ j = 1 := by omega
      · rfl
      · rfl⟩⟩
  have hp : PAt ((w.alloc (.cells #[.string (bs [97]), .string (bs [98])] 9)).alloc (.cells #[.string (bs [97]), .string (bs [98])] 31)) (some ⟨w.heap.size + 1, 0, none⟩) 1 [([97], [98])] :=
    ⟨Nat.le_refl _, fun j hj => ⟨_, rfl, by simp, by
      have e : (w.alloc (.cells #[.string (bs [97]), .string (bs [98])] 9)).heap.size = w.heap.size + 1 := by simp
      rw [e] at R2
      simp at hj
      subst hj
      exact ⟨by rw [cell_of_row _ _ _ _ _ _ R2]; rfl, by rw [cell_of_row _ _ _ _ _ _ R2]; rfl⟩⟩⟩
  have hnew := New_any [[97], [98]] [([97], [98])] _ _ 2 1 _ hn hp (by simp) (by simp)
  have NW : Hid (Calls Try.prog 11 #[.slice (some ⟨w.heap.size, 0, none⟩) 2 2, .slice (some ⟨w.heap.size + 1, 0, none⟩) 1 1] ((w.alloc (.cells #[.string (bs [97]), .string (bs [98])] 9)).alloc (.cells #[.string (bs [97]), .string (bs [98])] 31)) fun e w' =>
      ∃ g, e = .returned (.tuple #[.pointer (some ⟨g, 0, none⟩), .nilIface]) ∧ OrdAt w' g [[97], [98]] [3, 2] ∧ Below w.heap.size w w') := by
    refine hnew.mono ?_
    rintro e w' ⟨hb, hm⟩
    rw [new_ab] at hm
    obtain ⟨g, he, ho⟩ := hm
    exact ⟨g, he, ho, below_then hb2 hb hb2.size⟩
  clear hnew hn hp R R2 hb2
  have e97 : (⟨#[97]⟩ : ByteArray) = bs [97] := rfl
  have e98 : (⟨#[98]⟩ : ByteArray) = bs [98] := rfl
  have AB := Lib.hid (fun g W (h : OrdAt W g [[97], [98]] [3, 2]) => Above_any g _ _ W [97] [98] h)
  have BA := Lib.hid (fun g W (h : OrdAt W g [[97], [98]] [3, 2]) => Above_any g _ _ W [98] [97] h)
  rw [above_ab] at AB
  rw [above_ba] at BA
  have tok1 : True := trivial
  go_enter Try.func15, Try.ntmps15
  go_wp2_with (first
    | (go_at_call 11; refine NW.out.mono ?_; rintro e w1 ⟨g, rfl, ho, hb1⟩)
    | (have _t := tok1; go_at_call 21; refine (AB.out g _ ho).mono ?_; rintro e w2 ⟨rfl, rfl⟩; clear tok1 _t)
    | (go_at_call 21; refine (BA.out g _ ho).mono ?_; rintro e w3 ⟨rfl, rfl⟩))
  go_ret
  exact ⟨rfl, hb1⟩

/-! ### an order of names by number -/
/-- i is above j: the same, or a way of pairs -/
def ab (n : Nat) (ps : List (Nat × Nat)) (i j : Nat) : Bool := i == j || way (fun a b => ps.any fun p => p.1 == a && p.2 == b) n i j
theorem in_nm {n : Nat} {ps : List (Nat × Nat)} (h : ∀ p ∈ ps, p.1 < n ∧ p.2 < n) : (ps.map pnm).all (inN (nmL n)) = true := by
  rw [List.all_eq_true]
  intro x hx
  obtain ⟨p, hp, rfl⟩ := List.mem_map.1 hx
  simp [inN, pnm, nmL_mem (h p hp).1, nmL_mem (h p hp).2]
theorem prel_nm {n : Nat} (hn : n ≤ 3000) {ps : List (Nat × Nat)} (h : ∀ p ∈ ps, p.1 < n ∧ p.2 < n) : prel (nmL n) (ps.map pnm) = fun a b => ps.any fun p => p.1 == a && p.2 == b := by
  funext a b
  unfold prel
  rw [List.any_map]
  rw [Bool.eq_iff_iff, List.any_eq_true, List.any_eq_true]
  have key : ∀ p ∈ ps, ((fun p : Pr => idx (nmL n) p.1 == a && idx (nmL n) p.2 == b) ∘ pnm) p = (p.1 == a && p.2 == b) := fun p hp => by
    simp only [Function.comp, pnm]
    rw [nmL_idx hn (h p hp).1, nmL_idx hn (h p hp).2]
  constructor
  · rintro ⟨p, hp, e⟩; exact ⟨p, hp, by rw [← key p hp]; exact e⟩
  · rintro ⟨p, hp, e⟩; exact ⟨p, hp, by rw [key p hp]; exact e⟩
/-- what New answers of names by number, where no circle is -/
theorem new_nm {n : Nat} (hn : n ≤ 24) {ps : List (Nat × Nat)} (h : ∀ p ∈ ps, p.1 < n ∧ p.2 < n) (hc : ∀ i, i < n → way (fun a b => ps.any fun p => p.1 == a && p.2 == b) n i i = false) :
    ∃ bl, newP (nmL n) (ps.map pnm) = .ok bl ∧ (∀ i j, i < n → j < n → rel bl i j = ab n ps i j) ∧ ∀ i j, rel bl i j = true → i < n ∧ j < n := by
  have hin := in_nm h
  have hlen := nmL_length n
  have hps := psL_all (nmL n) (by omega) (ps.map pnm) (List.all_eq_true.1 hin)
  have hfl := folL_length (nmL n) (ps.map pnm)
  have hrel : ∀ i j, rel (folL (nmL n) (ps.map pnm)) i j = way (fun a b => ps.any fun p => p.1 == a && p.2 == b) n i j := by
    intro i j
    unfold folL
    rw [folTo_rel, hlen]
    congr 1
    funext a b
    rw [hps.2.2, prel_nm (by omega) h]
  have hci : circ (folL (nmL n) (ps.map pnm)) = false := circ_no fun j hj => by
    rw [hrel]; exact hc j (by omega)
  refine ⟨_, new_ok (by omega) (nmL_nodup (by omega)) hin hci, fun i j hi hj => ?_, fun i j hij => ?_⟩
  rotate_left
  · rw [selfTo_rel _ _ (by omega), hrel, Bool.or_eq_true] at hij
    rcases hij with hij | hij
    · exact way_bound (fun i j h' => by
        rw [List.any_eq_true] at h'
        obtain ⟨p, hp, e⟩ := h'
        simp only [Bool.and_eq_true, beq_iff_eq] at e
        have := h p hp
        omega) n hij
    · simp only [Bool.and_eq_true, decide_eq_true_eq, beq_iff_eq] at hij
      omega
  rw [selfTo_rel _ _ (by omega), hrel]
  unfold ab
  have : decide (i < (nmL n).length) = true := by simpa using (by omega : i < (nmL n).length)
  rw [this, Bool.true_and, Bool.or_comm]
theorem way_upB {ps : List (Nat × Nat)} (h : ∀ p ∈ ps, p.1 < p.2) (n i j : Nat) (hw : way (fun a b => ps.any fun p => p.1 == a && p.2 == b) n i j = true) : i < j :=
  way_up (fun i j hij => by
    rw [List.any_eq_true] at hij
    obtain ⟨p, hp, e⟩ := hij
    simp only [Bool.and_eq_true, beq_iff_eq] at e
    have := h p hp
    omega) n hw
theorem above_nm {n : Nat} (hn : n ≤ 3000) (bl : List Nat) {i j : Nat} (hi : i < n) (hj : j < n) : aboveP (nmL n) bl (nmN i) (nmN j) = rel bl i j := by
  unfold aboveP
  rw [nmL_idx hn hi, nmL_idx hn hj]
  simp [nmL_mem hi, nmL_mem hj]
end Go.Proofs.Yteplbbikjcjheaa
