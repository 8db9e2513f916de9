/-
  Small things on orders of names: rows, names' cells, New at one pair.
-/
import Derived.Test.YteplbbikjcjheaaLim0
import Derived.Deep.RegionLaw
import Derived.Deep.RegionHeld3
import Derived.Deep.AppendLies
namespace Go.Proofs.Yteplbbikjcjheaa
set_option maxRecDepth 100000
open Go.ChangeShapes Go.WideShapes Go.ChangeAt Go.RowKit

theorem own_mono {w : World} {base base' e size n : Nat} {v : Value} {xs : List Value} (h : w.ownsRow base e size v n xs) (hle : base' ≤ base) : w.ownsRow base' e size v n xs :=
  ⟨h.1, h.2.elim .inl fun ⟨g, cap, cur, e, hb, r⟩ => .inr ⟨g, cap, cur, e, Nat.le_trans hle hb, r⟩⟩
theorem news_below {W w1 : World} {K : Nat} {l : List Value} (hb : Below W.heap.size W w1) (hK : K < W.heap.size) (hn : ∀ j u, l[j]? = some u → W.cell? ((⟨K, 0, none⟩ : Addr).add j) = some u) :
    ∀ j u, l[j]? = some u → w1.cell? ((⟨K, 0, none⟩ : Addr).add j) = some u := by
  intro j u hu
  have hadd : ((⟨K, 0, none⟩ : Addr).add j).block = K := by unfold Addr.add; split <;> rfl
  exact (hb.cell (by rw [hadd]; exact hK)).trans (hn j u hu)
theorem own_nm {w : World} {base N : Nat} {v : Value} (h : OwnL w base v (nmL N)) (hN : 1 ≤ N) : ∃ g cap, v = .slice (some ⟨g, 0, none⟩) N cap ∧ base ≤ g ∧ g < w.heap.size ∧ N ≤ cap ∧ w.cell? ⟨g, 0, none⟩ = some (.string (bs (nmN 0))) ∧ w.frozen? ⟨g, 0, none⟩ = false := by
  obtain ⟨g, cap, rfl, h1, h2, h3, h4⟩ := own_form h (by rw [nmL_length]; omega)
  have hf : w.frozen? ⟨g, 0, none⟩ = false := World.ownsRow.frozenAt h 0
  have hc := h4 0 (.string (bs (nmN 0))) (by simp [scells, nmL, show 0 < N by omega])
  rw [nmL_length] at h3 ⊢
  exact ⟨g, cap, rfl, h1, h2, h3, hc, hf⟩
theorem quest_out (N : Nat) : ([63] : Tx) ∉ nmL N := by
  intro h
  obtain ⟨i, _, e⟩ := List.mem_map.1 h
  have := congrArg List.length e
  simp [nmN] at this
theorem New_pair {W : World} (N : Nat) (x y : Tx) (A : Option Addr) (c : Nat) (k : Int) (hN : N ≤ 1000) (h1 : ListAt W A c (nmL N)) (hbad : newP (nmL N) [(x, y)] = .bad k) :
    Calls Try.prog 11 #[.slice A N c, .slice (some ⟨W.heap.size, 0, none⟩) 1 1] (W.alloc (.cells #[.string (bs x), .string (bs y)] 31)) fun e w' => e = .returned (.tuple #[.pointer none, .iface 40 (.int .i64 k)]) ∧ Below W.heap.size W w' := by
  have hbA : Below W.heap.size W (W.alloc (.cells #[.string (bs x), .string (bs y)] 31)) := (Below.refl _ _).alloc (Nat.le_refl _) _
  have R := heap_alloc_new W (.cells #[.string (bs x), .string (bs y)] 31)
  have hp : PAt (W.alloc (.cells #[.string (bs x), .string (bs y)] 31)) (some ⟨W.heap.size, 0, none⟩) 1 [(x, y)] :=
    ⟨Nat.le_refl _, fun j hj => ⟨_, rfl, by simp, by
      simp at hj
      subst hj
      exact ⟨by rw [cell_of_row _ _ _ _ _ _ R]; rfl, by rw [cell_of_row _ _ _ _ _ _ R]; rfl⟩⟩⟩
  have h := New_any (nmL N) [(x, y)] A _ c 1 _ (h1.below hbA) hp (by rw [nmL_length]; omega) (by simp)
  rw [nmL_length] at h
  refine h.mono ?_
  rintro e w' ⟨hb, hm⟩
  rw [hbad] at hm
  exact ⟨hm, below_then hbA hb hbA.size⟩
theorem way_none (n i j : Nat) : way (fun a b => ([] : List (Nat × Nat)).any fun p => p.1 == a && p.2 == b) n i j = false := by
  cases h : way (fun a b => ([] : List (Nat × Nat)).any fun p => p.1 == a && p.2 == b) n i j
  · rfl
  · exact (way_least (T := fun _ _ => False) (fun _ _ _ h _ => h) (fun i j h => by simp at h) n h).elim
theorem pAt_nil (w : World) : PAt w none 0 [] := ⟨Nat.le_refl _, fun j hj => by simp at hj⟩
end Go.Proofs.Yteplbbikjcjheaa
