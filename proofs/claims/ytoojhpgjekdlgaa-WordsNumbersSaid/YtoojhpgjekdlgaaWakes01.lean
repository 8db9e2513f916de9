/-
  The document's example of chapter 1, as every statement of that chapter asks it; what a list of words holds.
-/
import Derived.Test.YtoojhpgjekdlgaaSplit
import Derived.Test.YtoojhpgjekdlgaaClose
namespace Go.Proofs.Ytoojhpgjekdlgaa
open Go.ChangeShapes Go.WideShapes Go.ChangeAt Go.RowKit

/-- what a block of the call's own holds, cell by cell -/
theorem own_form {w : World} {base e size n : Nat} {v : Value} {xs : List Value} (h : w.ownsRow base e size v n xs) (hn : 0 < n) :
    ∃ g cap, v = .slice (some ⟨g, 0, none⟩) n cap ∧ base ≤ g ∧ g < w.heap.size ∧ n ≤ cap ∧ ∀ j u, xs[j]? = some u → w.cell? ⟨g, j, none⟩ = some u := by
  rcases h.2 with ⟨_, h0⟩ | ⟨g, cap, cur, hv, hb, hg, hc, _⟩
  · omega
  · refine ⟨g, cap, hv, hb, (Array.getElem?_eq_some_iff.1 hg).1, hc, fun j u hu => ?_⟩
    have := h.cells (g := g) (by rw [hv]; rfl) j u hu
    have hadd : (⟨g, 0, none⟩ : Addr).add j = ⟨g, j, none⟩ := by unfold Addr.add; split <;> simp_all
    rwa [hadd] at this
theorem own_slice {w : World} {base e size n : Nat} {v : Value} {xs : List Value} (h : w.ownsRow base e size v n xs) : ∃ A cap, v = .slice A n cap := by
  rcases h.2 with ⟨hv, h0⟩ | ⟨g, cap, cur, hv, _⟩
  · exact ⟨none, 0, by rw [hv, h0]⟩
  · exact ⟨_, _, hv⟩
theorem own_below {w w' : World} {base e size n : Nat} {v : Value} {xs : List Value} (h : w.ownsRow base e size v n xs) (hb : Below w.heap.size w w') (_ : base ≤ w.heap.size) : w'.ownsRow base e size v n xs :=
  h.kept (row := none) ⟨hb.os, hb.tape, hb.output, hb.size, fun k hk _ => hb.block k hk⟩ (by cases v.ownBlock <;> simp)
def exampleLine : ByteArray := ⟨#[32, 97, 32, 32, 98, 35, 32, 99]⟩
theorem example_part : partL exampleLine.data.toList = [32, 97, 32, 32, 98] := by decide +kernel
theorem example_bad : badL exampleLine.data.toList = 0 := by decide +kernel
theorem example_words : wordsL exampleLine.data.toList = [(2, [97]), (5, [98])] := by
  have e : ∀ c, toks [32, 97, 32, 32, 98] c = [(c + 1, [97]), (c + 4, [98])] := by
    intro c
    rw [toks_blank, toks_word (by decide), show word [97, 32, 32, 98] = [97] by decide]
    simp only [List.length_cons, List.length_nil, List.drop_succ_cons, List.drop_zero, Nat.zero_add]
    rw [toks_blank, toks_blank, toks_word (by decide), show word [98] = [98] by decide]
    simp [toks_nil]
  unfold wordsL
  rw [example_bad, example_part, e]; rfl
set_option maxHeartbeats 1000000 in
theorem wakes01 (w : World) : Calls Try.prog 12 #[] w (TrueOn w) := by
  have hsp := fun W => Split_any exampleLine W (by decide) (fun _ => by rw [example_part]; decide)
  rw [example_bad, example_words] at hsp
  have HSP := Lib.hid hsp
  clear hsp
  go_enter Try.func12, Try.ntmps12
  go_wp2_with (go_at_call 10; refine (HSP.out _).mono ?_; rintro e w1 ⟨v, rfl, hown, hb⟩; obtain ⟨g, cap, rfl, hg, hg2, hcap, hc⟩ := own_form hown (by decide); have h0 : w1.cell? ⟨g, 0, none⟩ = some (.string ⟨#[97]⟩) := hc 0 _ rfl; have h1 : w1.cell? ⟨g, 1, none⟩ = some (.int .i64 2) := hc 1 _ rfl; have h2 : w1.cell? ⟨g, 2, none⟩ = some (.string ⟨#[98]⟩) := hc 2 _ rfl; have h3 : w1.cell? ⟨g, 3, none⟩ = some (.int .i64 5) := hc 3 _ rfl; clear hc hown)
  go_ret
  exact ⟨rfl, hb⟩
end Go.Proofs.Ytoojhpgjekdlgaa
