/-
  StepHistory, plainly: each place that is met, and that a document may be in it.
-/
import Derived.Test.YtbacdllokgcohaaHi0
import Derived.Test.YtbacdllokgcohaaShB
namespace Go.Proofs.Ytbacdllokgcohaa
set_option maxRecDepth 100000

theorem his_shf (deep : Bool) : shfB (hisC deep).kinds (hisC deep).parents 7 = true := by cases deep <;> decide +kernel
theorem his_sh (deep : Bool) : ShF (hisC deep).kinds (hisC deep).parents 7 := shf_of (his_shf deep)
theorem his_ft (deep : Bool) : ∀ t ∈ (hisC deep).trans, ∃ f g : Nat, t.from_ = f ∧ f < 7 ∧ t.to_ = g ∧ g < 7 := by
  intro t ht
  have h : t = ⟨9, 0, 6, [98, 97, 99, 107], [], [], 0⟩ ∨ t = ⟨9, 1, 0, [108, 101, 97, 118, 101], [], [], 0⟩ ∨ t = ⟨9, 4, 5, [103, 111], [], [], 0⟩ ∨ t = ⟨9, 2, 3, [111, 118, 101, 114], [], [], 0⟩ := by simpa [hisC] using ht
  rcases h with rfl | rfl | rfl | rfl
  · exact ⟨0, 6, rfl, by omega, rfl, by omega⟩
  · exact ⟨1, 0, rfl, by omega, rfl, by omega⟩
  · exact ⟨4, 5, rfl, by omega, rfl, by omega⟩
  · exact ⟨2, 3, rfl, by omega, rfl, by omega⟩
theorem his_few (deep : Bool) (s : Nat) (kd : Int) (ev : Tx) : (enL (hisC deep) s kd ev).length ≤ 19 := by
  have h1 := enK_len (hisC deep) s kd ev (hisC deep).trans.length
  have h2 : (hisC deep).trans.length = 4 := rfl
  unfold enL
  omega
theorem his_inv (deep : Bool) : RunInv (hisC deep) 7 0 (Plc (hisC deep).kinds (hisC deep).parents 7) := runInv_plc (his_sh deep) (by omega) (by decide) (his_ft deep) fun s => his_few deep s 10 []
def hisY (deep move odd : Bool) (k : Nat) : Cf := hisX deep ((hisW move odd).take k) (begC (hisC deep) 7 0)
theorem hisX_snoc (deep : Bool) : ∀ (l : List Nat) (x : Cf) (i : Nat), hisX deep (l ++ [i]) x = stepC (hisC deep) 7 1 (hisX deep l x) i
  | [], _, _ => rfl
  | _ :: l, _, i => hisX_snoc deep l _ i
theorem hisY_succ (deep move odd : Bool) {k : Nat} (h : k < (hisW move odd).length) : hisY deep move odd (k + 1) = stepC (hisC deep) 7 1 (hisY deep move odd k) (hisW move odd)[k] := by
  unfold hisY
  rw [List.take_succ_eq_append_getElem h, hisX_snoc]
theorem his_inB (deep move odd : Bool) : ((List.range (hisW move odd).length).all fun k => decide ((hisW move odd).getD k 0 < 4) && (hisY deep move odd k).set.testBit (frT (hisC deep) ((hisW move odd).getD k 0))) = true := by
  cases deep <;> cases move <;> cases odd <;> decide +kernel
theorem his_in (deep move odd : Bool) {k : Nat} (h : k < (hisW move odd).length) : (hisW move odd)[k] < 4 ∧ (hisY deep move odd k).set.testBit (frT (hisC deep) (hisW move odd)[k]) = true := by
  have := List.all_eq_true.1 (his_inB deep move odd) k (List.mem_range.2 h)
  rw [Bool.and_eq_true, decide_eq_true_eq, List.getD_eq_getElem?_getD, List.getElem?_eq_getElem h] at this
  exact this
theorem his_plc (deep move odd : Bool) : ∀ k, k ≤ (hisW move odd).length → Plc (hisC deep).kinds (hisC deep).parents 7 (hisY deep move odd k)
  | 0, _ => Plc.beg (his_sh deep) (by omega) (by decide)
  | k + 1, h => by
    have hk : k < (hisW move odd).length := h
    have ih := his_plc deep move odd k (Nat.le_of_lt hk)
    obtain ⟨h4, hin⟩ := his_in deep move odd hk
    have hil : (hisW move odd)[k] < (hisC deep).trans.length := h4
    obtain ⟨f, g, ef, hfn, eg, hgn⟩ := his_ft deep _ (List.getElem_mem hil)
    rw [hisY_succ deep move odd hk]
    unfold stepC
    rw [frT_at hil ef] at hin ⊢
    rw [toT_at hil eg]
    exact ih.mov (his_sh deep) (by omega) hfn hgn (by decide) hin
theorem his_len (deep move odd : Bool) : (hisS deep move odd).length = (hisW move odd).length := by cases deep <;> cases move <;> cases odd <;> rfl
theorem his_lenW (move odd : Bool) : (hisW move odd).length ≤ 5 := by cases move <;> cases odd <;> decide
theorem his_set (deep move odd : Bool) {k : Nat} (h : k < (hisW move odd).length) (h' : k < (hisS deep move odd).length) : (hisY deep move odd (k + 1)).set = (hisS deep move odd)[k] := by
  have e := his_sets deep move odd
  have : ((List.range (hisW move odd).length).map fun k => (hisX deep ((hisW move odd).take (k + 1)) (begC (hisC deep) 7 0)).set)[k]? = (hisS deep move odd)[k]? := by rw [e]
  rw [List.getElem?_map, List.getElem?_range h, List.getElem?_eq_getElem h'] at this
  exact Option.some.inj this
end Go.Proofs.Ytbacdllokgcohaa
