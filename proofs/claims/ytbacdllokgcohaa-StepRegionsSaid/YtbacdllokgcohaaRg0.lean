/-
  StepRegions' chart, plainly: a state of all, with two regions of two states each.
-/
import Derived.Test.YtbacdllokgcohaaShB
namespace Go.Proofs.Ytbacdllokgcohaa
set_option maxRecDepth 100000

def rgT (f t : Int) : Tr := ⟨9, f, t, [101], [], [], 0⟩
def rgC : Ch := ⟨[[119], [97], [98], [97, 49], [97, 50], [98, 49], [98, 50]], [2, 1, 1, 1, 1, 1, 1], [-1, 0, 0, 1, 1, 2, 2], [rgT 3 4, rgT 4 3, rgT 5 6, rgT 6 5]⟩
theorem rg_shf : shfB rgC.kinds rgC.parents 7 = true := by decide +kernel
theorem rg_sh : ShF rgC.kinds rgC.parents 7 := shf_of rg_shf
theorem rg_val : validB rgC = true := by decide +kernel
def rgS (a b : Bool) : Nat := 7 + (cond a 16 8) + (cond b 64 32)
def rgX (a b : Bool) (z3 z4 z5 z6 : Int) : Cf := ⟨rgS a b, [0, 0, 0, 0, 0, 0, 0], [0, 0, 0, z3, z4, z5, z6]⟩
theorem rg_run : runC rgC 7 0 16 (begC rgC 7 0) [] = some (rgX false false 0 0 0 0, []) := by decide +kernel
theorem rg_ft : ∀ t ∈ rgC.trans, ∃ f g : Nat, t.from_ = f ∧ f < 7 ∧ t.to_ = g ∧ g < 7 := by
  intro t ht
  rcases (by simpa [rgC] using ht : t = rgT 3 4 ∨ t = rgT 4 3 ∨ t = rgT 5 6 ∨ t = rgT 6 5) with rfl | rfl | rfl | rfl
  · exact ⟨3, 4, rfl, by omega, rfl, by omega⟩
  · exact ⟨4, 3, rfl, by omega, rfl, by omega⟩
  · exact ⟨5, 6, rfl, by omega, rfl, by omega⟩
  · exact ⟨6, 5, rfl, by omega, rfl, by omega⟩
theorem rg_few (s : Nat) (kd : Int) (ev : Tx) : (enL rgC s kd ev).length ≤ 19 := by
  have h1 := enK_len rgC s kd ev rgC.trans.length
  have h2 : rgC.trans.length = 4 := rfl
  unfold enL
  omega
theorem rg_inv : RunInv rgC 7 0 (Plc rgC.kinds rgC.parents 7) := runInv_plc rg_sh (by omega) (by decide) rg_ft fun s => rg_few s 10 []
theorem rg_en (a b : Bool) : sortD (lvT rgC) (enL rgC (rgS a b) 9 [101]) = [cond a 1 0, cond b 3 2] := by cases a <;> cases b <;> decide +kernel
theorem rg_pr (a b : Bool) : prop rgC.kinds rgC.parents (rgS a b) = true := by cases a <;> cases b <;> decide +kernel
theorem rg_plc {a b : Bool} {z3 z4 z5 z6 : Int} (h3 : (Lit.int .i64 z3).wf = true) (h4 : (Lit.int .i64 z4).wf = true) (h5 : (Lit.int .i64 z5).wf = true) (h6 : (Lit.int .i64 z6).wf = true) : Plc rgC.kinds rgC.parents 7 (rgX a b z3 z4 z5 z6) := by
  have hs : rgS a b < 2 ^ 7 := by cases a <;> cases b <;> decide
  refine ⟨⟨rfl, rfl, hs, fun p hp => ?_, fun z hz => ?_⟩, rg_pr a b, PastP.zero 7⟩
  · have : p = 0 := by simpa [rgX] using hp
    subst this; decide
  · rcases (by simpa [rgX] using hz : z = 0 ∨ z = z3 ∨ z = z4 ∨ z = z5 ∨ z = z6) with rfl | rfl | rfl | rfl | rfl
    · decide
    · exact h3
    · exact h4
    · exact h5
    · exact h6
theorem rg_in (a b : Bool) : (rgS a b).testBit (frT rgC (cond a 1 0)) = true ∧ (rgS a b).testBit (frT rgC (cond b 3 2)) = true := by cases a <;> cases b <;> decide +kernel
theorem rg_movA (a b : Bool) (z3 z4 z5 z6 now : Int) : movC rgC.kinds rgC.parents 7 (rgX a b z3 z4 z5 z6) (frT rgC (cond a 1 0)) (toT rgC (cond a 1 0)) now = rgX (!a) b (cond a now 0) (cond a 0 now) z5 z6 := by
  cases a <;> cases b <;> kernel_rfl
theorem rg_movB (a b : Bool) (z3 z4 z5 z6 now : Int) : movC rgC.kinds rgC.parents 7 (rgX a b z3 z4 z5 z6) (frT rgC (cond b 3 2)) (toT rgC (cond b 3 2)) now = rgX a (!b) z3 z4 (cond b now 0) (cond b 0 now) := by
  cases a <;> cases b <;> kernel_rfl
end Go.Proofs.Ytbacdllokgcohaa
