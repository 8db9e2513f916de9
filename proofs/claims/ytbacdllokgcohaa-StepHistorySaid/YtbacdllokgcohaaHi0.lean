/-
  StepHistory's chart, plainly.
-/
import Derived.Test.YtbacdllokgcohaaSt12
namespace Go.Proofs.Ytbacdllokgcohaa
set_option maxRecDepth 100000

/-- out, and in: a state of two, the first of which has two, and a history -/
def hisC (deep : Bool) : Ch := ⟨[[111, 117, 116], [105, 110], [120], [121], [120, 49], [120, 50], [104]], [1, 1, 1, 1, 1, 1, cond deep 4 3], [-1, -1, 1, 1, 2, 2, 1], [⟨9, 0, 6, [98, 97, 99, 107], [], [], 0⟩, ⟨9, 1, 0, [108, 101, 97, 118, 101], [], [], 0⟩, ⟨9, 4, 5, [103, 111], [], [], 0⟩, ⟨9, 2, 3, [111, 118, 101, 114], [], [], 0⟩]⟩
theorem hisC_valid (deep : Bool) : validB (hisC deep) = true := by cases deep <;> decide +kernel
theorem hisC_beg (deep : Bool) : begC (hisC deep) 7 0 = ⟨1, [0, 0, 0, 0, 0, 0, 0], [0, 0, 0, 0, 0, 0, 0]⟩ := by cases deep <;> decide +kernel
theorem hisC_run (deep : Bool) : runC (hisC deep) 7 0 16 (begC (hisC deep) 7 0) [] = some (begC (hisC deep) 7 0, []) := by cases deep <;> decide +kernel
/-- the way that is walked, and the sets that are met -/
def hisW (move odd : Bool) : List Nat := [0] ++ (if move = true then [2] else []) ++ (if odd = true then [3] else []) ++ [1, 0]
def hisS (deep move odd : Bool) : List Nat := [22] ++ (if move = true then [38] else []) ++ (if odd = true then [10] else []) ++ [1, if odd = true then 10 else if move = true ∧ deep = true then 38 else 22]
/-- where it is behind so many steps -/
def hisX (deep : Bool) : List Nat → Cf → Cf
  | [], x => x
  | i :: l, x => hisX deep l (stepC (hisC deep) 7 1 x i)
theorem his_sets (deep move odd : Bool) : ((List.range (hisW move odd).length).map fun k => (hisX deep ((hisW move odd).take (k + 1)) (begC (hisC deep) 7 0)).set) = hisS deep move odd := by
  cases deep <;> cases move <;> cases odd <;> decide +kernel
end Go.Proofs.Ytbacdllokgcohaa
