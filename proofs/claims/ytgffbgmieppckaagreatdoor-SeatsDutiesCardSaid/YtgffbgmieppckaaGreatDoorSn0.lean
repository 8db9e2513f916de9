import Derived.Test.YtgffbgmieppckaaGreatDoorSe1
import Derived.Test.YtgffbgmieppckaaGreatDoorRtP
namespace Go.Proofs.YtgffbgmieppckaaGreatDoor
set_option maxRecDepth 100000
open Go.ChangeShapes Go.WideShapes Go.ChangeAt Go.RowKit
def snTx : Tx := [117, 115, 101, 114, 32, 117, 97, 10]
def snR : Rt := { users := [([117, 97], 0)], perms := [], stat := [], dyn := [], apart := [], loans := [] }
def sdTx : Tx := [114, 111, 108, 101, 32, 114, 97, 10, 114, 111, 108, 101, 32, 114, 98, 10, 114, 111, 108, 101, 32, 114, 99, 32, 62, 32, 114, 97, 10, 117, 115, 101, 114, 32, 117, 97, 32, 114, 97, 32, 114, 98, 10, 117, 115, 101, 114, 32, 117, 98, 32, 114, 99, 10, 100, 115, 100, 32, 50, 32, 114, 97, 32, 114, 98, 10, 108, 101, 110, 100, 32, 114, 98, 32, 49, 32, 57, 10, 112, 101, 114, 109, 32, 112, 97, 32, 114, 97, 10]
def sdN : List Tx := [[114, 97], [114, 98], [114, 99]]
def sdP : List Pr := [([114, 99], [114, 97])]
def sdB : List Nat := [1, 2, 5]
def sdR : Rt := { users := [([117, 97], 3), ([117, 98], 4)], perms := [([112, 97], 1)], stat := [], dyn := [(2, 3)], apart := [], loans := [([114, 98], 1, 9)] }
def rtIs (t : Tx) (ns : List Tx) (ps : List Pr) (R : Rt) : Bool := match rtL (polT t).l with
 | .ok (n, p, r) => decide (n = ns) && decide (p = ps) && decide (r.users = R.users) && decide (r.perms = R.perms) && decide (r.stat = R.stat) && decide (r.dyn = R.dyn) && decide (r.apart = R.apart) && decide (r.loans = R.loans)
 | _ => false
theorem rtIs_at {t : Tx} {ns : List Tx} {ps : List Pr} {R : Rt} (h : rtIs t ns ps R = true) : rtL (polT t).l = .ok (ns, ps, R) := by
 unfold rtIs at h
 cases hq : rtL (polT t).l with
 | bad a b => rw [hq] at h; cases h
 | ok c =>
  obtain ⟨n, p, r⟩ := c
  rw [hq] at h
  simp only [Bool.and_eq_true, decide_eq_true_eq] at h
  obtain ⟨⟨⟨⟨⟨⟨⟨rfl, rfl⟩, h1⟩, h2⟩, h3⟩, h4⟩, h5⟩, h6⟩ := h
  obtain ⟨a, b, c, d, e, f⟩ := r
  obtain ⟨a', b', c', d', e', f'⟩ := R
  simp only at h1 h2 h3 h4 h5 h6
  subst h1 h2 h3 h4 h5 h6
  rfl
theorem sn_at : rtL (polT snTx).l = .ok ([], [], snR) := rtIs_at (by decide +kernel)
theorem sd_at : rtL (polT sdTx).l = .ok (sdN, sdP, sdR) := rtIs_at (by decide +kernel)
theorem sn_bl : rtBl [] [] = [] := by decide +kernel
theorem sd_bl : rtBl sdN sdP = sdB := by decide +kernel
end Go.Proofs.YtgffbgmieppckaaGreatDoor
