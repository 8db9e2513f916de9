/-
  The names and pairs that the statements on orders are made of: plain lists.
-/
import Derived.Test.YteplbbikjcjheaaWithin
import Derived.Test.YteplbbikjcjheaaList
import Derived.Test.YteplbbikjcjheaaO0
namespace Go.Proofs.Yteplbbikjcjheaa
set_option maxRecDepth 100000
open Go.ChangeShapes Go.WideShapes Go.ChangeAt Go.RowKit

def nmN (i : Nat) : Tx := [byteOf (97 + i % 26), byteOf (97 + i / 26)]
def nmL (n : Nat) : List Tx := (List.range n).map nmN
theorem nmL_length (n : Nat) : (nmL n).length = n := by simp [nmL]
theorem nmL_get {n i : Nat} (h : i < (nmL n).length) : (nmL n)[i] = nmN i := by simp [nmL]
theorem nmL_succ (n : Nat) : nmL (n + 1) = nmL n ++ [nmN n] := by simp [nmL, List.range_succ]
theorem nmN_inj {i j : Nat} (hi : i < 3000) (hj : j < 3000) (h : nmN i = nmN j) : i = j := by
  unfold nmN at h
  injection h with h1 h2
  injection h2 with h2 _
  have e1 := congrArg UInt8.toNat h1
  have e2 := congrArg UInt8.toNat h2
  simp [byteOf] at e1 e2
  omega
theorem nmL_nodup {n : Nat} (h : n ≤ 3000) : (nmL n).Nodup := by
  unfold nmL
  rw [List.nodup_iff_pairwise_ne, List.pairwise_map]
  refine (List.nodup_range (n := n)).imp_of_mem ?_
  intro a b ha hb hab e
  exact hab (nmN_inj (by have := List.mem_range.1 ha; omega) (by have := List.mem_range.1 hb; omega) e)
theorem nmL_mem {n i : Nat} (h : i < n) : nmN i ∈ nmL n := List.mem_map.2 ⟨i, List.mem_range.2 h, rfl⟩
theorem nmL_idx {n i : Nat} (hn : n ≤ 3000) (h : i < n) : idx (nmL n) (nmN i) = i := by
  have h' : i < (nmL n).length := by rw [nmL_length]; exact h
  have := idx_get (nmL_nodup hn) h'
  rwa [nmL_get] at this

/-- two numbers as a pair of names' places, or none -/
def pstep (n : Nat) (up : Bool) (x y : Int) : List (Nat × Nat) :=
  let a := (within x (max n 1)).toNat
  let b := (within y (max n 1)).toNat
  if (up && a == b) || n == 0 then [] else if up && decide (b < a) then [(b, a)] else [(a, b)]
def prsTo (zs : List Int) (n : Nat) (up : Bool) : Nat → List (Nat × Nat)
  | 0 => []
  | k + 1 => prsTo zs n up k ++ pstep n up (zs.getD (2 * k) 0) (zs.getD (2 * k + 1) 0)
def prs (zs : List Int) (n : Nat) (up : Bool) : List (Nat × Nat) := prsTo zs n up (min 20 (zs.length / 2))
theorem pstep_len (n : Nat) (up : Bool) (x y : Int) : (pstep n up x y).length ≤ 1 := by
  unfold pstep; simp only; split
  · simp
  · split <;> simp
theorem prsTo_len (zs : List Int) (n : Nat) (up : Bool) : ∀ k, (prsTo zs n up k).length ≤ k
  | 0 => by simp [prsTo]
  | k + 1 => by
    have := prsTo_len zs n up k
    have := pstep_len n up (zs.getD (2 * k) 0) (zs.getD (2 * k + 1) 0)
    rw [prsTo, List.length_append]; omega
theorem within_nat (x : Int) (n : Nat) (h : 1 ≤ n) : (within x n).toNat < n ∧ within x n = ((within x n).toNat : Int) := by
  have := within_bd x n (by omega)
  omega
theorem pstep_ok {n : Nat} {up : Bool} {x y : Int} : ∀ p ∈ pstep n up x y, p.1 < n ∧ p.2 < n ∧ (up = true → p.1 < p.2) := by
  intro p hp
  unfold pstep at hp
  simp only at hp
  have ha := within_nat x (max n 1) (by omega)
  have hb := within_nat y (max n 1) (by omega)
  have e : ((max n 1 : Nat) : Int) = max (n : Int) 1 := by omega
  rw [e] at ha hb
  generalize (within x (max (n : Int) 1)).toNat = a at *
  generalize (within y (max (n : Int) 1)).toNat = b at *
  split at hp
  · cases hp
  · rename_i hc
    simp only [Bool.or_eq_true, Bool.and_eq_true, beq_iff_eq, not_or, not_and] at hc
    split at hp
    · rename_i hd
      simp only [Bool.and_eq_true, decide_eq_true_eq] at hd
      rw [List.mem_singleton] at hp
      subst hp
      simp only
      omega
    · rename_i hd
      simp only [Bool.and_eq_true, decide_eq_true_eq, not_and] at hd
      rw [List.mem_singleton] at hp
      subst hp
      simp only
      refine ⟨by omega, by omega, fun hu => ?_⟩
      have := hc.1 hu
      have := hd hu
      omega
theorem prsTo_ok {zs : List Int} {n : Nat} {up : Bool} : ∀ k, ∀ p ∈ prsTo zs n up k, p.1 < n ∧ p.2 < n ∧ (up = true → p.1 < p.2)
  | 0, p, hp => by cases hp
  | k + 1, p, hp => by
    rw [prsTo] at hp
    rcases List.mem_append.1 hp with hp | hp
    · exact prsTo_ok k p hp
    · exact pstep_ok p hp
def pnm (p : Nat × Nat) : Pr := (nmN p.1, nmN p.2)
end Go.Proofs.Yteplbbikjcjheaa
