import Derived.Test.YtgffbgmieppckaaGreatDoorSd0
import Derived.Test.YtgffbgmieppckaaGreatDoorSn0
namespace Go.Proofs.YtgffbgmieppckaaGreatDoor
set_option maxRecDepth 100000
open Go.ChangeShapes Go.WideShapes Go.ChangeAt Go.RowKit
def dA (sw : Bool) : Tx := if sw then [114, 98] else [114, 97]
def dB (sw : Bool) : Tx := if sw then [114, 97] else [114, 98]
def bA (sw : Bool) : Nat := if sw then 2 else 1
def bB (sw : Bool) : Nat := if sw then 1 else 2
def sd1 : List Se := [⟨1, [117, 97], 0⟩]
def sd2 : List Se := [⟨1, [117, 97], 0⟩, ⟨2, [117, 97], 0⟩]
def sd3 : List Se := [⟨1, [117, 97], 0⟩, ⟨2, [117, 97], 0⟩, ⟨3, [117, 98], 0⟩]
def st1 (sw : Bool) : List Se := [⟨1, [117, 97], bA sw⟩, ⟨2, [117, 97], 0⟩, ⟨3, [117, 98], 0⟩]
def st2 (sw : Bool) : List Se := [⟨1, [117, 97], bA sw⟩, ⟨2, [117, 97], bB sw⟩, ⟨3, [117, 98], 0⟩]
def st3 (sw : Bool) : List Se := [⟨1, [117, 97], bA sw⟩, ⟨2, [117, 97], bB sw⟩, ⟨3, [117, 98], 4⟩]
def st4 (sw : Bool) : List Se := [⟨1, [117, 97], bA sw⟩, ⟨2, [117, 97], bB sw⟩, ⟨3, [117, 98], 6⟩]
def sdG (t : Int) : Gr := ⟨1, [117, 97], [117, 98], [114, 98], t, 1, 0⟩
theorem sdo1 : opE (hnm sdR.users) [117, 97] 0 = 0 := by kernel_rfl
theorem sdo2 : opE (hnm sdR.users) [117, 97] 1 = 0 := by kernel_rfl
theorem sdo3 : opE (hnm sdR.users) [117, 98] 2 = 0 := by kernel_rfl
theorem sda1 (sw : Bool) : actE sdN sdB sdR [] sd3 1 (dA sw) = 0 ∧ (sPut sd3 1 fun s => s.act ||| oneP sdN (dA sw)) = st1 sw := by cases sw <;> exact ⟨by kernel_rfl, by kernel_rfl⟩
theorem sda2 (sw : Bool) : actE sdN sdB sdR [] (st1 sw) 1 (dB sw) = 7 := by cases sw <;> kernel_rfl
theorem sda3 (sw : Bool) : actE sdN sdB sdR [] (st1 sw) 2 (dB sw) = 0 ∧ (sPut (st1 sw) 2 fun s => s.act ||| oneP sdN (dB sw)) = st2 sw := by cases sw <;> exact ⟨by kernel_rfl, by kernel_rfl⟩
theorem sda4 (sw : Bool) : actE sdN sdB sdR [] (st2 sw) 3 [114, 99] = 0 ∧ (sPut (st2 sw) 3 fun s => s.act ||| oneP sdN [114, 99]) = st3 sw := by cases sw <;> exact ⟨by kernel_rfl, by kernel_rfl⟩
theorem sda5 (sw : Bool) : actE sdN sdB sdR [] (st3 sw) 3 [114, 98] = 8 := by cases sw <;> kernel_rfl
theorem sda6 (sw : Bool) (t : Int) : actE sdN sdB sdR [sdG t] (st3 sw) 3 [114, 98] = 0 ∧ (sPut (st3 sw) 3 fun s => s.act ||| oneP sdN [114, 98]) = st4 sw := by cases sw <;> exact ⟨by kernel_rfl, by kernel_rfl⟩
theorem sdm1 (sw : Bool) : mayP sdB sdR 3 (st4 sw) 3 [112, 97] = true := by cases sw <;> kernel_rfl
theorem sdm2 (sw : Bool) : mayP sdB sdR 3 (st4 sw) 1 [112, 97] = !sw := by cases sw <;> kernel_rfl
theorem sdm3 (sw : Bool) : mayP sdB sdR 3 (st4 sw) 2 [112, 97] = sw := by cases sw <;> kernel_rfl
theorem sdm4 (sw : Bool) : mayP sdB sdR 3 (st4 sw) 9 [112, 97] = false := by cases sw <;> kernel_rfl
theorem sdm5 (sw : Bool) : mayP sdB sdR 3 (st4 sw) 1 [112, 120] = false := by cases sw <;> kernel_rfl
theorem sdm6 (sw : Bool) : mayP sdB sdR 3 (st4 sw) 1 [] = true := by cases sw <;> kernel_rfl
theorem sdu1 : upperTo sdB (rtHas sdR.perms [112, 97]) 3 < 16777216 := by decide +kernel
theorem sdu2 : upperTo sdB (rtHas sdR.perms [112, 120]) 3 < 16777216 := by decide +kernel
theorem sdu3 : upperTo sdB (rtHas sdR.perms []) 3 < 16777216 := by decide +kernel
theorem sdp1 (sw : Bool) : prL sdN sdB sdR [] (st4 sw) = [3] ∧ (st4 sw).map (prA sdN sdB sdR []) = st3 sw := by cases sw <;> exact ⟨by kernel_rfl, by kernel_rfl⟩
theorem sdp2 (sw : Bool) : prL sdN sdB sdR [] (st3 sw) = [] ∧ (st3 sw).map (prA sdN sdB sdR []) = st3 sw := by cases sw <;> exact ⟨by kernel_rfl, by kernel_rfl⟩
theorem sdg3 (sw : Bool) : sGet (st3 sw) 3 = some ⟨3, [117, 98], 4⟩ := by cases sw <;> kernel_rfl
theorem sd_lt (sw : Bool) : (∀ s ∈ sd3, s.act < 16777216) ∧ (∀ s ∈ st1 sw, s.act < 16777216) ∧ (∀ s ∈ st2 sw, s.act < 16777216) ∧ (∀ s ∈ st3 sw, s.act < 16777216) ∧ (∀ s ∈ st4 sw, s.act < 16777216) := by
 cases sw <;> refine ⟨?_, ?_, ?_, ?_, ?_⟩ <;> (intro s hs; simp [sd3, st1, st2, st3, st4, bA, bB] at hs; rcases hs with rfl | rfl | rfl <;> decide)
theorem sd_ln (sw : Bool) : (st1 sw).length ≤ 1000 ∧ (st2 sw).length ≤ 1000 ∧ (st3 sw).length ≤ 1000 ∧ (st4 sw).length ≤ 1000 := by cases sw <;> decide
theorem sd_loan : (lnV sdR.loans [114, 98]).2 ≤ 1073741824 := by show (9 : Int) ≤ 1073741824; decide
theorem sd_e1 {t : Int} (t1 : 1 ≤ t) (t2 : t ≤ 9) : giveE sdN sdB sdR [] (giveX [] 0 [117, 97] [117, 98] [114, 98] 0) 0 t = 0 :=
 wr0 (by kernel_rfl) (by
  unfold argP
  rw [show decide ((giveX [] 0 [117, 97] [117, 98] [114, 98] 0).fro = (giveX [] 0 [117, 97] [117, 98] [114, 98] 0).rcv) = false by kernel_rfl, decide_eq_false (by omega : ¬ t < 1), show ((lnP sdR.loans (giveX [] 0 [117, 97] [117, 98] [114, 98] 0).role).isSome && decide ((lnV sdR.loans (giveX [] 0 [117, 97] [117, 98] [114, 98] 0).role).2 < t)) = false from decide_eq_false (by show ¬ (9 : Int) < t; omega)]
  rfl) (by kernel_rfl) (by omega) (by kernel_rfl) (by show ¬ 20 ≤ 0; decide) (by kernel_rfl)
theorem sd_g1 (t : Int) : giveG [] (giveX [] 0 [117, 97] [117, 98] [114, 98] 0) 0 t = sdG t := by
 show (⟨1, [117, 97], [117, 98], [114, 98], 0 + t, 1, 0⟩ : Gr) = ⟨1, [117, 97], [117, 98], [114, 98], t, 1, 0⟩
 rw [Int.zero_add]
theorem sd_i0 : GrI [] 0 := ⟨(by simp), (by decide), (by decide), (fun g hg => by cases hg), (fun g hg => by cases hg), (fun g hg => by cases hg)⟩
theorem sd_rem (t : Int) : remP (fun g => decide (g.til ≤ t)) [sdG t] = ([], [1]) := by
 unfold remP remStep
 have : (sdG t).til = t := rfl
 simp [this]
 rfl
end Go.Proofs.YtgffbgmieppckaaGreatDoor
