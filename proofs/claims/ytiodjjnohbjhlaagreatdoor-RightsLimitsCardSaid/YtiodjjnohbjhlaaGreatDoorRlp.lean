/-
  The rules that RightsLimits makes, and what they are compiled to: plain.
-/
import Derived.Test.YtiodjjnohbjhlaaGreatDoorRtI
namespace Go.Proofs.YtiodjjnohbjhlaaGreatDoor
set_option maxRecDepth 100000

def sameR (s r : Ru) : Bool := decide (s.kind = r.kind) && decide (s.name = r.name) && decide (s.list = r.list) && decide (s.n = r.n) && decide (s.m = r.m) && decide (s.from_ = r.from_) && decide (s.to_ = r.to_) && decide (s.by_ = r.by_) && decide (s.task = r.task) && decide (s.in_ = r.in_)
theorem sameR_eq {s r : Ru} (h : sameR s r = true) : s = r := by
  obtain ⟨a1, a2, a3, a4, a5, a6, a7, a8, a9, a10⟩ := s
  obtain ⟨b1, b2, b3, b4, b5, b6, b7, b8, b9, b10⟩ := r
  simp only [sameR, Bool.and_eq_true, decide_eq_true_eq] at h
  obtain ⟨⟨⟨⟨⟨⟨⟨⟨⟨rfl, rfl⟩, rfl⟩, rfl⟩, rfl⟩, rfl⟩, rfl⟩, rfl⟩, rfl⟩, rfl⟩ := h
  rfl
def okR (p : PR) (r : Ru) : Bool := match p with
  | .ok s => sameR s r
  | _ => false
theorem printR_of {r : Ru} (h : okR (parseL (joinP (lineP r))) r = true) : printP r ≠ none := by
  cases hp : parseL (joinP (lineP r)) with
  | bad c k => rw [hp] at h; cases h
  | empty => rw [hp] at h; cases h
  | ok s =>
    rw [hp] at h
    have e : s = r := sameR_eq h
    subst e
    rw [printP_some.2 ⟨rfl, hp⟩]
    simp
def nmL2 (i : Nat) : Tx := [120, byteOf (97 + i % 26), byteOf (97 + i / 26)]
def rlK : List Int := [2, 3, 4, 5, 6, 1]
def rlM : List Nat := [12, 24, 8, 8, 8, 24]
def rlR (v i : Nat) : Ru := if v = 0 ∨ v = 1 ∨ v = 5 then { kind := rlK.getD v 0, name := nmL2 i } else if v = 4 then { kind := 6, list := [[116], nmL2 i] } else { kind := rlK.getD v 0, n := 2, list := [[114, 45, 97], [114, 45, 98]] }
def rlH (v : Nat) : List (Ru × Nat) := if v = 5 then [] else [({ kind := 1, name := [114, 45, 97] }, 1), ({ kind := 1, name := [114, 45, 98] }, 2)]
def rlF (v : Nat) : Nat := if v = 5 then 1 else 3
def limR (v n : Nat) : List (Ru × Nat) := rlH v ++ (List.range n).map fun i => (rlR v i, rlF v + i)
theorem limR_succ (v n : Nat) : limR v (n + 1) = limR v n ++ [(rlR v n, rlF v + n)] := by
  unfold limR
  rw [List.range_succ, List.map_append, List.append_assoc]; rfl
theorem rl_all : ((List.range 6).all fun v => (limR v 26).all fun x => okR (parseL (joinP (lineP x.1))) x.1) = true := by decide +kernel
theorem rl_ok {v n : Nat} (hv : v < 6) (hn : n ≤ 26) : ∀ x ∈ limR v n, printP x.1 ≠ none := by
  intro x hx
  refine printR_of (List.all_eq_true.1 (List.all_eq_true.1 rl_all v (List.mem_range.2 hv)) x ?_)
  rcases List.mem_append.1 hx with h | h
  · exact List.mem_append_left _ h
  · obtain ⟨i, hi, rfl⟩ := List.mem_map.1 h
    exact List.mem_append_right _ (List.mem_map.2 ⟨i, by have := List.mem_range.1 hi; exact List.mem_range.2 (by omega), rfl⟩)
def rlB (p : Rs (List Tx × List Pr × Rt)) (v d : Nat) : Bool := match p with
  | .ok _ => decide (d ≤ 1)
  | .bad l k => decide (d = 2) && decide (l = rlF v + rlM.getD v 0) && decide (k = 5)
theorem rl_res : ((List.range 6).all fun v => (List.range 3).all fun d => rlB (rtL (limR v (rlM.getD v 0 - 1 + d))) v d) = true := by decide +kernel
theorem rl_yes {v d : Nat} (hv : v < 6) (hd : d ≤ 1) : ∃ c, rtL (limR v (rlM.getD v 0 - 1 + d)) = .ok c := by
  have h := List.all_eq_true.1 (List.all_eq_true.1 rl_res v (List.mem_range.2 hv)) d (List.mem_range.2 (by omega))
  cases hp : rtL (limR v (rlM.getD v 0 - 1 + d)) with
  | ok c => exact ⟨c, rfl⟩
  | bad l k =>
    rw [hp] at h
    simp only [rlB, Bool.and_eq_true, decide_eq_true_eq] at h
    omega
theorem rl_no {v : Nat} (hv : v < 6) : rtL (limR v (rlM.getD v 0 - 1 + 2)) = .bad (rlF v + rlM.getD v 0) 5 := by
  have h := List.all_eq_true.1 (List.all_eq_true.1 rl_res v (List.mem_range.2 hv)) 2 (List.mem_range.2 (by omega))
  cases hp : rtL (limR v (rlM.getD v 0 - 1 + 2)) with
  | ok c =>
    rw [hp] at h
    simp [rlB] at h
  | bad l k =>
    rw [hp] at h
    simp only [rlB, Bool.and_eq_true, decide_eq_true_eq] at h
    rw [h.1.2, h.2]
theorem rl_small (v i : Nat) : Small (rlR v i) ∧ (rlR v i).list.length ≤ 4096 := by
  have h0 : (-9223372036854775808 : Int) ≤ 0 ∧ (0 : Int) ≤ 9223372036854775807 := by decide
  unfold rlR
  split
  · exact ⟨⟨h0, h0, by simp [totR, nmL2, sumL]⟩, by simp⟩
  · split
    · exact ⟨⟨h0, h0, by simp [totR, nmL2, sumL]⟩, by simp⟩
    · exact ⟨⟨by show (-9223372036854775808 : Int) ≤ 2 ∧ (2 : Int) ≤ 9223372036854775807; decide, h0, by simp [totR, sumL]⟩, by simp⟩
theorem limR_small {v n : Nat} : ∀ x ∈ limR v n, Small x.1 ∧ x.1.list.length ≤ 4096 := by
  intro x hx
  rcases List.mem_append.1 hx with h | h
  · unfold rlH at h
    split at h
    · cases h
    · simp only [List.mem_cons, List.mem_nil_iff, or_false] at h
      rcases h with rfl | rfl <;> exact ⟨⟨by decide, by decide, by simp [totR, sumL]⟩, by simp⟩
  · obtain ⟨i, _, rfl⟩ := List.mem_map.1 h
    exact rl_small v i
end Go.Proofs.YtiodjjnohbjhlaaGreatDoor
