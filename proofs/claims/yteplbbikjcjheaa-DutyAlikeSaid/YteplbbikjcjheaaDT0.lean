/-
  Which tasks are apart: plain, no program in it.
-/
import Derived.Lib.BitFns
namespace Go.Proofs.Yteplbbikjcjheaa
set_option maxRecDepth 100000

abbrev TxT := List UInt8
/-- the other tasks of the lists that have the task -/
def othersP (task : TxT) (L : List (List TxT)) : List TxT := L.flatMap fun l => if task ∈ l then l.filter (· != task) else []
/-- may somebody who did those do the task? -/
def mayB (done : List TxT) (task : TxT) (L : List (List TxT)) : Bool := !done.any fun d => decide (d ∈ othersP task L)
theorem mem_others {task d : TxT} {L : List (List TxT)} : d ∈ othersP task L ↔ ∃ l ∈ L, task ∈ l ∧ d ∈ l ∧ d ≠ task := by
  unfold othersP
  rw [List.mem_flatMap]
  constructor
  · rintro ⟨l, hl, h⟩
    split at h
    · rename_i ht
      rw [List.mem_filter] at h
      exact ⟨l, hl, ht, h.1, by simpa using h.2⟩
    · simp at h
  · rintro ⟨l, hl, ht, hd, hne⟩
    refine ⟨l, hl, ?_⟩
    rw [if_pos ht, List.mem_filter]
    exact ⟨hd, by simpa using hne⟩
theorem may_no {done : List TxT} {task : TxT} {L : List (List TxT)} : mayB done task L = false ↔ ∃ l ∈ L, task ∈ l ∧ ∃ d ∈ l, d ≠ task ∧ d ∈ done := by
  unfold mayB
  simp only [Bool.not_eq_false', List.any_eq_true, decide_eq_true_eq]
  constructor
  · rintro ⟨d, hd, h⟩
    obtain ⟨l, hl, ht, h1, h2⟩ := mem_others.1 h
    exact ⟨l, hl, ht, d, h1, h2, hd⟩
  · rintro ⟨l, hl, ht, d, h1, h2, hd⟩
    exact ⟨d, hd, mem_others.2 ⟨l, hl, ht, h1, h2⟩⟩
theorem may_eq {a b : List TxT} {s t : TxT} {L M : List (List TxT)} (h : mayB a s L = false ↔ mayB b t M = false) : mayB a s L = mayB b t M := by
  cases h1 : mayB a s L <;> cases h2 : mayB b t M <;> simp_all
theorem may_self (s : TxT) (L : List (List TxT)) : mayB [s] s L = true := by
  cases h : mayB [s] s L
  · obtain ⟨l, _, _, d, _, h2, h3⟩ := may_no.1 h
    exact absurd (List.mem_singleton.1 h3) h2
  · rfl
theorem may_nil (s : TxT) (L : List (List TxT)) : mayB [] s L = true := rfl
theorem may_both (s t : TxT) (L : List (List TxT)) : mayB [s] t L = mayB [t] s L := may_eq (by
  rw [may_no, may_no]
  constructor
  · rintro ⟨l, hl, ht, d, hd, hne, h⟩
    rw [List.mem_singleton.1 h] at hd hne
    exact ⟨l, hl, hd, t, ht, fun e => hne e.symm, List.mem_singleton.2 rfl⟩
  · rintro ⟨l, hl, ht, d, hd, hne, h⟩
    rw [List.mem_singleton.1 h] at hd hne
    exact ⟨l, hl, hd, s, ht, fun e => hne e.symm, List.mem_singleton.2 rfl⟩)
theorem may_out {done : List TxT} {x : TxT} {L : List (List TxT)} (h : ∀ l ∈ L, x ∉ l) : mayB done x L = true := by
  cases e : mayB done x L
  · obtain ⟨l, hl, ht, _⟩ := may_no.1 e
    exact absurd ht (h l hl)
  · rfl
/-- the document's rounds: the lists ahead of k have none that is apart -/
theorem may_yes {done : List TxT} {task : TxT} {L : List (List TxT)} (h : ∀ l ∈ L, task ∈ l → ∀ d ∈ l, d ≠ task → d ∉ done) : mayB done task L = true := by
  cases e : mayB done task L
  · obtain ⟨l, hl, ht, d, h1, h2, h3⟩ := may_no.1 e
    exact absurd h3 (h l hl ht d h1 h2)
  · rfl
theorem others_take {task : TxT} {L : List (List TxT)} {k : Nat} (h : k < L.length) : othersP task (L.take (k + 1)) = othersP task (L.take k) ++ if task ∈ L[k] then L[k].filter (· != task) else [] := by
  unfold othersP
  rw [List.take_succ_eq_append_getElem h, List.flatMap_append]
  simp
theorem filter_take {task : TxT} {l : List TxT} {k : Nat} (h : k < l.length) : (l.take (k + 1)).filter (· != task) = (l.take k).filter (· != task) ++ if l[k] = task then [] else [l[k]] := by
  rw [List.take_succ_eq_append_getElem h, List.filter_append]
  by_cases e : l[k] = task
  · simp [e]
  · simp [e]
/-- the first of a list of which something is so; -1: of none -/
def fI {α : Type} (p : α → Bool) (l : List α) : Int := match l.findIdx? p with
  | some k => k
  | none => -1
theorem fI_hit {α : Type} {p : α → Bool} {l : List α} {k : Nat} (hk : k < l.length) (h : p l[k] = true) (hn : ∀ j (hj : j < k), p l[j] = false) : fI p l = k := by
  unfold fI
  have : l.findIdx? p = some k := by
    rw [List.findIdx?_eq_some_iff_getElem]
    exact ⟨hk, h, fun j hj => by simp [hn j hj]⟩
  rw [this]
theorem fI_miss {α : Type} {p : α → Bool} {l : List α} (hn : ∀ j (hj : j < l.length), p l[j] = false) : fI p l = -1 := by
  unfold fI
  have : l.findIdx? p = none := by
    rw [List.findIdx?_eq_none_iff]
    intro x hx
    obtain ⟨j, hj, rfl⟩ := List.getElem_of_mem hx
    exact hn j hj
  rw [this]
theorem fI_any {α : Type} (p : α → Bool) (l : List α) : decide (0 ≤ fI p l) = l.any p := by
  unfold fI
  cases e : l.findIdx? p with
  | none =>
    rw [List.findIdx?_eq_none_iff] at e
    have : l.any p = false := List.any_eq_false.2 (fun x hx => by simp [e x hx])
    rw [this]; rfl
  | some k =>
    rw [List.findIdx?_eq_some_iff_getElem] at e
    obtain ⟨hk, h1, _⟩ := e
    have : l.any p = true := List.any_eq_true.2 ⟨_, List.getElem_mem hk, h1⟩
    rw [this]; simp
end Go.Proofs.Yteplbbikjcjheaa
