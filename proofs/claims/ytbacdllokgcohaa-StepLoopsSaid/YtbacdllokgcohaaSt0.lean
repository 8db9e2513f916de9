/-
  Package step, plainly: where a document stands; what a transition makes of it.
-/
import Derived.Test.YtbacdllokgcohaaEn9
import Derived.Test.YtbacdllokgcohaaEn8
import Derived.Test.YtbacdllokgcohaaEl5
namespace Go.Proofs.Ytbacdllokgcohaa
set_option maxRecDepth 100000
open Go.ChangeShapes Go.WideShapes Go.ChangeAt Go.RowKit

/-- where a document stands: its states, what was left last, since when -/
structure Cf where
  set : Nat
  past : List Nat
  since : List Int
deriving DecidableEq
def ent1 (now : Int) (x : Cf) (k : Nat) : Cf := ⟨x.set ||| 2 ^ k, x.past, x.since.set k now⟩
def entC (now : Int) (x : Cf) (l : List Nat) : Cf := l.foldl (ent1 now) x
def lef1 (x : Cf) (k : Nat) : Cf := ⟨adn x.set (2 ^ k), x.past, x.since.set k 0⟩
def lefC (x : Cf) (l : List Nat) : Cf := l.foldl lef1 x
/-- behind a transition -/
def movC (ks ps : List Int) (n : Nat) (x : Cf) (f t : Nat) (now : Int) : Cf :=
  entC now (lefC ⟨x.set, rememL ks ps n x.set x.past (leaveL ps n x.set (domL ks ps n f t)), x.since⟩ (leaveL ps n x.set (domL ks ps n f t)))
    (enterL ks ps n (pfun (rememL ks ps n x.set x.past (leaveL ps n x.set (domL ks ps n f t)))) (domL ks ps n f t) t)
theorem entC_snoc (now : Int) (x : Cf) (l : List Nat) (k : Nat) : entC now x (l ++ [k]) = ent1 now (entC now x l) k := by unfold entC; rw [List.foldl_append]; rfl
theorem lefC_snoc (x : Cf) (l : List Nat) (k : Nat) : lefC x (l ++ [k]) = lef1 (lefC x l) k := by unfold lefC; rw [List.foldl_append]; rfl
/-- as many lists' elements as states; sets of states that there are -/
structure CfOk (n : Nat) (x : Cf) : Prop where
  lp : x.past.length = n
  ls : x.since.length = n
  st : x.set < 2 ^ n
  pl : ∀ p ∈ x.past, p < 2 ^ n
  si : ∀ z ∈ x.since, (Lit.int .i64 z).wf = true
theorem or_lt2 {n a k : Nat} (ha : a < 2 ^ n) (hk : k < n) : a ||| 2 ^ k < 2 ^ n := Nat.or_lt_two_pow ha (Nat.pow_lt_pow_right (by omega) hk)
theorem adn_lt2 {n a b : Nat} (ha : a < 2 ^ n) : adn a b < 2 ^ n := Nat.lt_of_le_of_lt Nat.and_le_left ha
theorem wf_set {l : List Int} (h : ∀ z ∈ l, (Lit.int .i64 z).wf = true) {v : Int} (hv : (Lit.int .i64 v).wf = true) (k : Nat) : ∀ z ∈ l.set k v, (Lit.int .i64 z).wf = true := fun z hz => by
  rcases List.mem_or_eq_of_mem_set hz with h1 | h1
  · exact h z h1
  · rw [h1]; exact hv
theorem CfOk.ent1 {n : Nat} {x : Cf} (h : CfOk n x) {now : Int} (hw : (Lit.int .i64 now).wf = true) {k : Nat} (hk : k < n) : CfOk n (ent1 now x k) := ⟨h.lp, by simp [Go.Proofs.Ytbacdllokgcohaa.ent1, h.ls], or_lt2 h.st hk, h.pl, wf_set h.si hw k⟩
theorem CfOk.lef1 {n : Nat} {x : Cf} (h : CfOk n x) {k : Nat} : CfOk n (lef1 x k) := ⟨h.lp, by simp [Go.Proofs.Ytbacdllokgcohaa.lef1, h.ls], adn_lt2 h.st, h.pl, wf_set h.si (by decide) k⟩
theorem CfOk.entC {n : Nat} {now : Int} (hw : (Lit.int .i64 now).wf = true) : ∀ {l : List Nat} {x : Cf}, CfOk n x → (∀ k ∈ l, k < n) → CfOk n (entC now x l)
  | [], _, h, _ => h
  | k :: l, x, h, hl => CfOk.entC hw (l := l) (x := Go.Proofs.Ytbacdllokgcohaa.ent1 now x k) (h.ent1 hw (hl k List.mem_cons_self)) fun j hj => hl j (List.mem_cons_of_mem _ hj)
theorem CfOk.lefC {n : Nat} : ∀ {l : List Nat} {x : Cf}, CfOk n x → CfOk n (lefC x l)
  | [], _, h => h
  | _ :: l, _, h => CfOk.lefC (l := l) h.lef1
/-- a place in memory: what was left last in a list that is only read, since when in a block of its own -/
structure CfR (base : Nat) (W : World) (n : Nat) (x : Cf) (vP : Value) (gS : Nat) : Prop where
  ok : CfOk n x
  uP : U32sAt W vP x.past
  lo : base ≤ gS
  rS : W.heap[gS]? = some (.cells (icells x.since).toArray 3 (0, 0))
abbrev cfV (x : Cf) (vP : Value) (gS n : Nat) : Value := .agg #[.int .u32 (x.set : Nat), vP, .slice (some ⟨gS, 0, none⟩) n n]
theorem CfR.below {base : Nat} {W W' : World} {n : Nat} {x : Cf} {vP : Value} {gS : Nat} (h : CfR base W n x vP gS) (hb : Below W.heap.size W W') : CfR base W' n x vP gS :=
  ⟨h.ok, h.uP.below hb, h.lo, (hb.block _ (Array.getElem?_eq_some_iff.1 h.rS).1).trans h.rS⟩
theorem CfR.base {base base' : Nat} {W : World} {n : Nat} {x : Cf} {vP : Value} {gS : Nat} (h : CfR base W n x vP gS) (hb : base' ≤ base) : CfR base' W n x vP gS := ⟨h.ok, h.uP, Nat.le_trans hb h.lo, h.rS⟩
theorem CfR.ints {base : Nat} {W : World} {n : Nat} {x : Cf} {vP : Value} {gS : Nat} (h : CfR base W n x vP gS) (hn : n ≤ 1000) : IntsAt W (.slice (some ⟨gS, 0, none⟩) n n) x.since := by
  have hl := h.ok.ls
  refine ⟨some ⟨gS, 0, none⟩, n, by rw [hl], by unfold maxLen; omega, fun k hk => ⟨gS, 0, rfl, (Array.getElem?_eq_some_iff.1 h.rS).1, ?_, h.ok.si _ (List.getElem_mem hk)⟩⟩
  rw [cell_of_row _ _ _ _ _ _ h.rS, Nat.zero_add]
  simp [icells, hk]
end Go.Proofs.Ytbacdllokgcohaa
