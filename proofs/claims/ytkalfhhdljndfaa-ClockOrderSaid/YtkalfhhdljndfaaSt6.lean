/-
  Package step, plainly: where a document stands; what a transition makes of it.
-/
import Derived.Test.YtkalfhhdljndfaaEl4
import Derived.Laws.CopyOwn
import Derived.Laws.MakeOwn
import Derived.Test.YtkalfhhdljndfaaShOf
import Derived.Lib.OwnBridge
import Derived.Test.YtkalfhhdljndfaaOwnI
import Derived.BigQuiet
import Derived.Laws.BitsAllLaws
import Derived.Deep.RegionHeld3
import Derived.Test.YtkalfhhdljndfaaDArg
namespace Go.Proofs.Ytkalfhhdljndfaa
set_option maxRecDepth 100000
open Go.ChangeShapes Go.WideShapes Go.ChangeAt Go.RowKit

/-- where a document stands: its states, what was left last, since when -/
structure Cf where
  set : Nat
  past : List Nat
  since : List Int
deriving DecidableEq
/-- as many lists' elements as states; sets of states that there are -/
structure CfOk (n : Nat) (x : Cf) : Prop where
  lp : x.past.length = n
  ls : x.since.length = n
  st : x.set < 2 ^ n
  pl : ∀ p ∈ x.past, p < 2 ^ n
  si : ∀ z ∈ x.since, (Lit.int .i64 z).wf = true
/-- a place in memory: what was left last in a list that is only read, since when in a block of its own -/
structure CfR (base : Nat) (W : World) (n : Nat) (x : Cf) (vP : Value) (gS : Nat) : Prop where
  ok : CfOk n x
  uP : U32sAt W vP x.past
  lo : base ≤ gS
  rS : W.heap[gS]? = some (.cells (icells x.since).toArray 3 (0, 0))
theorem CfR.below {base : Nat} {W W' : World} {n : Nat} {x : Cf} {vP : Value} {gS : Nat} (h : CfR base W n x vP gS) (hb : Below W.heap.size W W') : CfR base W' n x vP gS :=
  ⟨h.ok, h.uP.below hb, h.lo, (hb.block _ (Array.getElem?_eq_some_iff.1 h.rS).1).trans h.rS⟩
theorem CfR.ints {base : Nat} {W : World} {n : Nat} {x : Cf} {vP : Value} {gS : Nat} (h : CfR base W n x vP gS) (hn : n ≤ 1000) : IntsAt W (.slice (some ⟨gS, 0, none⟩) n n) x.since := by
  have hl := h.ok.ls
  refine ⟨some ⟨gS, 0, none⟩, n, by rw [hl], by unfold maxLen; omega, fun k hk => ⟨gS, 0, rfl, (Array.getElem?_eq_some_iff.1 h.rS).1, ?_, h.ok.si _ (List.getElem_mem hk)⟩⟩
  rw [cell_of_row _ _ _ _ _ _ h.rS, Nat.zero_add]
  simp [icells, hk]
end Go.Proofs.Ytkalfhhdljndfaa
/-
  Package step: in, own, entered.
-/
namespace Go.Proofs.Ytkalfhhdljndfaa
set_option maxRecDepth 100000
open Go.ChangeShapes Go.WideShapes Go.ChangeAt Go.RowKit

theorem fzc_of {W : World} {t : Nat} {cs : Array Value} {ty : TypeId} (R : W.heap[t]? = some (.cells cs ty (0, 0))) (j : Nat) : W.frozen? ⟨t, j, none⟩ = false := by simp [World.frozen?, R]
end Go.Proofs.Ytkalfhhdljndfaa
/-
  Package step: a chart that is read; which of two transitions comes first.
-/
namespace Go.Proofs.Ytkalfhhdljndfaa
set_option maxRecDepth 100000
open Go.ChangeShapes Go.WideShapes Go.ChangeAt Go.RowKit

/-- a chart's shape and transitions as they are read -/
structure ChW (W : World) (c : Ch) (n : Nat) (AK AP AT : Option Addr) (cK cP cT : Nat) : Prop where
  kp : IntsAt W (.slice AK n cK) c.kinds ∧ IntsAt W (.slice AP n cP) c.parents
  tr : TAt W AT c.trans
  tc : c.trans.length ≤ cT
  tl : c.trans.length ≤ 48
  sh : ShF c.kinds c.parents n
  n0 : 0 < n
  nn : n ≤ 24
  ft : ∀ t ∈ c.trans, ∃ f g : Nat, t.from_ = f ∧ f < n ∧ t.to_ = g ∧ g < n
theorem ChW.below {W W' : World} {c : Ch} {n : Nat} {AK AP AT : Option Addr} {cK cP cT : Nat} (h : ChW W c n AK AP AT cK cP cT) (hb : Below W.heap.size W W') : ChW W' c n AK AP AT cK cP cT :=
  ⟨⟨h.kp.1.below hb, h.kp.2.below hb⟩, h.tr.below hb, h.tc, h.tl, h.sh, h.n0, h.nn, h.ft⟩
theorem isNaN_any (x : Int) (w : World) : Calls Try.prog 29 #[.int .i64 x] w fun e w' => e = .returned (.bool false) ∧ w = w' := by
  have h : (x != x) = false := by simp
  go_enter Try.func29, Try.ntmps29
  go_wp2
  go_ret
  exact ⟨rfl, rfl⟩
end Go.Proofs.Ytkalfhhdljndfaa
