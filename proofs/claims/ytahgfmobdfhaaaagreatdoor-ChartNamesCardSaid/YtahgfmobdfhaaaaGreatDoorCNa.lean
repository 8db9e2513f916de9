/-
  ChartNames: a chart's states and transitions stand in the order of their rules: the walk.
-/
import Derived.Test.YtahgfmobdfhaaaaGreatDoorPlay2
import Derived.Test.YtahgfmobdfhaaaaGreatDoorPlay5
import Derived.Test.YtahgfmobdfhaaaaGreatDoorPolS
import Derived.Test.YtahgfmobdfhaaaaGreatDoorCut
namespace Go.Proofs.YtahgfmobdfhaaaaGreatDoor
set_option maxRecDepth 100000
open Go.ChangeShapes Go.WideShapes Go.ChangeAt Go.RowKit

/-- rules that are no chart: an empty one, and an error -/
def NoTo (w : World) (e : Ending) (w' : World) : Prop := Below w.heap.size w w' ∧ ∃ t v, e = .returned (.tuple #[chZ, .iface t v])
def YesTo (c : Ch) (w : World) (e : Ending) (w' : World) : Prop := Below w.heap.size w w' ∧ ∃ AN cN AK cK AP cP AT cT, e = .returned (.tuple #[.agg #[.slice AN c.names.length cN, .slice AK c.kinds.length cK, .slice AP c.parents.length cP, .slice AT c.trans.length cT], .nilIface]) ∧
  ListAt w' AN cN c.names ∧ (IntsAt w' (.slice AK c.kinds.length cK) c.kinds ∧ IntsAt w' (.slice AP c.parents.length cP) c.parents) ∧ TAt w' AT c.trans ∧ c.trans.length ≤ cT
theorem noTo_of {p : ChR} (hp : ∀ c, p ≠ .ok c) {w : World} {e : Ending} {w' : World} (h : CompTo p w e w') : NoTo w e w' := by
  obtain ⟨hb, h⟩ := h
  refine ⟨hb, ?_⟩
  cases p with
  | ok c => exact (hp c rfl).elim
  | arg => exact ⟨_, _, h⟩
  | none => obtain ⟨b, rfl, _⟩ := h; exact ⟨_, _, rfl⟩
  | bad l k => obtain ⟨b, rfl, _⟩ := h; exact ⟨_, _, rfl⟩
theorem yesTo_of {c : Ch} {w : World} {e : Ending} {w' : World} (h : CompTo (.ok c) w e w') : YesTo c w e w' := by
  obtain ⟨hb, ⟨vN, vK, vP, vT, rfl, hA⟩, hF, hI⟩ := h
  obtain ⟨AN, cN, rfl⟩ := own_slice hA.oN
  obtain ⟨AK, cK, rfl⟩ := own_slice hA.oK
  obtain ⟨AP, cP, rfl⟩ := own_slice hA.oP
  obtain ⟨AT, cT, rfl⟩ := own_slice hA.oT
  have := hF.kl; have := hF.pl; have := hF.nl
  exact ⟨hb, AN, cN, AK, cK, AP, cP, AT, cT, rfl, listAt_of hA.oN, ⟨ints_of_own hA.oK hI.1 (by omega), ints_of_own hA.oP hI.2 (by omega)⟩, tAt_of hA.oT, own_cap hA.oT⟩
theorem neNil {x : Tx} (h : x ≠ []) : ((bs x).toList != []) = true ∧ ((bs x).toList == []) = false ∧ (bs x).toList.isEmpty = false :=
  ⟨by simp only [bne, litb]; simpa using h, by rw [litb]; simpa using h, by rw [Lib.toList_data, list_bs]; simpa using h⟩
theorem isNil : ((bs []).toList != []) = false ∧ ((bs []).toList == []) = true ∧ (bs []).toList.isEmpty = true :=
  ⟨by simp only [bne, litb]; rfl, by rw [litb]; rfl, by rw [Lib.toList_data, list_bs]; rfl⟩
/-- what is told of ChartNames -/
def CNSt : Prop := ∀ (w : World) (v : Value) (zs : List Int) (hz : IntsAt w v zs) (hg : HandleAt w) (ht : TabAt w), Calls Tryz.prog 3 #[.agg #[v]] w (TrueOn w)
end Go.Proofs.YtahgfmobdfhaaaaGreatDoor
