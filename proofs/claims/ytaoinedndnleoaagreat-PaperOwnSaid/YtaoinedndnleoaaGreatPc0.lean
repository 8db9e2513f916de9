/-
  What the walks of documents share.
-/
import Derived.Test.YtaoinedndnleoaaGreatPb3
import Derived.Test.YtaoinedndnleoaaGreatArgM
namespace Go.Proofs.YtaoinedndnleoaaGreat
set_option maxRecDepth 100000
open Go.ChangeShapes Go.WideShapes Go.ChangeAt Go.RowKit

def OfC (w : World) (e : Ending) (w' : World) : Prop := Below w.heap.size w w' ∧ ∃ (c : Ch) (AN AK AP AT BN BK BP BT : Option Addr) (cN cK cP cT dN dK dP dT nN nK nP : Nat), e = .returned (.tuple #[chV AN AK AP AT c.names.length cN c.names.length cK c.names.length cP c.trans.length cT, .agg #[.slice BN nN dN, .slice BK nK dK, .slice BP nP dP, .slice BT c.trans.length dT]]) ∧ ChW w' c c.names.length AK AP AT cK cP cT ∧ ListAt w' AN cN c.names ∧ OkC c
/-- a document in a block of the law's -/
structure PapAt (W : World) (gP : Nat) (nm : ByteArray) (n : Nat) (x : Cf) (ds : List Dn) (g3 gS : Nat) (AD : Option Addr) (cD : Nat) : Prop where
  row : W.heap[gP]? = some (.cells #[.string nm, .int .u32 (x.set : Nat), .slice (some ⟨g3, 0, none⟩) n n, .slice (some ⟨gS, 0, none⟩) n n, .slice AD ds.length cD] 59 (0, 0))
  cf : CfR 0 W n x (.slice (some ⟨g3, 0, none⟩) n n) gS
  dn : DnAt W AD cD ds
theorem PapAt.below {W W' : World} {gP n g3 gS cD : Nat} {nm : ByteArray} {x : Cf} {ds : List Dn} {AD : Option Addr} (h : PapAt W gP nm n x ds g3 gS AD cD) (hb : Below W.heap.size W W') : PapAt W' gP nm n x ds g3 gS AD cD :=
  ⟨(hb.block _ (Array.getElem?_eq_some_iff.1 h.row).1).trans h.row, h.cf.below hb, h.dn.below hb⟩
theorem dnAt_nilP (w : World) (A : Option Addr) (c : Nat) : DnAt w A c [] := ⟨Nat.zero_le _, fun j hj => by simp at hj⟩
theorem dnAt_ofP {w : World} {base c : Nat} {A : Option Addr} {l : List Dn} (h : OwnDn w base (.slice A l.length c) l) : DnAt w A c l :=
  ⟨own_cap h, fun j hj => by
    obtain ⟨g, cap', e, _, hl, _, hc⟩ := own_form h (by omega)
    have eA : A = some ⟨g, 0, none⟩ := by injection e
    exact ⟨g, eA, hl, fun f u hf hu => hc _ _ (by rw [dncells_at l j f hj hf]; exact hu)⟩⟩
theorem step_plcP {c : Ch} {x : Cf} {k : Nat} {now : Int} (hok : OkC c) (hw : (Lit.int .i64 now).wf = true) (hx : Plc c.kinds c.parents c.names.length x) (hk : k < c.trans.length) (hin : x.set.testBit (frT c k) = true) : Plc c.kinds c.parents c.names.length (stepC c c.names.length now x k) := by
  obtain ⟨f, g, ef, hfn, eg, hgn⟩ := hok.ft _ (List.getElem_mem hk)
  unfold stepC
  rw [frT_at hk ef] at hin ⊢
  rw [toT_at hk eg]
  exact hx.mov hok.sh hok.f.nl hfn hgn hw hin
end Go.Proofs.YtaoinedndnleoaaGreat
