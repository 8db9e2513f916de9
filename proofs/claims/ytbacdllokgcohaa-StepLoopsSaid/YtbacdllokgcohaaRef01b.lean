/-
  The plain: rules read.
-/
import Derived.Test.YtbacdllokgcohaaSameL
import Derived.Test.YtbacdllokgcohaaRows
import Derived.WalkKit
import Derived.ProofKit
import Derived.OpenShut
import Derived.Below
import Derived.Carry
import Derived.SizedLaws
import Derived.Deep.RegionWith
import Derived.Deep.DeepMust
import Derived.Maps.OwnSet
import Derived.Deep.Onto
import Derived.Deep.DeepCutAuto
import Derived.StillTailTactics
import Derived.Laws.ResultCell
import Derived.Lib.Join
namespace Go.Proofs.Ytbacdllokgcohaa
set_option maxRecDepth 100000

structure St where
  k : Nat
  m : Bool
def tk (f : Bool) (s : St) : St := if s.m || !f then ⟨s.k, s.m || !f⟩ else ⟨s.k + 1, false⟩
theorem nameL_ne {l : Tx} (h : nameL l = true) : l ≠ [] := by rintro rfl; simp [nameL] at h
structure Ru where
  kind : Int
  name : Tx := []
  list : List Tx := []
  n : Int := 0
  m : Int := 0
  from_ : Tx := []
  to_ : Tx := []
  by_ : Tx := []
  task : Tx := []
  in_ : Tx := []
end Go.Proofs.Ytbacdllokgcohaa
namespace Go.Proofs.Ytbacdllokgcohaa
set_option maxRecDepth 100000

end Go.Proofs.Ytbacdllokgcohaa
/-
  Closing; what the program owns.
-/
namespace Go.Proofs.Ytbacdllokgcohaa
set_option maxRecDepth 100000
open Go.ChangeShapes Go.WideShapes Go.ChangeAt Go.RowKit

theorem Try.own : ownKnob Try.prog.godebug = none := by kernel_rfl
theorem Try.laidOut : laidOutB Try.prog = true := by kernel_rfl

/-- a law's end: true, and nothing that was there has turned -/
def TrueOn (w : World) (e : Ending) (w' : World) : Prop := e = .returned (.bool true) ∧ Below w.heap.size w w'

section
variable {H : Type} {enc : TypeId × Value → H}
/-- a list of integers that comes in: its cells -/
def IntsAt (W : World) (v : Value) (zs : List Int) : Prop := ∃ A cap, v = .slice A zs.length cap ∧ zs.length ≤ maxLen ∧
  ∀ k (h : k < zs.length), ∃ b off, A = some ⟨b, off, none⟩ ∧ b < W.heap.size ∧ W.cell? ⟨b, off + k, none⟩ = some (.int .i64 zs[k]) ∧ (Lit.int .i64 zs[k]).wf = true
theorem trodAll_below {W W' : World} (hb : Below W.heap.size W W') : ∀ (ts : List TypeId) (vs : List Value) (ds : List (DataW H)) (ps : List MemPlace),
    (∀ t ∈ ts, Try.prog.readableRec t = true ∧ t < Try.prog.types.size) → DataW.TrodAll enc Try.prog W 0 (fun _ => true) true ts vs ds ps → (∀ x ∈ ps, x.block < W.heap.size) →
    DataW.TrodAll enc Try.prog W' 0 (fun b => decide (b < W.heap.size)) true ts vs ds ps := by
  intro ts
  induction ts with
  | nil =>
    intro vs ds ps _ h _
    obtain ⟨rfl, rfl, rfl⟩ := trodAll_nil h
    exact trodAll_mk0
  | cons t ts ih =>
    intro vs ds ps hr h hlt
    obtain ⟨v, vs', d, ds', p, q, rfl, rfl, rfl, h1, h2⟩ := trodAll_cons h
    have ht := hr t (List.mem_cons_self ..)
    exact trodAll_cons_mk (Below.trod Try.laidOut ht.1 ht.2 h1 hb fun x hx => hlt x (List.mem_append_left _ hx))
      (ih vs' ds' q (fun t' h' => hr t' (List.mem_cons_of_mem _ h')) h2 fun x hx => hlt x (List.mem_append_right _ hx))

theorem law_post {f : Func} {s : ChangeSpec} {W W' : World} {args : Array Value} {ds gs : List (DataW H)} {before : List MemPlace}
    (hW : DataW.Whole enc Try.prog f.params.toList s.vars false W args.toList ds gs before) (hv : s.vars = []) (hres : f.resultTypes = #[4])
    (hs : s.fn H (ds ++ gs) = { results := [.lit (.bool true)], args := ds })
    (hr : ∀ t ∈ f.params.toList, Try.prog.readableRec t = true ∧ t < Try.prog.types.size) (hb : Below W.heap.size W W') :
    s.post enc Try.prog f false true false false W args (.bool true) W' := by
  have hlt := hW.lt
  have hW0 := hW
  obtain ⟨p, q, hA, hV, rfl, _, _⟩ := hW0
  rw [hv] at hV
  obtain ⟨rfl, rfl⟩ := trodVars_none hV
  simp only [List.append_nil] at hlt
  refine ⟨ds, [], _, [], p, [], hW, ?_, ?_, ?_, hb.frame _, fun h => by cases h⟩
  · rw [hs, hres]
    exact trodAll_cons_mk (shut_bool Try.underlying4 true) trodAll_mk0
  · rw [hs]
    exact trodAll_below hb _ _ _ _ hr hA hlt
  · rw [hs, hv]
    exact rfl
end
end Go.Proofs.Ytbacdllokgcohaa
namespace Go.Proofs.Ytbacdllokgcohaa
set_option maxRecDepth 100000
open Go.ChangeShapes Go.WideShapes Go.ChangeAt Go.RowKit

end Go.Proofs.Ytbacdllokgcohaa
/-
  Lines read.
-/
namespace Go.Proofs.Ytbacdllokgcohaa
set_option maxRecDepth 100000
open Go.ChangeShapes Go.WideShapes Go.ChangeAt Go.RowKit

end Go.Proofs.Ytbacdllokgcohaa
namespace Go.Proofs.Ytbacdllokgcohaa
set_option maxRecDepth 100000
open Go.ChangeShapes Go.WideShapes Go.ChangeAt Go.RowKit

end Go.Proofs.Ytbacdllokgcohaa
namespace Go.Proofs.Ytbacdllokgcohaa
set_option maxRecDepth 100000
open Go.ChangeShapes Go.WideShapes Go.ChangeAt Go.RowKit

/-- texts in the cells of a block -/
def StrAt (w : World) (t : Nat) (l : List Tx) : Prop := ∀ j (h : j < l.length), w.cell? ⟨t, j, none⟩ = some (.string (bs l[j]))
theorem StrAt.kept {w w' : World} {t : Nat} {l : List Tx} {row : Option Nat} (h : StrAt w t l) (hg : w.grownBy w' row) (hne : some t ≠ row) : StrAt w' t l := fun j hj => hg.cell (h j hj) hne
end Go.Proofs.Ytbacdllokgcohaa
namespace Go.Proofs.Ytbacdllokgcohaa
set_option maxRecDepth 100000
open Go.ChangeShapes Go.WideShapes Go.ChangeAt Go.RowKit

end Go.Proofs.Ytbacdllokgcohaa
/-
  againColumn: the column of the first word that stood before; isTime.
-/
namespace Go.Proofs.Ytbacdllokgcohaa
set_option maxRecDepth 100000
open Go.ChangeShapes Go.WideShapes Go.ChangeAt Go.RowKit Go.Maps Go.WideMaps Go.ChangeMaps

/-- words in the cells of the block g, from o on -/
def WAt (w : World) (g o : Nat) (ws : List (Nat × Tx)) : Prop := ∀ j (h : j < ws.length), w.cell? ⟨g, o + j * 2, none⟩ = some (.string (bs ws[j].2)) ∧ w.cell? ⟨g, o + j * 2 + 1, none⟩ = some (.int .i64 ws[j].1) ∧ ws[j].2.length ≤ maxLen
theorem WAt.below {w w' : World} {g o : Nat} {ws : List (Nat × Tx)} (h : WAt w g o ws) (hg : g < w.heap.size) (hb : Below w.heap.size w w') : WAt w' g o ws := fun j hj =>
  ⟨(hb.cell hg).trans (h j hj).1, (hb.cell hg).trans (h j hj).2.1, (h j hj).2.2⟩
end Go.Proofs.Ytbacdllokgcohaa
/-
  Lists of integers that come in: they stay so.
-/
namespace Go.Proofs.Ytbacdllokgcohaa
set_option maxRecDepth 100000
open Go.ChangeShapes Go.WideShapes Go.ChangeAt Go.RowKit

theorem IntsAt.below {w w' : World} {v : Value} {zs : List Int} (h : IntsAt w v zs) (hb : Below w.heap.size w w') : IntsAt w' v zs :=
  let ⟨A, c, e, hl, hc⟩ := h
  ⟨A, c, e, hl, fun k hk => let ⟨b, off, e, hbl, hx, hw⟩ := hc k hk; ⟨b, off, e, Nat.lt_of_lt_of_le hbl hb.size, (hb.cell (p := ⟨b, off + k, none⟩) hbl).trans hx, hw⟩⟩
end Go.Proofs.Ytbacdllokgcohaa
/-
  Lists of integers that come in: their cells, and that their capacity is not below their length.
-/
namespace Go.Proofs.Ytbacdllokgcohaa
set_option maxRecDepth 100000
open Go.ChangeShapes Go.WideShapes Go.ChangeAt Go.RowKit

def IntsC (W : World) (v : Value) (zs : List Int) : Prop := IntsAt W v zs ∧ ∃ A c, v = .slice A zs.length c ∧ zs.length ≤ c
section
variable {H : Type} {enc : TypeId × Value → H}
theorem arg_intsC {t : TypeId} {d : DataW H} {W : World} {base : Nat} {v : Value} {p : List MemPlace} (ht : Try.prog.underlying t = some (.slice 3)) (hc : Try.prog.cellsOf 3 = 1)
    (hv : Value.okWide Try.prog W .any base t v) (h : DataW.Trod enc Try.prog W 0 (fun _ => true) true t v d p) : ∃ zs, IntsC W v zs := by
  obtain ⟨A, n, c, rfl⟩ := okWide_slice ht hv
  obtain ⟨fuel, hf⟩ := h
  rcases open_ints ht Try.underlying3 hc hf with ⟨hcs, _⟩ | ⟨a, len, cap, zs, hcs, _, hl, hm, hn, _, hcell, hwf⟩
  · simp [Value.cells] at hcs
    obtain ⟨rfl, rfl, rfl⟩ := hcs
    exact ⟨[], ⟨_, _, rfl, Nat.zero_le _, fun k h => by simp at h⟩, _, _, rfl, Nat.zero_le _⟩
  · simp [Value.cells] at hcs
    obtain ⟨rfl, rfl, rfl⟩ := hcs
    rw [if_pos rfl] at hn
    refine ⟨zs.take n, ⟨some a, c, by rw [List.length_take, Nat.min_eq_left (by omega)], by rw [List.length_take]; omega, fun k h => ?_⟩, some a, c, by rw [List.length_take, Nat.min_eq_left (by omega)], by rw [List.length_take]; omega⟩
    have hk : k < zs.length := by rw [List.length_take] at h; omega
    have hk' := hcell k hk
    have e : (zs.take n)[k] = zs[k] := by simp
    have e2 : zs.getD k 0 = zs[k] := by simp [List.getD_eq_getElem?_getD, List.getElem?_eq_getElem hk]
    rw [e2] at hk'
    obtain ⟨b, off, spot⟩ := a
    have hsp : spot = none := by
      have h0 := hcell 0 (by omega)
      simpa [Addr.add] using World.cell?_spot h0
    subst hsp
    rw [Go.WideShapes.add_plain] at hk'
    rw [e]
    exact ⟨b, off, rfl, World.block_lt_of_cell? W _ hk', hk', hwf _ (List.getElem_mem _)⟩
end
theorem IntsC.below {w w' : World} {v : Value} {zs : List Int} (h : IntsC w v zs) (hb : Below w.heap.size w w') : IntsC w' v zs := ⟨h.1.below hb, h.2⟩
end Go.Proofs.Ytbacdllokgcohaa
/-
  The reader's rule: where the walk of it stands: the reader, the rule that is being made, the rule that is told.
-/
namespace Go.Proofs.Ytbacdllokgcohaa
set_option maxRecDepth 100000
open Go.ChangeShapes Go.WideShapes Go.ChangeAt Go.RowKit

/-- a rule that holds nothing yet -/
def zero11 : Array Value := #[.int .i64 0, .string ⟨#[]⟩, .slice none 0 0, .int .i64 0, .int .i64 0, .string ⟨#[]⟩, .string ⟨#[]⟩, .string ⟨#[]⟩, .string ⟨#[]⟩, .string ⟨#[]⟩, .int .i64 0]
end Go.Proofs.Ytbacdllokgcohaa
/-
  rule.Parse.
-/
namespace Go.Proofs.Ytbacdllokgcohaa
set_option maxRecDepth 100000
open Go.ChangeShapes Go.WideShapes Go.ChangeAt Go.RowKit

inductive PR where
  | bad (col : Nat) (code : Int)
  | empty
  | ok (r : Ru)
section
variable {W X : World} {t : Nat} {a0 a1 a2 a3 a4 a5 a6 a7 a8 a9 a10 : Value} {fr : Nat × Nat}
theorem row_q0 (R : W.heap[t]? = some (.cells #[a0, a1, a2, a3, a4, a5, a6, a7, a8, a9, a10] 110 (0, 0))) : W.cell? ⟨t, 0, none⟩ = some a0 := by rw [cell_of_row _ _ _ _ _ _ R]; rfl
theorem row_q1 (R : W.heap[t]? = some (.cells #[a0, a1, a2, a3, a4, a5, a6, a7, a8, a9, a10] 110 (0, 0))) : W.cell? ⟨t, 1, none⟩ = some a1 := by rw [cell_of_row _ _ _ _ _ _ R]; rfl
theorem row_q2 (R : W.heap[t]? = some (.cells #[a0, a1, a2, a3, a4, a5, a6, a7, a8, a9, a10] 110 (0, 0))) : W.cell? ⟨t, 2, none⟩ = some a2 := by rw [cell_of_row _ _ _ _ _ _ R]; rfl
theorem row_q3 (R : W.heap[t]? = some (.cells #[a0, a1, a2, a3, a4, a5, a6, a7, a8, a9, a10] 110 (0, 0))) : W.cell? ⟨t, 3, none⟩ = some a3 := by rw [cell_of_row _ _ _ _ _ _ R]; rfl
end
/-! ### what the words of a line are -/
end Go.Proofs.Ytbacdllokgcohaa
namespace Go.Proofs.Ytbacdllokgcohaa
set_option maxRecDepth 100000
open Go.ChangeShapes Go.WideShapes Go.ChangeAt Go.RowKit

end Go.Proofs.Ytbacdllokgcohaa
namespace Go.Proofs.Ytbacdllokgcohaa
set_option maxRecDepth 100000
open Go.ChangeShapes Go.WideShapes Go.ChangeAt Go.RowKit
end Go.Proofs.Ytbacdllokgcohaa
namespace Go.Proofs.Ytbacdllokgcohaa
set_option maxRecDepth 100000
open Go.ChangeShapes Go.WideShapes Go.ChangeAt Go.RowKit
end Go.Proofs.Ytbacdllokgcohaa
namespace Go.Proofs.Ytbacdllokgcohaa
set_option maxRecDepth 100000
open Go.ChangeShapes Go.WideShapes Go.ChangeAt Go.RowKit
end Go.Proofs.Ytbacdllokgcohaa
namespace Go.Proofs.Ytbacdllokgcohaa
set_option maxRecDepth 100000
open Go.ChangeShapes Go.WideShapes Go.ChangeAt Go.RowKit

end Go.Proofs.Ytbacdllokgcohaa
/-
  As many blanks ahead of a line move what is wrong by as many columns: plainly.
-/
namespace Go.Proofs.Ytbacdllokgcohaa
set_option maxRecDepth 100000

def sh (n : Nat) (ws : List (Nat × Tx)) : List (Nat × Tx) := ws.map fun x => (x.1 + n, x.2)
/-! ### what is wrong is told within the line, or just behind it -/
end Go.Proofs.Ytbacdllokgcohaa
/-
  The plain: a line that is a rule.
-/
namespace Go.Proofs.Ytbacdllokgcohaa
set_option maxRecDepth 100000

/-- a byte of a word; a byte of a line ahead of its comment -/
def gb (b : UInt8) : Bool := decide (33 ≤ b.toNat) && decide (b.toNat ≤ 126) && decide (b.toNat ≠ 35)
/-! ### what is wrong, without the columns -/
/-! ### a line of words, read -/
end Go.Proofs.Ytbacdllokgcohaa
namespace Go.Proofs.Ytbacdllokgcohaa
set_option maxRecDepth 100000
open Go.ChangeShapes Go.WideShapes Go.ChangeAt Go.RowKit

/-- bytes that stand ahead of a comment -/
def okP (l : List UInt8) : Prop := ∀ b ∈ l, 32 ≤ b.toNat ∧ b.toNat ≤ 126 ∧ b ≠ 35
end Go.Proofs.Ytbacdllokgcohaa
/-
  The document of chapter 1.
-/
namespace Go.Proofs.Ytbacdllokgcohaa
set_option maxRecDepth 100000
open Go.ChangeShapes Go.WideShapes Go.ChangeAt Go.RowKit

/-- what is left of the part from k on -/
def restP (s : ByteArray) (k : Nat) : List UInt8 := upTo 35 (s.data.toList.drop k)
/-- where the walk of a line stands: at the k-th byte, the words so far, the word that is under way -/
def AtP (s : ByteArray) (k : Nat) (out : List (Nat × List UInt8)) : Prop := okP (s.data.toList.take k) ∧ toks (partL s.data.toList) 1 = out ++ toks (restP s k) (k + 1)
theorem AtP.start (s : ByteArray) : AtP s 0 [] := ⟨by intro b hb; simp at hb, rfl⟩
end Go.Proofs.Ytbacdllokgcohaa
namespace Go.Proofs.Ytbacdllokgcohaa
set_option maxRecDepth 100000
open Go.ChangeShapes Go.WideShapes Go.ChangeAt Go.RowKit

end Go.Proofs.Ytbacdllokgcohaa
