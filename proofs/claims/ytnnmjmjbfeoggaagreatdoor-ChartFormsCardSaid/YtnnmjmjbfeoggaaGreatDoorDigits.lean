/-
  Own memory, integers, digits.
-/
import Derived.Test.YtnnmjmjbfeoggaaGreatDoorRows
import Derived.WalkKit
import Derived.ProofKit
import Derived.OpenShut
import Derived.Below
import Derived.Carry
import Derived.SizedLaws
import Derived.Test.YtnnmjmjbfeoggaaGreatDoorSplit
import Derived.Test.YtnnmjmjbfeoggaaGreatDoorWth
import Derived.Deep.RegionWith
import Derived.StillTailTactics
namespace Go.Proofs.YtnnmjmjbfeoggaaGreatDoor
set_option maxRecDepth 100000
open Go.ChangeShapes Go.WideShapes Go.ChangeAt Go.RowKit

theorem Tryz.own : ownKnob Tryz.prog.godebug = none := by kernel_rfl
theorem Tryz.laidOut : laidOutB Tryz.prog = true := by kernel_rfl

/-- a law's end: true, and nothing that was there has turned -/
def TrueOn (w : World) (e : Ending) (w' : World) : Prop := e = .returned (.bool true) ∧ Below w.heap.size w w'

section
variable {H : Type} {enc : TypeId × Value → H}
/-- a text that comes in takes fewer than 2^47 bytes -/
theorem arg_string {ts : List TypeId} {ds : List (DataW H)} {j : Nat} {t t' : TypeId} {d d' : DataW H} {W : World} {base : Nat} {v : Value} {p : List MemPlace}
    (hsz : (DataW.weightsEach Tryz.prog ts ds).all (· ≤ reachBytes) = true) (ht' : ts[j]? = some t') (hd' : ds[j]? = some d') (ht : Tryz.prog.underlying t = some .string)
    (hv : Value.okWide Tryz.prog W .any base t v) (h : DataW.Trod enc Tryz.prog W 0 (fun _ => true) true t v d p) (e : d' = d := by rfl) :
    ∃ s : ByteArray, v = .string s ∧ d = .lit (.string s.data.toList) ∧ p = [] ∧ s.size ≤ 140737488351232 := by
  obtain ⟨s, rfl, rfl, rfl, _⟩ := Go.ChangeMaps.open_string ht hv h
  subst e
  have := sized_string hsz ht' hd'
  exact ⟨s, rfl, rfl, rfl, this⟩
/-- a list of texts that comes in: its cells -/
def StrsAt (W : World) (v : Value) (ss : List ByteArray) : Prop := ∃ A cap, v = .slice A ss.length cap ∧ ss.length ≤ maxLen ∧
  ∀ k (h : k < ss.length), ∃ b off, A = some ⟨b, off, none⟩ ∧ b < W.heap.size ∧ W.cell? ⟨b, off + k, none⟩ = some (.string ss[k]) ∧ ss[k].size ≤ maxLen
/-- a list of integers that comes in: its cells -/
def IntsAt (W : World) (v : Value) (zs : List Int) : Prop := ∃ A cap, v = .slice A zs.length cap ∧ zs.length ≤ maxLen ∧
  ∀ k (h : k < zs.length), ∃ b off, A = some ⟨b, off, none⟩ ∧ b < W.heap.size ∧ W.cell? ⟨b, off + k, none⟩ = some (.int .i64 zs[k]) ∧ (Lit.int .i64 zs[k]).wf = true
theorem arg_strings {t : TypeId} {d : DataW H} {W : World} {base : Nat} {v : Value} {p : List MemPlace} (ht : Tryz.prog.underlying t = some (.slice 9)) (hc : Tryz.prog.cellsOf 9 = 1)
    (hv : Value.okWide Tryz.prog W .any base t v) (h : DataW.Trod enc Tryz.prog W 0 (fun _ => true) true t v d p) : ∃ ss, StrsAt W v ss := by
  obtain ⟨A, n, c, rfl⟩ := okWide_slice ht hv
  obtain ⟨fuel, hf⟩ := h
  rcases open_strings ht Tryz.underlying9 hc hf with ⟨hcs, _⟩ | ⟨a, len, cap, ss, hcs, _, hl, hm, hn, _, hcell, hsz⟩
  · simp [Value.cells] at hcs
    obtain ⟨rfl, rfl, rfl⟩ := hcs
    exact ⟨[], _, _, rfl, Nat.zero_le _, fun k h => by simp at h⟩
  · simp [Value.cells] at hcs
    obtain ⟨rfl, rfl, rfl⟩ := hcs
    rw [if_pos rfl] at hn
    refine ⟨ss.take n, some a, c, by rw [List.length_take, Nat.min_eq_left (by omega)], by rw [List.length_take]; omega, fun k h => ?_⟩
    have hk : k < ss.length := by rw [List.length_take] at h; omega
    have hk' := hcell k hk
    have e : (ss.take n)[k] = ss[k] := by simp
    have e2 : ss.getD k ByteArray.empty = ss[k] := by simp [List.getD_eq_getElem?_getD, List.getElem?_eq_getElem hk]
    rw [e2] at hk'
    obtain ⟨b, off, spot⟩ := a
    have hsp : spot = none := by
      have h0 := hcell 0 (by omega)
      simpa [Addr.add] using World.cell?_spot h0
    subst hsp
    rw [Go.WideShapes.add_plain] at hk'
    rw [e]
    exact ⟨b, off, rfl, World.block_lt_of_cell? W _ hk', hk', hsz _ (List.getElem_mem _)⟩
theorem arg_ints {t : TypeId} {d : DataW H} {W : World} {base : Nat} {v : Value} {p : List MemPlace} (ht : Tryz.prog.underlying t = some (.slice 3)) (hc : Tryz.prog.cellsOf 3 = 1)
    (hv : Value.okWide Tryz.prog W .any base t v) (h : DataW.Trod enc Tryz.prog W 0 (fun _ => true) true t v d p) : ∃ zs, IntsAt W v zs := by
  obtain ⟨A, n, c, rfl⟩ := okWide_slice ht hv
  obtain ⟨fuel, hf⟩ := h
  rcases open_ints ht Tryz.underlying3 hc hf with ⟨hcs, _⟩ | ⟨a, len, cap, zs, hcs, _, hl, hm, hn, _, hcell, hwf⟩
  · simp [Value.cells] at hcs
    obtain ⟨rfl, rfl, rfl⟩ := hcs
    exact ⟨[], _, _, rfl, Nat.zero_le _, fun k h => by simp at h⟩
  · simp [Value.cells] at hcs
    obtain ⟨rfl, rfl, rfl⟩ := hcs
    rw [if_pos rfl] at hn
    refine ⟨zs.take n, some a, c, by rw [List.length_take, Nat.min_eq_left (by omega)], by rw [List.length_take]; omega, fun k h => ?_⟩
    have hk : k < zs.length := by rw [List.length_take] at h; omega
    have hk' := hcell k hk
    have e : (zs.take n)[k] = zs[k] := by simp
    have e2 : zs.getD k 0 = zs[k] := by simp [List.getD_eq_getElem?_getD, List.getElem?_eq_getElem hk]
    rw [e2] at hk'
    obtain ⟨b, off, spot⟩ := a
    have hsp : spot = none := by
      have h0 := hcell 0 (by omega)
      simpa [Addr.add] using World.cell?_spot h0
    subst hsp
    rw [Go.WideShapes.add_plain] at hk'
    rw [e]
    exact ⟨b, off, rfl, World.block_lt_of_cell? W _ hk', hk', hwf _ (List.getElem_mem _)⟩
theorem trodAll_below {W W' : World} (hb : Below W.heap.size W W') : ∀ (ts : List TypeId) (vs : List Value) (ds : List (DataW H)) (ps : List MemPlace),
    (∀ t ∈ ts, Tryz.prog.readableRec t = true ∧ t < Tryz.prog.types.size) → DataW.TrodAll enc Tryz.prog W 0 (fun _ => true) true ts vs ds ps → (∀ x ∈ ps, x.block < W.heap.size) →
    DataW.TrodAll enc Tryz.prog W' 0 (fun b => decide (b < W.heap.size)) true ts vs ds ps := by
  intro ts
  induction ts with
  | nil =>
    intro vs ds ps _ h _
    obtain ⟨rfl, rfl, rfl⟩ := trodAll_nil h
    exact trodAll_mk0
  | cons t ts ih =>
    intro vs ds ps hr h hlt
    obtain ⟨v, vs', d, ds', p, q, rfl, rfl, rfl, h1, h2⟩ := trodAll_cons h
    have ht := hr t (List.mem_cons_self ..)
    exact trodAll_cons_mk (Below.trod Tryz.laidOut ht.1 ht.2 h1 hb fun x hx => hlt x (List.mem_append_left _ hx))
      (ih vs' ds' q (fun t' h' => hr t' (List.mem_cons_of_mem _ h')) h2 fun x hx => hlt x (List.mem_append_right _ hx))

theorem law_post {f : Func} {s : ChangeSpec} {W W' : World} {args : Array Value} {ds gs : List (DataW H)} {before : List MemPlace}
    (hW : DataW.Whole enc Tryz.prog f.params.toList s.vars false W args.toList ds gs before) (hv : s.vars = []) (hres : f.resultTypes = #[4])
    (hs : s.fn H (ds ++ gs) = { results := [.lit (.bool true)], args := ds })
    (hr : ∀ t ∈ f.params.toList, Tryz.prog.readableRec t = true ∧ t < Tryz.prog.types.size) (hb : Below W.heap.size W W') :
    s.post enc Tryz.prog f false true false false W args (.bool true) W' := by
  have hlt := hW.lt
  have hW0 := hW
  obtain ⟨p, q, hA, hV, rfl, _, _⟩ := hW0
  rw [hv] at hV
  obtain ⟨rfl, rfl⟩ := trodVars_none hV
  simp only [List.append_nil] at hlt
  refine ⟨ds, [], _, [], p, [], hW, ?_, ?_, ?_, hb.frame _, fun h => by cases h⟩
  · rw [hs, hres]
    exact trodAll_cons_mk (shut_bool Tryz.underlying4 true) trodAll_mk0
  · rw [hs]
    exact trodAll_below hb _ _ _ _ hr hA hlt
  · rw [hs, hv]
    exact rfl
end
end Go.Proofs.YtnnmjmjbfeoggaaGreatDoor
namespace Go.Proofs.YtnnmjmjbfeoggaaGreatDoor
set_option maxRecDepth 100000
open Go.ChangeShapes Go.WideShapes Go.ChangeAt Go.RowKit

end Go.Proofs.YtnnmjmjbfeoggaaGreatDoor
namespace Go.Proofs.YtnnmjmjbfeoggaaGreatDoor
set_option maxRecDepth 100000
open Go.ChangeShapes Go.WideShapes Go.ChangeAt Go.RowKit

theorem own_none {w : World} {base e size n n' c : Nat} {xs : List Value} (h : w.ownsRow base e size (.slice none n' c) n xs) : n = 0 ∧ c = 0 := by
  rcases h.2 with ⟨hv, h0⟩ | ⟨g, cap', cur, hv, _⟩
  · injection hv with _ _ hc; exact ⟨h0, hc⟩
  · injection hv with e; cases e
theorem own_some {w : World} {base e size n n' c : Nat} {a : Addr} {xs : List Value} (h : w.ownsRow base e size (.slice (some a) n' c) n xs) : ∃ g, a = ⟨g, 0, none⟩ := by
  rcases h.2 with ⟨hv, h0⟩ | ⟨g, cap', cur, hv, _⟩
  · injection hv with e; cases e
  · injection hv with e; exact ⟨g, Option.some.inj e⟩
end Go.Proofs.YtnnmjmjbfeoggaaGreatDoor
namespace Go.Proofs.YtnnmjmjbfeoggaaGreatDoor
set_option maxRecDepth 100000
open Go.ChangeShapes Go.WideShapes Go.ChangeAt Go.RowKit

theorem IntsAt.below {w w' : World} {v : Value} {zs : List Int} (h : IntsAt w v zs) (hb : Below w.heap.size w w') : IntsAt w' v zs :=
  let ⟨A, c, e, hl, hc⟩ := h
  ⟨A, c, e, hl, fun k hk => let ⟨b, off, e, hbl, hx, hw⟩ := hc k hk; ⟨b, off, e, Nat.lt_of_lt_of_le hbl hb.size, (hb.cell (p := ⟨b, off + k, none⟩) hbl).trans hx, hw⟩⟩
end Go.Proofs.YtnnmjmjbfeoggaaGreatDoor
namespace Go.Proofs.YtnnmjmjbfeoggaaGreatDoor
set_option maxRecDepth 100000
open Go.ChangeShapes Go.WideShapes Go.ChangeAt Go.RowKit

/-- a byte of a number; a digit's sign -/
def byteOf (n : Nat) : UInt8 := UInt8.ofNat n
def dgt (n : Nat) : UInt8 := byteOf (48 + n)
theorem dgt_nat (n : Nat) (h : n < 10) : (dgt n).toNat = 48 + n := by unfold dgt byteOf; simp; omega
/-- a text of one byte, out of a list of one byte -/
theorem conv_one (W : World) (b cap : Nat) (c : Int) (h0 : 0 ≤ c) (h1 : c ≤ 255) (hc : W.cell? ⟨b, 0, none⟩ = some (.int .u8 c)) :
    (convert 95 9 (.slice (some ⟨b, 0, none⟩) 1 cap)).run Tryz.prog W = .ok (.string (bs [byteOf c.toNat])) W := by
  have := run_convert_bytes_back (P := Tryz.prog) W 95 9 5 ⟨b, 0, none⟩ cap [UInt8.ofNat c.toNat] Tryz.underlying95 Tryz.underlying5 Tryz.underlying9 (by
    intro j hj
    simp at hj
    subst hj
    have e : ((UInt8.ofNat c.toNat).toNat : Int) = c := by simp; omega
    simp only [List.getElem_cons_zero, e]
    exact hc)
  exact this
def StrNew (l : List UInt8) (w : World) (e : Ending) (w' : World) : Prop := e = .returned (.string (bs l)) ∧ Below w.heap.size w w'
end Go.Proofs.YtnnmjmjbfeoggaaGreatDoor
namespace Go.Proofs.YtnnmjmjbfeoggaaGreatDoor
set_option maxRecDepth 100000
open Go.ChangeShapes Go.WideShapes Go.ChangeAt Go.RowKit

/-- a number's digits -/
def digs (n : Nat) : List UInt8 := if n < 10 then [dgt n] else digs (n / 10) ++ [dgt (n % 10)]
theorem digs_le (n : Nat) : (digs n).length ≤ n + 1 := by
  induction n using Nat.strongRecOn with
  | ind n ih =>
    rw [digs]; split
    · simp
    · have := ih (n / 10) (by omega); simp; omega
theorem digs_step {n : Nat} (h : ¬ n < 10) : bs (digs (n / 10)) ++ bs [dgt (n % 10)] = bs (digs n) := by
  conv => rhs; rw [digs, if_neg h]
  exact bs_append _ _
theorem Digits_any (n : Nat) : ∀ (w : World), n ≤ 9223372036854775807 →
    Calls Tryz.prog 89 #[.int .i64 n] w (StrNew (digs n) w) := by
  induction n using Nat.strongRecOn with
  | ind n ih =>
    intro w hn
    by_cases h : n < 10
    · have hcv := fun W b cap hc => conv_one W b cap (48 + n) (by omega) (by omega) hc
      have hb : (48 + (n : Int)).toNat = 48 + n := by omega
      rw [hb, ← dgt] at hcv
      clear hb
      go_enter Tryz.func89, Tryz.ntmps89
      go_wp2
      go_ret
      exact ⟨ret_str (by rw [digs, if_pos h]), (Below.refl _ _).alloc (Nat.le_refl _) _⟩
    · have hd : ((n / 10 : Nat) : Int) = (n : Int) / 10 := by omega
      have ih1 := fun W => ih (n / 10) (by omega) W (by omega)
      rw [hd] at ih1
      have IH := Lib.hid ih1
      clear ih1 hd ih
      have hcv := fun W b cap hc => conv_one W b cap (48 + (n : Int) % 10) (by omega) (by omega) hc
      have hb : (48 + (n : Int) % 10).toNat = 48 + n % 10 := by omega
      rw [hb, ← dgt] at hcv
      clear hb
      have hl : (bs (digs (n / 10))).size ≤ 4611686018427387904 := by have := digs_le (n / 10); rw [size_bs]; omega
      have hl1 : (bs [dgt (n % 10)]).size ≤ 1 := Nat.le_refl _
      have e1 : IntKind.i64.wrap (48 + (n : Int) % 10) = 48 + (n : Int) % 10 := by rw [IntKind.wrap_i64]; omega
      have e2 : (n : Int).tdiv 10 = (n : Int) / 10 := Int.tdiv_eq_ediv_of_nonneg (by omega)
      have e3 : (n : Int).tmod 10 = (n : Int) % 10 := Int.tmod_eq_emod_of_nonneg (by omega)
      have e4 : IntKind.i64.wrap ((n : Int) / 10) = (n : Int) / 10 := by rw [IntKind.wrap_i64]; omega
      have e5 : IntKind.i64.wrap ((n : Int) % 10) = (n : Int) % 10 := by rw [IntKind.wrap_i64]; omega
      have e6 : IntKind.u8.wrap (48 + (n : Int) % 10) = 48 + (n : Int) % 10 := by simp only [IntKind.wrap, IntKind.bits, IntKind.signed]; simp; omega
      go_enter Tryz.func89, Tryz.ntmps89
      go_wp2_with fail
      go_region_with (go_at_call 89; refine (IH.out _).mono ?_; rintro e w1 ⟨rfl, hb⟩; have hcc := fun b o (h : b < _) => hb.cell (p := ⟨b, o, none⟩) h)
      all_goals
        go_wp2
        go_ret
        refine ⟨ret_str (digs_step h), ?_⟩
      · exact (below_then (Below.refl _ _).drew hb (by simp)).alloc (by have := hb.size; simpa using this) _
      all_goals exact below_then ((Below.refl _ _).alloc (Nat.le_refl _) _).drew hb (by simp)
end Go.Proofs.YtnnmjmjbfeoggaaGreatDoor
