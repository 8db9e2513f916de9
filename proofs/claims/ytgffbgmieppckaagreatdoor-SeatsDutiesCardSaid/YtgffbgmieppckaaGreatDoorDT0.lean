import Derived.Test.YtgffbgmieppckaaGreatDoorSplit
import Derived.LaidEql
import Derived.Lib.IfaceEq
import Derived.Stop.Asserts
import Derived.RowKitTokens
import Derived.Test.YtgffbgmieppckaaGreatDoorAgain
import Derived.Laws.ShiftsVar
import Derived.Test.YtgffbgmieppckaaGreatDoorOwn
import Derived.Test.YtgffbgmieppckaaGreatDoorShelf2
import Derived.Lib.BitFns
namespace Go.Proofs.YtgffbgmieppckaaGreatDoor
set_option maxRecDepth 100000
open Go.RowKit Go.Extern.Stop Go.Stop Go.Extern
def HandleAt (w : World) : Prop := w.cell? ⟨0, 0, none⟩ = some (.iface 311 (.agg #[.pointer (some ⟨5, 35, none⟩)]))
theorem As_nil (t : Value) (w : World) : Calls Tryz.prog 93 #[.nilIface, t] w fun e w' => e = .returned (.bool false) ∧ w = w' := by
  go_enter Tryz.func93, Tryz.ntmps93
  go_wp2
  go_ret
  exact ⟨rfl, rfl⟩
theorem Tryz.vo1 (t : Addr) (w : World) : (ReflectliteValue.unpack (.iface 177 (.pointer (some t)))).run Tryz.prog w = .ok (.agg #[.pointer (some ⟨5, 177, none⟩), .pointer (some ⟨w.heap.size, 0, none⟩), .int .u64 150]) (w.alloc (.cells #[.pointer (some t)] 177)) := by kernel_rfl
theorem Tryz.vo2 (e : Addr) (w : World) : (ReflectliteValue.unpack (.iface 175 (.pointer (some e)))).run Tryz.prog w = .ok (.agg #[.pointer (some ⟨5, 175, none⟩), .pointer (some ⟨w.heap.size, 0, none⟩), .int .u64 150]) (w.alloc (.cells #[.pointer (some e)] 175)) := by kernel_rfl
theorem Tryz.vt1 (a : Addr) (w : World) : (ReflectliteValue.methodAny (ReflectliteValue.valueError "reflectlite.Value.Type" 0) (fun t _ _ _ => ReflectliteType.toType t) #[.agg #[.pointer (some ⟨5, 177, none⟩), .pointer (some a), .int .u64 150]]).run Tryz.prog w = .ok (.iface 311 (.agg #[.pointer (some ⟨5, 177, none⟩)])) w := by kernel_rfl
theorem Tryz.mKind (h : Value) (w : World) : (Go.method 494 311 (.agg #[h]) "Kind").run Tryz.prog w = .ok (269, h) w := by kernel_rfl
theorem Tryz.mElem (h : Value) (w : World) : (Go.method 494 311 (.agg #[h]) "Elem").run Tryz.prog w = .ok (283, .agg #[h]) w := by kernel_rfl
theorem Tryz.mImpl (h : Value) (w : World) : (Go.method 494 311 (.agg #[h]) "Implements").run Tryz.prog w = .ok (284, .agg #[h]) w := by kernel_rfl
theorem Tryz.mAssign (h : Value) (w : World) : (Go.method 494 311 (.agg #[h]) "AssignableTo").run Tryz.prog w = .ok (281, .agg #[h]) w := by kernel_rfl
theorem Tryz.k1 (w : World) : ((ReflectliteType.abiMethod fun t => (fun a : Nat => Value.int IntKind.u8 (a : Int)) <$> Rtype.kind t) #[.pointer (some ⟨5, 177, none⟩)]).run Tryz.prog w = .ok (.int .u8 22) w := by kernel_rfl
theorem Tryz.k2 (w : World) : ((ReflectliteType.abiMethod fun t => (fun a : Nat => Value.int IntKind.u8 (a : Int)) <$> Rtype.kind t) #[.pointer (some ⟨5, 175, none⟩)]).run Tryz.prog w = .ok (.int .u8 22) w := by kernel_rfl
theorem Tryz.el1 (w : World) : (ReflectliteType.method ReflectliteType.elem #[.agg #[.pointer (some ⟨5, 177, none⟩)]]).run Tryz.prog w = .ok (.iface 311 (.agg #[.pointer (some ⟨5, 175, none⟩)])) w := by kernel_rfl
theorem Tryz.im2 (w : World) : (ReflectliteType.relation "Implements" ReflectliteType.implements_ #[.agg #[.pointer (some ⟨5, 175, none⟩)], .iface 311 (.agg #[.pointer (some ⟨5, 35, none⟩)])]).run Tryz.prog w = .ok (.bool true) w := by kernel_rfl
theorem Tryz.to2 (v : Value) (w : World) : (ReflectliteType.typeOf #[.iface 175 v]).run Tryz.prog w = .ok (.iface 311 (.agg #[.pointer (some ⟨5, 175, none⟩)])) w := by kernel_rfl
theorem Tryz.as2 (w : World) : (ReflectliteType.relation "AssignableTo" ReflectliteType.assignableTo #[.agg #[.pointer (some ⟨5, 175, none⟩)], .iface 311 (.agg #[.pointer (some ⟨5, 175, none⟩)])]).run Tryz.prog w = .ok (.bool true) w := by kernel_rfl
theorem vmeth (z : Sem Value) (g : TypeId → Addr → Nat → Nat → Sem Value) (v : Value) : ReflectliteValue.method z g #[v] = (do match ← ReflectliteValue.parts v with | none => z | some (t, a, fl) => g t a fl (fl % 32)) := rfl
theorem Tryz.pa1 (a : Addr) (w : World) : (ReflectliteValue.parts (.agg #[.pointer (some ⟨5, 177, none⟩), .pointer (some a), .int .u64 150])).run Tryz.prog w = .ok (some (177, a, 150)) w := by kernel_rfl
theorem Tryz.pa2 (a : Addr) (w : World) : (ReflectliteValue.parts (.agg #[.pointer (some ⟨5, 175, none⟩), .pointer (some a), .int .u64 406])).run Tryz.prog w = .ok (some (175, a, 406)) w := by kernel_rfl
theorem Tryz.pa3 (a : Addr) (w : World) : (ReflectliteValue.parts (.agg #[.pointer (some ⟨5, 175, none⟩), .pointer (some a), .int .u64 150])).run Tryz.prog w = .ok (some (175, a, 150)) w := by kernel_rfl
theorem Tryz.nil1 (a p : Addr) (W : World) (ha : W.cell? a = some (.pointer (some p))) : (ReflectliteValue.method (ReflectliteValue.valueError "reflectlite.Value.IsNil" 0) ReflectliteValue.isNil #[.agg #[.pointer (some ⟨5, 177, none⟩), .pointer (some a), .int .u64 150]]).run Tryz.prog W = .ok (.bool false) W := by
  rw [vmeth]
  simp only [Sem.run_bind, Tryz.pa1, Result.andThen]
  simp [ReflectliteValue.isNil, loadVar, isAgg, underlying, Tryz.underlying177, ha, Result.andThen]
theorem Tryz.eo1 (w : World) : (Rtype.elem? 177).run Tryz.prog w = .ok (some 175) w := by kernel_rfl
theorem Tryz.mk2 (p : Addr) (w : World) : (ReflectliteValue.mk 175 p ReflectliteValue.flagAddr).run Tryz.prog w = .ok (.agg #[.pointer (some ⟨5, 175, none⟩), .pointer (some p), .int .u64 406]) w := by kernel_rfl
theorem Tryz.elv1 (a p : Addr) (W : World) (ha : W.cell? a = some (.pointer (some p))) : (ReflectliteValue.method (ReflectliteValue.valueError "reflectlite.Value.Elem" 0) ReflectliteValue.elem #[.agg #[.pointer (some ⟨5, 177, none⟩), .pointer (some a), .int .u64 150]]).run Tryz.prog W = .ok (.agg #[.pointer (some ⟨5, 175, none⟩), .pointer (some p), .int .u64 406]) W := by
  rw [vmeth]
  simp only [Sem.run_bind, Tryz.pa1, Result.andThen]
  simp [ReflectliteValue.elem, loadVar, isAgg, underlying, Tryz.underlying177, ha, Result.andThen, Tryz.eo1, Tryz.mk2]
theorem Tryz.dir2 (w : World) : (Rtype.directlyAssignable 175 175).run Tryz.prog w = .ok true w := by kernel_rfl
theorem Tryz.set2 (ta b e : Addr) (old : Value) (W : World) (hb : W.cell? b = some (.pointer (some e))) (ht : W.cell? ta = some old) (hf : W.frozen? ta = false) :
    (ReflectliteValue.set #[.agg #[.pointer (some ⟨5, 175, none⟩), .pointer (some ta), .int .u64 406], .agg #[.pointer (some ⟨5, 175, none⟩), .pointer (some b), .int .u64 150]]).run Tryz.prog W = .ok (.tuple #[]) (W.setCell ta (.pointer (some e))) := by
  delta ReflectliteValue.set
  change Sem.run Tryz.prog (ReflectliteValue.parts (.agg #[.pointer (some ⟨5, 175, none⟩), .pointer (some ta), .int .u64 406]) >>= fun q => ReflectliteValue.parts (.agg #[.pointer (some ⟨5, 175, none⟩), .pointer (some b), .int .u64 150]) >>= _) W = _
  simp only [Sem.run_bind, Tryz.pa2, Tryz.pa3, Result.andThen]
  simp [ReflectliteValue.flagAddr, loadVar, isAgg, underlying, Tryz.underlying175, hb, Result.andThen, Tryz.dir2, storeVar, Value.cells, storeCells, Addr.add]
  rw [run_store Tryz.prog W ta _ _ (by rfl)]
  simp [ht, hf]
theorem setCell_here {w : World} {t : Nat} {old : Value} (h : w.cell? ⟨t, 0, none⟩ = some old) (v : Value) : (w.setCell ⟨t, 0, none⟩ v).cell? ⟨t, 0, none⟩ = some v := by
  unfold World.cell? at h
  split at h
  · rename_i c e f hh
    have h1 : c[0]? = some old := h
    have hlt : 0 < c.size := (Array.getElem?_eq_some_iff.1 h1).1
    rw [cell_of_row _ _ _ _ _ _ (heap_set hh v)]
    simp [hlt]
  · cases h
def AsTo (t : Nat) (e : Addr) (w : World) (ev : Ending) (w' : World) : Prop := ev = .returned (.bool true) ∧ w'.cell? ⟨t, 0, none⟩ = some (.pointer (some e)) ∧ Below t w w'
set_option maxHeartbeats 4000000 in
theorem As_hit (e : Addr) (t : Nat) (old : Value) (w : World) (hg : HandleAt w) (ht0 : w.cell? ⟨t, 0, none⟩ = some old) (hf0 : w.frozen? ⟨t, 0, none⟩ = false) (_h0 : 0 ≠ t) :
    Calls Tryz.prog 93 #[.iface 175 (.pointer (some e)), .iface 177 (.pointer (some ⟨t, 0, none⟩))] w (AsTo t e w) := by
  have x1 := @run_callFunc_extern Tryz.prog 155 _ (fun args => ReflectliteValue.unpack (args.getD 0 (.tuple #[]))) Tryz.func155 (by kernel_rfl) (by kernel_rfl) (by kernel_rfl) (by kernel_rfl)
  have x2 := @run_callFunc_extern Tryz.prog 156 _ (ReflectliteValue.methodAny (ReflectliteValue.valueError "reflectlite.Value.Type" 0) (fun t _ _ _ => ReflectliteType.toType t)) Tryz.func156 (by kernel_rfl) (by kernel_rfl) (by kernel_rfl) (by kernel_rfl)
  have x3 := @run_callFunc_extern Tryz.prog 157 _ (ReflectliteValue.method (ReflectliteValue.valueError "reflectlite.Value.IsNil" 0) ReflectliteValue.isNil) Tryz.func157 (by kernel_rfl) (by kernel_rfl) (by kernel_rfl) (by kernel_rfl)
  have x4 := @run_callFunc_extern Tryz.prog 269 _ (ReflectliteType.abiMethod fun t => do pure (.int .u8 (← Rtype.kind t))) Tryz.func269 (by kernel_rfl) (by kernel_rfl) (by kernel_rfl) (by kernel_rfl)
  have x5 := @run_callFunc_extern Tryz.prog 283 _ (ReflectliteType.method ReflectliteType.elem) Tryz.func283 (by kernel_rfl) (by kernel_rfl) (by kernel_rfl) (by kernel_rfl)
  have x6 := @run_callFunc_extern Tryz.prog 284 _ (ReflectliteType.relation "Implements" ReflectliteType.implements_) Tryz.func284 (by kernel_rfl) (by kernel_rfl) (by kernel_rfl) (by kernel_rfl)
  have x7 := @run_callFunc_extern Tryz.prog 151 _ ReflectliteType.typeOf Tryz.func151 (by kernel_rfl) (by kernel_rfl) (by kernel_rfl) (by kernel_rfl)
  have x8 := @run_callFunc_extern Tryz.prog 281 _ (ReflectliteType.relation "AssignableTo" ReflectliteType.assignableTo) Tryz.func281 (by kernel_rfl) (by kernel_rfl) (by kernel_rfl) (by kernel_rfl)
  have x9 := @run_callFunc_extern Tryz.prog 200 _ (ReflectliteValue.method (ReflectliteValue.valueError "reflectlite.Value.Elem" 0) ReflectliteValue.elem) Tryz.func200 (by kernel_rfl) (by kernel_rfl) (by kernel_rfl) (by kernel_rfl)
  have x10 := @run_callFunc_extern Tryz.prog 201 _ ReflectliteValue.set Tryz.func201 (by kernel_rfl) (by kernel_rfl) (by kernel_rfl) (by kernel_rfl)
  have y1 := Tryz.vo1
  have y2 := Tryz.vo2
  have y3 := Tryz.vt1
  have y4 := Tryz.mKind
  have y5 := Tryz.mElem
  have y6 := Tryz.mImpl
  have y7 := Tryz.mAssign
  have y8 := Tryz.k1
  have y9 := Tryz.k2
  have y10 := Tryz.el1
  have y11 := Tryz.im2
  have y12 := Tryz.to2
  have y13 := Tryz.as2
  have htl : t < w.heap.size := World.block_lt_of_cell? w _ ht0
  have hgl : 0 < w.heap.size := World.block_lt_of_cell? w _ hg
  have n8 := Tryz.nil1 ⟨w.heap.size, 0, none⟩ ⟨t, 0, none⟩ ((w.alloc (.cells #[.pointer (some ⟨t, 0, none⟩)] 177)).alloc (.cells #[.pointer (some ⟨5, 177, none⟩), .pointer (some ⟨w.heap.size, 0, none⟩), .int .u64 150] 255)) (by simp)
  have hg2 : ((w.alloc (.cells #[.pointer (some ⟨t, 0, none⟩)] 177)).alloc (.cells #[.pointer (some ⟨5, 177, none⟩), .pointer (some ⟨w.heap.size, 0, none⟩), .int .u64 150] 255)).cell? ⟨0, 0, none⟩ = some (.iface 311 (.agg #[.pointer (some ⟨5, 35, none⟩)])) := by
    rw [World.cell?_alloc_lt _ _ _ (by simp), World.cell?_alloc_lt _ _ _ hgl]; exact hg
  have el := Tryz.elv1 ⟨w.heap.size, 0, none⟩ ⟨t, 0, none⟩ (((w.alloc (.cells #[.pointer (some ⟨t, 0, none⟩)] 177)).alloc (.cells #[.pointer (some ⟨5, 177, none⟩), .pointer (some ⟨w.heap.size, 0, none⟩), .int .u64 150] 255)).alloc (.cells #[.pointer (some ⟨5, 177, none⟩), .pointer (some ⟨w.heap.size, 0, none⟩), .int .u64 150] 255)) (by rw [World.cell?_alloc_lt _ _ ⟨w.heap.size, 0, none⟩ (by simp; omega)]; simp)
  have c4 : ((((w.alloc (.cells #[.pointer (some ⟨t, 0, none⟩)] 177)).alloc (.cells #[.pointer (some ⟨5, 177, none⟩), .pointer (some ⟨w.heap.size, 0, none⟩), .int .u64 150] 255)).alloc (.cells #[.pointer (some ⟨5, 177, none⟩), .pointer (some ⟨w.heap.size, 0, none⟩), .int .u64 150] 255)).alloc (.cells #[.pointer (some e)] 175)).cell? ⟨t, 0, none⟩ = some old := by
    rw [World.cell?_alloc_lt _ _ _ (by simp; omega), World.cell?_alloc_lt _ _ _ (by simp; omega), World.cell?_alloc_lt _ _ _ (by simp; omega), World.cell?_alloc_lt _ _ _ htl]; exact ht0
  have st := Tryz.set2 ⟨t, 0, none⟩ ⟨w.heap.size + 1 + 1 + 1, 0, none⟩ e old ((((w.alloc (.cells #[.pointer (some ⟨t, 0, none⟩)] 177)).alloc (.cells #[.pointer (some ⟨5, 177, none⟩), .pointer (some ⟨w.heap.size, 0, none⟩), .int .u64 150] 255)).alloc (.cells #[.pointer (some ⟨5, 177, none⟩), .pointer (some ⟨w.heap.size, 0, none⟩), .int .u64 150] 255)).alloc (.cells #[.pointer (some e)] 175))
    (by rw [World.cell?_alloc_at _ _ _ _ (by simp)]; rfl) c4
    (by rw [World.frozen?_alloc_old _ _ ⟨t, 0, none⟩ (by simp; omega), World.frozen?_alloc_old _ _ ⟨t, 0, none⟩ (by simp; omega), World.frozen?_alloc_old _ _ ⟨t, 0, none⟩ (by simp; omega), World.frozen?_alloc_old _ _ ⟨t, 0, none⟩ (Nat.ne_of_lt htl)]; exact hf0)
  go_enter Tryz.func93, Tryz.ntmps93
  go_wp2
  refine wp_loop_rounds 1 ?_
  rw [rounds_succ]
  go_wp2
  go_ret
  refine ⟨rfl, ?_, ?_⟩
  · exact setCell_here c4 _
  · exact (((((Below.refl t w).alloc (by omega) _).alloc (by simp; omega) _).alloc (by simp; omega) _).alloc (by simp; omega) _).setCell (Nat.le_refl _) _
end Go.Proofs.YtgffbgmieppckaaGreatDoor
namespace Go.Proofs.YtgffbgmieppckaaGreatDoor
set_option maxRecDepth 100000
abbrev Rel := Nat → Nat → Bool
def way (R : Rel) : Nat → Rel
  | 0 => R
  | m + 1 => fun i j => way R m i j || (way R m i m && way R m m j)
theorem way_succ {R : Rel} {m i j : Nat} : way R (m + 1) i j = true ↔ way R m i j = true ∨ way R m i m = true ∧ way R m m j = true := by simp [way]
theorem way_mono {R : Rel} {m n : Nat} (h : m ≤ n) {i j : Nat} (hw : way R m i j = true) : way R n i j = true := by
  induction n with
  | zero => obtain rfl : m = 0 := by omega
            exact hw
  | succ n ih =>
    by_cases e : m = n + 1
    · subst e; exact hw
    · exact way_succ.2 (.inl (ih (by omega)))
theorem way_least {R : Rel} {T : Nat → Nat → Prop} (hT : ∀ i k j, T i k → T k j → T i j) (hR : ∀ i j, R i j = true → T i j) : ∀ m {i j : Nat}, way R m i j = true → T i j
  | 0, i, j, h => hR i j h
  | m + 1, i, j, h => by
    rcases way_succ.1 h with h | ⟨h1, h2⟩
    · exact way_least hT hR m h
    · exact hT _ _ _ (way_least hT hR m h1) (way_least hT hR m h2)
theorem way_trans {R : Rel} : ∀ (m : Nat) {i k j : Nat}, k < m → way R m i k = true → way R m k j = true → way R m i j = true
  | 0, _, _, _, h, _, _ => absurd h (by omega)
  | m + 1, i, k, j, hk, h1, h2 => by
    rw [way_succ] at h1 h2 ⊢
    by_cases e : k = m
    · subst e
      have a : way R k i k = true := h1.elim id (·.1)
      have b : way R k k j = true := h2.elim id (·.2)
      exact .inr ⟨a, b⟩
    · have hk' : k < m := by omega
      rcases h1 with h1 | ⟨h1, h1'⟩ <;> rcases h2 with h2 | ⟨h2, h2'⟩
      · exact .inl (way_trans m hk' h1 h2)
      · exact .inr ⟨way_trans m hk' h1 h2, h2'⟩
      · exact .inr ⟨h1, way_trans m hk' h1' h2⟩
      · exact .inr ⟨h1, h2'⟩
theorem way_base {R : Rel} {n i j : Nat} (h : R i j = true) : way R n i j = true := way_mono (Nat.zero_le _) h
def rel (bl : List Nat) : Rel := fun i j => (bl.getD i 0).testBit j
theorem rel_out {bl : List Nat} {i : Nat} (h : bl.length ≤ i) (j : Nat) : rel bl i j = false := by
  simp [rel, List.getD_eq_getElem?_getD, h]
def Lo (bl : List Nat) : Prop := ∀ i, bl.getD i 0 < 16777216
theorem getD_set {bl : List Nat} {k i v : Nat} (h : k < bl.length) : (bl.set k v).getD i 0 = if i = k then v else bl.getD i 0 := by
  simp only [List.getD_eq_getElem?_getD, List.getElem?_set]
  by_cases e : k = i
  · subst e; simp [h]
  · rw [if_neg e, if_neg (fun h => e h.symm)]
theorem lo_set {bl : List Nat} (h : Lo bl) {k v : Nat} (hk : k < bl.length) (hv : v < 16777216) : Lo (bl.set k v) := fun i => by
  rw [getD_set hk]; split
  · exact hv
  · exact h i
theorem or_lo {a b : Nat} (ha : a < 16777216) (hb : b < 16777216) : a ||| b < 16777216 := Nat.or_lt_two_pow (n := 24) ha hb
def bitN (i : Nat) : Nat := 2 ^ i
theorem pow_lo {i : Nat} (h : i < 24) : bitN i < 16777216 := Nat.pow_lt_pow_right (a := 2) (by omega) h
def put1 (m k : Nat) (cur : List Nat) : List Nat := if rel cur k m = true then cur.set k (cur.getD k 0 ||| cur.getD m 0) else cur
theorem put1_length (m k : Nat) (cur : List Nat) : (put1 m k cur).length = cur.length := by unfold put1; split <;> simp
theorem put1_lo {m k : Nat} {cur : List Nat} (h : Lo cur) (hk : k < cur.length) : Lo (put1 m k cur) := by
  unfold put1; split
  · exact lo_set h hk (or_lo (h _) (h _))
  · exact h
theorem put1_rel {m k : Nat} {cur : List Nat} (hk : k < cur.length) (i j : Nat) : rel (put1 m k cur) i j = if i = k then rel cur k j || (rel cur k m && rel cur m j) else rel cur i j := by
  unfold put1
  by_cases h : rel cur k m = true
  · rw [if_pos h]
    unfold rel
    rw [getD_set hk]
    by_cases e : i = k
    · subst e
      rw [if_pos rfl, if_pos rfl, Nat.testBit_or]
      have : (cur.getD i 0).testBit m = true := h
      rw [this]; simp
    · rw [if_neg e, if_neg e]
  · rw [if_neg h]
    have h' : rel cur k m = false := by simpa using h
    by_cases e : i = k
    · subst e; rw [if_pos rfl, h']; simp
    · rw [if_neg e]
def stepTo (m : Nat) (bl : List Nat) : Nat → List Nat
  | 0 => bl
  | k + 1 => put1 m k (stepTo m bl k)
theorem stepTo_length (m : Nat) (bl : List Nat) : ∀ k, (stepTo m bl k).length = bl.length
  | 0 => rfl
  | k + 1 => by rw [stepTo, put1_length, stepTo_length m bl k]
theorem stepTo_lo {m : Nat} {bl : List Nat} (h : Lo bl) : ∀ k, k ≤ bl.length → Lo (stepTo m bl k)
  | 0, _ => h
  | k + 1, hk => put1_lo (stepTo_lo h k (by omega)) (by rw [stepTo_length]; omega)
theorem stepTo_rel (m : Nat) (bl : List Nat) : ∀ k, k ≤ bl.length → ∀ i j, rel (stepTo m bl k) i j = if i < k then rel bl i j || (rel bl i m && rel bl m j) else rel bl i j
  | 0, _, i, j => by simp [stepTo]
  | k + 1, hk, i, j => by
    have ih := stepTo_rel m bl k (by omega)
    have hkk := ih k
    simp only [Nat.lt_irrefl, if_false] at hkk
    have hm : ∀ j, rel (stepTo m bl k) m j = rel bl m j := fun j => by
      rw [ih]; split
      · cases rel bl m m <;> cases rel bl m j <;> rfl
      · rfl
    rw [stepTo, put1_rel (by rw [stepTo_length]; omega)]
    by_cases e : i = k
    · subst e; rw [if_pos rfl, if_pos (by omega), hkk, hkk, hm]
    · rw [if_neg e, ih]
      by_cases h : i < k
      · rw [if_pos h, if_pos (by omega)]
      · rw [if_neg h, if_neg (by omega)]
def folTo (bl : List Nat) : Nat → List Nat
  | 0 => bl
  | m + 1 => stepTo m (folTo bl m) bl.length
theorem folTo_length (bl : List Nat) : ∀ m, (folTo bl m).length = bl.length
  | 0 => rfl
  | m + 1 => by rw [folTo, stepTo_length, folTo_length bl m]
theorem folTo_lo {bl : List Nat} (h : Lo bl) : ∀ m, Lo (folTo bl m)
  | 0 => h
  | m + 1 => stepTo_lo (folTo_lo h m) _ (by rw [folTo_length]; exact Nat.le_refl _)
theorem folTo_rel (bl : List Nat) : ∀ m i j, rel (folTo bl m) i j = way (rel bl) m i j
  | 0, i, j => rfl
  | m + 1, i, j => by
    have ih := folTo_rel bl m
    rw [folTo, stepTo_rel _ _ _ (by rw [folTo_length]; exact Nat.le_refl _), ih, ih, ih]
    by_cases h : i < bl.length
    · rw [if_pos h]; rfl
    · have h0 : way (rel bl) m i j = false := by rw [← ih, rel_out (by rw [folTo_length]; omega)]
      have h1 : way (rel bl) m i m = false := by rw [← ih, rel_out (by rw [folTo_length]; omega)]
      rw [if_neg h]; simp [way, h0, h1]
def selfTo (bl : List Nat) : Nat → List Nat
  | 0 => bl
  | k + 1 => (selfTo bl k).set k ((selfTo bl k).getD k 0 ||| bitN k)
theorem selfTo_length (bl : List Nat) : ∀ k, (selfTo bl k).length = bl.length
  | 0 => rfl
  | k + 1 => by rw [selfTo, List.length_set, selfTo_length bl k]
theorem selfTo_lo {bl : List Nat} (h : Lo bl) (hl : bl.length ≤ 24) : ∀ k, k ≤ bl.length → Lo (selfTo bl k)
  | 0, _ => h
  | k + 1, hk => by
    have ih := selfTo_lo h hl k (by omega)
    exact lo_set ih (by rw [selfTo_length]; omega) (or_lo (ih _) (pow_lo (by omega)))
theorem pow_bit (k j : Nat) : (bitN k).testBit j = (k == j) := by
  rw [bitN, Nat.testBit_two_pow]
  by_cases h : k = j <;> simp [h]
def circ (bl : List Nat) : Bool := (List.range bl.length).any fun i => rel bl i i
abbrev Nm := List UInt8
abbrev Pr := Nm × Nm
def nix (names : List Nm) (x : Nm) : Nat := names.idxOf x
theorem idx_lt {names : List Nm} {x : Nm} (h : x ∈ names) : nix names x < names.length := List.idxOf_lt_length_of_mem h
theorem get_idx {names : List Nm} {x : Nm} (h : x ∈ names) : names[nix names x]'(idx_lt h) = x := List.getElem_idxOf _
theorem nix_get {names : List Nm} (hn : names.Nodup) {i : Nat} (h : i < names.length) : nix names names[i] = i := by
  have := List.Nodup.idxOf_getElem hn i h
  exact this
def pset (names : List Nm) (bl : List Nat) (p : Pr) : List Nat := bl.set (nix names p.1) (bl.getD (nix names p.1) 0 ||| bitN (nix names p.2))
def psL (names : List Nm) (ps : List Pr) : List Nat := ps.foldl (pset names) (List.replicate names.length 0)
theorem psL_snoc (names : List Nm) (ps : List Pr) (p : Pr) : psL names (ps ++ [p]) = pset names (psL names ps) p := by simp [psL]
def inN (names : List Nm) (p : Pr) : Bool := decide (p.1 ∈ names) && decide (p.2 ∈ names)
def prel (names : List Nm) (ps : List Pr) : Rel := fun i j => ps.any fun p => nix names p.1 == i && nix names p.2 == j
theorem psL_all (names : List Nm) (hl : names.length ≤ 24) (ps : List Pr) (h : ∀ p ∈ ps, inN names p = true) : (psL names ps).length = names.length ∧ Lo (psL names ps) ∧ ∀ i j, rel (psL names ps) i j = prel names ps i j := by
  suffices H : ∀ n (ps : List Pr), ps.length = n → (∀ p ∈ ps, inN names p = true) → (psL names ps).length = names.length ∧ Lo (psL names ps) ∧ ∀ i j, rel (psL names ps) i j = prel names ps i j from H _ ps rfl h
  intro n
  induction n with
  | zero =>
    intro ps e _
    obtain rfl := List.length_eq_zero_iff.1 e
    have hz : ∀ i, (List.replicate names.length 0).getD i 0 = 0 := fun i => by
      rw [List.getD_eq_getElem?_getD, List.getElem?_replicate]; split <;> rfl
    refine ⟨by simp [psL], fun i => ?_, fun i j => ?_⟩
    · show (List.replicate names.length 0).getD i 0 < _
      rw [hz]; omega
    · show ((List.replicate names.length 0).getD i 0).testBit j = _
      rw [hz]; simp [prel]
  | succ n ih =>
    intro ps e hp
    obtain ⟨qs, p, rfl⟩ : ∃ qs p, ps = qs ++ [p] := ⟨ps.dropLast, ps.getLast (by intro h; rw [h] at e; cases e), (List.dropLast_concat_getLast _).symm⟩
    obtain ⟨h1, h2, h3⟩ := ih qs (by simpa using e) (fun q hq => hp q (List.mem_append_left _ hq))
    have hpn := hp p (List.mem_append_right _ (List.mem_singleton.2 rfl))
    simp only [inN, Bool.and_eq_true, decide_eq_true_eq] at hpn
    have ha := idx_lt hpn.1
    have hb := idx_lt hpn.2
    rw [psL_snoc]
    refine ⟨by simp [pset, h1], lo_set h2 (by omega) (or_lo (h2 _) (pow_lo (by omega))), fun i j => ?_⟩
    have hpr : prel names (qs ++ [p]) i j = (prel names qs i j || (nix names p.1 == i && nix names p.2 == j)) := by simp [prel]
    rw [hpr, ← h3]
    unfold rel pset
    rw [getD_set (by omega)]
    by_cases ei : i = nix names p.1
    · rw [if_pos ei, Nat.testBit_or, pow_bit, ← ei]; simp
    · rw [if_neg ei]
      have : (nix names p.1 == i) = false := by simpa using fun h => ei h.symm
      rw [this]; simp
inductive NewR where
  | bad (k : Int)
  | ok (bl : List Nat)
def folL (names : List Nm) (ps : List Pr) : List Nat := folTo (psL names ps) names.length
def newP (names : List Nm) (ps : List Pr) : NewR :=
  if 24 < names.length then .bad 5
  else if ¬ names.Nodup then .bad 4
  else if ps.all (inN names) = false then .bad 3
  else if circ (folL names ps) = true then .bad 6
  else .ok (selfTo (folL names ps) names.length)
def downTo (bl : List Nat) (set : Nat) : Nat → Nat
  | 0 => 0
  | k + 1 => if set.testBit k = true then downTo bl set k ||| bl.getD k 0 else downTo bl set k
def upperTo (bl : List Nat) (set : Nat) : Nat → Nat
  | 0 => 0
  | k + 1 => if bl.getD k 0 &&& set = 0 then upperTo bl set k else upperTo bl set k ||| bitN k
theorem downTo_lo {bl : List Nat} (h : Lo bl) (set : Nat) : ∀ k, downTo bl set k < 16777216
  | 0 => by rw [downTo]; omega
  | k + 1 => by
    rw [downTo]; split
    · exact or_lo (downTo_lo h set k) (h k)
    · exact downTo_lo h set k
theorem upperTo_lo (bl : List Nat) (set : Nat) : ∀ k, k ≤ 24 → upperTo bl set k < 16777216
  | 0, _ => by rw [upperTo]; omega
  | k + 1, hk => by
    rw [upperTo]; split
    · exact upperTo_lo bl set k (by omega)
    · exact or_lo (upperTo_lo bl set k (by omega)) (pow_lo (by omega))
end Go.Proofs.YtgffbgmieppckaaGreatDoor
namespace Go.Proofs.YtgffbgmieppckaaGreatDoor
set_option maxRecDepth 100000
open Go.ChangeShapes Go.WideShapes Go.ChangeAt Go.RowKit
theorem bit_lt {i : Nat} (h : i < 32) : bitN i < 4294967296 := Nat.pow_lt_pow_right (a := 2) (by omega) h
theorem bit_val {i : Nat} (h : i < 32) : (2 : Int) ^ i % 4294967296 = (bitN i : Int) := by
  have := bit_lt h
  have e : (2 : Int) ^ i = (bitN i : Int) := by unfold bitN; norm_cast
  rw [e]; omega
set_option maxHeartbeats 400000 in
theorem bit_any (i : Nat) (w : World) (hi : i < 32) : Calls Tryz.prog 165 #[.int .i64 i] w fun e w' => e = .returned (.int .u32 (bitN i : Int)) ∧ w = w' := by
  go_enter Tryz.func165, Tryz.ntmps165
  go_wp2
  go_ret
  exact ⟨ret_int (bit_val hi), rfl⟩
theorem and_bit (s i : Nat) : (s &&& bitN i = 0) ↔ s.testBit i = false := by
  constructor
  · intro h
    have := congrArg (·.testBit i) h
    simpa [Nat.testBit_and, bitN, Nat.testBit_two_pow] using this
  · intro h
    apply Nat.eq_of_testBit_eq
    intro j
    rw [Nat.testBit_and, bitN, Nat.testBit_two_pow, Nat.zero_testBit]
    by_cases e : i = j
    · subst e; simp [h]
    · simp [e]
theorem has_val (s i : Nat) (hs : s < 4294967296) (hi : i < 32) : (bits .and .u32 (s : Int) (bitN i : Int) != 0) = s.testBit i := by
  rw [u32_and_nat s (bitN i) hs (bit_lt hi)]
  have h := and_bit s i
  cases hb : s.testBit i
  · have := h.2 hb
    simp [this]
  · have : s &&& bitN i ≠ 0 := fun e => by rw [h.1 e] at hb; cases hb
    simp; omega
theorem has_any (s i : Nat) (w : World) (hs : s < 4294967296) (hi : i < 32) : Calls Tryz.prog 111 #[.int .u32 s, .int .i64 i] w fun e w' => e = .returned (.bool (s.testBit i)) ∧ w = w' := by
  have HV := Lib.hid (has_val s i hs hi)
  have hb := bit_lt hi
  go_enter Tryz.func111, Tryz.ntmps111
  go_wp2_with (go_at_call 165; refine (bit_any i _ hi).mono ?_; rintro e w1 ⟨rfl, rfl⟩)
  go_ret
  exact ⟨ret_bool HV.out, rfl⟩
def ucells (l : List Nat) : List Value := l.map fun s : Nat => Value.int .u32 (s : Int)
def UL (w : World) (base g : Nat) (l : List Nat) : Prop := w.ownsRow base 74 1 (.slice (some ⟨g, 0, none⟩) l.length l.length) l.length (ucells l)
theorem ul_cell {w : World} {base g : Nat} {l : List Nat} (h : UL w base g l) {j : Nat} (hj : j < l.length) : w.cell? ⟨g, j, none⟩ = some (.int .u32 (l.getD j 0 : Nat)) := by
  rw [World.ownsRow.cellAt h j (by omega)]
  simp [ucells, List.getD_eq_getElem?_getD, hj]
theorem ul_frozen {w : World} {base g : Nat} {l : List Nat} (h : UL w base g l) (j : Nat) : w.frozen? ⟨g, j, none⟩ = false := World.ownsRow.frozenAt h j
theorem ul_store {w : World} {base g : Nat} {l : List Nat} (h : UL w base g l) (j v : Nat) : UL (w.setCell ⟨g, j, none⟩ (.int .u32 v)) base g (l.set j v) ∧ w.grownBy (w.setCell ⟨g, j, none⟩ (.int .u32 v)) (some g) := by
  obtain ⟨h1, h2⟩ := World.ownsRow.stored h j (.int .u32 v)
  refine ⟨?_, h2⟩
  unfold UL
  rw [List.length_set]
  have : ucells (l.set j v) = (ucells l).set j (.int .u32 v) := by simp [ucells, List.map_set]
  rw [this]
  exact h1
theorem ul_lt {w : World} {base g : Nat} {l : List Nat} (h : UL w base g l) : base ≤ g ∧ g < w.heap.size := h.lt g rfl
theorem ul_below {w w' : World} {base g : Nat} {l : List Nat} (h : UL w base g l) (hb : Below w.heap.size w w') (hB : base ≤ w.heap.size) : UL w' base g l := own_below h hb hB
def CloneTo (l : List Tx) (w : World) (e : Ending) (w' : World) : Prop := ∃ v, e = .returned v ∧ OwnL w' w.heap.size v l ∧ Below w.heap.size w w'
theorem Clone_any (l : List Tx) (A : Option Addr) (c : Nat) (w : World) (h : ListAt w A c l) (hl : l.length ≤ 1000000) : Calls Tryz.prog 141 #[.slice A l.length c] w (CloneTo l w) := by
  cases A with
  | none =>
    have h0 : l = [] := by
      cases l with
      | nil => rfl
      | cons a r => obtain ⟨g, e, _⟩ := h.2 0 (by simp); cases e
    subst h0
    exact (Tryz.slices_Clone_string_nil _ c w).mono fun e w' ⟨he, hw⟩ => ⟨_, he, World.ownsRow_nil _ _ _ _, by rw [hw]; exact Below.refl _ _⟩
  | some a =>
    by_cases h0 : l.length = 0
    · have e0 : l = [] := List.length_eq_zero_iff.1 h0
      subst e0
      exact (Tryz.slices_Clone_string_zero a c w).mono fun e w' ⟨v, he, ho, _, hb⟩ => ⟨v, he, ho, hb⟩
    · obtain ⟨g, e, _, _⟩ := h.2 0 (by omega)
      obtain rfl := Option.some.inj e
      refine (Tryz.slices_Clone_string g 0 l.length c (l.map bs) w (by simp) (by omega) (fun j hj => ?_)).mono fun e w' ⟨v, he, ho, _, hb⟩ => ⟨v, he, ?_, hb⟩
      · have hj' : j < l.length := by simpa using hj
        obtain ⟨g', e', _, hc⟩ := h.2 j hj'
        have : g' = g := by have := Option.some.inj e'; simp at this; exact this.symm
        subst this
        rw [Nat.zero_add, hc]
        simp [List.getD_eq_getElem?_getD, hj']
      · have : ((l.map bs).take l.length).map Value.string = scells l := by rw [List.take_of_length_le (by simp)]; simp [scells]
        rw [this] at ho
        exact ho
end Go.Proofs.YtgffbgmieppckaaGreatDoor
namespace Go.Proofs.YtgffbgmieppckaaGreatDoor
set_option maxRecDepth 100000
def cntTo (s : Nat) : Nat → Nat
  | 0 => 0
  | k + 1 => cntTo s k + (s.testBit k).toNat
def cnt (s : Nat) : Nat := cntTo s 32
theorem cntTo_le (s : Nat) : ∀ k, cntTo s k ≤ k
  | 0 => Nat.le_refl _
  | k + 1 => by
    have := cntTo_le s k
    have : (s.testBit k).toNat ≤ 1 := by cases s.testBit k <;> decide
    simp only [cntTo]; omega
theorem cnt_le (s : Nat) : cnt s ≤ 32 := cntTo_le s 32
theorem cntTo_add (s a : Nat) : ∀ b, cntTo s (a + b) = cntTo s a + cntTo (s / 2 ^ a) b
  | 0 => rfl
  | b + 1 => by
    have ih := cntTo_add s a b
    rw [← Nat.add_assoc]
    simp only [cntTo]
    rw [ih, Nat.testBit_div_two_pow, Nat.add_comm b a]
    omega
theorem cntTo_mod (s n : Nat) : ∀ k, k ≤ n → cntTo (s % 2 ^ n) k = cntTo s k
  | 0, _ => rfl
  | k + 1, h => by
    simp only [cntTo]
    rw [cntTo_mod s n k (by omega), Nat.testBit_mod_two_pow]
    simp [show k < n by omega]
theorem cnt8 : ∀ n : Fin 256, Lib.pop8 (n.val : Int) = (cntTo n.val 8 : Int) := by decide +kernel
theorem cnt_bytes (s : Nat) : cnt s = cntTo (s / 2 ^ 24 % 2 ^ 8) 8 + cntTo (s / 2 ^ 16 % 2 ^ 8) 8 + cntTo (s / 2 ^ 8 % 2 ^ 8) 8 + cntTo (s % 2 ^ 8) 8 := by
  rw [cntTo_mod _ 8 8 (by omega), cntTo_mod _ 8 8 (by omega), cntTo_mod _ 8 8 (by omega), cntTo_mod _ 8 8 (by omega)]
  have h1 : cntTo s 32 = _ := cntTo_add s 24 8
  have h2 : cntTo s 24 = _ := cntTo_add s 16 8
  have h3 : cntTo s 16 = _ := cntTo_add s 8 8
  unfold cnt
  omega
def brk (s : Nat) (a : Int × Nat) : Bool := decide (a.1 ≤ (cnt (s &&& a.2) : Int))
def fstI (s : Nat) (l : List (Int × Nat)) : Int := match l.findIdx? (brk s) with
  | some k => k
  | none => -1
theorem fst_hit {s : Nat} {l : List (Int × Nat)} {k : Nat} (hk : k < l.length) (h : brk s l[k] = true) (hn : ∀ j (hj : j < k), brk s l[j] = false) : fstI s l = k := by
  unfold fstI
  have : l.findIdx? (brk s) = some k := by
    rw [List.findIdx?_eq_some_iff_getElem]
    exact ⟨hk, h, fun j hj => by simp [hn j hj]⟩
  rw [this]
theorem fst_miss {s : Nat} {l : List (Int × Nat)} (hn : ∀ j (hj : j < l.length), brk s l[j] = false) : fstI s l = -1 := by
  unfold fstI
  have : l.findIdx? (brk s) = none := by
    rw [List.findIdx?_eq_none_iff]
    intro x hx
    obtain ⟨j, hj, rfl⟩ := List.getElem_of_mem hx
    exact hn j hj
  rw [this]
def fI {α : Type} (p : α → Bool) (l : List α) : Int := match l.findIdx? p with
  | some k => k
  | none => -1
theorem fI_hit {α : Type} {p : α → Bool} {l : List α} {k : Nat} (hk : k < l.length) (h : p l[k] = true) (hn : ∀ j (hj : j < k), p l[j] = false) : fI p l = k := by
  unfold fI
  have : l.findIdx? p = some k := by
    rw [List.findIdx?_eq_some_iff_getElem]
    exact ⟨hk, h, fun j hj => by simp [hn j hj]⟩
  rw [this]
theorem fI_miss {α : Type} {p : α → Bool} {l : List α} (hn : ∀ j (hj : j < l.length), p l[j] = false) : fI p l = -1 := by
  unfold fI
  have : l.findIdx? p = none := by
    rw [List.findIdx?_eq_none_iff]
    intro x hx
    obtain ⟨j, hj, rfl⟩ := List.getElem_of_mem hx
    exact hn j hj
  rw [this]
theorem fI_any {α : Type} (p : α → Bool) (l : List α) : decide (0 ≤ fI p l) = l.any p := by
  unfold fI
  cases e : l.findIdx? p with
  | none =>
    rw [List.findIdx?_eq_none_iff] at e
    have : l.any p = false := List.any_eq_false.2 (fun x hx => by simp [e x hx])
    rw [this]; rfl
  | some k =>
    rw [List.findIdx?_eq_some_iff_getElem] at e
    obtain ⟨hk, h1, _⟩ := e
    have : l.any p = true := List.any_eq_true.2 ⟨_, List.getElem_mem hk, h1⟩
    rw [this]; simp
end Go.Proofs.YtgffbgmieppckaaGreatDoor
