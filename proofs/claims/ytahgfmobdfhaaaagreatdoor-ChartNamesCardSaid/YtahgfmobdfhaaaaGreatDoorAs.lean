/-
  againColumn: the column of the first word that stood before; isTime.
-/
import Derived.Test.YtahgfmobdfhaaaaGreatDoorRd4
import Derived.Test.YtahgfmobdfhaaaaGreatDoorOwn
import Derived.Test.YtahgfmobdfhaaaaGreatDoorSameL
import Derived.Maps.OwnSet
import Derived.Test.YtahgfmobdfhaaaaGreatDoorWth
import Derived.LaidEql
import Derived.Lib.IfaceEq
import Derived.Stop.Asserts
import Derived.RowKitTokens
namespace Go.Proofs.YtahgfmobdfhaaaaGreatDoor
set_option maxRecDepth 100000
open Go.ChangeShapes Go.WideShapes Go.ChangeAt Go.RowKit Go.Maps Go.WideMaps Go.ChangeMaps

/-- the column of the first word that was seen; 0: none -/
def againP (seen : List Tx) : List (Nat × Tx) → Nat
  | [] => 0
  | (c, t) :: r => if t ∈ seen then c else againP (seen ++ [t]) r
/-- words in the cells of the block g, from o on -/
def WAt (w : World) (g o : Nat) (ws : List (Nat × Tx)) : Prop := ∀ j (h : j < ws.length), w.cell? ⟨g, o + j * 2, none⟩ = some (.string (bs ws[j].2)) ∧ w.cell? ⟨g, o + j * 2 + 1, none⟩ = some (.int .i64 ws[j].1) ∧ ws[j].2.length ≤ maxLen
theorem WAt.below {w w' : World} {g o : Nat} {ws : List (Nat × Tx)} (h : WAt w g o ws) (hg : g < w.heap.size) (hb : Below w.heap.size w w') : WAt w' g o ws := fun j hj =>
  ⟨(hb.cell hg).trans (h j hj).1, (hb.cell hg).trans (h j hj).2.1, (h j hj).2.2⟩
theorem againP_drop (seen : List Tx) (ws : List (Nat × Tx)) (k : Nat) (h : k < ws.length) : againP seen (ws.drop k) = if ws[k].2 ∈ seen then ws[k].1 else againP (seen ++ [ws[k].2]) (ws.drop (k + 1)) := by
  rw [List.drop_eq_getElem_cons h]; rfl
def IntB (n : Nat) (w : World) (e : Ending) (w' : World) : Prop := e = .returned (.int .i64 n) ∧ Below w.heap.size w w'
theorem intB_mk {n m : Nat} {w w' : World} (h : n = m) (hb : Below w.heap.size w w') : IntB m w (.returned (.int .i64 n)) w' := by subst h; exact ⟨rfl, hb⟩
theorem isTime_any (n : Int) (w : World) : Calls Tryz.prog 97 #[.int .i64 n] w fun e w' => e = .returned (.bool (decide (0 < n) && decide (n ≤ 1073741824))) ∧ w = w' := by
  go_enter Tryz.func97, Tryz.ntmps97
  go_wp2
  all_goals
    go_ret
    refine ⟨ret_bool ?_, rfl⟩
    (try simp_all) <;> omega

set_option maxHeartbeats 2000000 in
theorem again_none (g o cap : Nat) (ws : List (Nat × Tx)) (w : World) (h : WAt w g o ws) (hg : g < w.heap.size) (hm : ws.length ≤ 1099511627776) (_hc : ws.length ≤ cap) :
    Calls Tryz.prog 96 #[.slice (some ⟨g, o, none⟩) ws.length cap, .slice none 0 0] w (IntB (againP [] ws) w) := by
  have hmm := fun n => makeMap_hint 180 9 181 n Tryz.underlying180
  go_enter Tryz.func96, Tryz.ntmps96
  go_wp2
  refine wp_loop_rounds 1 ?_
  rw [rounds_succ]
  go_wp2
  go_loopw [30] (fun i wr => ∃ (k : Nat) (seen : List Tx), k ≤ ws.length ∧ i = .int .i64 k ∧ Hid (againP [] ws = againP seen (ws.drop k)) ∧ wr.ownsMap Tryz.prog 9 unitElem w.heap.size seen.length (setL seen) ∧ Below w.heap.size w wr ∧ seen.length ≤ k + 1) (fun i _ => ws.length - (intOf i).toNat)
  case atStart => exact ⟨0, [], Nat.zero_le _, rfl, rfl, World.ownsMap_made _ _ _ _, (Below.refl _ _).alloc (Nat.le_refl _) _, by simp⟩
  case round =>
    obtain ⟨k, seen, hk, rfl, HA, hown, hbw, hsl⟩ := hrel
    by_cases hlt : k < ws.length
    · obtain ⟨x1, x2, x3⟩ := (h.below hg hbw) k hlt
      have ha := againP_drop seen ws k hlt
      have hs := has_setL seen ws[k].2
      have hkey : keyOf Tryz.prog 9 (.string (bs ws[k].2)) = some (.string ws[k].2) := keyOf_string_mk Tryz.underlying9 x3
      by_cases hin : ws[k].2 ∈ seen
      · rw [if_pos hin] at ha
        have HE : Hid (againP [] ws = ws[k].1) := HA.out.trans ha
        rw [decide_eq_true hin] at hs
        clear HA ha hin x3
        generalize ws[k] = W at *
        obtain ⟨wc, wt⟩ := W
        have HS := Lib.hid hs
        clear hs
        go_wp2_with (at_lookup; refine wpList_lookup_own_unit _ rfl _ _ 180 rfl 9 181 Tryz.lawS Tryz.underlying180 (Tryz.zeroU _) w.heap.size seen.length _ rfl (hown.alloc _) _ _ rfl hkey ?_; rw [HS.out])
        go_ret
        exact intB_mk HE.out.symm ((hbw.alloc hbw.size _).alloc (by have := hbw.size; simp; omega) _)
      · rw [if_neg hin] at ha
        have HE : Hid (againP [] ws = againP (seen ++ [ws[k].2]) (ws.drop (k + 1))) := HA.out.trans ha
        rw [decide_eq_false hin] at hs
        clear HA ha hin x3
        generalize ws[k] = W at *
        obtain ⟨wc, wt⟩ := W
        have HS := Lib.hid hs
        clear hs
        have hbs := hbw.size
        go_wp2_with (first
          | (at_lookup; refine wpList_lookup_own_unit _ rfl _ _ 180 rfl 9 181 Tryz.lawS Tryz.underlying180 (Tryz.zeroU _) w.heap.size seen.length _ rfl (hown.alloc _) _ _ rfl hkey ?_; rw [HS.out])
          | (at_mapUpdate; refine wpList_mapUpdate_own _ rfl _ _ _ 180 rfl 9 181 Tryz.lawS Tryz.underlying180 (unitElem (H := Unit)) w.heap.size seen.length _ rfl ((hown.alloc _).alloc _) (by unfold maxLen; omega) _ _ _ rfl rfl hkey _ [] unitElem_mk ?_; intro w1 hown1 hgrow1))
        go_roundw
        case rel =>
          refine ⟨k + 1, seen ++ [wt], by omega, by go_num, HE.out, ?_, ?_, by simp; omega⟩
          · rw [setL_snoc, List.length_append]; exact hown1
          · exact ((hbw.alloc hbs _).alloc (by simp; omega) _).grown hgrow1 (by simp; omega) (fun j hj => by cases hj; exact Nat.le_refl _)
        case measure => simp [intOf]; omega
    · go_wp2
      go_ret
      refine intB_mk ?_ hbw
      have := HA.out
      rw [List.drop_of_length_le (by omega)] at this
      exact this.symm
set_option maxHeartbeats 2000000 in
theorem again_one (g o cap : Nat) (ws : List (Nat × Tx)) (w : World) (h : WAt w g o ws) (hg : g < w.heap.size) (hm : ws.length ≤ 1099511627776) (_hc : ws.length ≤ cap) (x : Nat) (y : Tx) (hx : x < w.heap.size) (hc0 : w.cell? ⟨x, 0, none⟩ = some (.string (bs y))) (hy : (bs y).size ≤ maxLen) :
    Calls Tryz.prog 96 #[.slice (some ⟨g, o, none⟩) ws.length cap, .slice (some ⟨x, 0, none⟩) 1 1] w (IntB (againP [y] ws) w) := by
  have hmm := fun n => makeMap_hint 180 9 181 n Tryz.underlying180
  have hkey0 : keyOf Tryz.prog 9 (.string (bs y)) = some (.string y) := keyOf_string_mk Tryz.underlying9 hy
  have hc0' : (w.alloc (.map #[] 0)).cell? ⟨x, 0, none⟩ = some (.string (bs y)) := (World.cell?_alloc_lt _ _ _ hx).trans hc0
  clear hy
  go_enter Tryz.func96, Tryz.ntmps96
  go_wp2
  refine wp_loop_rounds 2 ?_
  rw [rounds_succ]
  go_wp2_with (at_mapUpdate; refine wpList_mapUpdate_own _ rfl _ _ _ 180 rfl 9 181 Tryz.lawS Tryz.underlying180 (unitElem (H := Unit)) w.heap.size 0 _ rfl (World.ownsMap_made _ _ _ _) (by unfold maxLen; omega) _ _ _ rfl rfl hkey0 _ [] unitElem_mk ?_; intro w0 hown0 hgrow0)
  rw [rounds_succ]
  go_wp2
  go_loopw [30] (fun i wr => ∃ (k : Nat) (seen : List Tx), k ≤ ws.length ∧ i = .int .i64 k ∧ Hid (againP [y] ws = againP seen (ws.drop k)) ∧ wr.ownsMap Tryz.prog 9 unitElem w.heap.size seen.length (setL seen) ∧ Below w.heap.size w wr ∧ seen.length ≤ k + 1) (fun i _ => ws.length - (intOf i).toNat)
  case atStart => exact ⟨0, [y], Nat.zero_le _, rfl, rfl, hown0, ((Below.refl _ _).alloc (Nat.le_refl _) _).grown hgrow0 (by simp) (fun j hj => by cases hj; exact Nat.le_refl _), by simp⟩
  case round =>
    obtain ⟨k, seen, hk, rfl, HA, hown, hbw, hsl⟩ := hrel
    by_cases hlt : k < ws.length
    · obtain ⟨x1, x2, x3⟩ := (h.below hg hbw) k hlt
      have ha := againP_drop seen ws k hlt
      have hs := has_setL seen ws[k].2
      have hkey : keyOf Tryz.prog 9 (.string (bs ws[k].2)) = some (.string ws[k].2) := keyOf_string_mk Tryz.underlying9 x3
      by_cases hin : ws[k].2 ∈ seen
      · rw [if_pos hin] at ha
        have HE : Hid (againP [y] ws = ws[k].1) := HA.out.trans ha
        rw [decide_eq_true hin] at hs
        clear HA ha hin x3
        generalize ws[k] = W at *
        obtain ⟨wc, wt⟩ := W
        have HS := Lib.hid hs
        clear hs
        go_wp2_with (at_lookup; refine wpList_lookup_own_unit _ rfl _ _ 180 rfl 9 181 Tryz.lawS Tryz.underlying180 (Tryz.zeroU _) w.heap.size seen.length _ rfl (hown.alloc _) _ _ rfl hkey ?_; rw [HS.out])
        go_ret
        exact intB_mk HE.out.symm ((hbw.alloc hbw.size _).alloc (by have := hbw.size; simp; omega) _)
      · rw [if_neg hin] at ha
        have HE : Hid (againP [y] ws = againP (seen ++ [ws[k].2]) (ws.drop (k + 1))) := HA.out.trans ha
        rw [decide_eq_false hin] at hs
        clear HA ha hin x3
        generalize ws[k] = W at *
        obtain ⟨wc, wt⟩ := W
        have HS := Lib.hid hs
        clear hs
        have hbs := hbw.size
        go_wp2_with (first
          | (at_lookup; refine wpList_lookup_own_unit _ rfl _ _ 180 rfl 9 181 Tryz.lawS Tryz.underlying180 (Tryz.zeroU _) w.heap.size seen.length _ rfl (hown.alloc _) _ _ rfl hkey ?_; rw [HS.out])
          | (at_mapUpdate; refine wpList_mapUpdate_own _ rfl _ _ _ 180 rfl 9 181 Tryz.lawS Tryz.underlying180 (unitElem (H := Unit)) w.heap.size seen.length _ rfl ((hown.alloc _).alloc _) (by unfold maxLen; omega) _ _ _ rfl rfl hkey _ [] unitElem_mk ?_; intro w1 hown1 hgrow1))
        go_roundw
        case rel =>
          refine ⟨k + 1, seen ++ [wt], by omega, by go_num, HE.out, ?_, ?_, by simp; omega⟩
          · rw [setL_snoc, List.length_append]; exact hown1
          · exact ((hbw.alloc hbs _).alloc (by simp; omega) _).grown hgrow1 (by simp; omega) (fun j hj => by cases hj; exact Nat.le_refl _)
        case measure => simp [intOf]; omega
    · go_wp2
      go_ret
      refine intB_mk ?_ hbw
      have := HA.out
      rw [List.drop_of_length_le (by omega)] at this
      exact this.symm
end Go.Proofs.YtahgfmobdfhaaaaGreatDoor
/-
  Lists of integers that come in: they stay so.
-/
namespace Go.Proofs.YtahgfmobdfhaaaaGreatDoor
set_option maxRecDepth 100000
open Go.ChangeShapes Go.WideShapes Go.ChangeAt Go.RowKit

theorem IntsAt.below {w w' : World} {v : Value} {zs : List Int} (h : IntsAt w v zs) (hb : Below w.heap.size w w') : IntsAt w' v zs :=
  let ⟨A, c, e, hl, hc⟩ := h
  ⟨A, c, e, hl, fun k hk => let ⟨b, off, e, hbl, hx, hw⟩ := hc k hk; ⟨b, off, e, Nat.lt_of_lt_of_le hbl hb.size, (hb.cell (p := ⟨b, off + k, none⟩) hbl).trans hx, hw⟩⟩
end Go.Proofs.YtahgfmobdfhaaaaGreatDoor
/-
  Lists of integers that come in: their cells, and that their capacity is not below their length.
-/
namespace Go.Proofs.YtahgfmobdfhaaaaGreatDoor
set_option maxRecDepth 100000
open Go.ChangeShapes Go.WideShapes Go.ChangeAt Go.RowKit

def IntsC (W : World) (v : Value) (zs : List Int) : Prop := IntsAt W v zs ∧ ∃ A c, v = .slice A zs.length c ∧ zs.length ≤ c
theorem IntsC.below {w w' : World} {v : Value} {zs : List Int} (h : IntsC w v zs) (hb : Below w.heap.size w w') : IntsC w' v zs := ⟨h.1.below hb, h.2⟩
end Go.Proofs.YtahgfmobdfhaaaaGreatDoor
/-
  errors.Is and errors.As at the two errors that the program makes: a number (api.Errno), and a place that wraps one (*api.Fault): Go's own text of both is walked. The helps Is and At of the statements.
-/
namespace Go.Proofs.YtahgfmobdfhaaaaGreatDoor
set_option maxRecDepth 100000
open Go.RowKit Go.Extern.Stop Go.Stop Go.Extern

/-- an error that is the number c: the number itself, or a place that wraps it -/
def IsErr (w : World) (v : Value) (c : Int) : Prop :=
  v = .iface 45 (.int .i64 c) ∨ ∃ b o, v = .iface 60 (.pointer (some ⟨b, o, none⟩)) ∧ w.cell? ⟨b, o + 2, none⟩ = some (.iface 45 (.int .i64 c))

theorem Tryz.compErrno : (Tryz.prog.info? 45).map (·.comparable) = some true := by kernel_rfl
theorem Tryz.typeOfErrno (v : Value) (w : World) : (ReflectliteType.typeOf #[.iface 45 v]).run Tryz.prog w = .ok (.iface 157 (.agg #[.pointer (some ⟨5, 45, none⟩)])) w := by kernel_rfl
theorem Tryz.comparableErrno (w : World) : ((ReflectliteType.method fun t => do Rtype.noPackHeld "Comparable" t; (fun a => Value.bool a.comparable) <$> typeInfo t) #[.agg #[.pointer (some ⟨5, 45, none⟩)]]).run Tryz.prog w = .ok (.bool true) w := by kernel_rfl
theorem Tryz.methodComparable (v : Value) (w : World) : (Go.method 328 157 v "Comparable").run Tryz.prog w = .ok (155, v) w := by kernel_rfl

theorem Tryz.noIsNum (v : Value) (xT : TypeId) (w : World) : (Instr.typeAssert (.iface 45 v) xT 171 true).run Tryz.prog w = .ok (.tuple #[.nilIface, .bool false]) w := run_typeAssert_lacksB Tryz.underlying171 (by kernel_rfl) (by kernel_rfl) v xT w
theorem Tryz.noUnwrapsNum (v : Value) (xT : TypeId) (w : World) : (Instr.typeAssert (.iface 45 v) xT 166 true).run Tryz.prog w = .ok (.tuple #[.nilIface, .bool false]) w := run_typeAssert_lacksB Tryz.underlying166 (by kernel_rfl) (by kernel_rfl) v xT w
theorem Tryz.noIsPlace (v : Value) (xT : TypeId) (w : World) : (Instr.typeAssert (.iface 60 v) xT 171 true).run Tryz.prog w = .ok (.tuple #[.nilIface, .bool false]) w := run_typeAssert_lacksB Tryz.underlying171 (by kernel_rfl) (by kernel_rfl) v xT w
theorem Tryz.noUnwrapNum (v : Value) (xT : TypeId) (w : World) : (Instr.typeAssert (.iface 45 v) xT 164 true).run Tryz.prog w = .ok (.tuple #[.nilIface, .bool false]) w := run_typeAssert_lacksB Tryz.underlying164 (by kernel_rfl) (by kernel_rfl) v xT w
theorem Tryz.hasUnwrapPlace (v : Value) (xT : TypeId) (w : World) : (Instr.typeAssert (.iface 60 v) xT 164 true).run Tryz.prog w = .ok (.tuple #[.iface 60 v, .bool true]) w := run_typeAssert_hasB Tryz.underlying164 (by kernel_rfl) v xT w
theorem Tryz.methodUnwrap (v : Value) (w : World) : (Go.method 328 60 v "Unwrap").run Tryz.prog w = .ok (148, v) w := by kernel_rfl

set_option maxHeartbeats 1000000 in
/-- errors.Is at such an error and a number -/
theorem Is_any (v : Value) (c n : Int) (w : World) (hv : IsErr w v c) :
    Calls Tryz.prog 35 #[v, .iface 45 (.int .i64 n)] w fun e w' => e = .returned (.bool (c == n)) ∧ w = w' := by
  have hT := @run_callFunc_extern Tryz.prog 77 _ ReflectliteType.typeOf Tryz.func77 (by kernel_rfl) (by kernel_rfl) (by kernel_rfl) (by kernel_rfl)
  have hC := @run_callFunc_extern Tryz.prog 155 _ (ReflectliteType.method fun t => do Rtype.noPackHeld "Comparable" t; pure (.bool (← typeInfo t).comparable)) Tryz.func155 (by kernel_rfl) (by kernel_rfl) (by kernel_rfl) (by kernel_rfl)
  have tT := Tryz.typeOfErrno
  have cT := Tryz.comparableErrno
  have mR := Tryz.methodComparable
  have n1 := Tryz.noIsNum
  have n2 := Tryz.noUnwrapNum
  have n3 := Tryz.noUnwrapsNum
  have n4 := Tryz.noIsPlace
  have n5 := Tryz.hasUnwrapPlace
  have mU := Tryz.methodUnwrap
  have heq := Lib.run_eql_iface_int (P := Tryz.prog) w (k := .i64) c n Tryz.underlying35 Tryz.compErrno Tryz.underlying45
  rcases hv with rfl | ⟨b, o, rfl, hc⟩
  · by_cases h : c = n
    · subst h
      simp only [beq_self_eq_true] at heq ⊢
      go_enter Tryz.func35, Tryz.ntmps35
      go_wp2
      refine wp_loop_rounds 1 ?_
      rw [rounds_succ]
      go_wp2
      go_ret
      exact ⟨rfl, rfl⟩
    · have hb : (c == n) = false := by simpa using h
      rw [hb] at heq ⊢
      go_enter Tryz.func35, Tryz.ntmps35
      go_wp2
      refine wp_loop_rounds 1 ?_
      rw [rounds_succ]
      go_wp2
      go_ret
      exact ⟨rfl, rfl⟩
  · have hty := run_eql_iface_types (P := Tryz.prog) 60 45 (.pointer (some ⟨b, o, none⟩)) (.int .i64 n) Tryz.underlying35 (by decide) w
    by_cases h : c = n
    · subst h
      simp only [beq_self_eq_true] at heq ⊢
      go_enter Tryz.func35, Tryz.ntmps35
      go_wp2
      refine wp_loop_rounds 2 ?_
      rw [rounds_succ]
      go_wp2
      rw [rounds_succ]
      go_wp2
      go_ret
      exact ⟨rfl, rfl⟩
    · have hb : (c == n) = false := by simpa using h
      rw [hb] at heq ⊢
      go_enter Tryz.func35, Tryz.ntmps35
      go_wp2
      refine wp_loop_rounds 2 ?_
      rw [rounds_succ]
      go_wp2
      rw [rounds_succ]
      go_wp2
      go_ret
      exact ⟨rfl, rfl⟩
end Go.Proofs.YtahgfmobdfhaaaaGreatDoor
/-
  errors.As at a place (*api.Fault) and a target of its type, and at nil: Go's own text is walked.
-/
namespace Go.Proofs.YtahgfmobdfhaaaaGreatDoor
set_option maxRecDepth 100000
open Go.RowKit Go.Extern.Stop Go.Stop Go.Extern

/-- what package errors keeps of the type error -/
def HandleAt (w : World) : Prop := w.cell? ⟨0, 0, none⟩ = some (.iface 157 (.agg #[.pointer (some ⟨5, 35, none⟩)]))
theorem As_nil (t : Value) (w : World) : Calls Tryz.prog 26 #[.nilIface, t] w fun e w' => e = .returned (.bool false) ∧ w = w' := by
  go_enter Tryz.func26, Tryz.ntmps26
  go_wp2
  go_ret
  exact ⟨rfl, rfl⟩
theorem Tryz.vo1 (t : Addr) (w : World) : (ReflectliteValue.unpack (.iface 77 (.pointer (some t)))).run Tryz.prog w = .ok (.agg #[.pointer (some ⟨5, 77, none⟩), .pointer (some ⟨w.heap.size, 0, none⟩), .int .u64 150]) (w.alloc (.cells #[.pointer (some t)] 77)) := by kernel_rfl
theorem Tryz.vo2 (e : Addr) (w : World) : (ReflectliteValue.unpack (.iface 60 (.pointer (some e)))).run Tryz.prog w = .ok (.agg #[.pointer (some ⟨5, 60, none⟩), .pointer (some ⟨w.heap.size, 0, none⟩), .int .u64 150]) (w.alloc (.cells #[.pointer (some e)] 60)) := by kernel_rfl
theorem Tryz.vt1 (a : Addr) (w : World) : (ReflectliteValue.methodAny (ReflectliteValue.valueError "reflectlite.Value.Type" 0) (fun t _ _ _ => ReflectliteType.toType t) #[.agg #[.pointer (some ⟨5, 77, none⟩), .pointer (some a), .int .u64 150]]).run Tryz.prog w = .ok (.iface 157 (.agg #[.pointer (some ⟨5, 77, none⟩)])) w := by kernel_rfl
theorem Tryz.mKind (h : Value) (w : World) : (Go.method 328 157 (.agg #[h]) "Kind").run Tryz.prog w = .ok (143, h) w := by kernel_rfl
theorem Tryz.mElem (h : Value) (w : World) : (Go.method 328 157 (.agg #[h]) "Elem").run Tryz.prog w = .ok (156, .agg #[h]) w := by kernel_rfl
theorem Tryz.mImpl (h : Value) (w : World) : (Go.method 328 157 (.agg #[h]) "Implements").run Tryz.prog w = .ok (157, .agg #[h]) w := by kernel_rfl
theorem Tryz.mAssign (h : Value) (w : World) : (Go.method 328 157 (.agg #[h]) "AssignableTo").run Tryz.prog w = .ok (154, .agg #[h]) w := by kernel_rfl
theorem Tryz.k1 (w : World) : ((ReflectliteType.abiMethod fun t => (fun a : Nat => Value.int IntKind.u8 (a : Int)) <$> Rtype.kind t) #[.pointer (some ⟨5, 77, none⟩)]).run Tryz.prog w = .ok (.int .u8 22) w := by kernel_rfl
theorem Tryz.k2 (w : World) : ((ReflectliteType.abiMethod fun t => (fun a : Nat => Value.int IntKind.u8 (a : Int)) <$> Rtype.kind t) #[.pointer (some ⟨5, 60, none⟩)]).run Tryz.prog w = .ok (.int .u8 22) w := by kernel_rfl
theorem Tryz.el1 (w : World) : (ReflectliteType.method ReflectliteType.elem #[.agg #[.pointer (some ⟨5, 77, none⟩)]]).run Tryz.prog w = .ok (.iface 157 (.agg #[.pointer (some ⟨5, 60, none⟩)])) w := by kernel_rfl
theorem Tryz.im2 (w : World) : (ReflectliteType.relation "Implements" ReflectliteType.implements_ #[.agg #[.pointer (some ⟨5, 60, none⟩)], .iface 157 (.agg #[.pointer (some ⟨5, 35, none⟩)])]).run Tryz.prog w = .ok (.bool true) w := by kernel_rfl
theorem Tryz.to2 (v : Value) (w : World) : (ReflectliteType.typeOf #[.iface 60 v]).run Tryz.prog w = .ok (.iface 157 (.agg #[.pointer (some ⟨5, 60, none⟩)])) w := by kernel_rfl
theorem Tryz.as2 (w : World) : (ReflectliteType.relation "AssignableTo" ReflectliteType.assignableTo #[.agg #[.pointer (some ⟨5, 60, none⟩)], .iface 157 (.agg #[.pointer (some ⟨5, 60, none⟩)])]).run Tryz.prog w = .ok (.bool true) w := by kernel_rfl
theorem vmeth (z : Sem Value) (g : TypeId → Addr → Nat → Nat → Sem Value) (v : Value) : ReflectliteValue.method z g #[v] = (do match ← ReflectliteValue.parts v with | none => z | some (t, a, fl) => g t a fl (fl % 32)) := rfl
theorem Tryz.pa1 (a : Addr) (w : World) : (ReflectliteValue.parts (.agg #[.pointer (some ⟨5, 77, none⟩), .pointer (some a), .int .u64 150])).run Tryz.prog w = .ok (some (77, a, 150)) w := by kernel_rfl
theorem Tryz.pa2 (a : Addr) (w : World) : (ReflectliteValue.parts (.agg #[.pointer (some ⟨5, 60, none⟩), .pointer (some a), .int .u64 406])).run Tryz.prog w = .ok (some (60, a, 406)) w := by kernel_rfl
theorem Tryz.pa3 (a : Addr) (w : World) : (ReflectliteValue.parts (.agg #[.pointer (some ⟨5, 60, none⟩), .pointer (some a), .int .u64 150])).run Tryz.prog w = .ok (some (60, a, 150)) w := by kernel_rfl
theorem Tryz.nil1 (a p : Addr) (W : World) (ha : W.cell? a = some (.pointer (some p))) : (ReflectliteValue.method (ReflectliteValue.valueError "reflectlite.Value.IsNil" 0) ReflectliteValue.isNil #[.agg #[.pointer (some ⟨5, 77, none⟩), .pointer (some a), .int .u64 150]]).run Tryz.prog W = .ok (.bool false) W := by
  rw [vmeth]
  simp only [Sem.run_bind, Tryz.pa1, Result.andThen]
  simp [ReflectliteValue.isNil, loadVar, isAgg, underlying, Tryz.underlying77, ha, Result.andThen]
theorem Tryz.eo1 (w : World) : (Rtype.elem? 77).run Tryz.prog w = .ok (some 60) w := by kernel_rfl
theorem Tryz.mk2 (p : Addr) (w : World) : (ReflectliteValue.mk 60 p ReflectliteValue.flagAddr).run Tryz.prog w = .ok (.agg #[.pointer (some ⟨5, 60, none⟩), .pointer (some p), .int .u64 406]) w := by kernel_rfl
theorem Tryz.elv1 (a p : Addr) (W : World) (ha : W.cell? a = some (.pointer (some p))) : (ReflectliteValue.method (ReflectliteValue.valueError "reflectlite.Value.Elem" 0) ReflectliteValue.elem #[.agg #[.pointer (some ⟨5, 77, none⟩), .pointer (some a), .int .u64 150]]).run Tryz.prog W = .ok (.agg #[.pointer (some ⟨5, 60, none⟩), .pointer (some p), .int .u64 406]) W := by
  rw [vmeth]
  simp only [Sem.run_bind, Tryz.pa1, Result.andThen]
  simp [ReflectliteValue.elem, loadVar, isAgg, underlying, Tryz.underlying77, ha, Result.andThen, Tryz.eo1, Tryz.mk2]
theorem Tryz.dir2 (w : World) : (Rtype.directlyAssignable 60 60).run Tryz.prog w = .ok true w := by kernel_rfl
theorem Tryz.set2 (ta b e : Addr) (old : Value) (W : World) (hb : W.cell? b = some (.pointer (some e))) (ht : W.cell? ta = some old) (hf : W.frozen? ta = false) :
    (ReflectliteValue.set #[.agg #[.pointer (some ⟨5, 60, none⟩), .pointer (some ta), .int .u64 406], .agg #[.pointer (some ⟨5, 60, none⟩), .pointer (some b), .int .u64 150]]).run Tryz.prog W = .ok (.tuple #[]) (W.setCell ta (.pointer (some e))) := by
  delta ReflectliteValue.set
  change Sem.run Tryz.prog (ReflectliteValue.parts (.agg #[.pointer (some ⟨5, 60, none⟩), .pointer (some ta), .int .u64 406]) >>= fun q => ReflectliteValue.parts (.agg #[.pointer (some ⟨5, 60, none⟩), .pointer (some b), .int .u64 150]) >>= _) W = _
  simp only [Sem.run_bind, Tryz.pa2, Tryz.pa3, Result.andThen]
  simp [ReflectliteValue.flagAddr, loadVar, isAgg, underlying, Tryz.underlying60, hb, Result.andThen, Tryz.dir2, storeVar, Value.cells, storeCells, Addr.add]
  rw [run_store Tryz.prog W ta _ _ (by rfl)]
  simp [ht, hf]

theorem setCell_here {w : World} {t : Nat} {old : Value} (h : w.cell? ⟨t, 0, none⟩ = some old) (v : Value) : (w.setCell ⟨t, 0, none⟩ v).cell? ⟨t, 0, none⟩ = some v := by
  unfold World.cell? at h
  split at h
  · rename_i c e f hh
    have h1 : c[0]? = some old := h
    have hlt : 0 < c.size := (Array.getElem?_eq_some_iff.1 h1).1
    rw [cell_of_row _ _ _ _ _ _ (heap_set hh v)]
    simp [hlt]
  · cases h
/-- what As leaves: the target holds the place; what lies below it is as it was -/
def AsTo (t : Nat) (e : Addr) (w : World) (ev : Ending) (w' : World) : Prop := ev = .returned (.bool true) ∧ w'.cell? ⟨t, 0, none⟩ = some (.pointer (some e)) ∧ Below t w w'
set_option maxHeartbeats 4000000 in
theorem As_hit (e : Addr) (t : Nat) (old : Value) (w : World) (hg : HandleAt w) (ht0 : w.cell? ⟨t, 0, none⟩ = some old) (hf0 : w.frozen? ⟨t, 0, none⟩ = false) (_h0 : 0 ≠ t) :
    Calls Tryz.prog 26 #[.iface 60 (.pointer (some e)), .iface 77 (.pointer (some ⟨t, 0, none⟩))] w (AsTo t e w) := by
  have x1 := @run_callFunc_extern Tryz.prog 64 _ (fun args => ReflectliteValue.unpack (args.getD 0 (.tuple #[]))) Tryz.func64 (by kernel_rfl) (by kernel_rfl) (by kernel_rfl) (by kernel_rfl)
  have x2 := @run_callFunc_extern Tryz.prog 65 _ (ReflectliteValue.methodAny (ReflectliteValue.valueError "reflectlite.Value.Type" 0) (fun t _ _ _ => ReflectliteType.toType t)) Tryz.func65 (by kernel_rfl) (by kernel_rfl) (by kernel_rfl) (by kernel_rfl)
  have x3 := @run_callFunc_extern Tryz.prog 66 _ (ReflectliteValue.method (ReflectliteValue.valueError "reflectlite.Value.IsNil" 0) ReflectliteValue.isNil) Tryz.func66 (by kernel_rfl) (by kernel_rfl) (by kernel_rfl) (by kernel_rfl)
  have x4 := @run_callFunc_extern Tryz.prog 143 _ (ReflectliteType.abiMethod fun t => do pure (.int .u8 (← Rtype.kind t))) Tryz.func143 (by kernel_rfl) (by kernel_rfl) (by kernel_rfl) (by kernel_rfl)
  have x5 := @run_callFunc_extern Tryz.prog 156 _ (ReflectliteType.method ReflectliteType.elem) Tryz.func156 (by kernel_rfl) (by kernel_rfl) (by kernel_rfl) (by kernel_rfl)
  have x6 := @run_callFunc_extern Tryz.prog 157 _ (ReflectliteType.relation "Implements" ReflectliteType.implements_) Tryz.func157 (by kernel_rfl) (by kernel_rfl) (by kernel_rfl) (by kernel_rfl)
  have x7 := @run_callFunc_extern Tryz.prog 77 _ ReflectliteType.typeOf Tryz.func77 (by kernel_rfl) (by kernel_rfl) (by kernel_rfl) (by kernel_rfl)
  have x8 := @run_callFunc_extern Tryz.prog 154 _ (ReflectliteType.relation "AssignableTo" ReflectliteType.assignableTo) Tryz.func154 (by kernel_rfl) (by kernel_rfl) (by kernel_rfl) (by kernel_rfl)
  have x9 := @run_callFunc_extern Tryz.prog 98 _ (ReflectliteValue.method (ReflectliteValue.valueError "reflectlite.Value.Elem" 0) ReflectliteValue.elem) Tryz.func98 (by kernel_rfl) (by kernel_rfl) (by kernel_rfl) (by kernel_rfl)
  have x10 := @run_callFunc_extern Tryz.prog 99 _ ReflectliteValue.set Tryz.func99 (by kernel_rfl) (by kernel_rfl) (by kernel_rfl) (by kernel_rfl)
  have y1 := Tryz.vo1
  have y2 := Tryz.vo2
  have y3 := Tryz.vt1
  have y4 := Tryz.mKind
  have y5 := Tryz.mElem
  have y6 := Tryz.mImpl
  have y7 := Tryz.mAssign
  have y8 := Tryz.k1
  have y9 := Tryz.k2
  have y10 := Tryz.el1
  have y11 := Tryz.im2
  have y12 := Tryz.to2
  have y13 := Tryz.as2
  have htl : t < w.heap.size := World.block_lt_of_cell? w _ ht0
  have hgl : 0 < w.heap.size := World.block_lt_of_cell? w _ hg
  have n8 := Tryz.nil1 ⟨w.heap.size, 0, none⟩ ⟨t, 0, none⟩ ((w.alloc (.cells #[.pointer (some ⟨t, 0, none⟩)] 77)).alloc (.cells #[.pointer (some ⟨5, 77, none⟩), .pointer (some ⟨w.heap.size, 0, none⟩), .int .u64 150] 123)) (by simp)
  have hg2 : ((w.alloc (.cells #[.pointer (some ⟨t, 0, none⟩)] 77)).alloc (.cells #[.pointer (some ⟨5, 77, none⟩), .pointer (some ⟨w.heap.size, 0, none⟩), .int .u64 150] 123)).cell? ⟨0, 0, none⟩ = some (.iface 157 (.agg #[.pointer (some ⟨5, 35, none⟩)])) := by
    rw [World.cell?_alloc_lt _ _ _ (by simp), World.cell?_alloc_lt _ _ _ hgl]; exact hg
  have el := Tryz.elv1 ⟨w.heap.size, 0, none⟩ ⟨t, 0, none⟩ (((w.alloc (.cells #[.pointer (some ⟨t, 0, none⟩)] 77)).alloc (.cells #[.pointer (some ⟨5, 77, none⟩), .pointer (some ⟨w.heap.size, 0, none⟩), .int .u64 150] 123)).alloc (.cells #[.pointer (some ⟨5, 77, none⟩), .pointer (some ⟨w.heap.size, 0, none⟩), .int .u64 150] 123)) (by rw [World.cell?_alloc_lt _ _ ⟨w.heap.size, 0, none⟩ (by simp; omega)]; simp)
  have c4 : ((((w.alloc (.cells #[.pointer (some ⟨t, 0, none⟩)] 77)).alloc (.cells #[.pointer (some ⟨5, 77, none⟩), .pointer (some ⟨w.heap.size, 0, none⟩), .int .u64 150] 123)).alloc (.cells #[.pointer (some ⟨5, 77, none⟩), .pointer (some ⟨w.heap.size, 0, none⟩), .int .u64 150] 123)).alloc (.cells #[.pointer (some e)] 60)).cell? ⟨t, 0, none⟩ = some old := by
    rw [World.cell?_alloc_lt _ _ _ (by simp; omega), World.cell?_alloc_lt _ _ _ (by simp; omega), World.cell?_alloc_lt _ _ _ (by simp; omega), World.cell?_alloc_lt _ _ _ htl]; exact ht0
  have st := Tryz.set2 ⟨t, 0, none⟩ ⟨w.heap.size + 1 + 1 + 1, 0, none⟩ e old ((((w.alloc (.cells #[.pointer (some ⟨t, 0, none⟩)] 77)).alloc (.cells #[.pointer (some ⟨5, 77, none⟩), .pointer (some ⟨w.heap.size, 0, none⟩), .int .u64 150] 123)).alloc (.cells #[.pointer (some ⟨5, 77, none⟩), .pointer (some ⟨w.heap.size, 0, none⟩), .int .u64 150] 123)).alloc (.cells #[.pointer (some e)] 60))
    (by rw [World.cell?_alloc_at _ _ _ _ (by simp)]; rfl) c4
    (by rw [World.frozen?_alloc_old _ _ ⟨t, 0, none⟩ (by simp; omega), World.frozen?_alloc_old _ _ ⟨t, 0, none⟩ (by simp; omega), World.frozen?_alloc_old _ _ ⟨t, 0, none⟩ (by simp; omega), World.frozen?_alloc_old _ _ ⟨t, 0, none⟩ (Nat.ne_of_lt htl)]; exact hf0)
  go_enter Tryz.func26, Tryz.ntmps26
  go_wp2
  refine wp_loop_rounds 1 ?_
  rw [rounds_succ]
  go_wp2
  go_ret
  refine ⟨rfl, ?_, ?_⟩
  · exact setCell_here c4 _
  · exact (((((Below.refl t w).alloc (by omega) _).alloc (by simp; omega) _).alloc (by simp; omega) _).alloc (by simp; omega) _).setCell (Nat.le_refl _) _
end Go.Proofs.YtahgfmobdfhaaaaGreatDoor
