/-
  errors.Is and errors.As at the two errors that the program makes: a number (api.Errno), and a place that wraps one (*api.Fault): Go's own text of both is walked. The helps Is and At of the statements.
-/
import Derived.Test.YtkgjcahcpeehjaaGreatDoorSplit
import Derived.LaidEql
import Derived.Lib.IfaceEq
import Derived.Stop.Asserts
import Derived.RowKitTokens
namespace Go.Proofs.YtkgjcahcpeehjaaGreatDoor
set_option maxRecDepth 100000
open Go.RowKit Go.Extern.Stop Go.Stop Go.Extern

/-- an error that is the number c: the number itself, or a place that wraps it -/
def IsErr (w : World) (v : Value) (c : Int) : Prop :=
  v = .iface 34 (.int .i64 c) ∨ ∃ b o, v = .iface 98 (.pointer (some ⟨b, o, none⟩)) ∧ w.cell? ⟨b, o + 2, none⟩ = some (.iface 34 (.int .i64 c))

theorem Tryz.compErrno : (Tryz.prog.info? 34).map (·.comparable) = some true := by kernel_rfl
theorem Tryz.typeOfErrno (v : Value) (w : World) : (ReflectliteType.typeOf #[.iface 34 v]).run Tryz.prog w = .ok (.iface 215 (.agg #[.pointer (some ⟨7, 34, none⟩)])) w := by kernel_rfl
theorem Tryz.comparableErrno (w : World) : ((ReflectliteType.method fun t => do Rtype.noPackHeld "Comparable" t; (fun a => Value.bool a.comparable) <$> typeInfo t) #[.agg #[.pointer (some ⟨7, 34, none⟩)]]).run Tryz.prog w = .ok (.bool true) w := by kernel_rfl
theorem Tryz.methodComparable (v : Value) (w : World) : (Go.method 397 215 v "Comparable").run Tryz.prog w = .ok (240, v) w := by kernel_rfl

theorem Tryz.noIsNum (v : Value) (xT : TypeId) (w : World) : (Instr.typeAssert (.iface 34 v) xT 227 true).run Tryz.prog w = .ok (.tuple #[.nilIface, .bool false]) w := run_typeAssert_lacksB Tryz.underlying227 (by kernel_rfl) (by kernel_rfl) v xT w
theorem Tryz.noUnwrapsNum (v : Value) (xT : TypeId) (w : World) : (Instr.typeAssert (.iface 34 v) xT 224 true).run Tryz.prog w = .ok (.tuple #[.nilIface, .bool false]) w := run_typeAssert_lacksB Tryz.underlying224 (by kernel_rfl) (by kernel_rfl) v xT w
theorem Tryz.noIsPlace (v : Value) (xT : TypeId) (w : World) : (Instr.typeAssert (.iface 98 v) xT 227 true).run Tryz.prog w = .ok (.tuple #[.nilIface, .bool false]) w := run_typeAssert_lacksB Tryz.underlying227 (by kernel_rfl) (by kernel_rfl) v xT w
theorem Tryz.noUnwrapsPlace (v : Value) (xT : TypeId) (w : World) : (Instr.typeAssert (.iface 98 v) xT 224 true).run Tryz.prog w = .ok (.tuple #[.nilIface, .bool false]) w := run_typeAssert_lacksB Tryz.underlying224 (by kernel_rfl) (by kernel_rfl) v xT w
theorem Tryz.noUnwrapNum (v : Value) (xT : TypeId) (w : World) : (Instr.typeAssert (.iface 34 v) xT 222 true).run Tryz.prog w = .ok (.tuple #[.nilIface, .bool false]) w := run_typeAssert_lacksB Tryz.underlying222 (by kernel_rfl) (by kernel_rfl) v xT w
theorem Tryz.hasUnwrapPlace (v : Value) (xT : TypeId) (w : World) : (Instr.typeAssert (.iface 98 v) xT 222 true).run Tryz.prog w = .ok (.tuple #[.iface 98 v, .bool true]) w := run_typeAssert_hasB Tryz.underlying222 (by kernel_rfl) v xT w
theorem Tryz.methodUnwrap (v : Value) (w : World) : (Go.method 397 98 v "Unwrap").run Tryz.prog w = .ok (233, v) w := by kernel_rfl

set_option maxHeartbeats 1000000 in
/-- errors.Is at such an error and a number -/
theorem Is_any (v : Value) (c n : Int) (w : World) (hv : IsErr w v c) :
    Calls Tryz.prog 54 #[v, .iface 34 (.int .i64 n)] w fun e w' => e = .returned (.bool (c == n)) ∧ w = w' := by
  have hT := @run_callFunc_extern Tryz.prog 124 _ ReflectliteType.typeOf Tryz.func124 (by kernel_rfl) (by kernel_rfl) (by kernel_rfl) (by kernel_rfl)
  have hC := @run_callFunc_extern Tryz.prog 240 _ (ReflectliteType.method fun t => do Rtype.noPackHeld "Comparable" t; pure (.bool (← typeInfo t).comparable)) Tryz.func240 (by kernel_rfl) (by kernel_rfl) (by kernel_rfl) (by kernel_rfl)
  have tT := Tryz.typeOfErrno
  have cT := Tryz.comparableErrno
  have mR := Tryz.methodComparable
  have n1 := Tryz.noIsNum
  have n2 := Tryz.noUnwrapNum
  have n3 := Tryz.noUnwrapsNum
  have n4 := Tryz.noIsPlace
  have n5 := Tryz.hasUnwrapPlace
  have mU := Tryz.methodUnwrap
  have heq := Lib.run_eql_iface_int (P := Tryz.prog) w (k := .i64) c n Tryz.underlying27 Tryz.compErrno Tryz.underlying34
  rcases hv with rfl | ⟨b, o, rfl, hc⟩
  · by_cases h : c = n
    · subst h
      simp only [beq_self_eq_true] at heq ⊢
      go_enter Tryz.func54, Tryz.ntmps54
      go_wp2
      refine wp_loop_rounds 1 ?_
      rw [rounds_succ]
      go_wp2
      go_ret
      exact ⟨rfl, rfl⟩
    · have hb : (c == n) = false := by simpa using h
      rw [hb] at heq ⊢
      go_enter Tryz.func54, Tryz.ntmps54
      go_wp2
      refine wp_loop_rounds 1 ?_
      rw [rounds_succ]
      go_wp2
      go_ret
      exact ⟨rfl, rfl⟩
  · have hty := run_eql_iface_types (P := Tryz.prog) 98 34 (.pointer (some ⟨b, o, none⟩)) (.int .i64 n) Tryz.underlying27 (by decide) w
    by_cases h : c = n
    · subst h
      simp only [beq_self_eq_true] at heq ⊢
      go_enter Tryz.func54, Tryz.ntmps54
      go_wp2
      refine wp_loop_rounds 2 ?_
      rw [rounds_succ]
      go_wp2
      rw [rounds_succ]
      go_wp2
      go_ret
      exact ⟨rfl, rfl⟩
    · have hb : (c == n) = false := by simpa using h
      rw [hb] at heq ⊢
      go_enter Tryz.func54, Tryz.ntmps54
      go_wp2
      refine wp_loop_rounds 2 ?_
      rw [rounds_succ]
      go_wp2
      rw [rounds_succ]
      go_wp2
      go_ret
      exact ⟨rfl, rfl⟩
end Go.Proofs.YtkgjcahcpeehjaaGreatDoor
