/-
  errors.Is and errors.As at the two errors that the program makes: a number (api.Errno), and a place that wraps one (*api.Fault): Go's own text of both is walked. The helps Is and At of the statements.
-/
import Derived.Test.YtgemciecdplcgaaDoorBytes
import Derived.LaidEql
import Derived.Lib.IfaceEq
import Derived.Stop.Asserts
import Derived.RowKitTokens
namespace Go.Proofs.YtgemciecdplcgaaDoor
set_option maxRecDepth 100000
open Go.RowKit Go.Extern.Stop Go.Stop Go.Extern

/-- an error that is the number c: the number itself, or a place that wraps it -/
def IsErr (w : World) (v : Value) (c : Int) : Prop :=
  v = .iface 31 (.int .i64 c) ∨ ∃ b o, v = .iface 51 (.pointer (some ⟨b, o, none⟩)) ∧ w.cell? ⟨b, o + 2, none⟩ = some (.iface 31 (.int .i64 c))

theorem Tryd.compErrno : (Tryd.prog.info? 31).map (·.comparable) = some true := by kernel_rfl
theorem Tryd.typeOfErrno (v : Value) (w : World) : (ReflectliteType.typeOf #[.iface 31 v]).run Tryd.prog w = .ok (.iface 111 (.agg #[.pointer (some ⟨4, 31, none⟩)])) w := by kernel_rfl
theorem Tryd.comparableErrno (w : World) : ((ReflectliteType.method fun t => do Rtype.noPackHeld "Comparable" t; (fun a => Value.bool a.comparable) <$> typeInfo t) #[.agg #[.pointer (some ⟨4, 31, none⟩)]]).run Tryd.prog w = .ok (.bool true) w := by kernel_rfl
theorem Tryd.methodComparable (v : Value) (w : World) : (Go.method 273 111 v "Comparable").run Tryd.prog w = .ok (106, v) w := by kernel_rfl

theorem Tryd.noIsNum (v : Value) (xT : TypeId) (w : World) : (Instr.typeAssert (.iface 31 v) xT 123 true).run Tryd.prog w = .ok (.tuple #[.nilIface, .bool false]) w := run_typeAssert_lacksB Tryd.underlying123 (by kernel_rfl) (by kernel_rfl) v xT w
theorem Tryd.noUnwrapsNum (v : Value) (xT : TypeId) (w : World) : (Instr.typeAssert (.iface 31 v) xT 120 true).run Tryd.prog w = .ok (.tuple #[.nilIface, .bool false]) w := run_typeAssert_lacksB Tryd.underlying120 (by kernel_rfl) (by kernel_rfl) v xT w
theorem Tryd.noIsPlace (v : Value) (xT : TypeId) (w : World) : (Instr.typeAssert (.iface 51 v) xT 123 true).run Tryd.prog w = .ok (.tuple #[.nilIface, .bool false]) w := run_typeAssert_lacksB Tryd.underlying123 (by kernel_rfl) (by kernel_rfl) v xT w
theorem Tryd.noUnwrapsPlace (v : Value) (xT : TypeId) (w : World) : (Instr.typeAssert (.iface 51 v) xT 120 true).run Tryd.prog w = .ok (.tuple #[.nilIface, .bool false]) w := run_typeAssert_lacksB Tryd.underlying120 (by kernel_rfl) (by kernel_rfl) v xT w
theorem Tryd.noUnwrapNum (v : Value) (xT : TypeId) (w : World) : (Instr.typeAssert (.iface 31 v) xT 118 true).run Tryd.prog w = .ok (.tuple #[.nilIface, .bool false]) w := run_typeAssert_lacksB Tryd.underlying118 (by kernel_rfl) (by kernel_rfl) v xT w
theorem Tryd.hasUnwrapPlace (v : Value) (xT : TypeId) (w : World) : (Instr.typeAssert (.iface 51 v) xT 118 true).run Tryd.prog w = .ok (.tuple #[.iface 51 v, .bool true]) w := run_typeAssert_hasB Tryd.underlying118 (by kernel_rfl) v xT w
theorem Tryd.methodUnwrap (v : Value) (w : World) : (Go.method 273 51 v "Unwrap").run Tryd.prog w = .ok (100, v) w := by kernel_rfl

set_option maxHeartbeats 1000000 in
/-- errors.Is at such an error and a number -/
theorem Is_any (v : Value) (c n : Int) (w : World) (hv : IsErr w v c) :
    Calls Tryd.prog 20 #[v, .iface 31 (.int .i64 n)] w fun e w' => e = .returned (.bool (c == n)) ∧ w = w' := by
  have hT := @run_callFunc_extern Tryd.prog 35 _ ReflectliteType.typeOf Tryd.func35 (by kernel_rfl) (by kernel_rfl) (by kernel_rfl) (by kernel_rfl)
  have hC := @run_callFunc_extern Tryd.prog 106 _ (ReflectliteType.method fun t => do Rtype.noPackHeld "Comparable" t; pure (.bool (← typeInfo t).comparable)) Tryd.func106 (by kernel_rfl) (by kernel_rfl) (by kernel_rfl) (by kernel_rfl)
  have tT := Tryd.typeOfErrno
  have cT := Tryd.comparableErrno
  have mR := Tryd.methodComparable
  have n1 := Tryd.noIsNum
  have n2 := Tryd.noUnwrapNum
  have n3 := Tryd.noUnwrapsNum
  have n4 := Tryd.noIsPlace
  have n5 := Tryd.hasUnwrapPlace
  have mU := Tryd.methodUnwrap
  have heq := Lib.run_eql_iface_int (P := Tryd.prog) w (k := .i64) c n Tryd.underlying25 Tryd.compErrno Tryd.underlying31
  rcases hv with rfl | ⟨b, o, rfl, hc⟩
  · by_cases h : c = n
    · subst h
      simp only [beq_self_eq_true] at heq ⊢
      go_enter Tryd.func20, Tryd.ntmps20
      go_wp2
      refine wp_loop_rounds 1 ?_
      rw [rounds_succ]
      go_wp2
      go_ret
      exact ⟨rfl, rfl⟩
    · have hb : (c == n) = false := by simpa using h
      rw [hb] at heq ⊢
      go_enter Tryd.func20, Tryd.ntmps20
      go_wp2
      refine wp_loop_rounds 1 ?_
      rw [rounds_succ]
      go_wp2
      go_ret
      exact ⟨rfl, rfl⟩
  · have hty := run_eql_iface_types (P := Tryd.prog) 51 31 (.pointer (some ⟨b, o, none⟩)) (.int .i64 n) Tryd.underlying25 (by decide) w
    by_cases h : c = n
    · subst h
      simp only [beq_self_eq_true] at heq ⊢
      go_enter Tryd.func20, Tryd.ntmps20
      go_wp2
      refine wp_loop_rounds 2 ?_
      rw [rounds_succ]
      go_wp2
      rw [rounds_succ]
      go_wp2
      go_ret
      exact ⟨rfl, rfl⟩
    · have hb : (c == n) = false := by simpa using h
      rw [hb] at heq ⊢
      go_enter Tryd.func20, Tryd.ntmps20
      go_wp2
      refine wp_loop_rounds 2 ?_
      rw [rounds_succ]
      go_wp2
      rw [rounds_succ]
      go_wp2
      go_ret
      exact ⟨rfl, rfl⟩
end Go.Proofs.YtgemciecdplcgaaDoor
