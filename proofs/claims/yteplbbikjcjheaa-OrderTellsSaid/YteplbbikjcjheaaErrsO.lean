/-
  errors.Is at two numbers (api.Errno): Go's own text is walked.
-/
import Derived.Test.YteplbbikjcjheaaBase
import Derived.LaidEql
import Derived.Lib.IfaceEq
import Derived.Stop.Asserts
import Derived.RowKitTokens
namespace Go.Proofs.Yteplbbikjcjheaa
set_option maxRecDepth 100000
open Go.RowKit Go.Extern.Stop Go.Stop Go.Extern

theorem Try.compErrno : (Try.prog.info? 40).map (·.comparable) = some true := by kernel_rfl
theorem Try.typeOfErrno (v : Value) (w : World) : (ReflectliteType.typeOf #[.iface 40 v]).run Try.prog w = .ok (.iface 106 (.agg #[.pointer (some ⟨0, 40, none⟩)])) w := by kernel_rfl
theorem Try.comparableErrno (w : World) : ((ReflectliteType.method fun t => do Rtype.noPackHeld "Comparable" t; (fun a => Value.bool a.comparable) <$> typeInfo t) #[.agg #[.pointer (some ⟨0, 40, none⟩)]]).run Try.prog w = .ok (.bool true) w := by kernel_rfl
theorem Try.methodComparable (v : Value) (w : World) : (Go.method 249 106 v "Comparable").run Try.prog w = .ok (78, v) w := by kernel_rfl

theorem Try.noIsNum (v : Value) (xT : TypeId) (w : World) : (Instr.typeAssert (.iface 40 v) xT 108 true).run Try.prog w = .ok (.tuple #[.nilIface, .bool false]) w := run_typeAssert_lacksB Try.underlying108 (by kernel_rfl) (by kernel_rfl) v xT w
theorem Try.noUnwrapsNum (v : Value) (xT : TypeId) (w : World) : (Instr.typeAssert (.iface 40 v) xT 113 true).run Try.prog w = .ok (.tuple #[.nilIface, .bool false]) w := run_typeAssert_lacksB Try.underlying113 (by kernel_rfl) (by kernel_rfl) v xT w
theorem Try.noUnwrapNum (v : Value) (xT : TypeId) (w : World) : (Instr.typeAssert (.iface 40 v) xT 111 true).run Try.prog w = .ok (.tuple #[.nilIface, .bool false]) w := run_typeAssert_lacksB Try.underlying111 (by kernel_rfl) (by kernel_rfl) v xT w

set_option maxHeartbeats 1000000 in
/-- errors.Is at a number and a number -/
theorem IsO_any (c n : Int) (w : World) :
    Calls Try.prog 45 #[.iface 40 (.int .i64 c), .iface 40 (.int .i64 n)] w fun e w' => e = .returned (.bool (c == n)) ∧ w = w' := by
  have hT := @run_callFunc_extern Try.prog 56 _ ReflectliteType.typeOf Try.func56 (by kernel_rfl) (by kernel_rfl) (by kernel_rfl) (by kernel_rfl)
  have hC := @run_callFunc_extern Try.prog 78 _ (ReflectliteType.method fun t => do Rtype.noPackHeld "Comparable" t; pure (.bool (← typeInfo t).comparable)) Try.func78 (by kernel_rfl) (by kernel_rfl) (by kernel_rfl) (by kernel_rfl)
  have tT := Try.typeOfErrno
  have cT := Try.comparableErrno
  have mR := Try.methodComparable
  have n1 := Try.noIsNum
  have n2 := Try.noUnwrapNum
  have n3 := Try.noUnwrapsNum
  have heq := Lib.run_eql_iface_int (P := Try.prog) w (k := .i64) c n Try.underlying35 Try.compErrno Try.underlying40
  by_cases h : c = n
  · subst h
    simp only [beq_self_eq_true] at heq ⊢
    go_enter Try.func45, Try.ntmps45
    go_wp2
    refine wp_loop_rounds 1 ?_
    rw [rounds_succ]
    go_wp2
    go_ret
    exact ⟨rfl, rfl⟩
  · have hb : (c == n) = false := by simpa using h
    rw [hb] at heq ⊢
    go_enter Try.func45, Try.ntmps45
    go_wp2
    refine wp_loop_rounds 1 ?_
    rw [rounds_succ]
    go_wp2
    go_ret
    exact ⟨rfl, rfl⟩
end Go.Proofs.Yteplbbikjcjheaa
