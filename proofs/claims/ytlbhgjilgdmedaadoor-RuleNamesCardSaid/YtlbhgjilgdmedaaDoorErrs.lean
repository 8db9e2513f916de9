/-
  errors.Is and errors.As at the two errors that the program makes: a number (api.Errno), and a place that wraps one (*api.Fault): Go's own text of both is walked. The helps Is and At of the statements.
-/
import Derived.Test.YtlbhgjilgdmedaaDoorBytes
import Derived.LaidEql
import Derived.Lib.IfaceEq
import Derived.Stop.Asserts
import Derived.RowKitTokens
namespace Go.Proofs.YtlbhgjilgdmedaaDoor
set_option maxRecDepth 100000
open Go.RowKit Go.Extern.Stop Go.Stop Go.Extern

/-- an error that is the number c: the number itself, or a place that wraps it -/
def IsErr (w : World) (v : Value) (c : Int) : Prop :=
  v = .iface 37 (.int .i64 c) ∨ ∃ b o, v = .iface 49 (.pointer (some ⟨b, o, none⟩)) ∧ w.cell? ⟨b, o + 2, none⟩ = some (.iface 37 (.int .i64 c))

theorem Tryd.compErrno : (Tryd.prog.info? 37).map (·.comparable) = some true := by kernel_rfl
theorem Tryd.typeOfErrno (v : Value) (w : World) : (ReflectliteType.typeOf #[.iface 37 v]).run Tryd.prog w = .ok (.iface 117 (.agg #[.pointer (some ⟨5, 37, none⟩)])) w := by kernel_rfl
theorem Tryd.comparableErrno (w : World) : ((ReflectliteType.method fun t => do Rtype.noPackHeld "Comparable" t; (fun a => Value.bool a.comparable) <$> typeInfo t) #[.agg #[.pointer (some ⟨5, 37, none⟩)]]).run Tryd.prog w = .ok (.bool true) w := by kernel_rfl
theorem Tryd.methodComparable (v : Value) (w : World) : (Go.method 283 117 v "Comparable").run Tryd.prog w = .ok (115, v) w := by kernel_rfl

theorem Tryd.noIsNum (v : Value) (xT : TypeId) (w : World) : (Instr.typeAssert (.iface 37 v) xT 129 true).run Tryd.prog w = .ok (.tuple #[.nilIface, .bool false]) w := run_typeAssert_lacksB Tryd.underlying129 (by kernel_rfl) (by kernel_rfl) v xT w
theorem Tryd.noUnwrapsNum (v : Value) (xT : TypeId) (w : World) : (Instr.typeAssert (.iface 37 v) xT 126 true).run Tryd.prog w = .ok (.tuple #[.nilIface, .bool false]) w := run_typeAssert_lacksB Tryd.underlying126 (by kernel_rfl) (by kernel_rfl) v xT w
theorem Tryd.noIsPlace (v : Value) (xT : TypeId) (w : World) : (Instr.typeAssert (.iface 49 v) xT 129 true).run Tryd.prog w = .ok (.tuple #[.nilIface, .bool false]) w := run_typeAssert_lacksB Tryd.underlying129 (by kernel_rfl) (by kernel_rfl) v xT w
theorem Tryd.noUnwrapsPlace (v : Value) (xT : TypeId) (w : World) : (Instr.typeAssert (.iface 49 v) xT 126 true).run Tryd.prog w = .ok (.tuple #[.nilIface, .bool false]) w := run_typeAssert_lacksB Tryd.underlying126 (by kernel_rfl) (by kernel_rfl) v xT w
theorem Tryd.noUnwrapNum (v : Value) (xT : TypeId) (w : World) : (Instr.typeAssert (.iface 37 v) xT 124 true).run Tryd.prog w = .ok (.tuple #[.nilIface, .bool false]) w := run_typeAssert_lacksB Tryd.underlying124 (by kernel_rfl) (by kernel_rfl) v xT w
theorem Tryd.hasUnwrapPlace (v : Value) (xT : TypeId) (w : World) : (Instr.typeAssert (.iface 49 v) xT 124 true).run Tryd.prog w = .ok (.tuple #[.iface 49 v, .bool true]) w := run_typeAssert_hasB Tryd.underlying124 (by kernel_rfl) v xT w
theorem Tryd.methodUnwrap (v : Value) (w : World) : (Go.method 283 49 v "Unwrap").run Tryd.prog w = .ok (108, v) w := by kernel_rfl

set_option maxHeartbeats 1000000 in
/-- errors.Is at such an error and a number -/
theorem Is_any (v : Value) (c n : Int) (w : World) (hv : IsErr w v c) :
    Calls Tryd.prog 21 #[v, .iface 37 (.int .i64 n)] w fun e w' => e = .returned (.bool (c == n)) ∧ w = w' := by
  have hT := @run_callFunc_extern Tryd.prog 43 _ ReflectliteType.typeOf Tryd.func43 (by kernel_rfl) (by kernel_rfl) (by kernel_rfl) (by kernel_rfl)
  have hC := @run_callFunc_extern Tryd.prog 115 _ (ReflectliteType.method fun t => do Rtype.noPackHeld "Comparable" t; pure (.bool (← typeInfo t).comparable)) Tryd.func115 (by kernel_rfl) (by kernel_rfl) (by kernel_rfl) (by kernel_rfl)
  have tT := Tryd.typeOfErrno
  have cT := Tryd.comparableErrno
  have mR := Tryd.methodComparable
  have n1 := Tryd.noIsNum
  have n2 := Tryd.noUnwrapNum
  have n3 := Tryd.noUnwrapsNum
  have n4 := Tryd.noIsPlace
  have n5 := Tryd.hasUnwrapPlace
  have mU := Tryd.methodUnwrap
  have heq := Lib.run_eql_iface_int (P := Tryd.prog) w (k := .i64) c n Tryd.underlying29 Tryd.compErrno Tryd.underlying37
  rcases hv with rfl | ⟨b, o, rfl, hc⟩
  · by_cases h : c = n
    · subst h
      simp only [beq_self_eq_true] at heq ⊢
      go_enter Tryd.func21, Tryd.ntmps21
      go_wp2
      refine wp_loop_rounds 1 ?_
      rw [rounds_succ]
      go_wp2
      go_ret
      exact ⟨rfl, rfl⟩
    · have hb : (c == n) = false := by simpa using h
      rw [hb] at heq ⊢
      go_enter Tryd.func21, Tryd.ntmps21
      go_wp2
      refine wp_loop_rounds 1 ?_
      rw [rounds_succ]
      go_wp2
      go_ret
      exact ⟨rfl, rfl⟩
  · have hty := run_eql_iface_types (P := Tryd.prog) 49 37 (.pointer (some ⟨b, o, none⟩)) (.int .i64 n) Tryd.underlying29 (by decide) w
    by_cases h : c = n
    · subst h
      simp only [beq_self_eq_true] at heq ⊢
      go_enter Tryd.func21, Tryd.ntmps21
      go_wp2
      refine wp_loop_rounds 2 ?_
      rw [rounds_succ]
      go_wp2
      rw [rounds_succ]
      go_wp2
      go_ret
      exact ⟨rfl, rfl⟩
    · have hb : (c == n) = false := by simpa using h
      rw [hb] at heq ⊢
      go_enter Tryd.func21, Tryd.ntmps21
      go_wp2
      refine wp_loop_rounds 2 ?_
      rw [rounds_succ]
      go_wp2
      rw [rounds_succ]
      go_wp2
      go_ret
      exact ⟨rfl, rfl⟩
end Go.Proofs.YtlbhgjilgdmedaaDoor
