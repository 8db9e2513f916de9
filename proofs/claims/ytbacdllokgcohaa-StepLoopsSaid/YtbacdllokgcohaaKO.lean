/-
  Errors told.
-/
import Derived.Test.YtbacdllokgcohaaSameL
import Derived.LaidEql
import Derived.Lib.IfaceEq
import Derived.Stop.Asserts
import Derived.RowKitTokens
namespace Go.Proofs.Ytbacdllokgcohaa.ko
set_option maxRecDepth 100000
open Go.RowKit Go.Extern.Stop Go.Stop Go.Extern

theorem Try.compErrno : (Try.prog.info? 51).map (·.comparable) = some true := by kernel_rfl
theorem Try.typeOfErrno (v : Value) (w : World) : (ReflectliteType.typeOf #[.iface 51 v]).run Try.prog w = .ok (.iface 163 (.agg #[.pointer (some ⟨0, 51, none⟩)])) w := by kernel_rfl
theorem Try.comparableErrno (w : World) : ((ReflectliteType.method fun t => do Rtype.noPackHeld "Comparable" t; (fun a => Value.bool a.comparable) <$> typeInfo t) #[.agg #[.pointer (some ⟨0, 51, none⟩)]]).run Try.prog w = .ok (.bool true) w := by kernel_rfl
theorem Try.methodComparable (v : Value) (w : World) : (Go.method 352 163 v "Comparable").run Try.prog w = .ok (184, v) w := by kernel_rfl

theorem Try.noIsNum (v : Value) (xT : TypeId) (w : World) : (Instr.typeAssert (.iface 51 v) xT 165 true).run Try.prog w = .ok (.tuple #[.nilIface, .bool false]) w := run_typeAssert_lacksB Try.underlying165 (by kernel_rfl) (by kernel_rfl) v xT w
theorem Try.noUnwrapsNum (v : Value) (xT : TypeId) (w : World) : (Instr.typeAssert (.iface 51 v) xT 170 true).run Try.prog w = .ok (.tuple #[.nilIface, .bool false]) w := run_typeAssert_lacksB Try.underlying170 (by kernel_rfl) (by kernel_rfl) v xT w
theorem Try.noUnwrapNum (v : Value) (xT : TypeId) (w : World) : (Instr.typeAssert (.iface 51 v) xT 168 true).run Try.prog w = .ok (.tuple #[.nilIface, .bool false]) w := run_typeAssert_lacksB Try.underlying168 (by kernel_rfl) (by kernel_rfl) v xT w

set_option maxHeartbeats 1000000 in
/-- errors.Is at a number and a number -/
theorem IsO_any (c n : Int) (w : World) :
    Calls Try.prog 42 #[.iface 51 (.int .i64 c), .iface 51 (.int .i64 n)] w fun e w' => e = .returned (.bool (c == n)) ∧ w = w' := by
  have hT := @run_callFunc_extern Try.prog 69 _ ReflectliteType.typeOf Try.func69 (by kernel_rfl) (by kernel_rfl) (by kernel_rfl) (by kernel_rfl)
  have hC := @run_callFunc_extern Try.prog 184 _ (ReflectliteType.method fun t => do Rtype.noPackHeld "Comparable" t; pure (.bool (← typeInfo t).comparable)) Try.func184 (by kernel_rfl) (by kernel_rfl) (by kernel_rfl) (by kernel_rfl)
  have tT := Try.typeOfErrno
  have cT := Try.comparableErrno
  have mR := Try.methodComparable
  have n1 := Try.noIsNum
  have n2 := Try.noUnwrapNum
  have n3 := Try.noUnwrapsNum
  have heq := Lib.run_eql_iface_int (P := Try.prog) w (k := .i64) c n Try.underlying38 Try.compErrno Try.underlying51
  by_cases h : c = n
  · subst h
    simp only [beq_self_eq_true] at heq ⊢
    go_enter Try.func42, Try.ntmps42
    go_wp2
    refine wp_loop_rounds 1 ?_
    rw [rounds_succ]
    go_wp2
    go_ret
    exact ⟨rfl, rfl⟩
  · have hb : (c == n) = false := by simpa using h
    rw [hb] at heq ⊢
    go_enter Try.func42, Try.ntmps42
    go_wp2
    refine wp_loop_rounds 1 ?_
    rw [rounds_succ]
    go_wp2
    go_ret
    exact ⟨rfl, rfl⟩
end Go.Proofs.Ytbacdllokgcohaa.ko
namespace Go.Proofs.Ytbacdllokgcohaa.ko
set_option maxRecDepth 100000
open Go.ChangeShapes Go.WideShapes Go.ChangeAt Go.RowKit

theorem keepIsO (c n : Int) (w : World) (hn : 1 ≤ n) (hn2 : n ≤ 14) :
    Calls Try.prog 17 #[.iface 51 (.int .i64 c), .int .i64 n] w fun e w' => e = .returned (.bool (c == n)) ∧ w = w' := by
  have h0 : (n == 0) = false := by simp; omega
  by_cases hcn : c = n
  · subst hcn
    have h1 := IsO_any c c w
    simp only [beq_self_eq_true] at h1 ⊢
    have h2 := fun m (_ : ¬ c = m) => IsO_any c m w
    have H2 := Lib.hid h2
    have H1 := Lib.hid h1
    clear h1 h2
    go_enter Try.func17, Try.ntmps17
    go_wp2_with (go_at_call 42; refine H1.out.mono ?_; rintro e w1 ⟨rfl, rfl⟩)
    go_loop [5] (fun i => ∃ k : Nat, 1 ≤ k ∧ k ≤ 15 ∧ i = .int .i64 k) (fun i => 15 - (intOf i).toNat)
    case atStart => exact ⟨1, by omega, by omega, rfl⟩
    case round =>
      obtain ⟨k, hk1, hk2, rfl⟩ := hrel
      by_cases hk : k ≤ 14
      · by_cases hkc : (k : Int) = c
        · have g1 : ((k : Int) != c) = false := by simp [hkc]
          have HK := Lib.hid hkc
          clear hkc
          go_wp2
          go_round
          case rel => exact ⟨k + 1, by omega, by omega, by go_num⟩
          case measure => simp [intOf]; omega
        · have g1 : ((k : Int) != c) = true := by simp [hkc]
          have hf : (c == (k : Int)) = false := by simp; omega
          have H3 := H2.out k (by omega)
          rw [hf] at H3
          clear hf
          go_wp2_with (go_at_call 42; refine H3.mono ?_; rintro e w1 ⟨rfl, rfl⟩)
          go_round
          case rel => exact ⟨k + 1, by omega, by omega, by go_num⟩
          case measure => simp [intOf]; omega
      · go_wp2
        go_ret
        exact ⟨rfl, rfl⟩
  · have hf : (c == n) = false := by simpa using hcn
    have H1 := IsO_any c n w
    rw [hf] at H1 ⊢
    go_enter Try.func17, Try.ntmps17
    go_wp2_with (go_at_call 42; refine H1.mono ?_; rintro e w1 ⟨rfl, rfl⟩)
    go_ret
    exact ⟨rfl, rfl⟩
end Go.Proofs.Ytbacdllokgcohaa.ko
