/-
  Errors told.
-/
import Derived.Test.YtgffbgmieppckaaGreatDoorSplit
import Derived.LaidEql
import Derived.Lib.IfaceEq
import Derived.Stop.Asserts
import Derived.RowKitTokens
namespace Go.Proofs.YtgffbgmieppckaaGreatDoor.ko
set_option maxRecDepth 100000
open Go.RowKit Go.Extern.Stop Go.Stop Go.Extern

theorem Tryz.compErrno : (Tryz.prog.info? 39).map (·.comparable) = some true := by kernel_rfl
theorem Tryz.typeOfErrno (v : Value) (w : World) : (ReflectliteType.typeOf #[.iface 39 v]).run Tryz.prog w = .ok (.iface 311 (.agg #[.pointer (some ⟨5, 39, none⟩)])) w := by kernel_rfl
theorem Tryz.comparableErrno (w : World) : ((ReflectliteType.method fun t => do Rtype.noPackHeld "Comparable" t; (fun a => Value.bool a.comparable) <$> typeInfo t) #[.agg #[.pointer (some ⟨5, 39, none⟩)]]).run Tryz.prog w = .ok (.bool true) w := by kernel_rfl
theorem Tryz.methodComparable (v : Value) (w : World) : (Go.method 494 311 v "Comparable").run Tryz.prog w = .ok (282, v) w := by kernel_rfl

theorem Tryz.noIsNum (v : Value) (xT : TypeId) (w : World) : (Instr.typeAssert (.iface 39 v) xT 313 true).run Tryz.prog w = .ok (.tuple #[.nilIface, .bool false]) w := run_typeAssert_lacksB Tryz.underlying313 (by kernel_rfl) (by kernel_rfl) v xT w
theorem Tryz.noUnwrapsNum (v : Value) (xT : TypeId) (w : World) : (Instr.typeAssert (.iface 39 v) xT 318 true).run Tryz.prog w = .ok (.tuple #[.nilIface, .bool false]) w := run_typeAssert_lacksB Tryz.underlying318 (by kernel_rfl) (by kernel_rfl) v xT w
theorem Tryz.noUnwrapNum (v : Value) (xT : TypeId) (w : World) : (Instr.typeAssert (.iface 39 v) xT 316 true).run Tryz.prog w = .ok (.tuple #[.nilIface, .bool false]) w := run_typeAssert_lacksB Tryz.underlying316 (by kernel_rfl) (by kernel_rfl) v xT w

set_option maxHeartbeats 1000000 in
/-- errors.Is at a number and a number -/
theorem IsO_any (c n : Int) (w : World) :
    Calls Tryz.prog 85 #[.iface 39 (.int .i64 c), .iface 39 (.int .i64 n)] w fun e w' => e = .returned (.bool (c == n)) ∧ w = w' := by
  have hT := @run_callFunc_extern Tryz.prog 151 _ ReflectliteType.typeOf Tryz.func151 (by kernel_rfl) (by kernel_rfl) (by kernel_rfl) (by kernel_rfl)
  have hC := @run_callFunc_extern Tryz.prog 282 _ (ReflectliteType.method fun t => do Rtype.noPackHeld "Comparable" t; pure (.bool (← typeInfo t).comparable)) Tryz.func282 (by kernel_rfl) (by kernel_rfl) (by kernel_rfl) (by kernel_rfl)
  have tT := Tryz.typeOfErrno
  have cT := Tryz.comparableErrno
  have mR := Tryz.methodComparable
  have n1 := Tryz.noIsNum
  have n2 := Tryz.noUnwrapNum
  have n3 := Tryz.noUnwrapsNum
  have heq := Lib.run_eql_iface_int (P := Tryz.prog) w (k := .i64) c n Tryz.underlying35 Tryz.compErrno Tryz.underlying39
  by_cases h : c = n
  · subst h
    simp only [beq_self_eq_true] at heq ⊢
    go_enter Tryz.func85, Tryz.ntmps85
    go_wp2
    refine wp_loop_rounds 1 ?_
    rw [rounds_succ]
    go_wp2
    go_ret
    exact ⟨rfl, rfl⟩
  · have hb : (c == n) = false := by simpa using h
    rw [hb] at heq ⊢
    go_enter Tryz.func85, Tryz.ntmps85
    go_wp2
    refine wp_loop_rounds 1 ?_
    rw [rounds_succ]
    go_wp2
    go_ret
    exact ⟨rfl, rfl⟩
end Go.Proofs.YtgffbgmieppckaaGreatDoor.ko
namespace Go.Proofs.YtgffbgmieppckaaGreatDoor.ko
set_option maxRecDepth 100000
open Go.ChangeShapes Go.WideShapes Go.ChangeAt Go.RowKit

theorem keepIsO (c n : Int) (w : World) (hn : 1 ≤ n) (hn2 : n ≤ 14) :
    Calls Tryz.prog 19 #[.iface 39 (.int .i64 c), .int .i64 n] w fun e w' => e = .returned (.bool (c == n)) ∧ w = w' := by
  have h0 : (n == 0) = false := by simp; omega
  by_cases hcn : c = n
  · subst hcn
    have h1 := IsO_any c c w
    simp only [beq_self_eq_true] at h1 ⊢
    have h2 := fun m (_ : ¬ c = m) => IsO_any c m w
    have H2 := Lib.hid h2
    have H1 := Lib.hid h1
    clear h1 h2
    go_enter Tryz.func19, Tryz.ntmps19
    go_wp2_with (go_at_call 85; refine H1.out.mono ?_; rintro e w1 ⟨rfl, rfl⟩)
    go_loop [5] (fun i => ∃ k : Nat, 1 ≤ k ∧ k ≤ 15 ∧ i = .int .i64 k) (fun i => 15 - (intOf i).toNat)
    case atStart => exact ⟨1, by omega, by omega, rfl⟩
    case round =>
      obtain ⟨k, hk1, hk2, rfl⟩ := hrel
      by_cases hk : k ≤ 14
      · by_cases hkc : (k : Int) = c
        · have g1 : ((k : Int) != c) = false := by simp [hkc]
          have HK := Lib.hid hkc
          clear hkc
          go_wp2
          go_round
          case rel => exact ⟨k + 1, by omega, by omega, by go_num⟩
          case measure => simp [intOf]; omega
        · have g1 : ((k : Int) != c) = true := by simp [hkc]
          have hf : (c == (k : Int)) = false := by simp; omega
          have H3 := H2.out k (by omega)
          rw [hf] at H3
          clear hf
          go_wp2_with (go_at_call 85; refine H3.mono ?_; rintro e w1 ⟨rfl, rfl⟩)
          go_round
          case rel => exact ⟨k + 1, by omega, by omega, by go_num⟩
          case measure => simp [intOf]; omega
      · go_wp2
        go_ret
        exact ⟨rfl, rfl⟩
  · have hf : (c == n) = false := by simpa using hcn
    have H1 := IsO_any c n w
    rw [hf] at H1 ⊢
    go_enter Tryz.func19, Tryz.ntmps19
    go_wp2_with (go_at_call 85; refine H1.mono ?_; rintro e w1 ⟨rfl, rfl⟩)
    go_ret
    exact ⟨rfl, rfl⟩
end Go.Proofs.YtgffbgmieppckaaGreatDoor.ko
