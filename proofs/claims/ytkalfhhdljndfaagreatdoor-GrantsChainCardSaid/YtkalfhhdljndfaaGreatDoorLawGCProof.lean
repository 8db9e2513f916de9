/-
  GrantsChain: for all three numbers: a role goes from hand to hand as deep as its rule says, with juniors on the way; a grant given back takes the rest along. The card of the row: the listed tables and package errors' errorType are tied to the program's text. No condition on the numbers.
-/
import Derived.Test.YtkalfhhdljndfaaGreatDoorLawGC
import Derived.Test.YtkalfhhdljndfaaGreatDoorLd4
import Derived.Test.YtkalfhhdljndfaaGreatDoorCards
import Derived.Test.YtkalfhhdljndfaaGreatDoorTie
import Derived.Lib.LaidTab
import Derived.Stop.LaidErr
namespace Go.Proofs.YtkalfhhdljndfaaGreatDoor.grantsChain
set_option maxRecDepth 100000
open Go.ChangeShapes Go.WideShapes Go.ChangeAt Go.RowKit
theorem pow10_data : (Rows.laid_internal_strconv_uint64pow10 : DataW Unit) = Lib.tabData .u64 Lib.pow10Tab := by kernel_rfl
theorem tab_of {W : World} (h : laidMetH Tryz.prog laid4 W) : TabAt W := by
 have h3 : laidMet Tryz.prog laid3 W := (show laidMet Tryz.prog laid3 W ∧ handlesMet Tryz.prog [("errors.errorType", Rows.laid_errors_errorType)] W from h).1
 have h1 := laidMet.tail (laidMet.tail h3)
 rw [pow10_data] at h1
 exact Lib.tabIs_of_head (rest := []) (g := 2) (t := 320) (e := 312) (n := 20) (by kernel_rfl) (by kernel_rfl) Tryz.underlying320 Tryz.underlying312 (by kernel_rfl) (by kernel_rfl) h1
theorem lifted (os : Os) (started : os.Started) (H : Type) (enc : TypeId × Value → H) :
  ReturnsInHanded {} Tryz.checked os 5 .any (fun w args => (Rows.grantsChainSpec.pre enc Tryz.prog Tryz.f5 [] false w args ∧ laidMetH Tryz.prog laid4 w) ∧ sizedMet enc Tryz.prog Tryz.f5 (OpenSpec.ofChange Rows.grantsChainSpec) false w args)
   (Rows.grantsChainSpec.post enc Tryz.prog Tryz.f5 false true false false) := by
 refine returnsInHanded_of_change_and (C := Tryz.checked) (X := fun w _ => laidMetH Tryz.prog laid4 w) (fun _ _ _ hh h => h.of_heap hh) Tryz.own started (by kernel_rfl) Tryz.func5
  (ChangeSpec.witness_at (enc := enc) (C := Tryz.checked) (os := os) (X := fun w _ => laidMetH Tryz.prog laid4 w) false (laidWorld4 os) #[.int .i64 0, .int .i64 0, .int .i64 0] 8 rfl (by kernel_rfl) (by kernel_rfl) (by kernel_rfl) (by kernel_rfl) (by kernel_rfl) (laidWorld4_met os _)) ?_
 intro W base args ds gs before hval0 hW _ hsz0 hL _
 have hval : ∀ (j : Nat) t v, Tryz.f5.params[j]? = some t → args[j]? = some v → Value.okWide Tryz.prog W .any base t v := hval0
 have hW' := hW
 obtain ⟨p, q, hA0, hV, rfl, hfz, hnd⟩ := hW
 have hlt := hW'.lt
 have hA : DataW.TrodAll enc Tryz.prog W 0 (fun _ => true) true Tryz.f5.params.toList args.toList ds p := hA0
 obtain ⟨rfl, rfl⟩ := trodVars_none hV
 have hsz : (DataW.weightsEach Tryz.prog Tryz.f5.params.toList ds).all (· ≤ reachBytes) = true := by
  have := hsz0
  rw [List.append_nil] at this
  exact (show (DataW.weightsEach Tryz.prog (Tryz.f5.params.toList ++ []) ds).all (· ≤ reachBytes) = true from this)
 rw [Tryz.params5] at hA hval hsz
 simp only [List.append_nil] at hlt
 obtain ⟨v0, vs0, d0, ds0, p0, q0, hargs, rfl, rfl, h0, r0⟩ := trodAll_cons hA
 obtain ⟨v1, vs1, d1, ds1, p1, q1, rfl, rfl, rfl, h1, r1⟩ := trodAll_cons r0
 obtain ⟨v2, vs2, d2, ds2, p2, q2, rfl, rfl, rfl, h2, r2⟩ := trodAll_cons r1
 obtain ⟨rfl, rfl, rfl⟩ := trodAll_nil r2
 obtain rfl : args = #[v0, v1, v2] := by cases args; simp_all
 obtain ⟨a0, rfl, rfl, rfl, w0⟩ := open_int Tryz.underlying3 (hval 0 3 v0 rfl rfl) h0
 obtain ⟨a1, rfl, rfl, rfl, w1⟩ := open_int Tryz.underlying3 (hval 1 3 v1 rfl rfl) h1
 obtain ⟨a2, rfl, rfl, rfl, w2⟩ := open_int Tryz.underlying3 (hval 2 3 v2 rfl rfl) h2
 have hg : HandleAt W := handle4_of hL
 have ht : TabAt W := tab_of hL
 clear hA0 hval0 hsz0 hL hsz
 refine (gchain_walk W a0 a1 a2 w0 w1 w2 hg ht).mono fun e W' ⟨he, hb⟩ => ⟨_, he, ?_⟩
 exact law_post hW' rfl rfl rfl (by decide +kernel) hb
theorem row : Rows.GrantsChainSaid :=
 OpenClaim.holds_of_wide 5 Tryz.f5 rfl rfl rfl rfl rfl rfl rfl ⟨rfl, rfl, rfl, rfl, rfl⟩ rfl rfl rfl rfl rfl (by kernel_rfl) Tryz.func5 (by kernel_rfl)
  (of_decide_eq_true (by kernel_rfl)) (by unfold Func.isWrapper; first | (rw [if_pos (by decide +kernel)]; kernel_rfl) | (rw [if_neg (by decide +kernel)]; exact ⟨rfl, rfl⟩))
  (fun os started H enc _ => lifted os started H enc)
theorem proved : Rows.GrantsChainCardSaid :=
 Claim7.holds_tied_plain_at .later [] [.data, .data, .data, .handle] true _ true row (fun _ h => by cases h) (by kernel_rfl) (fun _ h => by cases h) grantsChain_row_tie rfl ⟨rfl, rfl⟩ (by kernel_rfl) rfl
  (fun f fn hf hfn => by
   obtain rfl : f = 5 := Option.some.inj ((show Tryz.prog.funcNamed "imprimatur/imprimaturlaw12.GrantsChain" = some 5 by kernel_rfl).symm.trans hf) |>.symm
   obtain rfl : fn = Tryz.f5 := (Option.some.inj (Tryz.func5.symm.trans hfn)).symm
   exact ⟨by kernel_rfl, fun j t ht => by
    rw [Tryz.params5] at ht
    have h : ∀ t ∈ [3, 3, 3], Tryz.prog.wantsStandIn t = false := by
     intro t ht
     simp only [List.mem_cons, List.mem_nil_iff, or_false] at ht
     rcases ht with rfl | rfl | rfl <;> kernel_rfl
    exact h t (List.mem_of_getElem? (i := j) (by simpa using ht))⟩)
  (by kernel_rfl)
end Go.Proofs.YtkalfhhdljndfaaGreatDoor.grantsChain
