/-
  SeatsDuties: for every two numbers: roles that are apart in a session may be in two; held by way of a grant they go with it. The card of the row: the listed tables and package errors' errorType are tied to the program's text. No condition on the numbers.
-/
import Derived.Test.YtgffbgmieppckaaGreatDoorLawSD
import Derived.Test.YtgffbgmieppckaaGreatDoorLd4
import Derived.Test.YtgffbgmieppckaaGreatDoorCards
import Derived.Test.YtgffbgmieppckaaGreatDoorTie
import Derived.Lib.LaidTab
import Derived.Stop.LaidErr
namespace Go.Proofs.YtgffbgmieppckaaGreatDoor.seatsDuties
set_option maxRecDepth 100000
open Go.ChangeShapes Go.WideShapes Go.ChangeAt Go.RowKit
theorem pow10_data : (Rows.laid_internal_strconv_uint64pow10 : DataW Unit) = Lib.tabData .u64 Lib.pow10Tab := by kernel_rfl
theorem tab_of {W : World} (h : laidMetH Tryz.prog laid4 W) : TabAt W := by
 have h3 : laidMet Tryz.prog laid3 W := (show laidMet Tryz.prog laid3 W ∧ handlesMet Tryz.prog [("errors.errorType", Rows.laid_errors_errorType)] W from h).1
 have h1 := laidMet.tail (laidMet.tail h3)
 rw [pow10_data] at h1
 exact Lib.tabIs_of_head (rest := []) (g := 2) (t := 360) (e := 352) (n := 20) (by kernel_rfl) (by kernel_rfl) Tryz.underlying360 Tryz.underlying352 (by kernel_rfl) (by kernel_rfl) h1
theorem lifted (os : Os) (started : os.Started) (H : Type) (enc : TypeId × Value → H) :
  ReturnsInHanded {} Tryz.checked os 9 .any (fun w args => (Rows.seatsDutiesSpec.pre enc Tryz.prog Tryz.f9 [] false w args ∧ laidMetH Tryz.prog laid4 w) ∧ sizedMet enc Tryz.prog Tryz.f9 (OpenSpec.ofChange Rows.seatsDutiesSpec) false w args)
   (Rows.seatsDutiesSpec.post enc Tryz.prog Tryz.f9 false true false false) := by
 refine returnsInHanded_of_change_and (C := Tryz.checked) (X := fun w _ => laidMetH Tryz.prog laid4 w) (fun _ _ _ hh h => h.of_heap hh) Tryz.own started (by kernel_rfl) Tryz.func9
  (ChangeSpec.witness_at (enc := enc) (C := Tryz.checked) (os := os) (X := fun w _ => laidMetH Tryz.prog laid4 w) false (laidWorld4 os) #[.int .i64 0, .int .i64 0] 8 rfl (by kernel_rfl) (by kernel_rfl) (by kernel_rfl) (by kernel_rfl) (by kernel_rfl) (laidWorld4_met os _)) ?_
 intro W base args ds gs before hval0 hW _ hsz0 hL _
 have hval : ∀ (j : Nat) t v, Tryz.f9.params[j]? = some t → args[j]? = some v → Value.okWide Tryz.prog W .any base t v := hval0
 have hW' := hW
 obtain ⟨p, q, hA0, hV, rfl, hfz, hnd⟩ := hW
 have hlt := hW'.lt
 have hA : DataW.TrodAll enc Tryz.prog W 0 (fun _ => true) true Tryz.f9.params.toList args.toList ds p := hA0
 obtain ⟨rfl, rfl⟩ := trodVars_none hV
 have hsz : (DataW.weightsEach Tryz.prog Tryz.f9.params.toList ds).all (· ≤ reachBytes) = true := by
  have := hsz0
  rw [List.append_nil] at this
  exact (show (DataW.weightsEach Tryz.prog (Tryz.f9.params.toList ++ []) ds).all (· ≤ reachBytes) = true from this)
 rw [Tryz.params9] at hA hval hsz
 simp only [List.append_nil] at hlt
 obtain ⟨v0, vs0, d0, ds0, p0, q0, hargs, rfl, rfl, h0, r0⟩ := trodAll_cons hA
 obtain ⟨v1, vs1, d1, ds1, p1, q1, rfl, rfl, rfl, h1, r1⟩ := trodAll_cons r0
 obtain ⟨rfl, rfl, rfl⟩ := trodAll_nil r1
 obtain rfl : args = #[v0, v1] := by cases args; simp_all
 obtain ⟨a0, rfl, rfl, rfl, _⟩ := open_int Tryz.underlying3 (hval 0 3 v0 rfl rfl) h0
 obtain ⟨a1, rfl, rfl, rfl, w1⟩ := open_int Tryz.underlying3 (hval 1 3 v1 rfl rfl) h1
 have hg : HandleAt W := handle4_of hL
 have ht : TabAt W := tab_of hL
 clear hA0 hval0 hsz0 hL hsz
 refine (sduties_walk W a0 a1 w1 hg ht).mono fun e W' ⟨he, hb⟩ => ⟨_, he, ?_⟩
 exact law_post hW' rfl rfl rfl (by decide +kernel) hb
theorem j0 : (Rows.seatsDutiesRow.wf (OpenSpec.ofChange Rows.seatsDutiesSpec)) = true := by kernel_rfl
theorem j1 : (laidOutB Tryz.prog) = true := by kernel_rfl
theorem j2 : (mapsRowed Tryz.prog) = true := by kernel_rfl
theorem j3 : (Tryz.f9.params.all (Tryz.prog.readableRec ·)) = true := by kernel_rfl
theorem j4 : (namedTie Tryz.prog Rows.seatsDutiesRow.named Rows.seatsDutiesSpec.vars) = true := by kernel_rfl
theorem j5 : ((Rows.seatsDutiesRow.stops == [])) = true := by kernel_rfl
theorem j6 : ((Tryz.prog.stops == [])) = true := by kernel_rfl
theorem j7 : ((Rows.seatsDutiesRow.knobs == [])) = true := by kernel_rfl
theorem j8 : ((Tryz.prog.stopKnobs == [])) = true := by kernel_rfl
theorem j9 : ((Rows.seatsDutiesRow.inPlace == Tryz.prog.inPlace 9)) = true := by kernel_rfl
theorem j10 : ((Rows.seatsDutiesRow.unfollowed == Tryz.prog.unfollowed 9)) = true := by kernel_rfl
theorem j11 : ((Rows.seatsDutiesRow.recurses == Tryz.prog.recurses 9)) = true := by kernel_rfl
theorem j12 : ((Rows.seatsDutiesRow.named == Tryz.prog.varsNamed 9)) = true := by kernel_rfl
theorem j13 : ((Rows.seatsDutiesRow.maps == (Tryz.f9.params.toList ++ Rows.seatsDutiesSpec.plain.varTypes Tryz.prog).any (Tryz.prog.mapsRec ·))) = true := by kernel_rfl
theorem j14 : ((Rows.seatsDutiesRow.ifaces == (Tryz.f9.params.toList ++ Rows.seatsDutiesSpec.plain.varTypes Tryz.prog).any (Tryz.prog.ifacesRec ·))) = true := by kernel_rfl
theorem j15 : ((Rows.seatsDutiesRow.mapsOut == Tryz.prog.mapsAmong Tryz.f9.resultTypes.toList)) = true := by kernel_rfl
theorem j16 : ((Rows.seatsDutiesRow.loops == (Tryz.f9.params.toList ++ Rows.seatsDutiesSpec.plain.varTypes Tryz.prog).any (Tryz.prog.loopsFrom ·))) = true := by kernel_rfl
theorem j17 : ((Rows.seatsDutiesRow.wideKeys == (Tryz.f9.params.toList ++ Rows.seatsDutiesSpec.plain.varTypes Tryz.prog ++ Tryz.f9.resultTypes.toList).any (Tryz.prog.wideKeysFrom ·))) = true := by kernel_rfl
theorem j18 : (Rows.seatsDutiesSpec.vars.all (Tryz.prog.varReadable ·)) = true := by kernel_rfl
theorem j19 : (Tryz.f9.resultTypes.all (fun t => Tryz.prog.readableRec t && decide (t < Tryz.prog.types.size))) = true := by kernel_rfl
theorem j20 : ((Rows.seatsDutiesRow.ifacesOut == Tryz.f9.resultTypes.toList.any (Tryz.prog.ifacesRec ·))) = true := by kernel_rfl
theorem j21 : ((Rows.seatsDutiesRow.loopsOut == Tryz.f9.resultTypes.toList.any (Tryz.prog.loopsFrom ·))) = true := by kernel_rfl
theorem j22 : ((Rows.seatsDutiesRow.plainKeys == Tryz.prog.plainKeys)) = true := by kernel_rfl
theorem j23 : (Rows.seatsDutiesRow.shortTexts.isNone) = true := by kernel_rfl
theorem j24 : (Tryz.prog.stopsHeard) = true := by kernel_rfl
theorem j25 : (Tryz.prog.mayEnter) = true := by kernel_rfl
theorem j26 : ((Rows.seatsDutiesRow.lifted == Tryz.prog.liftsFinal)) = true := by kernel_rfl
theorem j27 : ((Tryz.prog.make == some Rows.seatsDutiesRow.make)) = true := by kernel_rfl
theorem j28 : ((Rows.seatsDutiesRow.kinds == (if Rows.seatsDutiesRow.domain.isEmpty then [] else Tryz.f9.params.toList.map fun t => match Tryz.prog.underlying t with | some (.int k) => some k | _ => none))) = true := by kernel_rfl
theorem j29 : ((Rows.seatsDutiesRow.pinned == Rows.seatsDutiesRow.pinnedBy)) = true := by kernel_rfl
theorem j30 : ((Rows.seatsDutiesRow.veiled == (Tryz.f9.params.toList ++ Rows.seatsDutiesSpec.plain.varTypes Tryz.prog ++ Tryz.f9.resultTypes.toList).any (Tryz.prog.veiledRec ·))) = true := by kernel_rfl
theorem j31 : (Rows.seatsDutiesRow.veiledFits Tryz.prog Tryz.f9.params.toList (Tryz.f9.params.toList ++ Rows.seatsDutiesSpec.plain.varTypes Tryz.prog ++ Tryz.f9.resultTypes.toList)) = true := by kernel_rfl
theorem and2 {a b : Bool} (h : a = true) (k : b = true) : (a && b) = true := by rw [h, k]; rfl
theorem jf : joinedFacts Tryz.prog 9 Tryz.f9 Rows.seatsDutiesSpec Rows.seatsDutiesRow = true := and2 (and2 (and2 (and2 (and2 (and2 (and2 (and2 (and2 (and2 (and2 (and2 (and2 (and2 (and2 (and2 (and2 (and2 (and2 (and2 (and2 (and2 (and2 (and2 (and2 (and2 (and2 (and2 (and2 (and2 (and2 (j0) j1) j2) j3) j4) j5) j6) j7) j8) j9) j10) j11) j12) j13) j14) j15) j16) j17) j18) j19) j20) j21) j22) j23) j24) j25) j26) j27) j28) j29) j30) j31
theorem row : Rows.SeatsDutiesSaid :=
 OpenClaim.holds_of_wide 9 Tryz.f9 rfl rfl rfl rfl rfl rfl rfl ⟨rfl, rfl, rfl, rfl, rfl⟩ rfl rfl rfl rfl rfl (by kernel_rfl) Tryz.func9 jf
  (of_decide_eq_true (by kernel_rfl)) (by unfold Func.isWrapper; first | (rw [if_pos (by decide +kernel)]; kernel_rfl) | (rw [if_neg (by decide +kernel)]; exact ⟨rfl, rfl⟩))
  (fun os started H enc _ => lifted os started H enc)
theorem jw : Rows.seatsDutiesRow.wfByText (OpenSpec.ofChange Rows.seatsDutiesSpec) = true := by kernel_rfl
theorem jn : Tryz.prog.funcNamed "imprimatur/imprimaturlaw13.SeatsDuties" = some 9 := by kernel_rfl
theorem jl : true = Tryz.prog.looks [] := by kernel_rfl
theorem jg : false = Rows.seatsDutiesRow.goesBy Tryz.prog := by kernel_rfl
theorem proved : Rows.SeatsDutiesCardSaid :=
 Claim7.holds_tied_plain_at .later [] [.data, .data, .data, .handle] true _ true row (fun _ h => by cases h) jw (fun _ h => by cases h) seatsDuties_row_tie rfl ⟨rfl, rfl⟩ (by kernel_rfl) rfl
  (fun f fn hf hfn => by
    obtain rfl : f = 9 := Option.some.inj (jn.symm.trans hf) |>.symm
    obtain rfl : fn = Tryz.f9 := (Option.some.inj (Tryz.func9.symm.trans hfn)).symm
    exact ⟨jl, fun j t ht => by
     rw [Tryz.params9] at ht
     have h : ∀ t ∈ [3, 3], Tryz.prog.wantsStandIn t = false := by
      intro t ht
      simp only [List.mem_cons, List.mem_nil_iff, or_false] at ht
      rcases ht with rfl | rfl <;> kernel_rfl
     exact h t (List.mem_of_getElem? (i := j) (by simpa using ht))⟩)
  jg
end Go.Proofs.YtgffbgmieppckaaGreatDoor.seatsDuties
