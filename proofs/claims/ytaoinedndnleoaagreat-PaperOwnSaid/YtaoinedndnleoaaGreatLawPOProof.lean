/-
  PaperOwn: for every plan of numbers and every list of moves: what is done with a document of the plan's chart changes no other one, and who did what is told of each by itself. No condition.
-/
import Derived.Test.YtaoinedndnleoaaGreatLawPO
import Derived.Test.YtaoinedndnleoaaGreatWk9
import Derived.Test.YtaoinedndnleoaaGreatLpo
namespace Go.Proofs.YtaoinedndnleoaaGreat
open Go.ChangeShapes Go.WideShapes Go.ChangeAt Go.RowKit

theorem of_chw {w : World} {e : Ending} {w' : World} (h : OfTo8 w e w') : OfC w e w' := by
  obtain ⟨hb, c, vN, vK, vP, vT, uN, uK, uP, uT, rfl, hA, hD, hok⟩ := h
  obtain ⟨AN, cN, rfl⟩ := own_slice hA.oN
  obtain ⟨AK, cK, rfl⟩ := own_slice hA.oK
  obtain ⟨AP, cP, rfl⟩ := own_slice hA.oP
  obtain ⟨AT, cT, rfl⟩ := own_slice hA.oT
  obtain ⟨BN, dN, rfl⟩ := own_slice hD.oN
  obtain ⟨BK, dK, rfl⟩ := own_slice hD.oK
  obtain ⟨BP, dP, rfl⟩ := own_slice hD.oP
  obtain ⟨BT, dT, rfl⟩ := own_slice hD.oT
  exact ⟨hb, c, AN, AK, AP, AT, BN, BK, BP, BT, cN, cK, cP, cT, dN, dK, dP, dT, c.names.length, c.names.length, c.names.length, by rw [hok.f.kl, hok.f.pl], hok.chW hA, listAt_of hA.oN, hok⟩
theorem own_all (w : World) (v : Value) (zs : List Int) (hz : IntsAt w v zs) (u : Value) (ms : List MovT) (hm : MovsAt w u ms) :
    Calls Tryz.prog 5 #[.agg #[v], u] w (TrueOn w) :=
  own_walk w v u ms hm fun W hW => (Of_any8 v zs W (hz.below hW)).mono fun _ _ h => of_chw h
end Go.Proofs.YtaoinedndnleoaaGreat
namespace Go.Proofs.YtaoinedndnleoaaGreat.paperOwn
open Go.ChangeShapes Go.WideShapes Go.ChangeAt Go.RowKit

set_option maxRecDepth 100000 in
theorem lifted (os : Os) (started : os.Started) (H : Type) (enc : TypeId × Value → H) :
    ReturnsInHanded {} Tryz.checked os 5 .any (Rows.paperOwnSpec.pre6 enc Tryz.prog Tryz.f5 Rows.paperOwnRow.domain false)
      (Rows.paperOwnSpec.post enc Tryz.prog Tryz.f5 false true false false) := by
  refine returnsInHanded_of_change_sized (C := Tryz.checked) Tryz.own started (by kernel_rfl) Tryz.func5
    (ChangeSpec.witness6 (enc := enc) (C := Tryz.checked) false ⟨#[], #[.agg #[.slice none 0 0], .slice none 0 0], []⟩ 8 (by kernel_rfl) (by kernel_rfl) (by kernel_rfl) (by kernel_rfl)) ?_
  intro W base args ds gs before hval0 hW _ hsz0 _
  have hval : ∀ (j : Nat) t v, Tryz.f5.params[j]? = some t → args[j]? = some v → Value.okWide Tryz.prog W .any base t v := hval0
  have hW' := hW
  obtain ⟨p, q, hA0, hV, rfl, hfz, hnd⟩ := hW
  have hlt := hW'.lt
  have hA : DataW.TrodAll enc Tryz.prog W 0 (fun _ => true) true Tryz.f5.params.toList args.toList ds p := hA0
  obtain ⟨rfl, rfl⟩ := trodVars_none hV
  have hsz : (DataW.weightsEach Tryz.prog Tryz.f5.params.toList ds).all (· ≤ reachBytes) = true := by
    have := hsz0
    rw [List.append_nil] at this
    exact (show (DataW.weightsEach Tryz.prog (Tryz.f5.params.toList ++ []) ds).all (· ≤ reachBytes) = true from this)
  rw [Tryz.params5] at hA hval hsz
  simp only [List.append_nil] at hlt
  obtain ⟨v0, vs0, d0, ds0, p0, q0, hargs, rfl, rfl, h0, r0⟩ := trodAll_cons hA
  obtain ⟨v1, vs1, d1, ds1, p1, q1, rfl, rfl, rfl, h1, r1⟩ := trodAll_cons r0
  obtain ⟨rfl, rfl, rfl⟩ := trodAll_nil r1
  obtain rfl : args = #[v0, v1] := by cases args; simp_all
  obtain ⟨u0, zs, rfl, hz⟩ := arg_plan (hval 0 24 v0 rfl rfl) h0
  obtain ⟨a1, w1⟩ := arg_movs Tryz.underlying56 (by kernel_rfl) (by kernel_rfl) (hval 1 56 v1 rfl rfl) h1
  clear hA0 hval0 hsz0
  refine (own_all W u0 zs hz v1 a1 w1).mono fun e W' ⟨he, hb⟩ => ⟨_, he, ?_⟩
  exact law_post hW' rfl rfl rfl (by decide +kernel) hb

theorem proved : Rows.PaperOwnSaid :=
  OpenClaim.holds_of_wide 5 Tryz.f5 rfl rfl rfl rfl rfl rfl rfl ⟨rfl, rfl, rfl, rfl, rfl⟩ rfl rfl rfl rfl rfl (by kernel_rfl) Tryz.func5 (by kernel_rfl)
    (of_decide_eq_true (by kernel_rfl)) (by unfold Func.isWrapper; first | (rw [if_pos (by decide +kernel)]; kernel_rfl) | (rw [if_neg (by decide +kernel)]; exact ⟨rfl, rfl⟩))
    (fun os started H enc _ => lifted os started H enc)
end Go.Proofs.YtaoinedndnleoaaGreat.paperOwn
