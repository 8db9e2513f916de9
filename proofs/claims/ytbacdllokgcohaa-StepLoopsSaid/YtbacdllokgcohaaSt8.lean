/-
  The library's sort by insertion, of transitions by the levels of their states.
-/
import Derived.Test.YtbacdllokgcohaaSt6
import Derived.Deep.RegionHeld3
namespace Go.Proofs.Ytbacdllokgcohaa
set_option maxRecDepth 100000
open Go.ChangeShapes Go.WideShapes Go.ChangeAt Go.RowKit

theorem cmpZ_neg (x y : Nat) : decide (cmpZ x y < 0) = decide (x < y) := by
  unfold cmpZ
  by_cases h : x < y
  · rw [if_pos h, decide_eq_true h]; rfl
  · rw [if_neg h, decide_eq_false h]
    split <;> rfl
theorem swap_list {P B : List Nat} {p x : Nat} : (((P ++ p :: x :: B).set (P.length + 1) p).set P.length x) = P ++ x :: p :: B := by
  simp
theorem swap_list2 {P B : List Nat} {p x : Nat} : (((P ++ p :: x :: B).set P.length x).set (P.length + 1) p) = P ++ x :: p :: B := by
  simp
theorem ncells_set (l : List Nat) (i x : Nat) : icells ((l.set i x).map fun k : Nat => (k : Int)) = (icells (l.map fun k : Nat => (k : Int))).set i (.int .i64 (x : Int)) := by simp [icells, List.map_set]
theorem nil_or_snoc (P : List Nat) : P = [] ∨ ∃ P' p, P = P' ++ [p] := by
  rcases List.eq_nil_or_concat P with h | ⟨a, b, h⟩
  · exact .inl h
  · exact .inr ⟨a, b, by rw [h, List.concat_eq_append]⟩
/-- numbers in a row of the call's own, from its beginning on -/
def NAt (w : World) (base g cap : Nat) (l : List Nat) : Prop := w.ownsRow base 3 1 (.slice (some ⟨g, 0, none⟩) l.length cap) l.length (icells (l.map fun k : Nat => (k : Int)))
theorem NAt.cell {w : World} {base g cap : Nat} {l : List Nat} (h : NAt w base g cap l) {j : Nat} (hj : j < l.length) : w.cell? ⟨g, j, none⟩ = some (.int .i64 (l[j] : Nat)) := by
  obtain ⟨g', cap', e', _, _, _, hc⟩ := own_form h (by omega)
  injection e' with e1
  injection e1 with e1
  injection e1 with e1
  subst e1
  exact hc _ _ (by simp [icells, hj])
theorem NAt.set {w : World} {base g cap : Nat} {l : List Nat} (h : NAt w base g cap l) (j x : Nat) : NAt (w.setCell ⟨g, j, none⟩ (.int .i64 (x : Int))) base g cap (l.set j x) := by
  unfold NAt
  rw [List.length_set, ncells_set]
  exact (World.ownsRow.stored h j (.int .i64 (x : Int))).1
theorem NAt.below {w w' : World} {base g cap : Nat} {l : List Nat} (h : NAt w base g cap l) (hb : Below w.heap.size w w') (hB : base ≤ w.heap.size) : NAt w' base g cap l := own_below h hb hB
theorem NAt.lt {w : World} {base g cap : Nat} {l : List Nat} (h : NAt w base g cap l) : base ≤ g ∧ g < w.heap.size := World.ownsRow.lt h g rfl
theorem NAt.fz {w : World} {base g cap : Nat} {l : List Nat} (h : NAt w base g cap l) (j : Nat) : w.frozen? ⟨g, j, none⟩ = false := World.ownsRow.frozenAt h j
set_option maxHeartbeats 8000000 in
theorem insSort_any (lv : Nat → Nat) (base g cap gc : Nat) (l : List Nat) (w : World) (hO : NAt w base g cap l) (hbase : base ≤ w.heap.size) (hll : l.length ≤ 1000)
    (hC : ∀ W, Below base w W → ∀ a ∈ l, ∀ b ∈ l, Calls Try.prog 38 #[.int .i64 a, .int .i64 b, .pointer (some ⟨gc, 0, none⟩)] W fun e w' => e = .returned (.int .i64 (cmpZ (lv b) (lv a))) ∧ Below W.heap.size W w') :
    Calls Try.prog 99 #[.slice (some ⟨g, 0, none⟩) l.length cap, .int .i64 0, .int .i64 l.length, .func (.func 38) #[] #[.pointer (some ⟨gc, 0, none⟩)]] w fun e w' => e = .returned (.tuple #[]) ∧ Below base w w' ∧ NAt w' base g cap (sortD lv l) := by
  have HC := Lib.hid hC
  have HO := Lib.hid hO
  have hsl : ∀ i, (sortD lv (l.take i)).length = min i l.length := fun i => by rw [sortD_len, List.length_take]
  have HSL := Lib.hid hsl
  clear hC hO hsl
  go_enter Try.func99, Try.ntmps99
  go_upto_region 1 with fail
  go_loopw [8] (fun i wr => ∃ k : Nat, i = .int .i64 k ∧ 1 ≤ k ∧ (k ≤ l.length ∨ k = 1) ∧ Hid (NAt wr base g cap (sortD lv (l.take k) ++ l.drop k)) ∧ Hid (Below base w wr)) (fun i _ => l.length + 1 - (intOf i).toNat)
  case atStart =>
    refine ⟨1, rfl, Nat.le_refl _, .inr rfl, ?_, Below.refl _ _⟩
    have e : sortD lv (l.take 1) ++ l.drop 1 = l := by cases l <;> rfl
    show NAt _ _ _ _ _
    rw [e]
    exact HO.out
  case round =>
    obtain ⟨k, rfl, hk1, hk, HN, HB⟩ := hrel
    by_cases hlt : k < l.length
    · have hki : (k : Int) < l.length := by omega
      have hks := HSL.out k
      have hdk : l.drop k = l[k] :: l.drop (k + 1) := List.drop_eq_getElem_cons hlt
      have htk : sortD lv (l.take (k + 1)) = insD lv l[k] (sortD lv (l.take k)) := by rw [List.take_succ_eq_append_getElem hlt, sortD_snoc]
      have hmk : ∀ y ∈ sortD lv (l.take k), y ∈ l := fun y hy => List.mem_of_mem_take ((sortD_mem lv _ y).1 hy)
      have hxm : l[k] ∈ l := List.getElem_mem hlt
      have HTK := Lib.hid htk
      have HMK := Lib.hid hmk
      have hrl : (l.drop (k + 1)).length = l.length - (k + 1) := by simp
      rw [hdk] at HN
      have hk2 : (sortD lv (l.take k)).length = k := by omega
      generalize hgr : l.drop (k + 1) = rest at *
      generalize hgs : sortD lv (l.take (k + 1)) = S1 at *
      have HGR := Lib.hid hgr
      have HGS := Lib.hid hgs
      clear hgr hgs
      generalize sortD lv (l.take k) = S0 at *
      generalize l[k] = x at *
      clear hdk htk hmk hks
      go_upto_region 4 with fail
      go_loopw [9] (fun jv wx => ∃ (P B : List Nat), jv = .int .i64 (P.length : Nat) ∧ Hid (S0 = P ++ B) ∧ Hid (∀ y ∈ B, lv y < lv x) ∧ Hid (NAt wx base g cap (P ++ x :: (B ++ rest))) ∧ Hid (Below base w wx)) (fun jv _ => (intOf jv).toNat)
      case atStart => exact ⟨S0, [], by rw [hk2], (List.append_nil _).symm, (fun y hy => by simp at hy), HN.out, HB.out⟩
      case round =>
        obtain ⟨P, B, rfl, HPB, HBL, HD, HBx⟩ := hrel
        have hlo := HD.out.lt
        rcases nil_or_snoc P with rfl | ⟨P', p, rfl⟩
        · have HE : Hid (S1 = x :: B) := by
            show _ = _
            rw [HTK.out, HPB.out]
            exact insD_spot lv x [] B HBL.out (fun a h => by simp at h)
          go_upto_region 4 with fail
          go_quiet (fail)
          have HB3 := Lib.hid (below_drewN HBx.out nq)
          have HD3 : Hid (NAt (wr.drewN nq) base g cap ((x :: B) ++ rest)) := HD.out
          generalize wr.drewN nq = wq at *
          go_wp2
          go_roundw
          case rel =>
            refine ⟨k + 1, by go_num, by omega, .inl (by omega), ?_, HB3.out⟩
            show NAt _ _ _ _ _
            rw [HGS.out, HGR.out, HE.out]
            exact HD3.out
          case measure => simp [intOf]; omega
        · have hPl : (P' ++ [p]).length = P'.length + 1 := by simp
          have eD : (P' ++ [p]) ++ x :: (B ++ rest) = P' ++ p :: x :: (B ++ rest) := by simp
          have hDl : (P' ++ p :: x :: (B ++ rest)).length = l.length := by
            have h1 := congrArg List.length HPB.out
            simp at h1 ⊢
            omega
          rw [eD] at HD
          rw [hPl]
          have hmp : p ∈ l := HMK.out p (by rw [HPB.out]; simp)
          have cP : wr.cell? ⟨g, P'.length, none⟩ = some (.int .i64 (p : Nat)) := by
            have h1 := HD.out.cell (j := P'.length) (by simp)
            rw [h1]; simp
          have cX : wr.cell? ⟨g, P'.length + 1, none⟩ = some (.int .i64 (x : Nat)) := by
            have h1 := HD.out.cell (j := P'.length + 1) (by simp)
            rw [h1]; simp [List.getElem_append_right]
          have CL := Lib.hid (fun W (hW : Below base w W) => HC.out W hW x hxm p hmp)
          have hml : (P'.length : Int) + 1 < l.length := by
            rw [← hDl]; simp only [List.length_append, List.length_cons]; omega
          generalize hm : P'.length = m at *
          go_upto_region 4 with fail
          have hm1 : IntKind.i64.wrap ((m : Int) + 1 - 1) = m := by rw [IntKind.wrap_i64]; omega
          have hgl := hlo.2
          have hm3 : (0 : Int) ≤ (m : Int) + 1 := by omega
          have hm4 : (0 : Int) ≤ (m : Int) := by omega
          have hm5 : IntKind.i64.wrap ((m : Int) + 1) = (m : Int) + 1 := by rw [IntKind.wrap_i64]; omega
          have hm6 : ((m : Int) + 1).toNat = m + 1 := by omega
          have hml0 : (m : Int) < l.length := by omega
          have hm2 : IntKind.i64.wrap (m : Int) = m := by rw [IntKind.wrap_i64]; omega
          go_region_held3 (fun w' => w'.cell? ⟨g, m, none⟩ = some (.int .i64 (p : Nat)) ∧ w'.cell? ⟨g, m + 1, none⟩ = some (.int .i64 (x : Nat)))
            (first | exact ⟨cP, cX⟩ | exact ⟨(hb3.cell (p := ⟨g, m, none⟩) hgl).trans cP, (hb3.cell (p := ⟨g, m + 1, none⟩) hgl).trans cX⟩ | go_keep)
            (first | (go_at_call 38; refine (CL.out _ (by first | exact HBx.out | exact below_drew HBx.out)).mono ?_; rintro e w3 ⟨rfl, hb3⟩))
          have hz := cmpZ_neg (lv p) (lv x)
          have hb3' : Below wr.heap.size wr w3 := by first | exact hb3 | exact below_then (below_drew (Below.refl _ _)) hb3 (Nat.le_refl _)
          have hbw3 : Below base w w3 := below_then HBx.out hb3' (Nat.le_trans hbase HBx.out.size)
          have HD3 := Lib.hid (HD.out.below hb3' (Nat.le_trans hbase HBx.out.size))
          by_cases hlt2 : lv p < lv x
          · rw [decide_eq_true hlt2] at hz
            have cP3 := (hb3'.cell (p := ⟨g, m, none⟩) hgl).trans cP
            have cX3 := (hb3'.cell (p := ⟨g, m + 1, none⟩) hgl).trans cX
            have f0 := HD3.out.fz m
            have f1 := HD3.out.fz (m + 1)
            have HBn : Hid (∀ y ∈ p :: B, lv y < lv x) := fun y hy => by
              rcases List.mem_cons.1 hy with rfl | h
              · exact hlt2
              · exact HBL.out y h
            rw [hz]
            go_upto_region 6 with fail
            go_region
            all_goals
              go_wp2
              go_roundw
              case rel =>
                refine ⟨P', p :: B, by rw [hm], ?_, HBn.out, ?_, ?_⟩
                · show _ = _
                  rw [HPB.out, List.append_assoc]; rfl
                · show NAt _ _ _ _ _
                  rw [← hm]
                  first
                    | (have h1 := (HD3.out.set (m + 1) p).set m x
                       rw [← hm, swap_list] at h1
                       exact h1)
                    | (have h1 := (HD3.out.set m x).set (m + 1) p
                       rw [← hm, swap_list2] at h1
                       exact h1)
                · exact below_drew (set_below (set_below hbw3 (Nat.le_trans hbase hbw3.size) hlo.1) (by simpa [World.setCell] using Nat.le_trans hbase hbw3.size) hlo.1)
              case measure => simp [intOf]
          · rw [decide_eq_false hlt2] at hz
            have HE : Hid (S1 = (P' ++ [p]) ++ x :: B) := by
              show _ = _
              rw [HTK.out, HPB.out]
              exact insD_spot lv x (P' ++ [p]) B HBL.out (fun a h => by simp at h; subst h; exact hlt2)
            rw [hz]
            go_wp2
            go_roundw
            case rel =>
              refine ⟨k + 1, by go_num, by omega, .inl (by omega), ?_, hbw3⟩
              show NAt _ _ _ _ _
              rw [HGS.out, HGR.out, HE.out, show (P' ++ [p]) ++ x :: B ++ rest = P' ++ p :: x :: (B ++ rest) by simp]
              exact HD3.out
            case measure => simp [intOf]; omega
    · go_wp2
      go_end0
      have ek : k ≥ l.length := by omega
      have h9 := HN.out
      rw [List.take_of_length_le ek, List.drop_of_length_le ek, List.append_nil] at h9
      exact ⟨rfl, HB.out, h9⟩
end Go.Proofs.Ytbacdllokgcohaa
/-
  The library's stable sort, of at most nineteen transitions.
-/
namespace Go.Proofs.Ytbacdllokgcohaa
set_option maxRecDepth 100000
open Go.ChangeShapes Go.WideShapes Go.ChangeAt Go.RowKit

theorem insSort_nil (A : Option Addr) (cap gc : Nat) (w : World) :
    Calls Try.prog 99 #[.slice A 0 cap, .int .i64 0, .int .i64 0, .func (.func 38) #[] #[.pointer (some ⟨gc, 0, none⟩)]] w fun e w' => e = .returned (.tuple #[]) ∧ w = w' := by
  go_enter Try.func99, Try.ntmps99
  go_wp2
  refine wp_loop_rounds 1 ?_
  rw [rounds_succ]
  go_wp2
  go_end0
  exact ⟨rfl, rfl⟩
theorem stable_of (v : Value) (m gc : Nat) (w : World) (hm : m ≤ 19) (A : Option Addr) (cap : Nat) (hv : v = .slice A m cap) (Q : Ending → World → Prop)
    (hI : Calls Try.prog 99 #[v, .int .i64 0, .int .i64 m, .func (.func 38) #[] #[.pointer (some ⟨gc, 0, none⟩)]] w fun e w' => e = .returned (.tuple #[]) ∧ Q (.returned (.tuple #[])) w') :
    Calls Try.prog 37 #[v, .func (.func 38) #[] #[.pointer (some ⟨gc, 0, none⟩)]] w fun e w' => e = .returned (.tuple #[]) ∧ Q (.returned (.tuple #[])) w' := by
  subst hv
  have HI := Lib.hid hI
  clear hI
  have h1 : ¬ (20 : Int) ≤ m := by omega
  have h2 : ¬ (20 : Int) < m := by omega
  have ST : Hid (Calls Try.prog 61 #[.slice A m cap, .int .i64 m, .func (.func 38) #[] #[.pointer (some ⟨gc, 0, none⟩)]] w fun e w' => e = .returned (.tuple #[]) ∧ Q (.returned (.tuple #[])) w') := by
    show Calls _ _ _ _ _
    go_enter Try.func61, Try.ntmps61
    go_wp2
    refine wp_loop_rounds 1 ?_
    rw [rounds_succ]
    go_wp2_with (go_at_call 99; refine HI.out.mono ?_; rintro e w1 ⟨rfl, hq⟩)
    refine wp_loop_rounds 1 ?_
    rw [rounds_succ]
    go_wp2
    go_end0
    exact ⟨rfl, hq⟩
  go_enter Try.func37, Try.ntmps37
  go_wp2_with (go_at_call 61; refine ST.out.mono ?_; rintro e w1 ⟨rfl, hq⟩)
  go_end0
  exact ⟨rfl, hq⟩
end Go.Proofs.Ytbacdllokgcohaa
