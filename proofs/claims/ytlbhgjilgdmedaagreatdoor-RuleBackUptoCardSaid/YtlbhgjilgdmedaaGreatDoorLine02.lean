/-
  Line: a line of pieces: some short text. Same of texts, Rule: of what is alike.
-/
import Derived.Test.YtlbhgjilgdmedaaGreatDoorKeep02
import Derived.Test.YtlbhgjilgdmedaaGreatDoorKeep
namespace Go.Proofs.YtlbhgjilgdmedaaGreatDoor
set_option maxRecDepth 100000
open Go.ChangeShapes Go.WideShapes Go.ChangeAt Go.RowKit

def firstL : List Tx := [[114, 111, 108, 101], [117, 115, 101, 114], [112, 101, 114, 109], [115, 115, 100], [100, 115, 100], [101, 120, 99, 108, 117, 115, 105, 118, 101], [108, 101, 110, 100], [115, 116, 97, 116, 101], [111, 110], [97, 117, 116, 111], [97, 102, 116, 101, 114], [114, 117, 108, 101]]
def restL : List Tx := [[114, 97], [114, 98], [114, 99], [62], [50], [49], [48], [51], [112, 108, 97, 105, 110], [97, 108, 108], [112, 97, 115, 116], [100, 101, 101, 112], [105, 110], [102, 114, 111, 109], [116, 111], [98, 121], [116, 97, 115, 107], [120, 45, 121], [65], [35], [57, 57, 57, 57, 57, 57, 57, 57, 57]]
theorem firstL_le : ∀ t ∈ firstL, t.length ≤ 9 := by decide +kernel
theorem restL_le : ∀ t ∈ restL, t.length ≤ 9 := by decide +kernel
def ShortTo (w : World) (e : Ending) (w' : World) : Prop := ∃ t : ByteArray, e = .returned (.string t) ∧ t.size ≤ 200 ∧ Below w.heap.size w w'
set_option maxHeartbeats 4000000 in
theorem Line_any (s : ByteArray) (v : Value) (zs : List Int) (w : World) (hz : IntsAt w v zs) :
    Calls Tryz.prog 12 #[.string s, v, .bool false] w (ShortTo w) := by
  obtain ⟨A, cap, rfl, hzl, hc⟩ := hz
  unfold maxLen at hzl
  have O1 : StrAt (w.alloc (.cells #[.string ⟨#[114, 111, 108, 101]⟩, .string ⟨#[117, 115, 101, 114]⟩, .string ⟨#[112, 101, 114, 109]⟩, .string ⟨#[115, 115, 100]⟩, .string ⟨#[100, 115, 100]⟩, .string ⟨#[101, 120, 99, 108, 117, 115, 105, 118, 101]⟩, .string ⟨#[108, 101, 110, 100]⟩, .string ⟨#[115, 116, 97, 116, 101]⟩, .string ⟨#[111, 110]⟩, .string ⟨#[97, 117, 116, 111]⟩, .string ⟨#[97, 102, 116, 101, 114]⟩, .string ⟨#[114, 117, 108, 101]⟩] 9)) w.heap.size firstL := strAt_alloc w firstL _
  have O2 : StrAt ((w.alloc (.cells #[.string ⟨#[114, 111, 108, 101]⟩, .string ⟨#[117, 115, 101, 114]⟩, .string ⟨#[112, 101, 114, 109]⟩, .string ⟨#[115, 115, 100]⟩, .string ⟨#[100, 115, 100]⟩, .string ⟨#[101, 120, 99, 108, 117, 115, 105, 118, 101]⟩, .string ⟨#[108, 101, 110, 100]⟩, .string ⟨#[115, 116, 97, 116, 101]⟩, .string ⟨#[111, 110]⟩, .string ⟨#[97, 117, 116, 111]⟩, .string ⟨#[97, 102, 116, 101, 114]⟩, .string ⟨#[114, 117, 108, 101]⟩] 9)).alloc (.cells #[.string ⟨#[114, 97]⟩, .string ⟨#[114, 98]⟩, .string ⟨#[114, 99]⟩, .string ⟨#[62]⟩, .string ⟨#[50]⟩, .string ⟨#[49]⟩, .string ⟨#[48]⟩, .string ⟨#[51]⟩, .string ⟨#[112, 108, 97, 105, 110]⟩, .string ⟨#[97, 108, 108]⟩, .string ⟨#[112, 97, 115, 116]⟩, .string ⟨#[100, 101, 101, 112]⟩, .string ⟨#[105, 110]⟩, .string ⟨#[102, 114, 111, 109]⟩, .string ⟨#[116, 111]⟩, .string ⟨#[98, 121]⟩, .string ⟨#[116, 97, 115, 107]⟩, .string ⟨#[120, 45, 121]⟩, .string ⟨#[65]⟩, .string ⟨#[35]⟩, .string ⟨#[57, 57, 57, 57, 57, 57, 57, 57, 57]⟩] 9)) (w.heap.size + 1) restL := (by simp : ((w.alloc (.cells #[.string ⟨#[114, 111, 108, 101]⟩, .string ⟨#[117, 115, 101, 114]⟩, .string ⟨#[112, 101, 114, 109]⟩, .string ⟨#[115, 115, 100]⟩, .string ⟨#[100, 115, 100]⟩, .string ⟨#[101, 120, 99, 108, 117, 115, 105, 118, 101]⟩, .string ⟨#[108, 101, 110, 100]⟩, .string ⟨#[115, 116, 97, 116, 101]⟩, .string ⟨#[111, 110]⟩, .string ⟨#[97, 117, 116, 111]⟩, .string ⟨#[97, 102, 116, 101, 114]⟩, .string ⟨#[114, 117, 108, 101]⟩] 9)).heap.size = w.heap.size + 1)) ▸ strAt_alloc (w.alloc (.cells #[.string ⟨#[114, 111, 108, 101]⟩, .string ⟨#[117, 115, 101, 114]⟩, .string ⟨#[112, 101, 114, 109]⟩, .string ⟨#[115, 115, 100]⟩, .string ⟨#[100, 115, 100]⟩, .string ⟨#[101, 120, 99, 108, 117, 115, 105, 118, 101]⟩, .string ⟨#[108, 101, 110, 100]⟩, .string ⟨#[115, 116, 97, 116, 101]⟩, .string ⟨#[111, 110]⟩, .string ⟨#[97, 117, 116, 111]⟩, .string ⟨#[97, 102, 116, 101, 114]⟩, .string ⟨#[114, 117, 108, 101]⟩] 9)) restL _
  have O1' : StrAt ((w.alloc (.cells #[.string ⟨#[114, 111, 108, 101]⟩, .string ⟨#[117, 115, 101, 114]⟩, .string ⟨#[112, 101, 114, 109]⟩, .string ⟨#[115, 115, 100]⟩, .string ⟨#[100, 115, 100]⟩, .string ⟨#[101, 120, 99, 108, 117, 115, 105, 118, 101]⟩, .string ⟨#[108, 101, 110, 100]⟩, .string ⟨#[115, 116, 97, 116, 101]⟩, .string ⟨#[111, 110]⟩, .string ⟨#[97, 117, 116, 111]⟩, .string ⟨#[97, 102, 116, 101, 114]⟩, .string ⟨#[114, 117, 108, 101]⟩] 9)).alloc (.cells #[.string ⟨#[114, 97]⟩, .string ⟨#[114, 98]⟩, .string ⟨#[114, 99]⟩, .string ⟨#[62]⟩, .string ⟨#[50]⟩, .string ⟨#[49]⟩, .string ⟨#[48]⟩, .string ⟨#[51]⟩, .string ⟨#[112, 108, 97, 105, 110]⟩, .string ⟨#[97, 108, 108]⟩, .string ⟨#[112, 97, 115, 116]⟩, .string ⟨#[100, 101, 101, 112]⟩, .string ⟨#[105, 110]⟩, .string ⟨#[102, 114, 111, 109]⟩, .string ⟨#[116, 111]⟩, .string ⟨#[98, 121]⟩, .string ⟨#[116, 97, 115, 107]⟩, .string ⟨#[120, 45, 121]⟩, .string ⟨#[65]⟩, .string ⟨#[35]⟩, .string ⟨#[57, 57, 57, 57, 57, 57, 57, 57, 57]⟩] 9)) w.heap.size firstL := O1.kept (World.grownBy_alloc _ _ none) (by simp)
  have HO1 := Lib.hid O1'
  have HO2 := Lib.hid O2
  have HC := Lib.hid hc
  clear O1 O2 O1' hc
  go_enter Tryz.func12, Tryz.ntmps12
  go_wp2
  go_loop [9, 10] (fun t i => ∃ (k : Nat) (T : ByteArray), k ≤ 9 ∧ i = .int .i64 k ∧ t = .string T ∧ T.size ≤ 11 * k) (fun _ i => 9 - (intOf i).toNat)
  case atStart => exact ⟨0, ByteArray.empty, by omega, rfl, rfl, by simp⟩
  case round =>
    obtain ⟨k, T, hk, rfl, rfl, hT⟩ := hrel
    by_cases hkz : k < zs.length ∧ k < 9
    · obtain ⟨b, off, rfl, hb, hx, hwf⟩ := HC.out k hkz.1
      have g1 : decide (k < zs.length) = true := by simp [hkz.1]
      have g2 : decide ((k : Int) < 9) = true := by simp; omega
      have hx2 : ((w.alloc (.cells #[.string ⟨#[114, 111, 108, 101]⟩, .string ⟨#[117, 115, 101, 114]⟩, .string ⟨#[112, 101, 114, 109]⟩, .string ⟨#[115, 115, 100]⟩, .string ⟨#[100, 115, 100]⟩, .string ⟨#[101, 120, 99, 108, 117, 115, 105, 118, 101]⟩, .string ⟨#[108, 101, 110, 100]⟩, .string ⟨#[115, 116, 97, 116, 101]⟩, .string ⟨#[111, 110]⟩, .string ⟨#[97, 117, 116, 111]⟩, .string ⟨#[97, 102, 116, 101, 114]⟩, .string ⟨#[114, 117, 108, 101]⟩] 9)).alloc (.cells #[.string ⟨#[114, 97]⟩, .string ⟨#[114, 98]⟩, .string ⟨#[114, 99]⟩, .string ⟨#[62]⟩, .string ⟨#[50]⟩, .string ⟨#[49]⟩, .string ⟨#[48]⟩, .string ⟨#[51]⟩, .string ⟨#[112, 108, 97, 105, 110]⟩, .string ⟨#[97, 108, 108]⟩, .string ⟨#[112, 97, 115, 116]⟩, .string ⟨#[100, 101, 101, 112]⟩, .string ⟨#[105, 110]⟩, .string ⟨#[102, 114, 111, 109]⟩, .string ⟨#[116, 111]⟩, .string ⟨#[98, 121]⟩, .string ⟨#[116, 97, 115, 107]⟩, .string ⟨#[120, 45, 121]⟩, .string ⟨#[65]⟩, .string ⟨#[35]⟩, .string ⟨#[57, 57, 57, 57, 57, 57, 57, 57, 57]⟩] 9)).cell? ⟨b, off + k, none⟩ = some (.int .i64 zs[k]) := (World.cell?_alloc_lt _ _ _ (by simp; omega)).trans ((World.cell?_alloc_lt _ _ _ hb).trans hx)
      have e0 : IntKind.i64.wrap ((k : Int) + 1) = (k : Int) + 1 := by rw [IntKind.wrap_i64]; omega
      generalize zs[k] = z at *
      by_cases h0 : k = 0
      · subst h0
        simp only [Nat.add_zero] at hx2
        have hw := within_bd z 12 (by omega)
        obtain ⟨j, hj⟩ : ∃ j : Nat, within z 12 = j := ⟨(within z 12).toNat, by omega⟩
        have hw2 := fun W => Within_any z 12 W hwf (by omega) (by omega)
        rw [hj] at hw2 hw
        have hjl : j < firstL.length := by show j < 12; omega
        have hcell := HO1.out j hjl
        have hle := firstL_le _ (List.getElem_mem hjl)
        have hsz : (bs firstL[j]).size ≤ 9 := hle
        generalize bs firstL[j] = X at *
        have HW2 := Lib.hid hw2
        clear hw2 hj hle
        have hj2 : (j : Int) < 12 := by omega
        go_wp2_with (go_at_call 13; refine (HW2.out _).mono ?_; rintro e w1 ⟨rfl, rfl⟩)
        go_round
        case rel => exact ⟨1, T ++ X, by omega, by go_num, rfl, by rw [ByteArray.size_append]; omega⟩
        case measure => simp [intOf]
      · have g3 : ((k : Int) == 0) = false := by simp; omega
        have hw := within_bd z 21 (by omega)
        obtain ⟨j, hj⟩ : ∃ j : Nat, within z 21 = j := ⟨(within z 21).toNat, by omega⟩
        have hw2 := fun W => Within_any z 21 W hwf (by omega) (by omega)
        rw [hj] at hw2 hw
        have hjl : j < restL.length := by show j < 21; omega
        have hcell := HO2.out j hjl
        have hle := restL_le _ (List.getElem_mem hjl)
        have hsz : (bs restL[j]).size ≤ 9 := hle
        generalize bs restL[j] = X at *
        have HW2 := Lib.hid hw2
        clear hw2 hj hle
        have hj2 : (j : Int) < 21 := by omega
        have hl1 : (⟨#[32]⟩ : ByteArray).size = 1 := rfl
        by_cases hr : z.tmod 11 = 10
        · have g4 : (z.tmod 11 == 10) = true := by simp [hr]
          have HR := Lib.hid hr
          clear hr
          go_wp2_with (go_at_call 13; refine (HW2.out _).mono ?_; rintro e w1 ⟨rfl, rfl⟩)
          go_round
          case rel => exact ⟨k + 1, T ++ ⟨#[32]⟩ ++ ⟨#[32]⟩ ++ X, by omega, by go_num, rfl, by simp only [ByteArray.size_append, hl1]; omega⟩
          case measure => simp [intOf]; omega
        · have g4 : (z.tmod 11 == 10) = false := by simp [hr]
          go_wp2_with (go_at_call 13; refine (HW2.out _).mono ?_; rintro e w1 ⟨rfl, rfl⟩)
          go_round
          case rel => exact ⟨k + 1, T ++ ⟨#[32]⟩ ++ X, by omega, by go_num, rfl, by simp only [ByteArray.size_append, hl1]; omega⟩
          case measure => simp [intOf]; omega
    · have HK : T.size ≤ 99 := by omega
      have hB : Below w.heap.size w ((w.alloc (.cells #[.string ⟨#[114, 111, 108, 101]⟩, .string ⟨#[117, 115, 101, 114]⟩, .string ⟨#[112, 101, 114, 109]⟩, .string ⟨#[115, 115, 100]⟩, .string ⟨#[100, 115, 100]⟩, .string ⟨#[101, 120, 99, 108, 117, 115, 105, 118, 101]⟩, .string ⟨#[108, 101, 110, 100]⟩, .string ⟨#[115, 116, 97, 116, 101]⟩, .string ⟨#[111, 110]⟩, .string ⟨#[97, 117, 116, 111]⟩, .string ⟨#[97, 102, 116, 101, 114]⟩, .string ⟨#[114, 117, 108, 101]⟩] 9)).alloc (.cells #[.string ⟨#[114, 97]⟩, .string ⟨#[114, 98]⟩, .string ⟨#[114, 99]⟩, .string ⟨#[62]⟩, .string ⟨#[50]⟩, .string ⟨#[49]⟩, .string ⟨#[48]⟩, .string ⟨#[51]⟩, .string ⟨#[112, 108, 97, 105, 110]⟩, .string ⟨#[97, 108, 108]⟩, .string ⟨#[112, 97, 115, 116]⟩, .string ⟨#[100, 101, 101, 112]⟩, .string ⟨#[105, 110]⟩, .string ⟨#[102, 114, 111, 109]⟩, .string ⟨#[116, 111]⟩, .string ⟨#[98, 121]⟩, .string ⟨#[116, 97, 115, 107]⟩, .string ⟨#[120, 45, 121]⟩, .string ⟨#[65]⟩, .string ⟨#[35]⟩, .string ⟨#[57, 57, 57, 57, 57, 57, 57, 57, 57]⟩] 9)) := ((Below.refl _ _).alloc (Nat.le_refl _) _).alloc (by simp) _
      have HB := Lib.hid hB
      clear hB
      by_cases hkl : k < zs.length
      · have g1 : decide (k < zs.length) = true := by simp [hkl]
        have g2 : decide ((k : Int) < 9) = false := by simp; omega
        go_wp2
        go_ret
        exact ⟨T, rfl, by omega, HB.out⟩
      · have g1 : decide (k < zs.length) = false := by simp [hkl]
        go_wp2
        go_ret
        exact ⟨T, rfl, by omega, HB.out⟩

theorem strSl_of {w : World} {base : Nat} {A : Option Addr} {c : Nat} {l : List Tx} (h : OwnL w base (.slice A l.length c) l) : l.length ≤ c ∧ ∀ j (hj : j < l.length), ∃ g, A = some ⟨g, 0, none⟩ ∧ base ≤ g ∧ g < w.heap.size ∧ w.cell? ⟨g, j, none⟩ = some (.string (bs l[j])) := by
  by_cases h0 : 0 < l.length
  · obtain ⟨g, cap, hv, hb, hl, hc, hcells⟩ := own_form h h0
    cases hv
    exact ⟨hc, fun j hj => ⟨g, rfl, hb, hl, hcells j _ (by simp [scells, hj])⟩⟩
  · exact ⟨by omega, fun j hj => by omega⟩
set_option maxHeartbeats 1000000 in
theorem Same_eq (l : List Tx) (A B : Option Addr) (ca cb : Nat) (w : World) (hl : l.length ≤ 9223372036854775807) (ha : l.length ≤ ca) (hb : l.length ≤ cb)
    (h1 : ∀ j (hj : j < l.length), ∃ g, A = some ⟨g, 0, none⟩ ∧ w.cell? ⟨g, j, none⟩ = some (.string (bs l[j]))) (h2 : ∀ j (hj : j < l.length), ∃ g, B = some ⟨g, 0, none⟩ ∧ w.cell? ⟨g, j, none⟩ = some (.string (bs l[j]))) :
    Calls Tryz.prog 23 #[.slice A l.length ca, .slice B l.length cb] w fun e w' => e = .returned (.bool true) ∧ Below w.heap.size w w' := by
  have H1 := Lib.hid h1
  have H2 := Lib.hid h2
  clear h1 h2
  go_enter Tryz.func23, Tryz.ntmps23
  go_wp2
  go_loopw [5] (fun i wr => ∃ k : Nat, k ≤ l.length ∧ i = .int .i64 k ∧ ∃ n, wr = w.drewN n) (fun i _ => l.length - (intOf i).toNat)
  case atStart => exact ⟨0, Nat.zero_le _, rfl, 0, rfl⟩
  case round =>
    obtain ⟨k, hk, rfl, n, rfl⟩ := hrel
    by_cases hlt : k < l.length
    · obtain ⟨g, rfl, x1⟩ := H1.out k hlt
      obtain ⟨g', rfl, x2⟩ := H2.out k hlt
      generalize bs l[k] = X at *
      have hb1 : (X.toList != X.toList) = false := by simp
      go_wp2
      go_quiet (fail)
      go_wp2
      go_roundw
      case rel => exact ⟨k + 1, by omega, by go_num, _, rfl⟩
      case measure => simp [intOf]; omega
    · go_wp2
      go_ret
      exact ⟨rfl, below_drewN (Below.refl _ _) _⟩
end Go.Proofs.YtlbhgjilgdmedaaGreatDoor
