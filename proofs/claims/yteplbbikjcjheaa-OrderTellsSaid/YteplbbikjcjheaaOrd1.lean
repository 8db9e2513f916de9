/-
  Package order: twice, circle, follow.
-/
import Derived.Test.YteplbbikjcjheaaIdx
import Derived.Test.YteplbbikjcjheaaBits
import Derived.BigRegion
import Derived.Maps.Range
namespace Go.Proofs.Yteplbbikjcjheaa
set_option maxRecDepth 100000
open Go.ChangeShapes Go.WideShapes Go.ChangeAt Go.RowKit

theorem ListAt.take {w : World} {A : Option Addr} {c : Nat} {l : List Tx} (h : ListAt w A c l) (k : Nat) : ListAt w A c (l.take k) :=
  ⟨by have := h.1; rw [List.length_take]; omega,
   fun j hj => by
    have hj' : j < l.length := by rw [List.length_take] at hj; omega
    obtain ⟨g, e, hl, hc⟩ := h.2 j hj'
    exact ⟨g, e, hl, by rw [hc]; simp⟩⟩
theorem Contains_take (l : List Tx) (x : Tx) (k : Nat) (A : Option Addr) (c : Nat) (w : World) (h : ListAt w A c l) (hl : l.length ≤ 1000000) (hk : k ≤ l.length) :
    Calls Try.prog 55 #[.slice A k c, .string (bs x)] w fun e w' => e = .returned (.bool (decide (x ∈ l.take k))) ∧ w = w' := by
  have e : (l.take k).length = k := by rw [List.length_take]; omega
  have := Contains_str (l.take k) x A c w (h.take k) (by omega)
  rwa [e] at this
theorem nodup_next {l : List Tx} {k : Nat} (h : k < l.length) : (l.take (k + 1)).Nodup ↔ (l.take k).Nodup ∧ l[k] ∉ l.take k := by
  rw [List.take_succ_eq_append_getElem h, List.nodup_append]
  constructor
  · rintro ⟨a, _, c⟩
    exact ⟨a, fun hm => c _ hm _ (List.mem_singleton.2 rfl) rfl⟩
  · rintro ⟨a, b⟩
    exact ⟨a, by simp, fun x hx y hy e => b (by rw [List.mem_singleton] at hy; rw [← hy, ← e]; exact hx)⟩
theorem nodup_take {l : List Tx} (h : l.Nodup) (k : Nat) : (l.take k).Nodup := h.sublist (List.take_sublist _ _)
set_option maxHeartbeats 1000000 in
theorem twice_any (l : List Tx) (A : Option Addr) (c : Nat) (w : World) (h : ListAt w A c l) (hl : l.length ≤ 1000) :
    Calls Try.prog 39 #[.slice A l.length c] w fun e w' => e = .returned (.bool (!decide l.Nodup)) ∧ w = w' := by
  have HL := Lib.hid h
  have hc := h.1
  clear h
  go_enter Try.func39, Try.ntmps39
  go_wp2
  go_loop [7] (fun i => ∃ k : Nat, k ≤ l.length ∧ i = .int .i64 k ∧ Hid ((l.take k).Nodup)) (fun i => l.length - (intOf i).toNat)
  case atStart => exact ⟨0, Nat.zero_le _, rfl, by show List.Nodup _; simp⟩
  case round =>
    obtain ⟨k, hk, rfl, HI⟩ := hrel
    by_cases hlt : k < l.length
    · obtain ⟨g, rfl, _, hx⟩ := HL.out.2 k hlt
      have HC := Lib.hid (Contains_take l l[k] k (some ⟨g, 0, none⟩) c w HL.out (by omega) hk)
      have HN := Lib.hid (nodup_next hlt)
      by_cases hm : l[k] ∈ l.take k
      · have HD : Hid (decide l.Nodup = false) := by
          show _ = _
          rw [decide_eq_false_iff_not]
          exact fun hn => ((HN.out.1 (nodup_take hn (k + 1))).2 hm)
        rw [decide_eq_true hm] at HC
        clear hm HN
        generalize bs l[k] = y at *
        go_wp2_with (go_at_call 55; refine HC.out.mono ?_; rintro e w1 ⟨rfl, rfl⟩)
        go_ret
        exact ⟨ret_bool (by rw [HD.out]; rfl), rfl⟩
      · have HT : Hid ((l.take (k + 1)).Nodup) := HN.out.2 ⟨HI.out, hm⟩
        rw [decide_eq_false hm] at HC
        clear hm HN
        generalize bs l[k] = y at *
        go_wp2_with (go_at_call 55; refine HC.out.mono ?_; rintro e w1 ⟨rfl, rfl⟩)
        go_round
        case rel => exact ⟨k + 1, by omega, by go_num, HT⟩
        case measure => simp [intOf]; omega
    · have HD : Hid (decide l.Nodup = true) := by
        show _ = _
        have := HI.out
        rw [List.take_of_length_le (by omega)] at this
        exact decide_eq_true this
      go_wp2
      go_ret
      exact ⟨ret_bool (by rw [HD.out]; rfl), rfl⟩

theorem circ_any {bl : List Nat} {k : Nat} (h : k < bl.length) (hr : rel bl k k = true) : circ bl = true := by
  unfold circ; rw [List.any_eq_true]; exact ⟨k, List.mem_range.2 h, hr⟩
theorem circ_no {bl : List Nat} (h : ∀ j, j < bl.length → rel bl j j = false) : circ bl = false := by
  unfold circ; rw [List.any_eq_false]; intro x hx; rw [h x (List.mem_range.1 hx)]; simp
theorem lo_32 {bl : List Nat} (h : Lo bl) (i : Nat) : bl.getD i 0 < 4294967296 := Nat.lt_trans (h i) (by omega)
set_option maxHeartbeats 1000000 in
theorem circle_any (bl : List Nat) (base g : Nat) (w : World) (h : UL w base g bl) (hlo : Lo bl) (hl : bl.length ≤ 24) :
    Calls Try.prog 42 #[.slice (some ⟨g, 0, none⟩) bl.length bl.length] w fun e w' => e = .returned (.bool (circ bl)) ∧ w = w' := by
  have HL := Lib.hid h
  have HLO := Lib.hid hlo
  clear h hlo
  go_enter Try.func42, Try.ntmps42
  go_wp2
  go_loop [7] (fun i => ∃ k : Nat, k ≤ bl.length ∧ i = .int .i64 k ∧ Hid (∀ j, j < k → rel bl j j = false)) (fun i => bl.length - (intOf i).toNat)
  case atStart => exact ⟨0, Nat.zero_le _, rfl, fun j hj => by omega⟩
  case round =>
    obtain ⟨k, hk, rfl, HI⟩ := hrel
    by_cases hlt : k < bl.length
    · have hx := ul_cell HL.out hlt
      have HH := Lib.hid (has_any (bl.getD k 0) k w (lo_32 HLO.out k) (by omega))
      by_cases hm : rel bl k k = true
      · have HD := Lib.hid (circ_any hlt hm)
        rw [show (bl.getD k 0).testBit k = true from hm] at HH
        clear hm
        generalize bl.getD k 0 = y at *
        go_wp2_with (go_at_call 47; refine HH.out.mono ?_; rintro e w1 ⟨rfl, rfl⟩)
        go_ret
        exact ⟨ret_bool HD.out.symm, rfl⟩
      · have hm' : rel bl k k = false := by simpa using hm
        have HT : Hid (∀ j, j < k + 1 → rel bl j j = false) := fun j hj => by
          by_cases e : j = k
          · rw [e]; exact hm'
          · exact HI.out j (by omega)
        rw [show (bl.getD k 0).testBit k = false from hm'] at HH
        clear hm hm'
        generalize bl.getD k 0 = y at *
        go_wp2_with (go_at_call 47; refine HH.out.mono ?_; rintro e w1 ⟨rfl, rfl⟩)
        go_round
        case rel => exact ⟨k + 1, by omega, by go_num, HT⟩
        case measure => simp [intOf]; omega
    · have HD := Lib.hid (circ_no (bl := bl) (fun j hj => HI.out j (by omega)))
      go_wp2
      go_ret
      exact ⟨ret_bool HD.out.symm, rfl⟩

/-! ### follow -/
theorem or_val (a b : Nat) (ha : a < 16777216) (hb : b < 16777216) : bits .or .u32 (a : Int) (b : Int) = ((a ||| b : Nat) : Int) := u32_or_nat a b (by omega) (by omega)
def FolTo (bl : List Nat) (base g : Nat) (w : World) (e : Ending) (w' : World) : Prop := e = .returned (.tuple #[]) ∧ UL w' base g (folTo bl bl.length) ∧ w.grownBy w' (some g)
theorem put1_cell {m k : Nat} {cur : List Nat} (hr : rel cur k m = true) : put1 m k cur = cur.set k (cur.getD k 0 ||| cur.getD m 0) := by unfold put1; rw [if_pos hr]
theorem put1_same {m k : Nat} {cur : List Nat} (hr : rel cur k m = false) : put1 m k cur = cur := by unfold put1; rw [if_neg (by simp [hr])]
set_option maxHeartbeats 2000000 in
theorem follow_any (bl : List Nat) (base g : Nat) (w : World) (h : UL w base g bl) (hlo : Lo bl) (hl : bl.length ≤ 24) :
    Calls Try.prog 41 #[.slice (some ⟨g, 0, none⟩) bl.length bl.length] w (FolTo bl base g w) := by
  generalize hn : bl.length = n at *
  have HN := Lib.hid hn
  have H0 := Lib.hid h
  have HLO := Lib.hid hlo
  clear h hlo hn
  go_enter Try.func41, Try.ntmps41
  go_wp2
  go_loopw [6] (fun i wr => ∃ m : Nat, m ≤ n ∧ i = .int .i64 m ∧ Hid (UL wr base g (folTo bl m)) ∧ Hid (w.grownBy wr (some g))) (fun i _ => n - (intOf i).toNat)
  case atStart => exact ⟨0, Nat.zero_le _, rfl, H0.out, World.grownBy.refl _ _⟩
  case round =>
    obtain ⟨m, hm, rfl, HU, HG⟩ := hrel
    by_cases hlt : m < n
    · go_wp2
      go_loopw [11] (fun i wr => ∃ k : Nat, k ≤ n ∧ i = .int .i64 k ∧ Hid (UL wr base g (stepTo m (folTo bl m) k)) ∧ Hid (w.grownBy wr (some g))) (fun i _ => n - (intOf i).toNat)
      case atStart => exact ⟨0, Nat.zero_le _, rfl, HU, HG⟩
      case round =>
        obtain ⟨k, hk, rfl, HU2, HG2⟩ := hrel
        have hcl : (stepTo m (folTo bl m) k).length = n := by rw [stepTo_length, folTo_length, HN.out]
        by_cases hlk : k < n
        · have hlo2 := stepTo_lo (m := m) (folTo_lo HLO.out m) k (by rw [folTo_length, HN.out]; omega)
          have hs : stepTo m (folTo bl m) (k + 1) = put1 m k (stepTo m (folTo bl m) k) := rfl
          generalize stepTo m (folTo bl m) k = cur at *
          have x1 := ul_cell HU2.out (j := k) (by omega)
          have x2 := ul_cell HU2.out (j := m) (by omega)
          have f1 := ul_frozen HU2.out k
          have HH := Lib.hid (fun W => has_any (cur.getD k 0) m W (lo_32 hlo2 k) (by omega))
          by_cases hr : rel cur k m = true
          · rw [put1_cell hr] at hs
            have hst := ul_store HU2.out k (cur.getD k 0 ||| cur.getD m 0)
            rw [← hs] at hst
            have HST := Lib.hid hst
            have hv := or_val _ _ (hlo2 k) (hlo2 m)
            have HHT : Hid (∀ W, Calls Try.prog 47 #[.int .u32 (cur.getD k 0 : Nat), .int .i64 m] W fun e w' => e = .returned (.bool true) ∧ W = w') := fun W => by
              have := HH.out W
              rwa [show (cur.getD k 0).testBit m = true from hr] at this
            clear hr hs hst HH hcl hlo2
            generalize cur.getD k 0 ||| cur.getD m 0 = z at *
            generalize cur.getD k 0 = y at *
            generalize cur.getD m 0 = x at *
            go_wp2_with (go_at_call 47; refine (HHT.out _).mono ?_; rintro e w1 ⟨rfl, rfl⟩)
            go_region
            have hu3 : UL (wr.setCell ⟨g, k, none⟩ (.int .u32 z)).drew base g (stepTo m (folTo bl m) (k + 1)) := HST.out.1
            have hg3 : w.grownBy (wr.setCell ⟨g, k, none⟩ (.int .u32 z)).drew (some g) := grown_drew (HG2.out.andThen HST.out.2 (fun j e => .inr e))
            have HU3 := Lib.hid hu3
            have HG3 := Lib.hid hg3
            clear hu3 hg3 HST hv
            generalize (wr.setCell ⟨g, k, none⟩ (.int .u32 z)).drew = w3 at *
            go_wp2
            go_roundw
            case rel => exact ⟨k + 1, by omega, by go_num, HU3, HG3⟩
            case measure => simp [intOf]; omega
          · have hr' : rel cur k m = false := by simpa using hr
            rw [put1_same hr'] at hs
            have HU3 : Hid (UL wr base g (stepTo m (folTo bl m) (k + 1))) := by rw [hs]; exact HU2
            have HHF : Hid (∀ W, Calls Try.prog 47 #[.int .u32 (cur.getD k 0 : Nat), .int .i64 m] W fun e w' => e = .returned (.bool false) ∧ W = w') := fun W => by
              have := HH.out W
              rwa [show (cur.getD k 0).testBit m = false from hr'] at this
            clear hr hr' hs HH hcl hlo2 x2
            generalize cur.getD k 0 = y at *
            go_wp2_with (go_at_call 47; refine (HHF.out _).mono ?_; rintro e w1 ⟨rfl, rfl⟩)
            go_roundw
            case rel => exact ⟨k + 1, by omega, by go_num, HU3, HG2⟩
            case measure => simp [intOf]; omega
        · have HU3 : Hid (UL wr base g (folTo bl (m + 1))) := by
            have e : k = bl.length := by have := HN.out; omega
            have := HU2.out
            rw [e] at this
            exact this
          go_wp2
          go_roundw
          case rel => exact ⟨m + 1, by omega, by go_num, HU3, HG2⟩
          case measure => simp [intOf]; omega
    · have HU3 : Hid (UL wr base g (folTo bl bl.length)) := by
        have e : m = bl.length := by have := HN.out; omega
        have := HU.out
        rw [e] at this
        exact this
      go_wp2
      go_end0
      exact ⟨rfl, HU3.out, HG.out⟩
end Go.Proofs.Yteplbbikjcjheaa
