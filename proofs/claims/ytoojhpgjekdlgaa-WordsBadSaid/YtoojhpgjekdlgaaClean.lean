/-
  clean: a text without what may not be, as the statements of chapter 1 make it.
-/
import Derived.Test.YtoojhpgjekdlgaaKeep
import Derived.Lib.ConvBytes
namespace Go.Proofs.Ytoojhpgjekdlgaa
open Go.ChangeShapes Go.WideShapes Go.ChangeAt Go.RowKit

/-- a text as a new list of bytes -/
theorem conv_bytes (w : World) (s : ByteArray) : ∃ (w1 : World) (cap : Nat), (convert 9 34 (.string s)).run Try.prog w = .ok (.slice (some ⟨w.heap.size, 0, none⟩) s.size cap) w1 ∧
    Below w.heap.size w w1 ∧ w1.heap.size = w.heap.size + 1 ∧ ∀ k (h : k < s.size), w1.cell? ⟨w.heap.size, k, none⟩ = some (.int .u8 (s[k].toNat : Int)) := by
  refine ⟨_, _, Lib.run_convert_string_bytes (P := Try.prog) w 9 34 5 s Try.underlying9 Try.underlying34 Try.underlying5, ?_, Lib.bytesWorld_size _ _ _, ?_⟩
  · exact ⟨rfl, rfl, rfl, by rw [Lib.bytesWorld_size]; omega, fun k hk => Lib.bytesWorld_at_old _ _ _ _ hk⟩
  · intro k h
    rw [Lib.bytesWorld_cell _ _ _ _ h]
    have : s.data.toList.getD k 0 = s[k] := by
      rw [List.getD_eq_getElem?_getD, List.getElem?_eq_getElem (by simpa using h)]; rfl
    rw [this]
def goodB (b : UInt8) : Bool := decide (32 < b.toNat) && decide (b.toNat < 127) && (b.toNat != 35)
def keepL (l : List UInt8) : List UInt8 := 119 :: l.filter goodB
def cleanL (l : List UInt8) : List UInt8 := keepL (l.take 10)
theorem keepL_snoc (l : List UInt8) (b : UInt8) : keepL (l ++ [b]) = if goodB b = true then keepL l ++ [b] else keepL l := by
  unfold keepL; rw [List.filter_append]
  by_cases h : goodB b = true <;> simp [h]
theorem keepL_le (l : List UInt8) : (keepL l).length ≤ l.length + 1 := by
  have := List.length_filter_le goodB l; simp [keepL]; exact this
theorem byteOf_nat (b : UInt8) : byteOf (b.toNat : Int).toNat = b := by simp [byteOf]
set_option maxHeartbeats 1000000 in
theorem clean_any (s : ByteArray) (w : World) (hs : s.size ≤ maxLen) : Calls Try.prog 9 #[.string s] w (StrNew (cleanL s.data.toList) w) := by
  obtain ⟨w1, cap, hcv, hb1, hz1, hc1⟩ := conv_bytes w (bs (s.data.toList.take 10))
  have HC := Lib.hid hc1
  clear hc1
  have ht : (bs (s.data.toList.take 10)).size ≤ 10 := by rw [size_bs]; exact List.length_take_le _ _
  have HE : Hid (cleanL s.data.toList = keepL (bs (s.data.toList.take 10)).data.toList) := rfl
  have HX : Hid (bs (s.data.toList.take 10) = bs (s.data.toList.take 10)) := rfl
  generalize hT : bs (s.data.toList.take 10) = t at *
  have HT := Lib.hid hT
  clear hT HX
  have HZ := Lib.hid hz1
  have hz2 : w.heap.size < w1.heap.size := by omega
  clear hz1
  go_enter Try.func9, Try.ntmps9
  go_wp2_with (go_at_call 13; refine (Text_any _ 10 _ hs (by omega)).mono ?_; rintro e w2 ⟨rfl, rfl⟩; rw [HT.out])
  go_loopw [3, 10] (fun v i wr => ∃ k : Nat, k ≤ t.size ∧ i = .int .i64 k ∧ v = .string (bs (keepL (t.data.toList.take k))) ∧ Below w1.heap.size w1 wr) (fun _ i _ => t.size - (intOf i).toNat)
  case atStart => exact ⟨0, Nat.zero_le _, rfl, rfl, Below.refl _ _⟩
  case round =>
    obtain ⟨k, hk, rfl, rfl, hbr⟩ := hrel
    by_cases hlt : k < t.size
    · have hc : wr.cell? ⟨w.heap.size, k, none⟩ = some (.int .u8 (t[k].toNat : Int)) := (hbr.cell (p := ⟨w.heap.size, k, none⟩) hz2).trans (HC.out k hlt)
      have hsz : (bs (keepL (t.data.toList.take k))).size ≤ 11 := by have := keepL_le (t.data.toList.take k); rw [size_bs]; simp at this; omega
      have hsz1 : (bs [t[k]]).size ≤ 1 := Nat.le_refl _
      have hK := keepL_snoc (t.data.toList.take k) t[k]
      rw [← take_snoc t k hlt] at hK
      have hb0 : (t[k].toNat : Int) ≤ 255 := by have := UInt8.toNat_lt t[k]; omega
      by_cases hg : 32 < (t[k].toNat : Int) ∧ (t[k].toNat : Int) < 127 ∧ (t[k].toNat : Int) ≠ 35
      · have HK : Hid (keepL (t.data.toList.take (k + 1)) = keepL (t.data.toList.take k) ++ [t[k]]) := by
          show _ = _; rw [hK, if_pos]; simp [goodB]; omega
        clear hK
        obtain ⟨g1, g2, g3⟩ := hg
        have g4 : ((t[k].toNat : Int) != 35) = true := by rw [bne_iff_ne]; exact g3
        clear g3
        have hcv1 := fun W b cap => conv_one W b cap (t[k].toNat : Int) (by omega) hb0
        rw [byteOf_nat] at hcv1
        go_wp2
        go_roundw
        case rel => exact ⟨k + 1, by omega, by go_num, by rw [HK.out, ← bs_append], hbr.alloc hbr.size _⟩
        case measure => simp [intOf]; omega
      · have HK : Hid (keepL (t.data.toList.take (k + 1)) = keepL (t.data.toList.take k)) := by
          show _ = _; rw [hK, if_neg]; simp [goodB]; omega
        clear hK
        by_cases g1 : 32 < (t[k].toNat : Int)
        · by_cases g2 : (t[k].toNat : Int) < 127
          · have g4 : ((t[k].toNat : Int) != 35) = false := by
              rw [Bool.eq_false_iff]; intro h; rw [bne_iff_ne] at h; exact hg ⟨g1, g2, h⟩
            clear hg
            go_wp2
            go_roundw
            case rel => exact ⟨k + 1, by omega, by go_num, by rw [HK.out], hbr⟩
            case measure => simp [intOf]; omega
          · have g5 : decide ((t[k].toNat : Int) < 127) = false := by simpa using g2
            clear hg
            go_wp2
            go_roundw
            case rel => exact ⟨k + 1, by omega, by go_num, by rw [HK.out], hbr⟩
            case measure => simp [intOf]; omega
        · have g5 : decide (32 < (t[k].toNat : Int)) = false := by simpa using g1
          clear hg
          go_wp2
          go_roundw
          case rel => exact ⟨k + 1, by omega, by go_num, by rw [HK.out], hbr⟩
          case measure => simp [intOf]; omega
    · go_wp2
      go_ret
      exact ⟨ret_str (by rw [HE.out, List.take_of_length_le (by simp; omega)]), below_then hb1 hbr (by omega)⟩
end Go.Proofs.Ytoojhpgjekdlgaa
