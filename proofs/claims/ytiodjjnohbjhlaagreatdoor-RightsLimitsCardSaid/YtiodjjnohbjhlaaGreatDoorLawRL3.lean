/-
  RightsLimits: as many as may be, and no more: the walk, at 3 (printed by gen_rl.py).
-/
import Derived.Test.YtiodjjnohbjhlaaGreatDoorRef01b
import Derived.Test.YtiodjjnohbjhlaaGreatDoorRlp
import Derived.Test.YtiodjjnohbjhlaaGreatDoorRt5
import Derived.Test.YtiodjjnohbjhlaaGreatDoorDT0
import Derived.Deep.DeepMust
namespace Go.Proofs.YtiodjjnohbjhlaaGreatDoor
set_option maxRecDepth 100000
open Go.ChangeShapes Go.WideShapes Go.ChangeAt Go.RowKit

set_option maxHeartbeats 8000000 in
theorem rlimits3 (w : World) (a b : Int) (ha : (Lit.int .i64 a).wf = true) (hb : (Lit.int .i64 b).wf = true) (hg : HandleAt w) (ht : TabAt w) (hv : within b 6 = 3) :
    Calls Tryz.prog 4 #[.int .i64 a, .int .i64 b] w (TrueOn w) := by
  have hwa := fun W => Within_any a 3 W ha (by omega) (by omega)
  have hwb := fun W => Within_any b 6 W hb (by omega) (by omega)
  have h1 := within_bd a 3 (by omega)
  obtain ⟨N, hN⟩ : ∃ N : Nat, within a 3 = (N : Int) - 7 := ⟨(7 + within a 3).toNat, by omega⟩
  rw [hv] at hwb
  rw [hN] at hwa h1
  have HWA := Lib.hid hwa
  have HWB := Lib.hid hwb
  have HG := Lib.hid hg
  have HT := Lib.hid ht
  have ena : IntKind.i64.wrap (7 + ((N : Int) - 7)) = N := by rw [IntKind.wrap_i64]; omega
  obtain ⟨i0, hi, hz0, hz1, hz2⟩ := info_parts Tryz.infoRule
  clear hwa hwb hv hN hg ht
  go_enter Tryz.func4, Tryz.ntmps4
  go_upto_region 9 with (first
    | (go_at_call_of 18 (Value.int .i64 b); refine (HWB.out _).mono ?_; rintro e w1 ⟨rfl, rfl⟩)
    | (go_at_call_of 18 (Value.int .i64 a); refine (HWA.out _).mono ?_; rintro e w1 ⟨rfl, rfl⟩))
  clear ena HWA HWB
  have HR0 : Hid (RowsAt ((w.alloc (.cells #[.int .i64 12, .int .i64 24, .int .i64 8, .int .i64 8, .int .i64 8, .int .i64 24] 3)).alloc (.cells #[.int .i64 1, .string ⟨#[114, 45, 97]⟩, .slice none 0 0, .int .i64 0, .int .i64 0, .string ⟨#[]⟩, .string ⟨#[]⟩, .string ⟨#[]⟩, .string ⟨#[]⟩, .string ⟨#[]⟩, .int .i64 1, .int .i64 1, .string ⟨#[114, 45, 98]⟩, .slice none 0 0, .int .i64 0, .int .i64 0, .string ⟨#[]⟩, .string ⟨#[]⟩, .string ⟨#[]⟩, .string ⟨#[]⟩, .string ⟨#[]⟩, .int .i64 2] 39)) w.heap.size (.slice (some ⟨w.heap.size + 1, 0, none⟩) 2 2) [(({ kind := 1, name := [114, 45, 97] } : Ru), 1, Value.slice none 0 0), (({ kind := 1, name := [114, 45, 98] } : Ru), 2, Value.slice none 0 0)]) := by
    refine ⟨?_, fun x hx => ?_⟩
    · have h := World.ownsRow_lit (w.alloc (.cells #[.int .i64 12, .int .i64 24, .int .i64 8, .int .i64 8, .int .i64 8, .int .i64 24] 3)) (e := 39) (size := 11) #[.int .i64 1, .string ⟨#[114, 45, 97]⟩, .slice none 0 0, .int .i64 0, .int .i64 0, .string ⟨#[]⟩, .string ⟨#[]⟩, .string ⟨#[]⟩, .string ⟨#[]⟩, .string ⟨#[]⟩, .int .i64 1, .int .i64 1, .string ⟨#[114, 45, 98]⟩, .slice none 0 0, .int .i64 0, .int .i64 0, .string ⟨#[]⟩, .string ⟨#[]⟩, .string ⟨#[]⟩, .string ⟨#[]⟩, .string ⟨#[]⟩, .int .i64 2] 2 (base := w.heap.size) (by simp) (by unfold maxLen; omega) (by simp)
      rw [show (w.alloc (.cells #[.int .i64 12, .int .i64 24, .int .i64 8, .int .i64 8, .int .i64 8, .int .i64 24] 3)).heap.size = w.heap.size + 1 by simp] at h
      exact h
    · simp only [List.mem_cons, List.mem_nil_iff, or_false] at hx
      rcases hx with rfl | rfl <;> exact World.ownsRow_nil _ _ _ _
  have HB0 : Hid (Below w.heap.size w ((w.alloc (.cells #[.int .i64 12, .int .i64 24, .int .i64 8, .int .i64 8, .int .i64 8, .int .i64 24] 3)).alloc (.cells #[.int .i64 1, .string ⟨#[114, 45, 97]⟩, .slice none 0 0, .int .i64 0, .int .i64 0, .string ⟨#[]⟩, .string ⟨#[]⟩, .string ⟨#[]⟩, .string ⟨#[]⟩, .string ⟨#[]⟩, .int .i64 1, .int .i64 1, .string ⟨#[114, 45, 98]⟩, .slice none 0 0, .int .i64 0, .int .i64 0, .string ⟨#[]⟩, .string ⟨#[]⟩, .string ⟨#[]⟩, .string ⟨#[]⟩, .string ⟨#[]⟩, .int .i64 2] 39))) := below_then (rbox w _) (rbox _ _) (by simp)
  generalize (w.alloc (.cells #[.int .i64 12, .int .i64 24, .int .i64 8, .int .i64 8, .int .i64 8, .int .i64 24] 3)).alloc (.cells #[.int .i64 1, .string ⟨#[114, 45, 97]⟩, .slice none 0 0, .int .i64 0, .int .i64 0, .string ⟨#[]⟩, .string ⟨#[]⟩, .string ⟨#[]⟩, .string ⟨#[]⟩, .string ⟨#[]⟩, .int .i64 1, .int .i64 1, .string ⟨#[114, 45, 98]⟩, .slice none 0 0, .int .i64 0, .int .i64 0, .string ⟨#[]⟩, .string ⟨#[]⟩, .string ⟨#[]⟩, .string ⟨#[]⟩, .string ⟨#[]⟩, .int .i64 2] 39) = w1 at *
  go_loopw [7, 9] (fun l i wr => ∃ (k : Nat) (acc : List RL), k ≤ N ∧ i = .int .i64 k ∧ Hid (acc.length = 2 + k) ∧ Hid (acc.map er = limR 3 k) ∧ Hid (RowsAt wr w.heap.size l acc) ∧ Hid (Below w.heap.size w wr)) (fun _ i _ => N - (intOf i).toNat)
  case atStart => exact ⟨0, [(({ kind := 1, name := [114, 45, 97] } : Ru), 1, Value.slice none 0 0), (({ kind := 1, name := [114, 45, 98] } : Ru), 2, Value.slice none 0 0)], Nat.zero_le _, rfl, rfl, rfl, HR0.out, HB0.out⟩
  case round =>
    clear HR0 HB0
    obtain ⟨k, acc, hk, rfl, HAL, HE, HW, HB⟩ := hrel
    have hbz := HB.out.size
    obtain ⟨AL, cL, rfl⟩ := own_slice HW.out.1
    have hal : acc.length ≤ 30 := by have := HAL.out; omega
    by_cases hlt : k < N
    · have hki : (k : Int) < N := by omega
      have hcv : ∀ W b cap, W.cell? ⟨b, 0, none⟩ = some (.int .u8 (97 + (k : Int) % 26)) → W.cell? ⟨b, 1, none⟩ = some (.int .u8 (97 + (k : Int) / 26)) → (convert 47 9 (.slice (some ⟨b, 0, none⟩) 2 cap)).run Tryz.prog W = .ok (.string (bs [byteOf (97 + k % 26), byteOf (97 + k / 26)])) W := fun W b cap hc hd => by
        have h := conv_two W b cap _ _ (by omega) (by omega) (by omega) (by omega) hc hd
        have e1 : (97 + (k : Int) % 26).toNat = 97 + k % 26 := by omega
        have e2 : (97 + (k : Int) / 26).toNat = 97 + k / 26 := by omega
        rw [e1, e2] at h
        exact h
      have enk : IntKind.i64.wrap (3 + (k : Int)) = 3 + k := by rw [IntKind.wrap_i64]; omega
      go_upto_region 13 with fail
      have RA : Hid ((((wr.alloc (.cells #[.int .u8 (97 + (k : Int) % 26), .int .u8 (97 + (k : Int) / 26)] 5)).alloc (.cells #[.int .i64 2, .int .i64 3, .int .i64 4, .int .i64 5, .int .i64 6, .int .i64 1] 3)).alloc (.cells #[.int .i64 5, .string ⟨#[]⟩, .slice none 0 0, .int .i64 0, .int .i64 0, .string ⟨#[]⟩, .string ⟨#[]⟩, .string ⟨#[]⟩, .string ⟨#[]⟩, .string ⟨#[]⟩, .int .i64 (3 + (k : Int))] 39)).heap[wr.heap.size + 2]? = some (.cells #[.int .i64 5, .string ⟨#[]⟩, .slice none 0 0, .int .i64 0, .int .i64 0, .string ⟨#[]⟩, .string ⟨#[]⟩, .string ⟨#[]⟩, .string ⟨#[]⟩, .string ⟨#[]⟩, .int .i64 (3 + (k : Int))] 39 (0, 0))) := by
        have h := heap_alloc_new ((wr.alloc (.cells #[.int .u8 (97 + (k : Int) % 26), .int .u8 (97 + (k : Int) / 26)] 5)).alloc (.cells #[.int .i64 2, .int .i64 3, .int .i64 4, .int .i64 5, .int .i64 6, .int .i64 1] 3)) (.cells #[.int .i64 5, .string ⟨#[]⟩, .slice none 0 0, .int .i64 0, .int .i64 0, .string ⟨#[]⟩, .string ⟨#[]⟩, .string ⟨#[]⟩, .string ⟨#[]⟩, .string ⟨#[]⟩, .int .i64 (3 + (k : Int))] 39)
        rw [show ((wr.alloc (.cells #[.int .u8 (97 + (k : Int) % 26), .int .u8 (97 + (k : Int) / 26)] 5)).alloc (.cells #[.int .i64 2, .int .i64 3, .int .i64 4, .int .i64 5, .int .i64 6, .int .i64 1] 3)).heap.size = wr.heap.size + 2 by simp] at h
        exact h
      have HBA : Hid (Below wr.heap.size wr (((wr.alloc (.cells #[.int .u8 (97 + (k : Int) % 26), .int .u8 (97 + (k : Int) / 26)] 5)).alloc (.cells #[.int .i64 2, .int .i64 3, .int .i64 4, .int .i64 5, .int .i64 6, .int .i64 1] 3)).alloc (.cells #[.int .i64 5, .string ⟨#[]⟩, .slice none 0 0, .int .i64 0, .int .i64 0, .string ⟨#[]⟩, .string ⟨#[]⟩, .string ⟨#[]⟩, .string ⟨#[]⟩, .string ⟨#[]⟩, .int .i64 (3 + (k : Int))] 39))) := below_then (below_then (rbox wr _) (rbox _ _) (by simp)) (rbox _ _) (by simp; omega)
      have hnm : (⟨#[120]⟩ ++ bs [byteOf (97 + k % 26), byteOf (97 + k / 26)]) = bs (nmL2 k) := by
        rw [show (⟨#[120]⟩ : ByteArray) = bs [120] from rfl, bs_append]; rfl
      rw [hnm]
      obtain ⟨rb, hrb⟩ : ∃ rb, rb = wr.heap.size + 2 := ⟨_, rfl⟩
      have hrb2 : wr.heap.size ≤ rb := by omega
      rw [← hrb] at RA
      generalize ((wr.alloc (.cells #[.int .u8 (97 + (k : Int) % 26), .int .u8 (97 + (k : Int) / 26)] 5)).alloc (.cells #[.int .i64 2, .int .i64 3, .int .i64 4, .int .i64 5, .int .i64 6, .int .i64 1] 3)).alloc (.cells #[.int .i64 5, .string ⟨#[]⟩, .slice none 0 0, .int .i64 0, .int .i64 0, .string ⟨#[]⟩, .string ⟨#[]⟩, .string ⟨#[]⟩, .string ⟨#[]⟩, .string ⟨#[]⟩, .int .i64 (3 + (k : Int))] 39) = w2 at *
      have hrl : rb < w2.heap.size := (Array.getElem?_eq_some_iff.1 RA.out).1
      try rw [show wr.heap.size + 1 + 1 = rb from hrb.symm]
      try rw [show wr.heap.size + 2 = rb from hrb.symm]
      clear hcv hnm hrb
      have RA2 := row_below RA.out (rbox w2 (.cells #[.string ⟨#[114, 45, 97]⟩, .string ⟨#[114, 45, 98]⟩] 9))
      have y2 := row_q2 RA2
      have f2 := row_fz RA2 2
      have y3 := row_q3 RA2
      have f3 := row_fz RA2 3
      have R3a : (w2.setCell ⟨rb, 3, none⟩ (.int .i64 2)).heap[rb]? = some (.cells #[.int .i64 5, .string ⟨#[]⟩, Value.slice none 0 0, .int .i64 2, .int .i64 0, .string ⟨#[]⟩, .string ⟨#[]⟩, .string ⟨#[]⟩, .string ⟨#[]⟩, .string ⟨#[]⟩, .int .i64 (3 + (k : Int))] 39 (0, 0)) := by
        have h := heap_set (j := 3) RA.out (.int .i64 2)
        simpa using h
      have RA3 := row_below R3a (rbox (w2.setCell ⟨rb, 3, none⟩ (.int .i64 2)) (.cells #[.string ⟨#[114, 45, 97]⟩, .string ⟨#[114, 45, 98]⟩] 9))
      have y2b := row_q2 RA3
      have f2b := row_fz RA3 2
      go_upto_region 21 with fail
      have R3b : ((w2.setCell ⟨rb, 3, none⟩ (.int .i64 2)).setCell ⟨rb, 2, none⟩ (.slice (some ⟨w2.heap.size, 0, none⟩) 2 2)).heap[rb]? = some (.cells #[.int .i64 5, .string ⟨#[]⟩, Value.slice (some ⟨w2.heap.size, 0, none⟩) 2 2, .int .i64 2, .int .i64 0, .string ⟨#[]⟩, .string ⟨#[]⟩, .string ⟨#[]⟩, .string ⟨#[]⟩, .string ⟨#[]⟩, .int .i64 (3 + (k : Int))] 39 (0, 0)) := by
        have h := heap_set (j := 2) R3a (.slice (some ⟨w2.heap.size, 0, none⟩) 2 2)
        simpa using h
      have hb3a : Below wr.heap.size wr (w2.setCell ⟨rb, 3, none⟩ (.int .i64 2)) := HBA.out.grown (grown_setCell _ _ _ _) HBA.out.size (fun j e => by cases e; exact hrb2)
      have hb3b : Below wr.heap.size wr ((w2.setCell ⟨rb, 3, none⟩ (.int .i64 2)).setCell ⟨rb, 2, none⟩ (.slice (some ⟨w2.heap.size, 0, none⟩) 2 2)) := hb3a.grown (grown_setCell _ _ _ _) hb3a.size (fun j e => by cases e; exact hrb2)
      clear y2b f2b RA3 R3a hb3a
      have R3 := row_below R3b (rbox _ (.cells #[.string ⟨#[114, 45, 97]⟩, .string ⟨#[114, 45, 98]⟩] 9))
      have hb3 := below_then hb3b (rbox _ (.cells #[.string ⟨#[114, 45, 97]⟩, .string ⟨#[114, 45, 98]⟩] 9)) hb3b.size
      have hsz : ((w2.setCell ⟨rb, 3, none⟩ (.int .i64 2)).setCell ⟨rb, 2, none⟩ (.slice (some ⟨w2.heap.size, 0, none⟩) 2 2)).heap.size = w2.heap.size := by simp [World.setCell]
      have OL3 : Hid (OwnL (((w2.setCell ⟨rb, 3, none⟩ (.int .i64 2)).setCell ⟨rb, 2, none⟩ (.slice (some ⟨w2.heap.size, 0, none⟩) 2 2)).alloc (.cells #[.string ⟨#[114, 45, 97]⟩, .string ⟨#[114, 45, 98]⟩] 9)) w.heap.size (.slice (some ⟨w2.heap.size, 0, none⟩) 2 2) [[114, 45, 97], [114, 45, 98]]) := by
        have h := World.ownsRow_lit ((w2.setCell ⟨rb, 3, none⟩ (.int .i64 2)).setCell ⟨rb, 2, none⟩ (.slice (some ⟨w2.heap.size, 0, none⟩) 2 2)) (e := 9) (size := 1) #[.string ⟨#[114, 45, 97]⟩, .string ⟨#[114, 45, 98]⟩] 2 (base := w.heap.size) (Nat.le_trans hbz hb3b.size) (by unfold maxLen; omega) (by simp)
        rw [hsz] at h
        exact h
      clear y2 f2 y3 f3 RA2 R3b hb3b hsz
      generalize hw2s : w2.heap.size = sz2 at *
      clear hw2s
      generalize ((w2.setCell ⟨rb, 3, none⟩ (.int .i64 2)).setCell ⟨rb, 2, none⟩ (.slice (some ⟨sz2, 0, none⟩) 2 2)).alloc (.cells #[.string ⟨#[114, 45, 97]⟩, .string ⟨#[114, 45, 98]⟩] 9) = w3 at *
      have HW3 := Lib.hid (HW.out.below hb3 hbz)
      have HB3 := Lib.hid (below_then HB.out hb3 hbz)
      have hbz3 := HB3.out.size
      have p0 := row_q0 R3; have p1 := row_q1 R3; have p2 := row_q2 R3; have p3 := row_q3 R3; have p4 := row_q4 R3; have p5 := row_q5 R3; have p6 := row_q6 R3; have p7 := row_q7 R3; have p8 := row_q8 R3; have p9 := row_q9 R3; have p10 := row_q10 R3
      have HCE : Hid (rcell (({ kind := 5, n := 2, list := [[114, 45, 97], [114, 45, 98]] } : Ru), 3 + k, Value.slice (some ⟨sz2, 0, none⟩) 2 2) = [.int .i64 5, .string ⟨#[]⟩, Value.slice (some ⟨sz2, 0, none⟩) 2 2, .int .i64 2, .int .i64 0, .string ⟨#[]⟩, .string ⟨#[]⟩, .string ⟨#[]⟩, .string ⟨#[]⟩, .string ⟨#[]⟩, .int .i64 (3 + (k : Int))]) := by
        show _ = _
        unfold rcell
        rw [show ((3 + k : Nat) : Int) = 3 + (k : Int) by omega]
        rfl
      clear R3 RA HBA HW HB hb3
      go_wp2_with (at_builtin; go_must (refine wpList_append_own _ rfl (.tmp 72) (.tmp 74) 25 rfl w.heap.size 39 i0 _ 11 152 Tryz.underlying25 hi hz0 hz1 hz2 rfl (by decide) _ _ _ rfl (HW3.out.1.alloc _) ⟨w3.heap.size, 0, none⟩ 1 1 [.int .i64 5, .string ⟨#[]⟩, Value.slice (some ⟨sz2, 0, none⟩) 2 2, .int .i64 2, .int .i64 0, .string ⟨#[]⟩, .string ⟨#[]⟩, .string ⟨#[]⟩, .string ⟨#[]⟩, .string ⟨#[]⟩, .int .i64 (3 + (k : Int))] rfl rfl (cells_new _ _ _) (by intro u hu; simp at hu; rcases hu with rfl | rfl | rfl | rfl | rfl | rfl | rfl | rfl | rfl | rfl | rfl <;> rfl) (by unfold maxLen; omega) (by omega) (by simp; omega) ?_); intro v' w4 hown' hg' _)
      have hg2 : (w3.alloc (.cells #[.int .i64 5, .string ⟨#[]⟩, Value.slice (some ⟨sz2, 0, none⟩) 2 2, .int .i64 2, .int .i64 0, .string ⟨#[]⟩, .string ⟨#[]⟩, .string ⟨#[]⟩, .string ⟨#[]⟩, .string ⟨#[]⟩, .int .i64 (3 + (k : Int))] 39)).grownBy w4 (Value.slice AL acc.length cL).ownBlock := hg'
      have HB5 : Hid (Below w.heap.size w w4) := (HB3.out.alloc hbz3 _).grown hg2 (by simp; omega) (fun g hg => (HW3.out.1.lt g hg).1)
      clear hg'
      have HN : Hid (RowsAt w4 w.heap.size v' (acc ++ [(({ kind := 5, n := 2, list := [[114, 45, 97], [114, 45, 98]] } : Ru), 3 + k, Value.slice (some ⟨sz2, 0, none⟩) 2 2)])) := by
        have hO := World.ownsRow.alloc HW3.out.1 (.cells #[.int .i64 5, .string ⟨#[]⟩, Value.slice (some ⟨sz2, 0, none⟩) 2 2, .int .i64 2, .int .i64 0, .string ⟨#[]⟩, .string ⟨#[]⟩, .string ⟨#[]⟩, .string ⟨#[]⟩, .string ⟨#[]⟩, .int .i64 (3 + (k : Int))] 39)
        refine ⟨?_, fun x hx => ?_⟩
        · rw [rcells_snoc, List.length_append, HCE.out]
          exact hown'
        · have hxo : OwnL w3 w.heap.size x.2.2 x.1.list := by
            rcases List.mem_append.1 hx with hx | hx
            · exact HW3.out.2 x hx
            · rw [List.mem_singleton.1 hx]; exact OL3.out
          exact World.ownsRow.kept (World.ownsRow.alloc hxo _) hg2 (own_apart (World.ownsRow.alloc hxo _) hO)
      have HE2 : Hid ((acc ++ [(({ kind := 5, n := 2, list := [[114, 45, 97], [114, 45, 98]] } : Ru), 3 + k, Value.slice (some ⟨sz2, 0, none⟩) 2 2)]).map er = limR 3 (k + 1)) := by
        show _ = _
        rw [limR_succ, ← HE.out, List.map_append]
        rfl
      have HAL2 : Hid ((acc ++ [(({ kind := 5, n := 2, list := [[114, 45, 97], [114, 45, 98]] } : Ru), 3 + k, Value.slice (some ⟨sz2, 0, none⟩) 2 2)]).length = 2 + (k + 1)) := by show _ = _; rw [List.length_append, HAL.out]; rfl
      clear hown' HW3 hg2
      go_roundw
      case rel => exact ⟨k + 1, _, by omega, by go_num, HAL2, HE2, HN, HB5⟩
      case measure => simp [intOf]; omega
    · have hkn : k = N := by omega
      subst hkn
      have hki : ¬ (k : Int) < k := by omega
      have CB : Hid (Calls Tryz.prog 10 #[.slice AL acc.length cL] wr (RcTo (some (rtL (limR 3 k))) wr)) := by
        have hsm : ∀ x ∈ acc, Small x.1 ∧ x.1.list.length ≤ 4096 := fun x hx => by
          have hm : er x ∈ limR 3 k := by rw [← HE.out]; exact List.mem_map_of_mem hx
          exact limR_small _ hm
        have h := RComp_any acc AL cL wr (rIn_of HW.out) (by omega) (own_cap HW.out.1) (fun x hx => (hsm x hx).1) (fun x hx => (hsm x hx).2) (fun x hx B c e => own_LIn (by rw [← e]; exact HW.out.2 x hx)) (HG.out.below' HB.out) (HT.out.below HB.out)
        rw [HE.out, rtR_ok (rl_ok (by omega) (by omega))] at h
        exact h
      clear HE HW HAL hal hk hlt
      by_cases hno : k = 9
      · have hle : ¬ (k : Int) ≤ 8 := by omega
        have CE : Hid (Calls Tryz.prog 10 #[.slice AL acc.length cL] wr (RcTo (some (.bad 11 5)) wr)) := by
          have h := CB.out
          have e : rtL (limR 3 k) = .bad 11 5 := by rw [hno]; exact rl_no (v := 3) (by omega)
          rw [e] at h
          exact h
        clear CB hno
        go_upto_region 25 with (go_at_call 10; refine CE.out.mono ?_; rintro e w5 ⟨hb5, fb, rfl, hf1, hf2, hF⟩; have HF := Lib.hid hF; have HB5 := Lib.hid (below_then HB.out hb5 hbz); clear hb5 hF)
        have KA := Lib.hid (keepAt fb 11 1 5 w5 HF.out (HG.out.below' HB5.out))
        go_upto_region 26 with (go_at_call 19; refine KA.out.mono ?_; rintro e w6 ⟨rfl, hb6⟩; have HB6 := Lib.hid (below_then HB5.out hb6 HB5.out.size); have KI := Lib.hid (keepIs (.iface 94 (.pointer (some ⟨fb, 0, none⟩))) 5 5 w6 (.inr ⟨fb, 0, rfl, (fault_keep HF.out hf2 hb6).2.2⟩) (by omega) (by omega)); clear hb6)
        have WK := Lib.hid (wakes11 w6 (HG.out.below' HB6.out) (HT.out.below HB6.out))
        go_wp2_with (first
          | (go_at_call 20; refine KI.out.mono ?_; rintro e w7 ⟨rfl, rfl⟩)
          | (go_at_call 11; refine WK.out.mono ?_; rintro e w8 ⟨rfl, hb8⟩))
        go_ret
        exact ⟨rfl, below_then HB6.out hb8 HB6.out.size⟩
      · have hle : (k : Int) ≤ 8 := by omega
        obtain ⟨c, hc⟩ : ∃ c, rtL (limR 3 k) = .ok c := by
          rcases (by omega : k = 7 ∨ k = 8) with rfl | rfl
          · exact rl_yes (v := 3) (d := 0) (by omega) (by omega)
          · exact rl_yes (v := 3) (d := 1) (by omega) (by omega)
        obtain ⟨cn, cp, cr⟩ := c
        have CE : Hid (Calls Tryz.prog 10 #[.slice AL acc.length cL] wr (RcTo (some (.ok (cn, cp, cr))) wr)) := by
          have h := CB.out
          rw [hc] at h
          exact h
        clear CB hno hc
        go_upto_region 24 with (go_at_call 10; refine CE.out.mono ?_; rintro e w5 ⟨hb5, rb, rfl, _⟩; have HB5 := Lib.hid (below_then HB.out hb5 hbz); clear hb5)
        have WK := Lib.hid (wakes11 w5 (HG.out.below' HB5.out) (HT.out.below HB5.out))
        go_wp2_with (go_at_call 11; refine WK.out.mono ?_; rintro e w8 ⟨rfl, hb8⟩)
        go_ret
        exact ⟨rfl, below_then HB5.out hb8 HB5.out.size⟩
end Go.Proofs.YtiodjjnohbjhlaaGreatDoor
