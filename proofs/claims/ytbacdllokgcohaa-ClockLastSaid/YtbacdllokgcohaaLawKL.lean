/-
  ClockLast: what would be due behind the end of time never is; at the end it is: the walk.
-/
import Derived.Test.YtbacdllokgcohaaCk3
import Derived.Test.YtbacdllokgcohaaSameL
namespace Go.Proofs.Ytbacdllokgcohaa
set_option maxRecDepth 100000
open Go.ChangeShapes Go.WideShapes Go.ChangeAt Go.RowKit

abbrev sl (g n : Nat) : Value := .slice (some ⟨g, 0, none⟩) n n
theorem kl_mem (T : Int) (w : World) : TAt (((((w.alloc (.cells #[.string (bs [115]), .string (bs [116])] 9)).alloc (.cells #[.int .i64 1, .int .i64 1] 3)).alloc (.cells #[.int .i64 (-1), .int .i64 (-1)] 3)).alloc (.cells #[.int .i64 11, .int .i64 0, .int .i64 1, .string (bs []), .string (bs []), .string (bs []), .int .i64 T, .int .i64 11, .int .i64 1, .int .i64 0, .string (bs []), .string (bs []), .string (bs []), .int .i64 1] 32)).alloc (.cells #[sl w.heap.size 2, sl (w.heap.size + 1) 2, sl (w.heap.size + 1 + 1) 2, sl (w.heap.size + 1 + 1 + 1) 2] 28)) (some ⟨w.heap.size + 1 + 1 + 1, 0, none⟩) (lastT T) ∧ (((((w.alloc (.cells #[.string (bs [115]), .string (bs [116])] 9)).alloc (.cells #[.int .i64 1, .int .i64 1] 3)).alloc (.cells #[.int .i64 (-1), .int .i64 (-1)] 3)).alloc (.cells #[.int .i64 11, .int .i64 0, .int .i64 1, .string (bs []), .string (bs []), .string (bs []), .int .i64 T, .int .i64 11, .int .i64 1, .int .i64 0, .string (bs []), .string (bs []), .string (bs []), .int .i64 1] 32)).alloc (.cells #[sl w.heap.size 2, sl (w.heap.size + 1) 2, sl (w.heap.size + 1 + 1) 2, sl (w.heap.size + 1 + 1 + 1) 2] 28)).heap[w.heap.size + 1 + 1 + 1 + 1]? = some (.cells #[sl w.heap.size 2, sl (w.heap.size + 1) 2, sl (w.heap.size + 1 + 1) 2, sl (w.heap.size + 1 + 1 + 1) 2] 28 (0, 0)) ∧ Below w.heap.size w (((((w.alloc (.cells #[.string (bs [115]), .string (bs [116])] 9)).alloc (.cells #[.int .i64 1, .int .i64 1] 3)).alloc (.cells #[.int .i64 (-1), .int .i64 (-1)] 3)).alloc (.cells #[.int .i64 11, .int .i64 0, .int .i64 1, .string (bs []), .string (bs []), .string (bs []), .int .i64 T, .int .i64 11, .int .i64 1, .int .i64 0, .string (bs []), .string (bs []), .string (bs []), .int .i64 1] 32)).alloc (.cells #[sl w.heap.size 2, sl (w.heap.size + 1) 2, sl (w.heap.size + 1 + 1) 2, sl (w.heap.size + 1 + 1 + 1) 2] 28)) := by
  have b3 : Below w.heap.size w (((w.alloc (.cells #[.string (bs [115]), .string (bs [116])] 9)).alloc (.cells #[.int .i64 1, .int .i64 1] 3)).alloc (.cells #[.int .i64 (-1), .int .i64 (-1)] 3)) := (((Below.refl _ _).alloc (Nat.le_refl _) _).alloc (by simp) _).alloc (by simp; omega) _
  have z3 : (((w.alloc (.cells #[.string (bs [115]), .string (bs [116])] 9)).alloc (.cells #[.int .i64 1, .int .i64 1] 3)).alloc (.cells #[.int .i64 (-1), .int .i64 (-1)] 3)).heap.size = w.heap.size + 1 + 1 + 1 := by simp
  generalize (((w.alloc (.cells #[.string (bs [115]), .string (bs [116])] 9)).alloc (.cells #[.int .i64 1, .int .i64 1] 3)).alloc (.cells #[.int .i64 (-1), .int .i64 (-1)] 3)) = w3 at *
  have o4 : OwnT (w3.alloc (.cells #[.int .i64 11, .int .i64 0, .int .i64 1, .string (bs []), .string (bs []), .string (bs []), .int .i64 T, .int .i64 11, .int .i64 1, .int .i64 0, .string (bs []), .string (bs []), .string (bs []), .int .i64 1] 32)) w.heap.size (sl w3.heap.size 2) (lastT T) := World.ownsRow_lit w3 (tcells (lastT T)).toArray 2 (by omega) (by unfold maxLen; omega) rfl
  rw [z3] at o4
  have z4 : (w3.alloc (.cells #[.int .i64 11, .int .i64 0, .int .i64 1, .string (bs []), .string (bs []), .string (bs []), .int .i64 T, .int .i64 11, .int .i64 1, .int .i64 0, .string (bs []), .string (bs []), .string (bs []), .int .i64 1] 32)).heap.size = w.heap.size + 1 + 1 + 1 + 1 := by simp [z3]
  have b4 : Below w.heap.size w (w3.alloc (.cells #[.int .i64 11, .int .i64 0, .int .i64 1, .string (bs []), .string (bs []), .string (bs []), .int .i64 T, .int .i64 11, .int .i64 1, .int .i64 0, .string (bs []), .string (bs []), .string (bs []), .int .i64 1] 32)) := b3.alloc (by omega) _
  generalize w3.alloc (.cells #[.int .i64 11, .int .i64 0, .int .i64 1, .string (bs []), .string (bs []), .string (bs []), .int .i64 T, .int .i64 11, .int .i64 1, .int .i64 0, .string (bs []), .string (bs []), .string (bs []), .int .i64 1] 32) = w4 at *
  have r5 := heap_alloc_new w4 (.cells #[sl w.heap.size 2, sl (w.heap.size + 1) 2, sl (w.heap.size + 1 + 1) 2, sl (w.heap.size + 1 + 1 + 1) 2] 28)
  rw [z4] at r5
  exact ⟨(tAt_of o4).below (box_b w4 _), r5, b4.alloc (by omega) _⟩
def klS (T S : Int) (k : Nat) : Int := [0, S, 1073741824 - T, 1073741824].getD k 0
theorem klS_bd {T S : Int} (hT1 : 1 ≤ T) (hT2 : T ≤ 1073741824) (hS1 : 0 ≤ S) (hS2 : S ≤ 1073741824) {k : Nat} (hk : k < 4) : 0 ≤ klS T S k ∧ klS T S k ≤ 1073741824 := by
  rcases (by omega : k = 0 ∨ k = 1 ∨ k = 2 ∨ k = 3) with rfl | rfl | rfl | rfl
  · show (0 : Int) ≤ 0 ∧ (0 : Int) ≤ 1073741824; omega
  · exact ⟨hS1, hS2⟩
  · show 0 ≤ 1073741824 - T ∧ 1073741824 - T ≤ 1073741824; omega
  · show (0 : Int) ≤ 1073741824 ∧ (1073741824 : Int) ≤ 1073741824; omega
theorem klS_cell (T S : Int) {k : Nat} (hk : k < 4) : (#[Value.int .i64 0, .int .i64 S, .int .i64 (1073741824 - T), .int .i64 1073741824])[k]? = some (.int .i64 (klS T S k)) := by
  rcases (by omega : k = 0 ∨ k = 1 ∨ k = 2 ∨ k = 3) with rfl | rfl | rfl | rfl <;> rfl
set_option maxHeartbeats 8000000 in
theorem last_walk (w : World) (a : Int) (ha : (Lit.int .i64 a).wf = true) (b : Int) (hb : (Lit.int .i64 b).wf = true) :
    Calls Try.prog 6 #[.int .i64 a, .int .i64 b] w (TrueOn w) := by
  have WA := fun W => Within_any a 1073741824 W ha (by omega) (by omega)
  have WB := fun W => Within_any b 1073741825 W hb (by omega) (by omega)
  have h1 := within_bd a 1073741824 (by omega)
  have h2 := within_bd b 1073741825 (by omega)
  obtain ⟨T, hT⟩ : ∃ T, within a 1073741824 = T - 1 := ⟨within a 1073741824 + 1, by omega⟩
  rw [hT] at WA h1
  obtain ⟨S, hS⟩ : ∃ S, within b 1073741825 = S := ⟨_, rfl⟩
  rw [hS] at WB h2
  have hT1 : 1 ≤ T := by omega
  have hT2 : T ≤ 1073741824 := by omega
  have hS2 : S ≤ 1073741824 := by omega
  have hS1 := h2.1
  have eT : IntKind.i64.wrap (1 + (T - 1)) = T := by rw [IntKind.wrap_i64]; omega
  have eU : IntKind.i64.wrap (1073741824 - T) = 1073741824 - T := by rw [IntKind.wrap_i64]; omega
  have WA := Lib.hid WA
  have WB := Lib.hid WB
  clear h1 h2 hT hS ha hb
  go_enter Try.func6, Try.ntmps6
  go_upto_region 3 with (go_at_call 13; refine (WA.out _).mono ?_; rintro e w1 ⟨rfl, rfl⟩)
  obtain ⟨hTA, hRC, hB5⟩ := kl_mem T w
  have HW5 : ∃ W, W = (((((w.alloc (.cells #[.string (bs [115]), .string (bs [116])] 9)).alloc (.cells #[.int .i64 1, .int .i64 1] 3)).alloc (.cells #[.int .i64 (-1), .int .i64 (-1)] 3)).alloc (.cells #[.int .i64 11, .int .i64 0, .int .i64 1, .string (bs []), .string (bs []), .string (bs []), .int .i64 T, .int .i64 11, .int .i64 1, .int .i64 0, .string (bs []), .string (bs []), .string (bs []), .int .i64 1] 32)).alloc (.cells #[sl w.heap.size 2, sl (w.heap.size + 1) 2, sl (w.heap.size + 1 + 1) 2, sl (w.heap.size + 1 + 1 + 1) 2] 28)) ∧ Hid (TAt W (some ⟨w.heap.size + 1 + 1 + 1, 0, none⟩) (lastT T)) ∧ Hid (W.heap[w.heap.size + 1 + 1 + 1 + 1]? = some (.cells #[sl w.heap.size 2, sl (w.heap.size + 1) 2, sl (w.heap.size + 1 + 1) 2, sl (w.heap.size + 1 + 1 + 1) 2] 28 (0, 0))) ∧ Hid (Below w.heap.size w W) := ⟨_, rfl, hTA, hRC, hB5⟩
  clear hTA hRC hB5
  obtain ⟨w5, hw5, HTA, HRC, HB5⟩ := HW5
  have hw6 := hw5.symm
  simp only [bs] at hw6
  go_must (rw [hw6])
  clear hw5 hw6 WA
  go_upto_region 4 with (go_at_call 13; refine (WB.out _).mono ?_; rintro e w1 ⟨rfl, rfl⟩)
  have hbx := box_b w5 (.cells #[.int .i64 0, .int .i64 S, .int .i64 (1073741824 - T), .int .i64 1073741824] 3)
  have HRL := Lib.hid (heap_alloc_new w5 (.cells #[.int .i64 0, .int .i64 S, .int .i64 (1073741824 - T), .int .i64 1073741824] 3))
  have HB6 := Lib.hid (below_then HB5.out hbx HB5.out.size)
  have HTA6 := Lib.hid (HTA.out.below hbx)
  have hb4 := (Array.getElem?_eq_some_iff.1 HRC.out).1
  have HRC6 : Hid ((w5.alloc (.cells #[.int .i64 0, .int .i64 S, .int .i64 (1073741824 - T), .int .i64 1073741824] 3)).heap[w.heap.size + 1 + 1 + 1 + 1]? = _) := (heap_alloc_old _ _ hb4).trans HRC.out
  clear hbx HRC HTA HB5 WB
  have hg5 : w.heap.size < w5.heap.size := by omega
  generalize w5.heap.size = gL at *
  generalize w5.alloc (.cells #[.int .i64 0, .int .i64 S, .int .i64 (1073741824 - T), .int .i64 1073741824] 3) = w6 at *
  go_loopw [28] (fun i W => ∃ k : Nat, k ≤ 4 ∧ i = .int .i64 k ∧ Hid (Below w6.heap.size w6 W)) (fun i _ => 4 - (intOf i).toNat)
  case atStart => exact ⟨0, by omega, rfl, Below.refl _ _⟩
  case round =>
    obtain ⟨k, hk, rfl, HB⟩ := hrel
    have HBW := Lib.hid (below_then HB6.out HB.out HB6.out.size)
    by_cases hlt : k < 4
    case neg =>
      have ek : k = 4 := by omega
      subst ek
      have WK := Lib.hid (wakes10 wr)
      go_wp2_with (go_at_call 19; refine WK.out.mono ?_; rintro e w9 ⟨rfl, hb9⟩)
      go_ret
      exact ⟨rfl, below_then HBW.out hb9 HBW.out.size⟩
    have hs := klS_bd hT1 hT2 hS1 hS2 hlt
    have q0 := ((cell_of_row _ _ k _ _ _ ((HB.out.block _ (Array.getElem?_eq_some_iff.1 HRL.out).1).trans HRL.out)).trans (klS_cell T S hlt))
    have hRCw := (HB.out.block _ (Array.getElem?_eq_some_iff.1 HRC6.out).1).trans HRC6.out
    have c0 := cell_of_row _ _ 0 _ _ _ hRCw; have c1 := cell_of_row _ _ 1 _ _ _ hRCw; have c2 := cell_of_row _ _ 2 _ _ _ hRCw; have c3 := cell_of_row _ _ 3 _ _ _ hRCw
    have hTw := HTA6.out.below HB.out
    generalize klS T S k = s at *
    obtain ⟨hs0, hs1⟩ := hs
    have hki : (k : Int) < 4 := by omega
    have OF := Lib.hid (Of_last s T (some ⟨w.heap.size, 0, none⟩) (some ⟨w.heap.size + 1, 0, none⟩) (some ⟨w.heap.size + 1 + 1, 0, none⟩) (some ⟨w.heap.size + 1 + 1 + 1, 0, none⟩) 2 2 2 2 2 2 2 (wr.heap.size + 1) (sl wr.heap.size 2) ((wr.alloc (.cells #[.int .u32 0, .int .u32 0] 33)).alloc (.cells #[.int .i64 s, .int .i64 0] 3)) hs0 hs1 (by omega) hT2 (hTw.below (((Below.refl _ _).alloc (Nat.le_refl _) _).alloc (by simp) _)) (by simp) (by
      have r := heap_alloc_new (wr.alloc (.cells #[.int .u32 0, .int .u32 0] 33)) (.cells #[.int .i64 s, .int .i64 0] 3)
      have e : (wr.alloc (.cells #[.int .u32 0, .int .u32 0] 33)).heap.size = wr.heap.size + 1 := by simp
      rw [e] at r
      exact cell_of_row _ _ 0 _ _ _ r))
    have hbz := HB.out.size
    have HBP : Hid (Below wr.heap.size wr ((wr.alloc (.cells #[.int .u32 0, .int .u32 0] 33)).alloc (.cells #[.int .i64 s, .int .i64 0] 3))) := ((Below.refl _ _).alloc (Nat.le_refl _) _).alloc (by simp) _
    clear hRCw hTw
    go_upto_region 7 with (go_at_call 18; refine OF.out.mono ?_; rintro e w9 ⟨hb9, h9⟩; have HB9 := Lib.hid (below_then HBP.out hb9 HBP.out.size); clear hb9; obtain ⟨v9, rfl, H9⟩ : ∃ v9, e = .returned v9 ∧ Hid (if s + T ≤ 1073741824 then ∃ g c, v9 = .slice (some ⟨g, 0, none⟩) 1 c ∧ w9.ownsRow ((wr.alloc (.cells #[.int .u32 0, .int .u32 0] 33)).alloc (.cells #[.int .i64 s, .int .i64 0] 3)).heap.size 56 3 (.slice (some ⟨g, 0, none⟩) 1 c) 1 (dcell (s + T) [100] 0) else ∃ c, v9 = .slice none 0 c) := (by
      by_cases hx : s + T ≤ 1073741824
      · rw [if_pos hx] at h9
        obtain ⟨g, c, rfl, ho⟩ := h9
        exact ⟨_, rfl, (show (if _ then _ else _) from by rw [if_pos hx]; exact ⟨g, c, rfl, ho⟩)⟩
      · rw [if_neg hx] at h9
        obtain ⟨c, rfl⟩ := h9
        exact ⟨_, rfl, (show (if _ then _ else _) from by rw [if_neg hx]; exact ⟨c, rfl⟩)⟩); clear h9)
    have HBn := Lib.hid (below_then HB.out HB9.out hbz)
    have eS : IntKind.i64.wrap (s + T) = s + T := by rw [IntKind.wrap_i64]; omega
    clear c0 c1 c2 c3 q0 OF HBP HB9
    by_cases hx : s + T ≤ 1073741824
    · have h9 := H9.out
      rw [if_pos hx] at h9
      obtain ⟨g, c, rfl, ho⟩ := h9
      obtain ⟨g', c', e', _, _, _, hc⟩ := own_form ho (by omega)
      injection e' with e1 e2 e3
      injection e1 with e1
      injection e1 with e1
      subst e1
      have d0 := hc 0 _ rfl; have d1 : w9.cell? ⟨g, 1, none⟩ = some (.string ⟨#[100]⟩) := hc 1 _ rfl
      have d2 := hc 2 _ rfl
      have hle : s ≤ 1073741824 - T := by omega
      clear H9 hc ho e2 e3 hx
      go_wp2
      go_roundw
      case rel => exact ⟨k + 1, by omega, by go_num, HBn.out⟩
      case measure => simp [intOf]; omega
    · have h9 := H9.out
      rw [if_neg hx] at h9
      obtain ⟨c, rfl⟩ := h9
      have hle : ¬ s ≤ 1073741824 - T := by omega
      clear H9 hx
      go_wp2
      go_roundw
      case rel => exact ⟨k + 1, by omega, by go_num, HBn.out⟩
      case measure => simp [intOf]; omega
end Go.Proofs.Ytbacdllokgcohaa
