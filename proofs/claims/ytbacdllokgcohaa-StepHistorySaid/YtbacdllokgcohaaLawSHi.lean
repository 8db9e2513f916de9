/-
  StepHistory: left and come back to by its history a state is in the one that was left last: the walk.
-/
import Derived.Test.YtbacdllokgcohaaCA
import Derived.Test.YtbacdllokgcohaaHi1
import Derived.Test.YtbacdllokgcohaaWk9
import Derived.Test.YtbacdllokgcohaaTk
namespace Go.Proofs.Ytbacdllokgcohaa
set_option maxRecDepth 100000
open Go.ChangeShapes Go.WideShapes Go.ChangeAt Go.RowKit

abbrev sl (g n : Nat) : Value := .slice (some ⟨g, 0, none⟩) n n
theorem Try.infoU9 : (Try.prog.info? 33).map (fun i => (i.zero, i.size, i.bytes)) = some (some (.int .u32 0), 1, 4) := by kernel_rfl
theorem ownU_app {X : World} {base : Nat} {v : Value} {l m : List Nat} {n : Nat} (hn : n = l.length + m.length) (h : X.ownsRow base 33 1 v n (ucl l ++ ucl m)) : OwnU X base v (l ++ m) := by
  subst hn; unfold OwnU; rw [List.length_append]; unfold ucl at *; rw [List.map_append]; exact h
theorem ownI_app2 {X : World} {base : Nat} {v : Value} {l m : List Int} {n : Nat} (hn : n = l.length + m.length) (h : X.ownsRow base 3 1 v n (icells l ++ icells m)) : OwnI X base v (l ++ m) := by
  subst hn; unfold OwnI; rw [List.length_append]; unfold icells at *; rw [List.map_append]; exact h
theorem ucl_oneA (l : List Nat) : ∀ u ∈ ucl l, u.oneCell' = true := by
  intro u hu
  obtain ⟨x, _, rfl⟩ := List.mem_map.1 hu
  rfl
abbrev zs (l : List Nat) : List Int := l.map fun k : Nat => (k : Int)
theorem hi_mem (deep : Bool) (w : World) : CA w (((((w.alloc (.cells #[.string (bs [111, 117, 116]), .string (bs [105, 110]), .string (bs [120]), .string (bs [121]), .string (bs [120, 49]), .string (bs [120, 50]), .string (bs [104])] 9)).alloc (.cells #[.int .i64 1, .int .i64 1, .int .i64 1, .int .i64 1, .int .i64 1, .int .i64 1, .int .i64 (cond deep 4 3)] 3)).alloc (.cells #[.int .i64 (-1), .int .i64 (-1), .int .i64 1, .int .i64 1, .int .i64 2, .int .i64 2, .int .i64 1] 3)).alloc (.cells #[sl w.heap.size 7, sl (w.heap.size + 1) 7, sl (w.heap.size + 1 + 1) 7, sl (w.heap.size + 1 + 1 + 1 + 1) 4] 28)).alloc (.cells #[.int .i64 9, .int .i64 0, .int .i64 6, .string (bs [98, 97, 99, 107]), .string (bs []), .string (bs []), .int .i64 0, .int .i64 9, .int .i64 1, .int .i64 0, .string (bs [108, 101, 97, 118, 101]), .string (bs []), .string (bs []), .int .i64 0, .int .i64 9, .int .i64 4, .int .i64 5, .string (bs [103, 111]), .string (bs []), .string (bs []), .int .i64 0, .int .i64 9, .int .i64 2, .int .i64 3, .string (bs [111, 118, 101, 114]), .string (bs []), .string (bs []), .int .i64 0] 32)) (w.heap.size + 1 + 1 + 1) (hisC deep) (sl w.heap.size 7) (sl (w.heap.size + 1) 7) (sl (w.heap.size + 1 + 1) 7) (sl (w.heap.size + 1 + 1 + 1 + 1) 4) := by
  have o1 : OwnL (w.alloc (.cells #[.string (bs [111, 117, 116]), .string (bs [105, 110]), .string (bs [120]), .string (bs [121]), .string (bs [120, 49]), .string (bs [120, 50]), .string (bs [104])] 9)) w.heap.size (sl w.heap.size 7) (hisC deep).names :=
    World.ownsRow_lit w #[.string (bs [111, 117, 116]), .string (bs [105, 110]), .string (bs [120]), .string (bs [121]), .string (bs [120, 49]), .string (bs [120, 50]), .string (bs [104])] 7 (Nat.le_refl _) (by unfold maxLen; omega) rfl
  have z1 : (w.alloc (.cells #[.string (bs [111, 117, 116]), .string (bs [105, 110]), .string (bs [120]), .string (bs [121]), .string (bs [120, 49]), .string (bs [120, 50]), .string (bs [104])] 9)).heap.size = w.heap.size + 1 := by simp
  have b1 : Below w.heap.size w (w.alloc (.cells #[.string (bs [111, 117, 116]), .string (bs [105, 110]), .string (bs [120]), .string (bs [121]), .string (bs [120, 49]), .string (bs [120, 50]), .string (bs [104])] 9)) := (Below.refl _ _).alloc (Nat.le_refl _) _
  generalize (w.alloc (.cells #[.string (bs [111, 117, 116]), .string (bs [105, 110]), .string (bs [120]), .string (bs [121]), .string (bs [120, 49]), .string (bs [120, 50]), .string (bs [104])] 9)) = w1 at *
  have o2 : OwnI (w1.alloc (.cells #[.int .i64 1, .int .i64 1, .int .i64 1, .int .i64 1, .int .i64 1, .int .i64 1, .int .i64 (cond deep 4 3)] 3)) w.heap.size (sl w1.heap.size 7) (hisC deep).kinds :=
    World.ownsRow_lit w1 #[.int .i64 1, .int .i64 1, .int .i64 1, .int .i64 1, .int .i64 1, .int .i64 1, .int .i64 (cond deep 4 3)] 7 (by omega) (by unfold maxLen; omega) rfl
  rw [z1] at o2
  have o1' : OwnL (w1.alloc (.cells #[.int .i64 1, .int .i64 1, .int .i64 1, .int .i64 1, .int .i64 1, .int .i64 1, .int .i64 (cond deep 4 3)] 3)) w.heap.size (sl w.heap.size 7) (hisC deep).names := World.ownsRow.alloc o1 _
  have b2 : Below w.heap.size w (w1.alloc (.cells #[.int .i64 1, .int .i64 1, .int .i64 1, .int .i64 1, .int .i64 1, .int .i64 1, .int .i64 (cond deep 4 3)] 3)) := b1.alloc (by omega) _
  have z2 : (w1.alloc (.cells #[.int .i64 1, .int .i64 1, .int .i64 1, .int .i64 1, .int .i64 1, .int .i64 1, .int .i64 (cond deep 4 3)] 3)).heap.size = w.heap.size + 1 + 1 := by simp [z1]
  clear o1 b1
  generalize w1.alloc (.cells #[.int .i64 1, .int .i64 1, .int .i64 1, .int .i64 1, .int .i64 1, .int .i64 1, .int .i64 (cond deep 4 3)] 3) = w2 at *
  have o3 : OwnI (w2.alloc (.cells #[.int .i64 (-1), .int .i64 (-1), .int .i64 1, .int .i64 1, .int .i64 2, .int .i64 2, .int .i64 1] 3)) w.heap.size (sl w2.heap.size 7) (hisC deep).parents :=
    World.ownsRow_lit w2 #[.int .i64 (-1), .int .i64 (-1), .int .i64 1, .int .i64 1, .int .i64 2, .int .i64 2, .int .i64 1] 7 (by omega) (by unfold maxLen; omega) rfl
  rw [z2] at o3
  have b3 : Below w.heap.size w (w2.alloc (.cells #[.int .i64 (-1), .int .i64 (-1), .int .i64 1, .int .i64 1, .int .i64 2, .int .i64 2, .int .i64 1] 3)) := b2.alloc (by omega) _
  have z3 : (w2.alloc (.cells #[.int .i64 (-1), .int .i64 (-1), .int .i64 1, .int .i64 1, .int .i64 2, .int .i64 2, .int .i64 1] 3)).heap.size = w.heap.size + 1 + 1 + 1 := by simp [z2]
  have o1 : OwnL (w2.alloc (.cells #[.int .i64 (-1), .int .i64 (-1), .int .i64 1, .int .i64 1, .int .i64 2, .int .i64 2, .int .i64 1] 3)) w.heap.size (sl w.heap.size 7) (hisC deep).names := World.ownsRow.alloc o1' _
  have o2' : OwnI (w2.alloc (.cells #[.int .i64 (-1), .int .i64 (-1), .int .i64 1, .int .i64 1, .int .i64 2, .int .i64 2, .int .i64 1] 3)) w.heap.size (sl (w.heap.size + 1) 7) (hisC deep).kinds := World.ownsRow.alloc o2 _
  clear o1' o2 b2
  generalize w2.alloc (.cells #[.int .i64 (-1), .int .i64 (-1), .int .i64 1, .int .i64 1, .int .i64 2, .int .i64 2, .int .i64 1] 3) = w3 at *
  have r4 := heap_alloc_new w3 (.cells #[sl w.heap.size 7, sl (w.heap.size + 1) 7, sl (w.heap.size + 1 + 1) 7, sl (w.heap.size + 1 + 1 + 1 + 1) 4] 28)
  rw [z3] at r4
  have z4 : (w3.alloc (.cells #[sl w.heap.size 7, sl (w.heap.size + 1) 7, sl (w.heap.size + 1 + 1) 7, sl (w.heap.size + 1 + 1 + 1 + 1) 4] 28)).heap.size = w.heap.size + 1 + 1 + 1 + 1 := by simp [z3]
  have r4' : ((w3.alloc (.cells #[sl w.heap.size 7, sl (w.heap.size + 1) 7, sl (w.heap.size + 1 + 1) 7, sl (w.heap.size + 1 + 1 + 1 + 1) 4] 28)).alloc (.cells #[.int .i64 9, .int .i64 0, .int .i64 6, .string (bs [98, 97, 99, 107]), .string (bs []), .string (bs []), .int .i64 0, .int .i64 9, .int .i64 1, .int .i64 0, .string (bs [108, 101, 97, 118, 101]), .string (bs []), .string (bs []), .int .i64 0, .int .i64 9, .int .i64 4, .int .i64 5, .string (bs [103, 111]), .string (bs []), .string (bs []), .int .i64 0, .int .i64 9, .int .i64 2, .int .i64 3, .string (bs [111, 118, 101, 114]), .string (bs []), .string (bs []), .int .i64 0] 32)).heap[w.heap.size + 1 + 1 + 1]? = _ := (heap_alloc_old _ _ (by omega)).trans r4
  have o5 : OwnT ((w3.alloc (.cells #[sl w.heap.size 7, sl (w.heap.size + 1) 7, sl (w.heap.size + 1 + 1) 7, sl (w.heap.size + 1 + 1 + 1 + 1) 4] 28)).alloc (.cells #[.int .i64 9, .int .i64 0, .int .i64 6, .string (bs [98, 97, 99, 107]), .string (bs []), .string (bs []), .int .i64 0, .int .i64 9, .int .i64 1, .int .i64 0, .string (bs [108, 101, 97, 118, 101]), .string (bs []), .string (bs []), .int .i64 0, .int .i64 9, .int .i64 4, .int .i64 5, .string (bs [103, 111]), .string (bs []), .string (bs []), .int .i64 0, .int .i64 9, .int .i64 2, .int .i64 3, .string (bs [111, 118, 101, 114]), .string (bs []), .string (bs []), .int .i64 0] 32)) w.heap.size (sl (w3.alloc (.cells #[sl w.heap.size 7, sl (w.heap.size + 1) 7, sl (w.heap.size + 1 + 1) 7, sl (w.heap.size + 1 + 1 + 1 + 1) 4] 28)).heap.size 4) (hisC deep).trans :=
    World.ownsRow_lit (w3.alloc (.cells #[sl w.heap.size 7, sl (w.heap.size + 1) 7, sl (w.heap.size + 1 + 1) 7, sl (w.heap.size + 1 + 1 + 1 + 1) 4] 28)) (tcells (hisC deep).trans).toArray 4 (by omega) (by unfold maxLen; omega) rfl
  rw [z4] at o5
  have hb5 : Below w.heap.size w ((w3.alloc (.cells #[sl w.heap.size 7, sl (w.heap.size + 1) 7, sl (w.heap.size + 1 + 1) 7, sl (w.heap.size + 1 + 1 + 1 + 1) 4] 28)).alloc (.cells #[.int .i64 9, .int .i64 0, .int .i64 6, .string (bs [98, 97, 99, 107]), .string (bs []), .string (bs []), .int .i64 0, .int .i64 9, .int .i64 1, .int .i64 0, .string (bs [108, 101, 97, 118, 101]), .string (bs []), .string (bs []), .int .i64 0, .int .i64 9, .int .i64 4, .int .i64 5, .string (bs [103, 111]), .string (bs []), .string (bs []), .int .i64 0, .int .i64 9, .int .i64 2, .int .i64 3, .string (bs [111, 118, 101, 114]), .string (bs []), .string (bs []), .int .i64 0] 32)) := (b3.alloc (by omega) _).alloc (by omega) _
  refine ⟨r4', by omega, World.ownsRow.alloc (World.ownsRow.alloc o1 _) _, World.ownsRow.alloc (World.ownsRow.alloc o2' _) _, World.ownsRow.alloc (World.ownsRow.alloc o3 _) _, fun g e1 e2 => ?_, o5, hb5⟩
  simp [Value.ownBlock] at e1 e2
  omega
set_option maxHeartbeats 8000000 in
theorem history_walk (w : World) (n : Int) (hn : (Lit.int .i64 n).wf = true) (deep move : Bool) :
    Calls Try.prog 4 #[.int .i64 n, .bool deep, .bool move] w (TrueOn w) := by
  clear hn
  obtain ⟨odd, hodd⟩ : ∃ odd : Bool, (Int.tmod n 2 != 0) = odd := ⟨_, rfl⟩
  obtain ⟨i0, hi, hz0, hz1, hz2⟩ := info_parts Try.infoInt
  obtain ⟨i1, ui, uz0, uz1, uz2⟩ := info_parts Try.infoU9
  go_enter Try.func4, Try.ntmps4
  go_upto_if 19 with fail
  go_cut [7] (fun x wx => wx = w ∧ x = .int .i64 (cond deep 4 3))
  case first =>
    cases deep
    · go_wp2
      go_meet
      exact ⟨rfl, rfl⟩
    · go_wp2
      go_meet
      exact ⟨rfl, rfl⟩
  case rest =>
  obtain ⟨rfl, rfl⟩ := hcut
  obtain ⟨w, rfl⟩ : ∃ x : World, x = wc := ⟨_, rfl⟩
  go_upto_region 6 with fail
  have HC : ∃ W, Hid (CA w W (w.heap.size + 1 + 1 + 1) (hisC deep) (sl w.heap.size 7) (sl (w.heap.size + 1) 7) (sl (w.heap.size + 1 + 1) 7) (sl (w.heap.size + 1 + 1 + 1 + 1) 4)) ∧ W = (((((w.alloc (.cells #[.string (bs [111, 117, 116]), .string (bs [105, 110]), .string (bs [120]), .string (bs [121]), .string (bs [120, 49]), .string (bs [120, 50]), .string (bs [104])] 9)).alloc (.cells #[.int .i64 1, .int .i64 1, .int .i64 1, .int .i64 1, .int .i64 1, .int .i64 1, .int .i64 (cond deep 4 3)] 3)).alloc (.cells #[.int .i64 (-1), .int .i64 (-1), .int .i64 1, .int .i64 1, .int .i64 2, .int .i64 2, .int .i64 1] 3)).alloc (.cells #[sl w.heap.size 7, sl (w.heap.size + 1) 7, sl (w.heap.size + 1 + 1) 7, sl (w.heap.size + 1 + 1 + 1 + 1) 4] 28)).alloc (.cells #[.int .i64 9, .int .i64 0, .int .i64 6, .string (bs [98, 97, 99, 107]), .string (bs []), .string (bs []), .int .i64 0, .int .i64 9, .int .i64 1, .int .i64 0, .string (bs [108, 101, 97, 118, 101]), .string (bs []), .string (bs []), .int .i64 0, .int .i64 9, .int .i64 4, .int .i64 5, .string (bs [103, 111]), .string (bs []), .string (bs []), .int .i64 0, .int .i64 9, .int .i64 2, .int .i64 3, .string (bs [111, 118, 101, 114]), .string (bs []), .string (bs []), .int .i64 0] 32)) := ⟨_, hi_mem deep w, rfl⟩
  obtain ⟨wr, HC, hwr⟩ := HC
  have hwr2 := hwr.symm
  simp only [bs] at hwr2
  go_must (rw [hwr2])
  clear hwr hwr2
  have HW : Hid (∀ W, Below wr.heap.size wr W → ChW W (hisC deep) 7 (some ⟨w.heap.size + 1, 0, none⟩) (some ⟨w.heap.size + 1 + 1, 0, none⟩) (some ⟨w.heap.size + 1 + 1 + 1 + 1, 0, none⟩) 7 7 4) := fun W hW => ChW.below (W := wr)
    ⟨⟨ints_of_own HC.out.oK (by cases deep <;> (unfold okI; decide)) (by cases deep <;> decide), ints_of_own HC.out.oP (by cases deep <;> (unfold okI; decide)) (by cases deep <;> decide)⟩, tAt_of HC.out.oT, own_cap HC.out.oT, by cases deep <;> decide, his_sh deep, by omega, by omega, his_ft deep⟩ hW
  have BG := begin_any (hisC deep) 7 (some ⟨w.heap.size, 0, none⟩) (some ⟨w.heap.size + 1, 0, none⟩) (some ⟨w.heap.size + 1 + 1, 0, none⟩) (some ⟨w.heap.size + 1 + 1 + 1 + 1, 0, none⟩) 7 7 7 4 0 (Plc (hisC deep).kinds (hisC deep).parents 7) wr (HW.out _ (Below.refl _ _)) (listAt_of HC.out.oN) (hisC_valid deep) (by cases deep <;> decide) (by decide) (his_inv deep) (Plc.beg (his_sh deep) (by omega) (by decide))
  rw [hisC_run] at BG
  have BG : Calls _ _ _ _ _ := BG.mono (fun e w' (h : RunTo 7 (some (begC (hisC deep) 7 0, [])) wr e w') => (show Below wr.heap.size wr w' ∧ ∃ (g3 gS : Nat) (A : Option Addr) (cO : Nat), e = .returned (.tuple #[.agg #[.int .u32 1, sl g3 7, sl gS 7], .slice A 0 cO, .nilIface]) ∧ wr.heap.size ≤ g3 ∧ CfR wr.heap.size w' 7 (begC (hisC deep) 7 0) (sl g3 7) gS from by
    obtain ⟨hb, g3, gS, v, rfl, h3, hR, hO⟩ := h
    obtain ⟨A, cO, rfl⟩ := own_slice hO
    have e1 : (begC (hisC deep) 7 0).set = 1 := by rw [hisC_beg]
    exact ⟨hb, g3, gS, A, cO, by rw [show cfV (begC (hisC deep) 7 0) (sl g3 7) gS 7 = .agg #[.int .u32 1, sl g3 7, sl gS 7] from by unfold cfV; rw [e1]; rfl]; rfl, h3, hR⟩))
  have BG := Lib.hid BG
  have q0 := HC.out.q0; have q1 := HC.out.q1; have q2 := HC.out.q2; have q3 := HC.out.q3
  have HRC := Lib.hid HC.out.row
  have hbl := HC.out.lt
  have HB := Lib.hid HC.out.be
  clear HC
  go_upto_region 9 with (go_at_call 11; refine BG.out.mono ?_; rintro e w2 ⟨hb2, g3, gS, A, cO, rfl, hg3, hR⟩; have HB2 := Lib.hid hb2; have HR2 := Lib.hid hR; clear hb2 hR)
  have hbx := box_b w2 (.cells #[.int .u32 1, sl g3 7, sl gS 7] 36)
  have HRX := Lib.hid (heap_alloc_new w2 (.cells #[.int .u32 1, sl g3 7, sl gS 7] 36))
  have HBX := Lib.hid hbx
  have hzx : (w2.alloc (.cells #[.int .u32 1, sl g3 7, sl gS 7] 36)).heap.size = w2.heap.size + 1 := by simp
  have hgS := HR2.out.lo
  have hgPl : g3 < w2.heap.size := by
    obtain ⟨A9, c9, e9, hl9, hc9⟩ := HR2.out.uP
    obtain ⟨b9, off9, e2, hb9, _⟩ := hc9 0 (by rw [hisC_beg]; decide)
    injection e9 with e1
    rw [e2] at e1
    injection e1 with e1
    injection e1 with e1
    rw [e1]; exact hb9
  have hgSl : gS < w2.heap.size := (Array.getElem?_eq_some_iff.1 HR2.out.rS).1
  have hs2 := HB2.out.size
  have hsw := HB.out.size
  have HZX := Lib.hid hzx
  clear hbx hzx q0 q1 q2 q3 BG
  generalize w2.alloc (.cells #[.int .u32 1, sl g3 7, sl gS 7] 36) = wx at *
  have oW0 : OwnI ((wx.alloc (.cells #[.int .i64 0] 3)).alloc (.cells #[.int .u32 22] 33)) wx.heap.size (sl wx.heap.size 1) (zs [0]) := World.ownsRow.alloc (World.ownsRow_lit wx #[.int .i64 0] 1 (Nat.le_refl _) (by unfold maxLen; omega) rfl) _
  have hz0x : (wx.alloc (.cells #[.int .i64 0] 3)).heap.size = wx.heap.size + 1 := by simp
  have oS0 : OwnU ((wx.alloc (.cells #[.int .i64 0] 3)).alloc (.cells #[.int .u32 22] 33)) wx.heap.size (sl (wx.alloc (.cells #[.int .i64 0] 3)).heap.size 1) [22] := World.ownsRow_lit (wx.alloc (.cells #[.int .i64 0] 3)) #[.int .u32 22] 1 (by omega) (by unfold maxLen; omega) rfl
  rw [hz0x] at oS0
  have hB0 : Below wx.heap.size wx ((wx.alloc (.cells #[.int .i64 0] 3)).alloc (.cells #[.int .u32 22] 33)) := ((Below.refl _ _).alloc (Nat.le_refl _) _).alloc (by omega) _
  clear hz0x
  go_upto_if 47 with fail
  generalize ((wx.alloc (.cells #[.int .i64 0] 3)).alloc (.cells #[.int .u32 22] 33)) = wa at *
  go_cut [12, 13, 14] (fun x y z W => Hid (OwnI W wx.heap.size x (zs ([0] ++ if move = true then [2] else []))) ∧ Hid (OwnU W wx.heap.size y ([22] ++ if move = true then [38] else [])) ∧ (∃ wt : Nat, z = .int .u32 (wt : Int) ∧ Hid (wt = if move = true ∧ deep = true then 38 else 22)) ∧ Hid (Below wx.heap.size wx W))
  case first =>
    cases move
    · go_wp2
      go_meet
      exact ⟨oW0, oS0, ⟨22, rfl, by show _ = _; rw [if_neg (by simp)]⟩, hB0⟩
    · cases deep
      · skip
        have tokA : True := trivial
        go_wp2_with (first
          | (have _t := tokA; at_builtin; go_must (refine wpList_append_own _ rfl (.tmp 48) (.tmp 49) 22 rfl wx.heap.size 3 i0 _ 1 8 Try.underlying22 hi hz0 hz1 hz2 rfl (by decide) _ _ _ rfl (World.ownsRow.alloc oW0 _) ⟨wa.heap.size, 0, none⟩ 1 1 (icells [2]) rfl rfl (cells_new _ _ _) (icells_one _) (by unfold maxLen; first | omega | (simp; done) | (simp; omega)) (by first | omega | (simp; done) | (simp; omega)) (by have := hB0.size; first | omega | (simp; done) | (simp; omega)) ?_); intro v5 w5 hown5 hg5 _; have oW5 := ownI_app2 (by simp) hown5; have oS5 := World.ownsRow.kept (World.ownsRow.alloc oS0 (.cells (icells [2]).toArray 3)) hg5 (rows_unlike oS0 oW0 (by decide)); have hB5 := hB0.grown ((World.grownBy_alloc wa _ _).andThen hg5 (fun j e => .inr e)) hB0.size (fun j e => (World.ownsRow.lt oW0 j e).1); clear tokA _t)
          | (at_builtin; go_must (refine wpList_append_own _ rfl (.tmp 51) (.tmp 52) 34 rfl wx.heap.size 33 i1 _ 1 4 Try.underlying34 ui uz0 uz1 uz2 rfl (by decide) _ _ _ rfl (World.ownsRow.alloc oS5 _) ⟨w5.heap.size, 0, none⟩ 1 1 (ucl [38]) rfl rfl (cells_new _ _ _) (ucl_oneA _) (by unfold maxLen; first | omega | (simp; done) | (simp; omega)) (by first | omega | (simp; done) | (simp; omega)) (by have := hB5.size; first | omega | (simp; done) | (simp; omega)) ?_); intro v6 w6 hown6 hg6 _; have oS6 := ownU_app (by simp) hown6; have oW6 := World.ownsRow.kept (World.ownsRow.alloc oW5 (.cells (ucl [38]).toArray 33)) hg6 (rows_unlike oW5 oS5 (by decide)); have hB6 := hB5.grown ((World.grownBy_alloc w5 _ _).andThen hg6 (fun j e => .inr e)) hB5.size (fun j e => (World.ownsRow.lt oS5 j e).1)))
        go_meet
        exact ⟨oW6, oS6, ⟨22, rfl, by show _ = _; rw [if_neg (by simp)]⟩, hB6⟩
      · skip
        have tokA : True := trivial
        go_wp2_with (first
          | (have _t := tokA; at_builtin; go_must (refine wpList_append_own _ rfl (.tmp 48) (.tmp 49) 22 rfl wx.heap.size 3 i0 _ 1 8 Try.underlying22 hi hz0 hz1 hz2 rfl (by decide) _ _ _ rfl (World.ownsRow.alloc oW0 _) ⟨wa.heap.size, 0, none⟩ 1 1 (icells [2]) rfl rfl (cells_new _ _ _) (icells_one _) (by unfold maxLen; first | omega | (simp; done) | (simp; omega)) (by first | omega | (simp; done) | (simp; omega)) (by have := hB0.size; first | omega | (simp; done) | (simp; omega)) ?_); intro v5 w5 hown5 hg5 _; have oW5 := ownI_app2 (by simp) hown5; have oS5 := World.ownsRow.kept (World.ownsRow.alloc oS0 (.cells (icells [2]).toArray 3)) hg5 (rows_unlike oS0 oW0 (by decide)); have hB5 := hB0.grown ((World.grownBy_alloc wa _ _).andThen hg5 (fun j e => .inr e)) hB0.size (fun j e => (World.ownsRow.lt oW0 j e).1); clear tokA _t)
          | (at_builtin; go_must (refine wpList_append_own _ rfl (.tmp 51) (.tmp 52) 34 rfl wx.heap.size 33 i1 _ 1 4 Try.underlying34 ui uz0 uz1 uz2 rfl (by decide) _ _ _ rfl (World.ownsRow.alloc oS5 _) ⟨w5.heap.size, 0, none⟩ 1 1 (ucl [38]) rfl rfl (cells_new _ _ _) (ucl_oneA _) (by unfold maxLen; first | omega | (simp; done) | (simp; omega)) (by first | omega | (simp; done) | (simp; omega)) (by have := hB5.size; first | omega | (simp; done) | (simp; omega)) ?_); intro v6 w6 hown6 hg6 _; have oS6 := ownU_app (by simp) hown6; have oW6 := World.ownsRow.kept (World.ownsRow.alloc oW5 (.cells (ucl [38]).toArray 33)) hg6 (rows_unlike oW5 oS5 (by decide)); have hB6 := hB5.grown ((World.grownBy_alloc w5 _ _).andThen hg6 (fun j e => .inr e)) hB5.size (fun j e => (World.ownsRow.lt oS5 j e).1)))
        go_meet
        exact ⟨oW6, oS6, ⟨38, rfl, by show _ = _; rw [if_pos (by simp)]⟩, hB6⟩
  case rest =>
  clear oW0 oS0 hB0
  obtain ⟨HW1, HS1, ⟨wt, rfl, HWT⟩, HB1⟩ := hcut
  obtain ⟨wb, rfl⟩ : ∃ x : World, x = wc := ⟨_, rfl⟩
  rename_i K4 hK4
  refine hK4 _ _ ?_
  clear hK4
  obtain ⟨way, hway⟩ : ∃ way : List Nat, way = [0] ++ if move = true then [2] else [] := ⟨_, rfl⟩
  obtain ⟨sets, hsets⟩ : ∃ sets : List Nat, sets = [22] ++ if move = true then [38] else [] := ⟨_, rfl⟩
  rw [← hway] at HW1
  rw [← hsets] at HS1
  have HLW : way.length ≤ 2 := by rw [hway]; cases move <;> decide
  have HLS : sets.length ≤ 2 := by rw [hsets]; cases move <;> decide
  have HWAY := Lib.hid hway
  have HSETS := Lib.hid hsets
  clear hway hsets
  obtain ⟨A12, c12, rfl⟩ := own_slice HW1.out
  obtain ⟨A13, c13, rfl⟩ := own_slice HS1.out
  have hlz : (zs way).length = way.length := List.length_map ..
  go_upto_if 57 with fail
  go_cut [12, 13, 14] (fun x y z W => Hid (OwnI W wx.heap.size x (zs (way ++ if odd = true then [3] else []))) ∧ Hid (OwnU W wx.heap.size y (sets ++ if odd = true then [10] else [])) ∧ (∃ wt : Nat, z = .int .u32 (wt : Int) ∧ Hid (wt = if odd = true then 10 else if move = true ∧ deep = true then 38 else 22)) ∧ Hid (Below wx.heap.size wx W))
  case first =>
    cases odd
    · go_wp2
      go_meet
      have HW9 : Hid (OwnI wb wx.heap.size (.slice A12 (zs way).length c12) (zs (way ++ []))) := by rw [List.append_nil]; exact HW1
      have HS9 : Hid (OwnU wb wx.heap.size (.slice A13 sets.length c13) (sets ++ [])) := by rw [List.append_nil]; exact HS1
      exact ⟨HW9, HS9, ⟨wt, rfl, HWT⟩, HB1⟩
    · skip
      have tokB : True := trivial
      go_wp2_with (first
        | (have _t := tokB; at_builtin; go_must (refine wpList_append_own _ rfl (.tmp 58) (.tmp 59) 22 rfl wx.heap.size 3 i0 _ 1 8 Try.underlying22 hi hz0 hz1 hz2 rfl (by decide) _ _ _ rfl (World.ownsRow.alloc HW1.out _) ⟨wb.heap.size, 0, none⟩ 1 1 (icells [3]) rfl rfl (cells_new _ _ _) (icells_one _) (by unfold maxLen; first | omega | (simp; done) | (simp; omega)) (by first | omega | (simp; done) | (simp; omega)) (by have := HB1.out.size; first | omega | (simp; done) | (simp; omega)) ?_); intro v5 w5 hown5 hg5 _; have oW5 := ownI_app2 (by simp) hown5; have oS5 := World.ownsRow.kept (World.ownsRow.alloc HS1.out (.cells (icells [3]).toArray 3)) hg5 (rows_unlike HS1.out HW1.out (by decide)); have hB5 := HB1.out.grown ((World.grownBy_alloc wb _ _).andThen hg5 (fun j e => .inr e)) HB1.out.size (fun j e => (World.ownsRow.lt HW1.out j e).1); clear tokB _t)
        | (at_builtin; go_must (refine wpList_append_own _ rfl (.tmp 61) (.tmp 62) 34 rfl wx.heap.size 33 i1 _ 1 4 Try.underlying34 ui uz0 uz1 uz2 rfl (by decide) _ _ _ rfl (World.ownsRow.alloc oS5 _) ⟨w5.heap.size, 0, none⟩ 1 1 (ucl [10]) rfl rfl (cells_new _ _ _) (ucl_oneA _) (by unfold maxLen; first | omega | (simp; done) | (simp; omega)) (by first | omega | (simp; done) | (simp; omega)) (by have := hB5.size; first | omega | (simp; done) | (simp; omega)) ?_); intro v6 w6 hown6 hg6 _; have oS6 := ownU_app (by simp) hown6; have oW6 := World.ownsRow.kept (World.ownsRow.alloc oW5 (.cells (ucl [10]).toArray 33)) hg6 (rows_unlike oW5 oS5 (by decide)); have hB6 := hB5.grown ((World.grownBy_alloc w5 _ _).andThen hg6 (fun j e => .inr e)) hB5.size (fun j e => (World.ownsRow.lt oS5 j e).1)))
      go_meet
      have oW9 : OwnI w6 wx.heap.size v5 (zs (way ++ [3])) := by rw [zs, List.map_append]; exact oW6
      exact ⟨oW9, oS6, ⟨10, rfl, rfl⟩, hB6⟩
  case rest =>
  clear HW1 HS1 HB1 hlz hodd HLW HLS HWT
  obtain ⟨HW1, HS1, ⟨wt2, rfl, HWT⟩, HB1⟩ := hcut
  obtain ⟨wd, rfl⟩ : ∃ x : World, x = wc := ⟨_, rfl⟩
  rename_i K5 hK5
  refine hK5 _ _ ?_
  clear hK5
  rw [HWAY.out] at HW1
  rw [HSETS.out] at HS1
  clear HWAY HSETS
  obtain ⟨way, hway⟩ : ∃ way : List Nat, way = [0] ++ (if move = true then [2] else []) ++ if odd = true then [3] else [] := ⟨_, rfl⟩
  obtain ⟨sets, hsets⟩ : ∃ sets : List Nat, sets = [22] ++ (if move = true then [38] else []) ++ if odd = true then [10] else [] := ⟨_, rfl⟩
  rw [← hway] at HW1
  rw [← hsets] at HS1
  have HLW : way.length ≤ 3 := by rw [hway]; cases move <;> cases odd <;> decide
  have HLS : sets.length ≤ 3 := by rw [hsets]; cases move <;> cases odd <;> decide
  have HWAY : Hid (way ++ [1, 0] = hisW move odd) := by show _ = _; rw [hway]; rfl
  have HSETS : Hid (sets ++ [1, wt2] = hisS deep move odd) := by
    show _ = _
    rw [hsets, HWT.out]
    cases move <;> cases odd <;> cases deep <;> rfl
  clear hway hsets HWT
  obtain ⟨A12, c12, rfl⟩ := own_slice HW1.out
  obtain ⟨A13, c13, rfl⟩ := own_slice HS1.out
  have hlz : (zs way).length = way.length := List.length_map ..
  have tokC : True := trivial
  go_upto_region 20 with (first
    | (have _t := tokC; at_builtin; go_must (refine wpList_append_own _ rfl (.tmp 64) (.tmp 65) 22 rfl wx.heap.size 3 i0 _ 1 8 Try.underlying22 hi hz0 hz1 hz2 rfl (by decide) _ _ _ rfl (World.ownsRow.alloc HW1.out _) ⟨wd.heap.size, 0, none⟩ 2 2 (icells [1, 0]) rfl rfl (cells_new _ _ _) (icells_one _) (by unfold maxLen; first | omega | (simp; done) | (simp; omega)) (by first | omega | (simp; done) | (simp; omega)) (by have := HB1.out.size; first | omega | (simp; done) | (simp; omega)) ?_); intro v5 w5 hown5 hg5 _; have oW5 := ownI_app2 (by simp) hown5; have oS5 := World.ownsRow.kept (World.ownsRow.alloc HS1.out (.cells (icells [1, 0]).toArray 3)) hg5 (rows_unlike HS1.out HW1.out (by decide)); have hB5 := HB1.out.grown ((World.grownBy_alloc wd _ _).andThen hg5 (fun j e => .inr e)) HB1.out.size (fun j e => (World.ownsRow.lt HW1.out j e).1); clear tokC _t)
    | (at_builtin; go_must (refine wpList_append_own _ rfl (.tmp 67) (.tmp 69) 34 rfl wx.heap.size 33 i1 _ 1 4 Try.underlying34 ui uz0 uz1 uz2 rfl (by decide) _ _ _ rfl (World.ownsRow.alloc oS5 _) ⟨w5.heap.size, 0, none⟩ 2 2 (ucl [1, wt2]) rfl rfl (cells_new _ _ _) (ucl_oneA _) (by unfold maxLen; first | omega | (simp; done) | (simp; omega)) (by first | omega | (simp; done) | (simp; omega)) (by have := hB5.size; first | omega | (simp; done) | (simp; omega)) ?_); intro v6 w6 hown6 hg6 _; have oS6 := ownU_app (by simp) hown6; have oW6 := World.ownsRow.kept (World.ownsRow.alloc oW5 (.cells (ucl [1, wt2]).toArray 33)) hg6 (rows_unlike oW5 oS5 (by decide)); have hB6 := hB5.grown ((World.grownBy_alloc w5 _ _).andThen hg6 (fun j e => .inr e)) hB5.size (fun j e => (World.ownsRow.lt oS5 j e).1); have oW7 : OwnI w6 wx.heap.size v5 (zs (hisW move odd)) := (by rw [← HWAY.out, zs, List.map_append]; exact oW6); have oS7 : OwnU w6 wx.heap.size v6 (hisS deep move odd) := (by rw [← HSETS.out]; exact oS6); obtain ⟨A5, c5, e5⟩ := own_slice oW7; rw [show (zs (hisW move odd)).length = (hisW move odd).length from List.length_map ..] at e5; subst e5; obtain ⟨A6, c6, rfl⟩ := own_slice oS7; clear oW6 oS6 hown5 hown6 hg5 hg6 oW5 oS5 hB5))
  have HLEN := his_len deep move odd
  have hposW : 0 < (hisW move odd).length := by cases move <;> cases odd <;> decide
  have hl5 := his_lenW move odd
  have eW0 : ∃ gW, A5 = some ⟨gW, 0, none⟩ ∧ wx.heap.size ≤ gW ∧ gW < w6.heap.size ∧ Hid (∀ j u, (icells (zs (hisW move odd)))[j]? = some u → w6.cell? ⟨gW, j, none⟩ = some u) := by
    obtain ⟨g, cap, e, h1, h2, _, h3⟩ := own_form oW7 (by rw [show (zs (hisW move odd)).length = (hisW move odd).length from List.length_map ..]; exact hposW)
    injection e with e1
    exact ⟨g, e1, h1, h2, h3⟩
  obtain ⟨gW, rfl, hgW1, hgW2, HCW⟩ := eW0
  have eS0 : ∃ gU, A6 = some ⟨gU, 0, none⟩ ∧ wx.heap.size ≤ gU ∧ gU < w6.heap.size ∧ Hid (∀ j u, (ucl (hisS deep move odd))[j]? = some u → w6.cell? ⟨gU, j, none⟩ = some u) := by
    obtain ⟨g, cap, e, h1, h2, _, h3⟩ := own_form oS7 (by rw [HLEN]; exact hposW)
    injection e with e1
    exact ⟨g, e1, h1, h2, h3⟩
  obtain ⟨gU, rfl, hgU1, hgU2, HCU⟩ := eS0
  have hzx := HZX.out
  have HB6 := Lib.hid (below_then HBX.out hB6 HBX.out.size)
  have HRX6 := Lib.hid ((hB6.block _ (by omega : w2.heap.size < wx.heap.size)).trans HRX.out)
  have hz6 := hB6.size
  have HEN := Lib.hid HLEN
  clear oW7 oS7 HW1 HS1 hlz HLW HLS HWAY HSETS HB1 hB6 HRX HBX HLEN hi hz0 hz1 hz2 ui uz0 uz1 uz2
  go_loopw [73] (fun i W => ∃ (k gP gS : Nat), k ≤ (hisW move odd).length ∧ i = .int .i64 k ∧ Hid (W.heap[w2.heap.size]? = some (.cells #[.int .u32 ((hisY deep move odd k).set : Nat), sl gP 7, sl gS 7] 36 (0, 0))) ∧ Hid (CfR w.heap.size W 7 (hisY deep move odd k) (sl gP 7) gS) ∧ gP ≠ w2.heap.size ∧ gS ≠ w2.heap.size ∧ Hid (Below w2.heap.size w2 W) ∧ Hid (∀ g, g < w6.heap.size → g ≠ w2.heap.size → W.heap[g]? = w6.heap[g]?) ∧ w6.heap.size ≤ W.heap.size) (fun i _ => (hisW move odd).length - (intOf i).toNat)
  case atStart =>
    have e1 : (((hisY deep move odd 0).set : Nat) : Int) = 1 := by
      show (((begC (hisC deep) 7 0).set : Nat) : Int) = 1
      rw [hisC_beg]; rfl
    exact ⟨0, g3, gS, Nat.zero_le _, rfl, by rw [e1]; exact HRX6, (HR2.out.below HB6.out).base hsw, by omega, by omega, HB6, fun _ _ _ => rfl, Nat.le_refl _⟩
  case round =>
    clear hgS hgPl hgSl HR2 hg3 HRX6
    obtain ⟨k, gP, gS2, hk, rfl, HX, HR, hgP, hgS, HBl, HF, hzl⟩ := hrel
    obtain ⟨wl, rfl⟩ : ∃ x : World, x = wr := ⟨_, rfl⟩
    have hb0 := below_then HB.out HB2.out HB.out.size
    have HBW := Lib.hid (below_then hb0 HBl.out hb0.size)
    by_cases hlt : k < (hisW move odd).length
    case neg =>
      have ek : k = (hisW move odd).length := by omega
      subst ek
      have WK := Lib.hid (wakes09 wl)
      go_wp2_with (go_at_call 15; refine WK.out.mono ?_; rintro e w5 ⟨rfl, hb5⟩)
      go_ret
      exact ⟨rfl, below_then HBW.out hb5 HBW.out.size⟩
    have hbl2 : w.heap.size + 1 + 1 + 1 < w2.heap.size := by omega
    have HRCl := Lib.hid ((HBl.out.block _ hbl2).trans ((HB2.out.block _ hbl).trans HRC.out))
    have HWl : Hid (∀ W, Below wl.heap.size wl W → ChW W (hisC deep) 7 (some ⟨w.heap.size + 1, 0, none⟩) (some ⟨w.heap.size + 1 + 1, 0, none⟩) (some ⟨w.heap.size + 1 + 1 + 1 + 1, 0, none⟩) 7 7 4) := fun W hW => (HW.out _ (below_then HB2.out HBl.out HB2.out.size)).below hW
    have hltS : k < (hisS deep move odd).length := by rw [HEN.out]; exact hlt
    have hst := his_set deep move odd hlt hltS
    have hsy := hisY_succ deep move odd hlt
    obtain ⟨hi4, hin⟩ := his_in deep move odd hlt
    have hpl := his_plc deep move odd k (Nat.le_of_lt hlt)
    have cw : wl.cell? ⟨gW, k, none⟩ = some (.int .i64 (((hisW move odd)[k] : Nat) : Int)) := (World.cell?_of_block (a := ⟨gW, k, none⟩) (HF.out gW hgW2 (by omega))).trans (HCW.out k _ (by simp [icells, zs, hlt]))
    have cu0 : wl.cell? ⟨gU, k, none⟩ = some (.int .u32 (((hisS deep move odd)[k] : Nat) : Int)) := (World.cell?_of_block (a := ⟨gU, k, none⟩) (HF.out gU hgU2 (by omega))).trans (HCU.out k _ (ucl_at _ k hltS))
    have TK := takeT_any (hisC deep) 7 (some ⟨w.heap.size, 0, none⟩) (some ⟨w.heap.size + 1, 0, none⟩) (some ⟨w.heap.size + 1 + 1, 0, none⟩) (some ⟨w.heap.size + 1 + 1 + 1 + 1, 0, none⟩) (some ⟨gP, 0, none⟩) (some ⟨gS2, 0, none⟩) 7 7 7 4 7 7 (hisY deep move odd k) (hisW move odd)[k] 1 wl (HWl.out _ (Below.refl _ _)) HR.out.ok HR.out.uP (HR.out.ints (by omega)) hi4 hin (by decide) (hpl.pastOk (his_sh deep) (by omega) _)
    have hsy2 : movC (hisC deep).kinds (hisC deep).parents 7 (hisY deep move odd k) (frT (hisC deep) (hisW move odd)[k]) (toT (hisC deep) (hisW move odd)[k]) 1 = hisY deep move odd (k + 1) := hsy.symm
    rw [hsy2] at TK
    have TK : Calls Try.prog 14 #[chV (some ⟨w.heap.size, 0, none⟩) (some ⟨w.heap.size + 1, 0, none⟩) (some ⟨w.heap.size + 1 + 1, 0, none⟩) (some ⟨w.heap.size + 1 + 1 + 1 + 1, 0, none⟩) 7 7 7 7 7 7 4 4, .agg #[.int .u32 ((hisY deep move odd k).set : Nat), sl gP 7, sl gS2 7], .int .i64 (((hisW move odd)[k] : Nat) : Int), .int .i64 1] wl (TakTo 7 (hisY deep move odd (k + 1)) wl) := TK
    have TK := Lib.hid TK
    rw [← hst] at cu0
    have c0 := cell_of_row _ _ 0 _ _ _ HRCl.out; have c1 := cell_of_row _ _ 1 _ _ _ HRCl.out; have c2 := cell_of_row _ _ 2 _ _ _ HRCl.out; have c3 := cell_of_row _ _ 3 _ _ _ HRCl.out
    have x0 := cell_of_row _ _ 0 _ _ _ HX.out; have x1 := cell_of_row _ _ 1 _ _ _ HX.out; have x2 := cell_of_row _ _ 2 _ _ _ HX.out
    have hlti : (k : Int) < (hisW move odd).length := by omega
    have hltSi : (k : Int) < (hisS deep move odd).length := by omega
    have hk0 : (0 : Int) ≤ k := by omega
    have hXl := (Array.getElem?_eq_some_iff.1 HX.out).1
    clear hst hsy hsy2 hin hi4 hpl
    generalize hyk : hisY deep move odd (k + 1) = y at *
    have HYK := Lib.hid hyk
    clear hyk
    generalize (hisW move odd)[k] = tk at *
    go_upto_region 23 with (go_at_call 14; refine TK.out.mono ?_; rintro e w7 ⟨hb7, g3', gS', rfl, hg3', hR7⟩; have HB7 := Lib.hid hb7; have HR7 := Lib.hid hR7; clear hb7 hR7)
    have RY := heap_alloc_new w7 (.cells #[.int .u32 (y.set : Nat), sl g3' 7, sl gS' 7] 36)
    have hbc : Below wl.heap.size wl (w7.alloc (.cells #[.int .u32 (y.set : Nat), sl g3' 7, sl gS' 7] 36)) := HB7.out.alloc HB7.out.size _
    have hR9 := HR7.out.below (box_b w7 (.cells #[.int .u32 (y.set : Nat), sl g3' 7, sl gS' 7] 36))
    have hgl14 : wl.heap.size ≤ w7.heap.size := HB7.out.size
    clear c0 c1 c2 c3 x0 x1 x2 TK HB7 HR7
    generalize w7.heap.size = g14 at *
    generalize w7.alloc (.cells #[.int .u32 (y.set : Nat), sl g3' 7, sl gS' 7] 36) = wc at *
    have hXc := (hbc.block _ hXl).trans HX.out
    have f0 := fzc_of hXc 0; have f1 := fzc_of hXc 1; have f2 := fzc_of hXc 2
    have x0 := cell_of_row _ _ 0 _ _ _ hXc; have x1 := cell_of_row _ _ 1 _ _ _ hXc; have x2 := cell_of_row _ _ 2 _ _ _ hXc
    have y0 : wc.cell? ⟨g14, 0, none⟩ = some (.int .u32 (y.set : Nat)) := cell_of_row _ _ 0 _ _ _ RY
    have y1 : wc.cell? ⟨g14, 1, none⟩ = some (sl g3' 7) := cell_of_row _ _ 1 _ _ _ RY
    have y2 : wc.cell? ⟨g14, 2, none⟩ = some (sl gS' 7) := cell_of_row _ _ 2 _ _ _ RY
    have cu := (hbc.cell (p := ⟨gU, k, none⟩) (Nat.lt_of_lt_of_le hgU2 hzl)).trans cu0
    have hgS4 := hR9.lo
    have HBn := Lib.hid (fun nq => below_drewN (below_then HBl.out hbc HBl.out.size) nq)
    have HFc : Hid (∀ nq v0 v1 v2 g, g < w6.heap.size → g ≠ w2.heap.size → (sets3 (wc.drewN nq) w2.heap.size v0 v1 v2).heap[g]? = w6.heap[g]?) := fun nq v0 v1 v2 g h1 h2 => (sets3_block (wc.drewN nq) w2.heap.size v0 v1 v2 (Nat.lt_of_lt_of_le (Nat.lt_of_lt_of_le h1 hzl) hbc.size) h2).trans ((hbc.block g (Nat.lt_of_lt_of_le h1 hzl)).trans (HF.out g h1 h2))
    have hszc := hbc.size
    have HFIN : Hid (∀ nq v0 v1 v2, CfR w.heap.size (sets3 (wc.drewN nq) w2.heap.size v0 v1 v2) 7 y (sl g3' 7) gS' ∧ Below w2.heap.size w2 (sets3 (wc.drewN nq) w2.heap.size v0 v1 v2) ∧ (sets3 (wc.drewN nq) w2.heap.size v0 v1 v2).heap[w2.heap.size]? = some (.cells #[v0, v1, v2] 36 (0, 0)) ∧ w6.heap.size ≤ (sets3 (wc.drewN nq) w2.heap.size v0 v1 v2).heap.size) := fun nq v0 v1 v2 =>
      ⟨(sets3_cfr (hR9.below (below_drewN (Below.refl _ _) nq)) (by omega) (by omega) v0 v1 v2).base (by omega), sets3_below (HBn.out nq) (Nat.le_refl _) (Nat.le_refl _) v0 v1 v2, sets3_row (W := wc.drewN nq) hXc v0 v1 v2, by rw [sets3_size]; show w6.heap.size ≤ wc.heap.size; omega⟩
    have hgn1 : g3' ≠ w2.heap.size := by omega
    have hgn2 : gS' ≠ w2.heap.size := by omega
    have hk1 : k + 1 ≤ (hisW move odd).length := hlt
    clear HX hXc RY hbc HR HCW HCU HWl HRCl hR9 HF HBl cw cu0
    go_quiet (fail)
    go_wp2
    go_roundw
    case rel =>
      obtain ⟨hf1, hf2, hf3, hf4⟩ := HFIN.out nq (.int .u32 (y.set : Nat)) (sl g3' 7) (sl gS' 7)
      exact ⟨k + 1, g3', gS', hk1, by go_num, by rw [HYK.out]; exact hf3, by rw [HYK.out]; exact hf1, hgn1, hgn2, hf2, HFc.out _ _ _ _, hf4⟩
    case measure => simp [intOf]; omega
end Go.Proofs.Ytbacdllokgcohaa
