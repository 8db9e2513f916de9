/-
  StepRegions: in parallel regions each goes its own way: the walk.
-/
import Derived.Test.YtbacdllokgcohaaCA
import Derived.Test.YtbacdllokgcohaaRg0
import Derived.Test.YtbacdllokgcohaaWk9
import Derived.Test.YtbacdllokgcohaaRef01b
import Derived.Test.YtbacdllokgcohaaTk
namespace Go.Proofs.Ytbacdllokgcohaa
set_option maxRecDepth 100000
open Go.ChangeShapes Go.WideShapes Go.ChangeAt Go.RowKit

def rgK (k : Nat) : Ch := { rgC with trans := rgC.trans.take k }
theorem rgK_succ {k : Nat} (h : k < 4) : rgK (k + 1) = { rgK k with trans := (rgK k).trans ++ [rgC.trans.getD k (rgT 0 0)] } := by
  rcases (by omega : k = 0 ∨ k = 1 ∨ k = 2 ∨ k = 3) with rfl | rfl | rfl | rfl <;> rfl
def rgF (k : Nat) : Int := [3, 4, 5, 6].getD k 0
def rgG (k : Nat) : Int := [4, 3, 6, 5].getD k 0
theorem rg_tr {k : Nat} (h : k < 4) : rgC.trans.getD k (rgT 0 0) = rgT (rgF k) (rgG k) := by
  rcases (by omega : k = 0 ∨ k = 1 ∨ k = 2 ∨ k = 3) with rfl | rfl | rfl | rfl <;> rfl
theorem rg_cells (k : Nat) (h : k < 4) : (#[Value.int .i64 3, .int .i64 4, .int .i64 4, .int .i64 3, .int .i64 5, .int .i64 6, .int .i64 6, .int .i64 5])[k * 2]? = some (.int .i64 (rgF k)) ∧ (#[Value.int .i64 3, .int .i64 4, .int .i64 4, .int .i64 3, .int .i64 5, .int .i64 6, .int .i64 6, .int .i64 5])[k * 2 + 1]? = some (.int .i64 (rgG k)) := by
  rcases (by omega : k = 0 ∨ k = 1 ∨ k = 2 ∨ k = 3) with rfl | rfl | rfl | rfl <;> exact ⟨rfl, rfl⟩
abbrev sl (g n : Nat) : Value := .slice (some ⟨g, 0, none⟩) n n
theorem rgK_len (k : Nat) (h : k ≤ 4) : (rgK k).trans.length = k := by simp [rgK, rgC]; omega
theorem rg_mem (w : World) : CA w (((((w.alloc (.cells #[.string (bs [119]), .string (bs [97]), .string (bs [98]), .string (bs [97, 49]), .string (bs [97, 50]), .string (bs [98, 49]), .string (bs [98, 50])] 9)).alloc (.cells #[.int .i64 2, .int .i64 1, .int .i64 1, .int .i64 1, .int .i64 1, .int .i64 1, .int .i64 1] 3)).alloc (.cells #[.int .i64 (-1), .int .i64 0, .int .i64 0, .int .i64 1, .int .i64 1, .int .i64 2, .int .i64 2] 3)).alloc (.cells #[sl w.heap.size 7, sl (w.heap.size + 1) 7, sl (w.heap.size + 1 + 1) 7, .slice none 0 0] 28)).alloc (.cells #[.int .i64 3, .int .i64 4, .int .i64 4, .int .i64 3, .int .i64 5, .int .i64 6, .int .i64 6, .int .i64 5] 29)) (w.heap.size + 1 + 1 + 1) (rgK 0) (sl w.heap.size 7) (sl (w.heap.size + 1) 7) (sl (w.heap.size + 1 + 1) 7) (.slice none 0 0) ∧ (((((w.alloc (.cells #[.string (bs [119]), .string (bs [97]), .string (bs [98]), .string (bs [97, 49]), .string (bs [97, 50]), .string (bs [98, 49]), .string (bs [98, 50])] 9)).alloc (.cells #[.int .i64 2, .int .i64 1, .int .i64 1, .int .i64 1, .int .i64 1, .int .i64 1, .int .i64 1] 3)).alloc (.cells #[.int .i64 (-1), .int .i64 0, .int .i64 0, .int .i64 1, .int .i64 1, .int .i64 2, .int .i64 2] 3)).alloc (.cells #[sl w.heap.size 7, sl (w.heap.size + 1) 7, sl (w.heap.size + 1 + 1) 7, .slice none 0 0] 28)).alloc (.cells #[.int .i64 3, .int .i64 4, .int .i64 4, .int .i64 3, .int .i64 5, .int .i64 6, .int .i64 6, .int .i64 5] 29)).heap[w.heap.size + 1 + 1 + 1 + 1]? = some (.cells #[.int .i64 3, .int .i64 4, .int .i64 4, .int .i64 3, .int .i64 5, .int .i64 6, .int .i64 6, .int .i64 5] 29 (0, 0)) := by
  have o1 : OwnL (w.alloc (.cells #[.string (bs [119]), .string (bs [97]), .string (bs [98]), .string (bs [97, 49]), .string (bs [97, 50]), .string (bs [98, 49]), .string (bs [98, 50])] 9)) w.heap.size (sl w.heap.size 7) (rgK 0).names :=
    World.ownsRow_lit w #[.string (bs [119]), .string (bs [97]), .string (bs [98]), .string (bs [97, 49]), .string (bs [97, 50]), .string (bs [98, 49]), .string (bs [98, 50])] 7 (Nat.le_refl _) (by unfold maxLen; omega) rfl
  have z1 : (w.alloc (.cells #[.string (bs [119]), .string (bs [97]), .string (bs [98]), .string (bs [97, 49]), .string (bs [97, 50]), .string (bs [98, 49]), .string (bs [98, 50])] 9)).heap.size = w.heap.size + 1 := by simp
  have b1 : Below w.heap.size w (w.alloc (.cells #[.string (bs [119]), .string (bs [97]), .string (bs [98]), .string (bs [97, 49]), .string (bs [97, 50]), .string (bs [98, 49]), .string (bs [98, 50])] 9)) := (Below.refl _ _).alloc (Nat.le_refl _) _
  generalize (w.alloc (.cells #[.string (bs [119]), .string (bs [97]), .string (bs [98]), .string (bs [97, 49]), .string (bs [97, 50]), .string (bs [98, 49]), .string (bs [98, 50])] 9)) = w1 at *
  have o2 : OwnI (w1.alloc (.cells #[.int .i64 2, .int .i64 1, .int .i64 1, .int .i64 1, .int .i64 1, .int .i64 1, .int .i64 1] 3)) w.heap.size (sl w1.heap.size 7) (rgK 0).kinds :=
    World.ownsRow_lit w1 #[.int .i64 2, .int .i64 1, .int .i64 1, .int .i64 1, .int .i64 1, .int .i64 1, .int .i64 1] 7 (by omega) (by unfold maxLen; omega) rfl
  rw [z1] at o2
  have o1' : OwnL (w1.alloc (.cells #[.int .i64 2, .int .i64 1, .int .i64 1, .int .i64 1, .int .i64 1, .int .i64 1, .int .i64 1] 3)) w.heap.size (sl w.heap.size 7) (rgK 0).names := World.ownsRow.alloc o1 _
  have b2 : Below w.heap.size w (w1.alloc (.cells #[.int .i64 2, .int .i64 1, .int .i64 1, .int .i64 1, .int .i64 1, .int .i64 1, .int .i64 1] 3)) := b1.alloc (by omega) _
  have z2 : (w1.alloc (.cells #[.int .i64 2, .int .i64 1, .int .i64 1, .int .i64 1, .int .i64 1, .int .i64 1, .int .i64 1] 3)).heap.size = w.heap.size + 1 + 1 := by simp [z1]
  clear o1 b1
  generalize w1.alloc (.cells #[.int .i64 2, .int .i64 1, .int .i64 1, .int .i64 1, .int .i64 1, .int .i64 1, .int .i64 1] 3) = w2 at *
  have o3 : OwnI (w2.alloc (.cells #[.int .i64 (-1), .int .i64 0, .int .i64 0, .int .i64 1, .int .i64 1, .int .i64 2, .int .i64 2] 3)) w.heap.size (sl w2.heap.size 7) (rgK 0).parents :=
    World.ownsRow_lit w2 #[.int .i64 (-1), .int .i64 0, .int .i64 0, .int .i64 1, .int .i64 1, .int .i64 2, .int .i64 2] 7 (by omega) (by unfold maxLen; omega) rfl
  rw [z2] at o3
  have b3 : Below w.heap.size w (w2.alloc (.cells #[.int .i64 (-1), .int .i64 0, .int .i64 0, .int .i64 1, .int .i64 1, .int .i64 2, .int .i64 2] 3)) := b2.alloc (by omega) _
  have z3 : (w2.alloc (.cells #[.int .i64 (-1), .int .i64 0, .int .i64 0, .int .i64 1, .int .i64 1, .int .i64 2, .int .i64 2] 3)).heap.size = w.heap.size + 1 + 1 + 1 := by simp [z2]
  have o1 : OwnL (w2.alloc (.cells #[.int .i64 (-1), .int .i64 0, .int .i64 0, .int .i64 1, .int .i64 1, .int .i64 2, .int .i64 2] 3)) w.heap.size (sl w.heap.size 7) (rgK 0).names := World.ownsRow.alloc o1' _
  have o2' : OwnI (w2.alloc (.cells #[.int .i64 (-1), .int .i64 0, .int .i64 0, .int .i64 1, .int .i64 1, .int .i64 2, .int .i64 2] 3)) w.heap.size (sl (w.heap.size + 1) 7) (rgK 0).kinds := World.ownsRow.alloc o2 _
  clear o1' o2 b2
  generalize w2.alloc (.cells #[.int .i64 (-1), .int .i64 0, .int .i64 0, .int .i64 1, .int .i64 1, .int .i64 2, .int .i64 2] 3) = w3 at *
  have r4 := heap_alloc_new w3 (.cells #[sl w.heap.size 7, sl (w.heap.size + 1) 7, sl (w.heap.size + 1 + 1) 7, .slice none 0 0] 28)
  rw [z3] at r4
  have z4 : (w3.alloc (.cells #[sl w.heap.size 7, sl (w.heap.size + 1) 7, sl (w.heap.size + 1 + 1) 7, .slice none 0 0] 28)).heap.size = w.heap.size + 1 + 1 + 1 + 1 := by simp [z3]
  have r5 := heap_alloc_new (w3.alloc (.cells #[sl w.heap.size 7, sl (w.heap.size + 1) 7, sl (w.heap.size + 1 + 1) 7, .slice none 0 0] 28)) (.cells #[.int .i64 3, .int .i64 4, .int .i64 4, .int .i64 3, .int .i64 5, .int .i64 6, .int .i64 6, .int .i64 5] 29)
  rw [z4] at r5
  have r4' : ((w3.alloc (.cells #[sl w.heap.size 7, sl (w.heap.size + 1) 7, sl (w.heap.size + 1 + 1) 7, .slice none 0 0] 28)).alloc (.cells #[.int .i64 3, .int .i64 4, .int .i64 4, .int .i64 3, .int .i64 5, .int .i64 6, .int .i64 6, .int .i64 5] 29)).heap[w.heap.size + 1 + 1 + 1]? = _ := (heap_alloc_old _ _ (by omega)).trans r4
  refine ⟨⟨r4', by omega, World.ownsRow.alloc (World.ownsRow.alloc o1 _) _, World.ownsRow.alloc (World.ownsRow.alloc o2' _) _, World.ownsRow.alloc (World.ownsRow.alloc o3 _) _, fun g e1 e2 => ?_, World.ownsRow_nil _ _ _ _, (b3.alloc (by omega) _).alloc (by omega) _⟩, r5⟩
  simp [Value.ownBlock] at e1 e2
  omega
set_option maxHeartbeats 8000000 in
theorem regions_walk (w : World) (v : Value) (l : List Int) (h : IntsC w v l) :
    Calls Try.prog 3 #[v] w (TrueOn w) := by
  obtain ⟨i0, hi, hz0, hz1, hz2⟩ := info_parts Try.infoTran
  obtain ⟨⟨Am, cm, rfl, hml, hmc⟩, _⟩ := h
  have HMC := Lib.hid hmc
  clear hmc
  go_enter Try.func3, Try.ntmps3
  go_upto_region 3 with fail
  go_loopw [27] (fun i wr => ∃ k : Nat, k ≤ 4 ∧ i = .int .i64 k ∧ Hid (∃ vT, CA w wr (w.heap.size + 1 + 1 + 1) (rgK k) (sl w.heap.size 7) (sl (w.heap.size + 1) 7) (sl (w.heap.size + 1 + 1) 7) vT) ∧ Hid (wr.heap[w.heap.size + 1 + 1 + 1 + 1]? = some (.cells #[.int .i64 3, .int .i64 4, .int .i64 4, .int .i64 3, .int .i64 5, .int .i64 6, .int .i64 6, .int .i64 5] 29 (0, 0)))) (fun i _ => 4 - (intOf i).toNat)
  case atStart => exact ⟨0, by omega, rfl, ⟨_, (rg_mem w).1⟩, (rg_mem w).2⟩
  case round =>
    obtain ⟨k, hk, rfl, HC0, HP⟩ := hrel
    obtain ⟨vT, HC⟩ := HC0.out
    clear HC0
    by_cases hlt : k < 4
    · obtain ⟨hc0, hc1⟩ := rg_cells k hlt
      have q0 := cell_of_row _ _ (k * 2) _ _ _ HP.out
      have q1 := cell_of_row _ _ (k * 2 + 1) _ _ _ HP.out
      rw [hc0] at q0
      rw [hc1] at q1
      clear hc0 hc1
      go_upto_region 5 with fail
      have hbx := box_b wr (.cells #[.int .i64 (rgF k), .int .i64 (rgG k)] 29)
      have RB := HC.below hbx
      have hpl := (Array.getElem?_eq_some_iff.1 HP.out).1
      have HP5 : Hid ((wr.alloc (.cells #[.int .i64 (rgF k), .int .i64 (rgG k)] 29)).heap[w.heap.size + 1 + 1 + 1 + 1]? = _) := (heap_alloc_old _ _ hpl).trans HP.out
      have RT := heap_alloc_new wr (.cells #[.int .i64 (rgF k), .int .i64 (rgG k)] 29)
      have hz5 : w.heap.size ≤ (wr.alloc (.cells #[.int .i64 (rgF k), .int .i64 (rgG k)] 29)).heap.size := RB.be.size
      clear HC HP q0 q1 hbx hpl
      generalize wr.heap.size = gt at *
      generalize wr.alloc (.cells #[.int .i64 (rgF k), .int .i64 (rgG k)] 29) = w5 at *
      obtain ⟨AT, cT, hvT⟩ := own_slice RB.oT
      rw [rgK_len k hk] at hvT
      subst hvT
      have x0 := cell_of_row _ _ 0 _ _ _ RT; have x1 := cell_of_row _ _ 1 _ _ _ RT
      have c3 := RB.q3
      have hK := rgK_succ hlt
      rw [rg_tr hlt] at hK
      have HKS := Lib.hid hK
      have HKL := Lib.hid (rgK_len k hk)
      generalize rgF k = f at *
      generalize rgG k = t at *
      have t1 : (w5.alloc (.cells #[.int .i64 9, .int .i64 f, .int .i64 t, .string (bs [101]), .string (bs []), .string (bs []), .int .i64 0] 32)).ownsRow w.heap.size 32 7 (.slice AT k cT) k (tcells (rgK k).trans) := by
        have := World.ownsRow.alloc RB.oT (.cells #[.int .i64 9, .int .i64 f, .int .i64 t, .string (bs [101]), .string (bs []), .string (bs []), .int .i64 0] 32)
        rwa [HKL.out] at this
      have t3 : ∀ j u, (tcells [rgT f t])[j]? = some u → (w5.alloc (.cells #[.int .i64 9, .int .i64 f, .int .i64 t, .string (bs [101]), .string (bs []), .string (bs []), .int .i64 0] 32)).cell? ((⟨w5.heap.size, 0, none⟩ : Addr).add j) = some u := cells_new w5 (tcells [rgT f t]) 32
      have t4 : w.heap.size ≤ (w5.alloc (.cells #[.int .i64 9, .int .i64 f, .int .i64 t, .string (bs [101]), .string (bs []), .string (bs []), .int .i64 0] 32)).heap.size := Nat.le_trans hz5 (box_b w5 _).size
      have t5 : k + 1 ≤ maxLen := by unfold maxLen; omega
      have t6 : (k + 1) * 80 ≤ 140737488355328 := by omega
      go_wp2_with (at_builtin; go_must (refine wpList_append_lies _ rfl (.tmp 32) (.tmp 38) 26 rfl w.heap.size 32 i0 _ 7 80 Try.underlying26 hi hz0 hz1 hz2 rfl (by decide) (.slice AT k cT) k (tcells (rgK k).trans) rfl t1 ⟨w5.heap.size, 0, none⟩ 1 1 (tcells [rgT f t]) rfl rfl t3 (t_oneA _) (by decide) t5 t6 t4 _ rfl ?_; intro g1 cp1 X1 hown1 hg1 hat1 hlt1; have hg9 : w5.grownBy X1 (Value.ownBlock (.slice AT k cT)) := grown_new1A hg1; have hne9 := own_row_ne RB.oT RB.row (by decide); have hr9 := RB.row1 hg9 hne9; have z1 : X1.frozen? ⟨w.heap.size + 1 + 1 + 1, 3, none⟩ = false := (by simp [World.frozen?, hr9]); have z2 := cell_of_row X1 (w.heap.size + 1 + 1 + 1) 3 _ _ _ hr9))
      have RB5 := RB.trans hg9 (x := rgT f t) (v' := .slice (some ⟨g1, 0, none⟩) (k + 1) cp1) (ownT_snocA (by rw [HKL.out]; exact hown1))
      rw [← HKS.out] at RB5
      have hne8 := own_row_ne RB.oT HP5.out (by decide)
      have hp5l := (Array.getElem?_eq_some_iff.1 HP5.out).1
      have HP6 : Hid ((X1.setCell ⟨w.heap.size + 1 + 1 + 1, 3, none⟩ (.slice (some ⟨g1, 0, none⟩) (k + 1) cp1)).heap[w.heap.size + 1 + 1 + 1 + 1]? = _) := ru_keepA HP5.out hg9 hne8 (by omega)
      have HC6 := Lib.hid RB5
      go_roundw
      case rel => exact ⟨k + 1, by omega, by go_num, ⟨_, HC6.out⟩, HP6.out⟩
      case measure => simp [intOf]; omega
    · have ek : k = 4 := by omega
      subst ek
      obtain ⟨AT, cT, rfl⟩ := own_slice HC.oT
      have HW : Hid (∀ W, Below wr.heap.size wr W → ChW W rgC 7 (some ⟨w.heap.size + 1, 0, none⟩) (some ⟨w.heap.size + 1 + 1, 0, none⟩) AT 7 7 cT) := fun W hW => ChW.below (W := wr)
        ⟨⟨ints_of_own HC.oK (by unfold okI; decide) (by decide), ints_of_own HC.oP (by unfold okI; decide) (by decide)⟩, tAt_of HC.oT, own_cap HC.oT, by decide, rg_sh, by omega, by omega, rg_ft⟩ hW
      have BG := begin_any rgC 7 (some ⟨w.heap.size, 0, none⟩) (some ⟨w.heap.size + 1, 0, none⟩) (some ⟨w.heap.size + 1 + 1, 0, none⟩) AT 7 7 7 cT 0 (Plc rgC.kinds rgC.parents 7) wr (HW.out _ (Below.refl _ _)) (listAt_of HC.oN) rg_val (by decide) (by decide) rg_inv (Plc.beg rg_sh (by omega) (by decide))
      rw [rg_run] at BG
      have BG : Calls _ _ _ _ _ := BG.mono (fun e w' (h : RunTo 7 (some (rgX false false 0 0 0 0, [])) wr e w') => (show Below wr.heap.size wr w' ∧ ∃ (g3 gS : Nat) (A : Option Addr) (cO : Nat), e = .returned (.tuple #[.agg #[.int .u32 47, sl g3 7, sl gS 7], .slice A 0 cO, .nilIface]) ∧ wr.heap.size ≤ g3 ∧ CfR wr.heap.size w' 7 (rgX false false 0 0 0 0) (sl g3 7) gS from by
        obtain ⟨hb, g3, gS, v, rfl, h3, hR, hO⟩ := h
        obtain ⟨A, cO, rfl⟩ := own_slice hO
        exact ⟨hb, g3, gS, A, cO, rfl, h3, hR⟩))
      have BG := Lib.hid BG
      have q0 := HC.q0; have q1 := HC.q1; have q2 := HC.q2; have q3 := HC.q3
      have HRC := Lib.hid HC.row
      have hbl := HC.lt
      have HB := Lib.hid HC.be
      have ht4 : (rgK 4).trans.length = 4 := rfl
      simp only [ht4] at *
      clear HC HP hk hlt ht4 hi hz0 hz1 hz2
      go_upto_region 8 with (go_at_call 11; refine BG.out.mono ?_; rintro e w2 ⟨hb2, g3, gS, A, cO, rfl, hg3, hR⟩; have HB2 := Lib.hid hb2; have HR2 := Lib.hid hR; clear hb2 hR)
      have hbx := box_b w2 (.cells #[.int .u32 47, sl g3 7, sl gS 7] 36)
      have RX := heap_alloc_new w2 (.cells #[.int .u32 47, sl g3 7, sl gS 7] 36)
      have HRX := Lib.hid RX
      have HBX := Lib.hid hbx
      have hgS := HR2.out.lo
      have hgPl : g3 < w2.heap.size := by
        obtain ⟨A9, c9, e9, hl9, hc9⟩ := HR2.out.uP
        obtain ⟨b9, off9, e2, hb9, _⟩ := hc9 0 (by decide)
        injection e9 with e1
        rw [e2] at e1
        injection e1 with e1
        injection e1 with e1
        rw [e1]; exact hb9
      have hgSl : gS < w2.heap.size := (Array.getElem?_eq_some_iff.1 HR2.out.rS).1
      have x0 := cell_of_row _ _ 0 _ _ _ RX
      have hs2 := HB2.out.size
      have hsw := HB.out.size
      clear RX hbx q0 q1 q2 q3 BG
      go_upto_region 12 with fail
      go_loopw [9, 10, 11] (fun va vb vi W => ∃ (k : Nat) (a b : Bool) (z3 z4 z5 z6 : Int) (gP gS : Nat), vi = .int .i64 k ∧ k ≤ 9 ∧ va = .int .i64 (cond a 1 0) ∧ vb = .int .i64 (cond b 1 0) ∧ Hid ((Lit.int .i64 z3).wf = true ∧ (Lit.int .i64 z4).wf = true ∧ (Lit.int .i64 z5).wf = true ∧ (Lit.int .i64 z6).wf = true) ∧
        Hid (W.heap[w2.heap.size]? = some (.cells #[.int .u32 (rgS a b : Nat), sl gP 7, sl gS 7] 36 (0, 0))) ∧ Hid (CfR w.heap.size W 7 (rgX a b z3 z4 z5 z6) (sl gP 7) gS) ∧ gP ≠ w2.heap.size ∧ gS ≠ w2.heap.size ∧ Hid (Below w2.heap.size w2 W)) (fun _ _ vi _ => 9 - (intOf vi).toNat)
      case atStart => exact ⟨0, false, false, 0, 0, 0, 0, g3, gS, rfl, by omega, rfl, rfl, ⟨by decide, by decide, by decide, by decide⟩, HRX.out, (HR2.out.below HBX.out).base hsw, by omega, by omega, HBX.out⟩
      case round =>
        clear hgS hgPl hgSl x0 HR2 hg3 HBX HRX
        obtain ⟨k, a, b, z3, z4, z5, z6, gP, gS2, rfl, hk9, rfl, rfl, HZ, HX, HR, hgP, hgS, HBl⟩ := hrel
        obtain ⟨wl, rfl⟩ : ∃ x : World, x = wr := ⟨_, rfl⟩
        have hb0 := below_then HB.out HB2.out HB.out.size
        have HBW := Lib.hid (below_then hb0 HBl.out hb0.size)
        have hbl2 : w.heap.size + 1 + 1 + 1 < w2.heap.size := by omega
        have HRCl := Lib.hid ((HBl.out.block _ hbl2).trans ((HB2.out.block _ hbl).trans HRC.out))
        have HWl : Hid (∀ W, Below wl.heap.size wl W → ChW W rgC 7 (some ⟨w.heap.size + 1, 0, none⟩) (some ⟨w.heap.size + 1 + 1, 0, none⟩) AT 7 7 cT) := fun W hW => (HW.out _ (below_then HB2.out HBl.out HB2.out.size)).below hW
        have hbz := HBl.out.size
        clear HW hb0
        by_cases hlt : k < 9 ∧ k < l.length
        case neg =>
          clear HMC HRCl HWl HX HR HZ
          have WK := Lib.hid (wakes09 wl)
          by_cases hkl : k < l.length
          · have h9 : k = 9 := by omega
            subst h9
            have hkl' : (9 : Int) < l.length := by omega
            go_wp2_with (go_at_call 15; refine WK.out.mono ?_; rintro e w5 ⟨rfl, hb5⟩)
            go_ret
            exact ⟨rfl, below_then HBW.out hb5 HBW.out.size⟩
          · have hkl' : ¬ (k : Int) < l.length := by omega
            go_wp2_with (go_at_call 15; refine WK.out.mono ?_; rintro e w5 ⟨rfl, hb5⟩)
            go_ret
            exact ⟨rfl, below_then HBW.out hb5 HBW.out.size⟩
        obtain ⟨hk, hkl⟩ := hlt
        have hk' : (k : Int) < 9 := by omega
        have hkl' : (k : Int) < l.length := by omega
        obtain ⟨bm, om, rfl, hbm, hcm0, hwm⟩ := HMC.out k hkl
        have hcm := (HBW.out.cell (p := ⟨bm, om + k, none⟩) hbm).trans hcm0
        have EN := Lib.hid (enabled_any rgC 7 (some ⟨w.heap.size, 0, none⟩) (some ⟨w.heap.size + 1, 0, none⟩) (some ⟨w.heap.size + 1 + 1, 0, none⟩) AT (some ⟨gP, 0, none⟩) (some ⟨gS2, 0, none⟩) 7 7 7 cT 7 7 7 7 (rgS a b) 9 [101] wl (HWl.out _ (Below.refl _ _)) (by cases a <;> cases b <;> decide) (rg_few _ _ _))
        rw [rg_en] at EN
        have WA := fun W => Within_any l[k] 2 W hwm (by omega) (by omega)
        obtain ⟨r, hr⟩ : ∃ r : Bool, within l[k] 2 = cond r 1 0 := by
          have := within_bd l[k] 2 (by omega)
          rcases (by omega : within l[k] 2 = 0 ∨ within l[k] 2 = 1) with h | h
          · exact ⟨false, h⟩
          · exact ⟨true, h⟩
        rw [hr] at WA
        generalize l[k] = mk at *
        have WA := Lib.hid WA
        clear hr hcm0
        have c0 := cell_of_row _ _ 0 _ _ _ HRCl.out; have c1 := cell_of_row _ _ 1 _ _ _ HRCl.out; have c2 := cell_of_row _ _ 2 _ _ _ HRCl.out; have c3 := cell_of_row _ _ 3 _ _ _ HRCl.out
        have x0 := cell_of_row _ _ 0 _ _ _ HX.out; have x1 := cell_of_row _ _ 1 _ _ _ HX.out; have x2 := cell_of_row _ _ 2 _ _ _ HX.out
        go_upto_region 15 with (go_at_call 12; refine EN.out.mono ?_; rintro e w3 ⟨hb3, v3, rfl, hO3⟩; obtain ⟨A3, cp3, rfl⟩ := own_slice hO3; have HB3 := Lib.hid hb3; have HO3 := Lib.hid hO3; clear hb3 hO3)
        have HBl3 := Lib.hid (below_then HBl.out HB3.out hbz)
        have hs3 := HB3.out.size
        have HR3 := Lib.hid (HR.out.below HB3.out)
        have hcm3 := (HB3.out.cell (p := ⟨bm, om + k, none⟩) (Nat.lt_of_lt_of_le hbm HBW.out.size)).trans hcm
        have hX3 := (HB3.out.block _ (Array.getElem?_eq_some_iff.1 HX.out).1).trans HX.out
        have hC3 := (HB3.out.block _ (Array.getElem?_eq_some_iff.1 HRCl.out).1).trans HRCl.out
        have hL0 := (Array.getElem?_eq_some_iff.1 hC3).1
        have hL1 := (Array.getElem?_eq_some_iff.1 hX3).1
        have HX3 := Lib.hid hX3
        have HC3 := Lib.hid hC3
        clear c0 c1 c2 c3 x0 x1 x2 hcm EN HX HRCl HR hX3 hC3
        have hI := ints_of_own HO3.out (by cases a <;> cases b <;> (unfold okI; decide)) (by cases a <;> cases b <;> decide)
        have hL : ∃ b3 o3, A3 = some ⟨b3, o3, none⟩ ∧ b3 < w3.heap.size ∧ w3.cell? ⟨b3, o3, none⟩ = some (.int .i64 ((cond a 1 0 : Nat) : Int)) ∧ w3.cell? ⟨b3, o3 + 1, none⟩ = some (.int .i64 ((cond b 3 2 : Nat) : Int)) := by
          obtain ⟨A9, c9, e9, _, hc9⟩ := hI
          injection e9 with e1
          subst e1
          obtain ⟨b3, o3, rfl, hL3, l0, _⟩ := hc9 0 (by simp)
          obtain ⟨b3', o3', e3, _, l1, _⟩ := hc9 1 (by simp)
          injection e3 with e3
          injection e3 with e3 e4
          subst e3 e4
          exact ⟨_, _, rfl, hL3, l0, l1⟩
        clear hI
        obtain ⟨b3, o3, rfl, hL3, l0, l1⟩ := hL
        have ewk : IntKind.i64.wrap ((k : Int) + 1) = k + 1 := by rw [IntKind.wrap_i64]; omega
        clear HO3
        go_upto_region 18 with (go_at_call 13; refine (WA.out _).mono ?_; rintro e w1 ⟨rfl, rfl⟩)
        have c0 := cell_of_row _ _ 0 _ _ _ HC3.out; have c1 := cell_of_row _ _ 1 _ _ _ HC3.out; have c2 := cell_of_row _ _ 2 _ _ _ HC3.out; have c3 := cell_of_row _ _ 3 _ _ _ HC3.out
        have x0 := cell_of_row _ _ 0 _ _ _ HX3.out; have x1 := cell_of_row _ _ 1 _ _ _ HX3.out; have x2 := cell_of_row _ _ 2 _ _ _ HX3.out
        clear hcm3 WA
        cases r
        · have TK : Hid (∀ W, Below w3.heap.size w3 W → Calls Try.prog 14 #[chV (some ⟨w.heap.size, 0, none⟩) (some ⟨w.heap.size + 1, 0, none⟩) (some ⟨w.heap.size + 1 + 1, 0, none⟩) AT 7 7 7 7 7 7 4 cT, .agg #[.int .u32 (rgS a b : Nat), sl gP 7, sl gS2 7], .int .i64 ((cond a 1 0 : Nat) : Int), .int .i64 ((k : Int) + 1)] W (TakTo 7 (rgX (!a) b (cond a ((k : Int) + 1) 0) (cond a 0 ((k : Int) + 1)) z5 z6) W)) := fun W hW => by
            have hCR := HR3.out.below hW
            have := takeT_any rgC 7 (some ⟨w.heap.size, 0, none⟩) (some ⟨w.heap.size + 1, 0, none⟩) (some ⟨w.heap.size + 1 + 1, 0, none⟩) AT (some ⟨gP, 0, none⟩) (some ⟨gS2, 0, none⟩) 7 7 7 cT 7 7 (rgX a b z3 z4 z5 z6) (cond a 1 0) ((k : Int) + 1) W (HWl.out _ (below_then HB3.out hW HB3.out.size)) hCR.ok hCR.uP (hCR.ints (by omega)) (by cases a <;> cases b <;> decide) (rg_in a b).1 (wf_any (by omega) (by omega)) ((rg_plc HZ.out.1 HZ.out.2.1 HZ.out.2.2.1 HZ.out.2.2.2).pastOk rg_sh (by omega) _)
            rw [rg_movA] at this
            exact this
          go_cut [14, 15] (fun x y wx => ∃ (g14 g3' gS' : Nat), x = .pointer (some ⟨g14, 0, none⟩) ∧ y = .nilIface ∧ Hid (wx.heap[g14]? = some (.cells #[.int .u32 (rgS (!a) b : Nat), sl g3' 7, sl gS' 7] 36 (0, 0))) ∧ Hid (CfR w3.heap.size wx 7 (rgX (!a) b (cond a ((k : Int) + 1) 0) (cond a 0 ((k : Int) + 1)) z5 z6) (sl g3' 7) gS') ∧ w3.heap.size ≤ g3' ∧ w3.heap.size ≤ g14 ∧ Hid (Below w3.heap.size w3 wx))
          case first =>
            go_region_held3 (fun w' => w'.cell? ⟨w.heap.size + 1 + 1 + 1, 0, none⟩ = some (sl w.heap.size 7) ∧ w'.cell? ⟨w.heap.size + 1 + 1 + 1, 1, none⟩ = some (sl (w.heap.size + 1) 7) ∧ w'.cell? ⟨w.heap.size + 1 + 1 + 1, 2, none⟩ = some (sl (w.heap.size + 1 + 1) 7) ∧ w'.cell? ⟨w.heap.size + 1 + 1 + 1, 3, none⟩ = some (.slice AT 4 cT) ∧ w'.cell? ⟨w2.heap.size, 0, none⟩ = some (.int .u32 (rgS a b : Nat)) ∧ w'.cell? ⟨w2.heap.size, 1, none⟩ = some (sl gP 7) ∧ w'.cell? ⟨w2.heap.size, 2, none⟩ = some (sl gS2 7) ∧ w'.cell? ⟨b3, o3, none⟩ = some (.int .i64 ((cond a 1 0 : Nat) : Int)))
              (first | exact ⟨c0, c1, c2, c3, x0, x1, x2, l0⟩ | exact ⟨(hb7.cell (p := ⟨w.heap.size + 1 + 1 + 1, 0, none⟩) hL0).trans c0, (hb7.cell (p := ⟨w.heap.size + 1 + 1 + 1, 1, none⟩) hL0).trans c1, (hb7.cell (p := ⟨w.heap.size + 1 + 1 + 1, 2, none⟩) hL0).trans c2, (hb7.cell (p := ⟨w.heap.size + 1 + 1 + 1, 3, none⟩) hL0).trans c3, (hb7.cell (p := ⟨w2.heap.size, 0, none⟩) hL1).trans x0, (hb7.cell (p := ⟨w2.heap.size, 1, none⟩) hL1).trans x1, (hb7.cell (p := ⟨w2.heap.size, 2, none⟩) hL1).trans x2, (hb7.cell (p := ⟨b3, o3, none⟩) hL3).trans l0⟩ | exact ⟨(World.cell?_alloc_lt _ _ _ hN0).trans ((hb7.cell (p := ⟨w.heap.size + 1 + 1 + 1, 0, none⟩) hL0).trans c0), (World.cell?_alloc_lt _ _ _ hN0).trans ((hb7.cell (p := ⟨w.heap.size + 1 + 1 + 1, 1, none⟩) hL0).trans c1), (World.cell?_alloc_lt _ _ _ hN0).trans ((hb7.cell (p := ⟨w.heap.size + 1 + 1 + 1, 2, none⟩) hL0).trans c2), (World.cell?_alloc_lt _ _ _ hN0).trans ((hb7.cell (p := ⟨w.heap.size + 1 + 1 + 1, 3, none⟩) hL0).trans c3), (World.cell?_alloc_lt _ _ _ hN1).trans ((hb7.cell (p := ⟨w2.heap.size, 0, none⟩) hL1).trans x0), (World.cell?_alloc_lt _ _ _ hN1).trans ((hb7.cell (p := ⟨w2.heap.size, 1, none⟩) hL1).trans x1), (World.cell?_alloc_lt _ _ _ hN1).trans ((hb7.cell (p := ⟨w2.heap.size, 2, none⟩) hL1).trans x2), (World.cell?_alloc_lt _ _ _ hN3).trans ((hb7.cell (p := ⟨b3, o3, none⟩) hL3).trans l0)⟩ | exact ⟨(sets3_cell w7 _ _ _ _ _ _ hN0 (Nat.ne_of_lt hL0)).trans ((hb7.cell (p := ⟨w.heap.size + 1 + 1 + 1, 0, none⟩) hL0).trans c0), (sets3_cell w7 _ _ _ _ _ _ hN0 (Nat.ne_of_lt hL0)).trans ((hb7.cell (p := ⟨w.heap.size + 1 + 1 + 1, 1, none⟩) hL0).trans c1), (sets3_cell w7 _ _ _ _ _ _ hN0 (Nat.ne_of_lt hL0)).trans ((hb7.cell (p := ⟨w.heap.size + 1 + 1 + 1, 2, none⟩) hL0).trans c2), (sets3_cell w7 _ _ _ _ _ _ hN0 (Nat.ne_of_lt hL0)).trans ((hb7.cell (p := ⟨w.heap.size + 1 + 1 + 1, 3, none⟩) hL0).trans c3), (sets3_cell w7 _ _ _ _ _ _ hN1 (Nat.ne_of_lt hL1)).trans ((hb7.cell (p := ⟨w2.heap.size, 0, none⟩) hL1).trans x0), (sets3_cell w7 _ _ _ _ _ _ hN1 (Nat.ne_of_lt hL1)).trans ((hb7.cell (p := ⟨w2.heap.size, 1, none⟩) hL1).trans x1), (sets3_cell w7 _ _ _ _ _ _ hN1 (Nat.ne_of_lt hL1)).trans ((hb7.cell (p := ⟨w2.heap.size, 2, none⟩) hL1).trans x2), (sets3_cell w7 _ _ _ _ _ _ hN3 (Nat.ne_of_lt hL3)).trans ((hb7.cell (p := ⟨b3, o3, none⟩) hL3).trans l0)⟩ | go_keep)
              (first | (go_at_call 14; refine (TK.out _ (by first | exact Below.refl _ _ | exact below_drew (Below.refl _ _) | exact Below.alloc (below_drew (Below.refl _ _)) (Nat.le_refl _) _ | exact Below.alloc (Below.refl _ _) (Nat.le_refl _) _)).mono ?_; rintro e w7 ⟨hb7', g3', gS', rfl, hg3', hR7⟩; have hb7 : Below w3.heap.size w3 w7 := (by first | exact hb7' | exact below_then (below_drew (Below.refl _ _)) hb7' (Nat.le_refl _) | exact below_then (Below.alloc (below_drew (Below.refl _ _)) (Nat.le_refl _) _) hb7' (box_b _ _).size | exact below_then (Below.alloc (Below.refl _ _) (Nat.le_refl _) _) hb7' (box_b _ _).size); have hN0 : w.heap.size + 1 + 1 + 1 < w7.heap.size := Nat.lt_of_lt_of_le hL0 hb7.size; have hN1 : w2.heap.size < w7.heap.size := Nat.lt_of_lt_of_le hL1 hb7.size; have hN3 : b3 < w7.heap.size := Nat.lt_of_lt_of_le hL3 hb7.size; first | (have rr7 : w7.heap[w3.heap.size]? = some (.cells #[.int .u32 0, .slice none 0 0, .slice none 0 0] 36 (0, 0)) := (hb7'.block _ (by simp)).trans (heap_alloc_new _ _); have d0 := cell_of_row _ _ 0 _ _ _ rr7; have d1 := cell_of_row _ _ 1 _ _ _ rr7; have d2 := cell_of_row _ _ 2 _ _ _ rr7; have f0 := fzc_of rr7 0; have f1 := fzc_of rr7 1; have f2 := fzc_of rr7 2; have hx3 : w3.heap.size < g3' := Nat.lt_of_lt_of_le (by simp) hg3'; have hxS : w3.heap.size < gS' := Nat.lt_of_lt_of_le (by simp) hR7.lo) | skip); have hg3 : w3.heap.size ≤ g3' := (by first | exact hg3' | exact Nat.le_trans (box_b _ _).size hg3'); have hR9 := hR7.base (base' := w3.heap.size) (by first | exact Nat.le_refl _ | exact (box_b _ _).size))
            all_goals
              go_wp2_with fail
              go_meet
              first
                | exact ⟨_, g3', gS', rfl, rfl, heap_alloc_new _ _, hR9.below (box_b _ _), hg3, hb7.size, hb7.alloc hb7.size _⟩
                | exact ⟨_, g3', gS', rfl, rfl, sets3_row rr7 _ _ _, sets3_cfr hR9 (Nat.ne_of_gt hx3) (Nat.ne_of_gt hxS) _ _ _, hg3, Nat.le_refl _, sets3_below hb7 (Nat.le_refl _) (Nat.le_refl _) _ _ _⟩
          case rest =>
            obtain ⟨g14, gP4, gS4, rfl, rfl, HY, HRY, hgP4, hg14, HBc⟩ := hcut
            clear TK c0 c1 c2 c3 x0 x1 x2 l0 l1
            have hXc := (HBc.out.block _ hL1).trans HX3.out
            have f0 := fzc_of hXc 0; have f1 := fzc_of hXc 1; have f2 := fzc_of hXc 2
            have x0 := cell_of_row _ _ 0 _ _ _ hXc; have x1 := cell_of_row _ _ 1 _ _ _ hXc; have x2 := cell_of_row _ _ 2 _ _ _ hXc
            have y1 : wc.cell? ⟨g14, 1, none⟩ = some (sl gP4 7) := cell_of_row _ _ 1 _ _ _ HY.out
            have y2 : wc.cell? ⟨g14, 2, none⟩ = some (sl gS4 7) := cell_of_row _ _ 2 _ _ _ HY.out
            have s0 : wc.cell? ⟨gS4, 0, none⟩ = some (.int .i64 0) := cell_of_row _ _ 0 _ _ _ HRY.out.rS
            have s1 : wc.cell? ⟨gS4, 1, none⟩ = some (.int .i64 0) := cell_of_row _ _ 1 _ _ _ HRY.out.rS
            have hy0 := cell_of_row _ _ 0 _ _ _ HY.out
            have hgS4 := HRY.out.lo
            have HBn := Lib.hid (below_then HBl3.out HBc.out HBl3.out.size)
            have HFIN : Hid (∀ v0 v1 v2, CfR w.heap.size (sets3 wc w2.heap.size v0 v1 v2) 7 (rgX (!a) b (cond a ((k : Int) + 1) 0) (cond a 0 ((k : Int) + 1)) z5 z6) (sl gP4 7) gS4 ∧ Below w2.heap.size w2 (sets3 wc w2.heap.size v0 v1 v2) ∧ (sets3 wc w2.heap.size v0 v1 v2).heap[w2.heap.size]? = some (.cells #[v0, v1, v2] 36 (0, 0))) := fun v0 v1 v2 =>
              ⟨(sets3_cfr HRY.out (by omega) (by omega) v0 v1 v2).base (by omega), sets3_below HBn.out (Nat.le_refl _) (Nat.le_refl _) v0 v1 v2, sets3_row hXc v0 v1 v2⟩
            have HZK : Hid ((Lit.int .i64 ((k : Int) + 1)).wf = true) := wf_any (by omega) (by omega)
            have hgn1 : gP4 ≠ w2.heap.size := by omega
            have hgn2 : gS4 ≠ w2.heap.size := by omega
            clear HY HX3 HC3 hXc HRY WA HBl3 HB3 HR3
            cases a
            · cases b
              · have y0 : wc.cell? ⟨g14, 0, none⟩ = some (.int .u32 55) := hy0
                clear hy0
                have o1 : bits .or .u32 7 16 = 23 := by kernel_rfl
                have o2 : bits .or .u32 23 32 = 55 := by kernel_rfl
                go_wp2
                go_roundw
                case rel =>
                  obtain ⟨hf1, hf2, hf3⟩ := HFIN.out (.int .u32 55) (sl gP4 7) (sl gS4 7)
                  exact ⟨k + 1, true, false, 0, (k : Int) + 1, z5, z6, gP4, gS4, by go_num, by omega, by rfl, by rfl, ⟨by decide, HZK.out, HZ.out.2.2.1, HZ.out.2.2.2⟩, hf3, hf1, hgn1, hgn2, hf2⟩
                case measure => simp [intOf]; omega
              · have y0 : wc.cell? ⟨g14, 0, none⟩ = some (.int .u32 87) := hy0
                clear hy0
                have o1 : bits .or .u32 7 16 = 23 := by kernel_rfl
                have o2 : bits .or .u32 23 64 = 87 := by kernel_rfl
                go_wp2
                go_roundw
                case rel =>
                  obtain ⟨hf1, hf2, hf3⟩ := HFIN.out (.int .u32 87) (sl gP4 7) (sl gS4 7)
                  exact ⟨k + 1, true, true, 0, (k : Int) + 1, z5, z6, gP4, gS4, by go_num, by omega, by rfl, by rfl, ⟨by decide, HZK.out, HZ.out.2.2.1, HZ.out.2.2.2⟩, hf3, hf1, hgn1, hgn2, hf2⟩
                case measure => simp [intOf]; omega
            · cases b
              · have y0 : wc.cell? ⟨g14, 0, none⟩ = some (.int .u32 47) := hy0
                clear hy0
                have o1 : bits .or .u32 7 8 = 15 := by kernel_rfl
                have o2 : bits .or .u32 15 32 = 47 := by kernel_rfl
                go_wp2
                go_roundw
                case rel =>
                  obtain ⟨hf1, hf2, hf3⟩ := HFIN.out (.int .u32 47) (sl gP4 7) (sl gS4 7)
                  exact ⟨k + 1, false, false, (k : Int) + 1, 0, z5, z6, gP4, gS4, by go_num, by omega, by rfl, by rfl, ⟨HZK.out, by decide, HZ.out.2.2.1, HZ.out.2.2.2⟩, hf3, hf1, hgn1, hgn2, hf2⟩
                case measure => simp [intOf]; omega
              · have y0 : wc.cell? ⟨g14, 0, none⟩ = some (.int .u32 79) := hy0
                clear hy0
                have o1 : bits .or .u32 7 8 = 15 := by kernel_rfl
                have o2 : bits .or .u32 15 64 = 79 := by kernel_rfl
                go_wp2
                go_roundw
                case rel =>
                  obtain ⟨hf1, hf2, hf3⟩ := HFIN.out (.int .u32 79) (sl gP4 7) (sl gS4 7)
                  exact ⟨k + 1, false, true, (k : Int) + 1, 0, z5, z6, gP4, gS4, by go_num, by omega, by rfl, by rfl, ⟨HZK.out, by decide, HZ.out.2.2.1, HZ.out.2.2.2⟩, hf3, hf1, hgn1, hgn2, hf2⟩
                case measure => simp [intOf]; omega
        · have TK : Hid (∀ W, Below w3.heap.size w3 W → Calls Try.prog 14 #[chV (some ⟨w.heap.size, 0, none⟩) (some ⟨w.heap.size + 1, 0, none⟩) (some ⟨w.heap.size + 1 + 1, 0, none⟩) AT 7 7 7 7 7 7 4 cT, .agg #[.int .u32 (rgS a b : Nat), sl gP 7, sl gS2 7], .int .i64 ((cond b 3 2 : Nat) : Int), .int .i64 ((k : Int) + 1)] W (TakTo 7 (rgX a (!b) z3 z4 (cond b ((k : Int) + 1) 0) (cond b 0 ((k : Int) + 1))) W)) := fun W hW => by
            have hCR := HR3.out.below hW
            have := takeT_any rgC 7 (some ⟨w.heap.size, 0, none⟩) (some ⟨w.heap.size + 1, 0, none⟩) (some ⟨w.heap.size + 1 + 1, 0, none⟩) AT (some ⟨gP, 0, none⟩) (some ⟨gS2, 0, none⟩) 7 7 7 cT 7 7 (rgX a b z3 z4 z5 z6) (cond b 3 2) ((k : Int) + 1) W (HWl.out _ (below_then HB3.out hW HB3.out.size)) hCR.ok hCR.uP (hCR.ints (by omega)) (by cases a <;> cases b <;> decide) (rg_in a b).2 (wf_any (by omega) (by omega)) ((rg_plc HZ.out.1 HZ.out.2.1 HZ.out.2.2.1 HZ.out.2.2.2).pastOk rg_sh (by omega) _)
            rw [rg_movB] at this
            exact this
          go_cut [14, 15] (fun x y wx => ∃ (g14 g3' gS' : Nat), x = .pointer (some ⟨g14, 0, none⟩) ∧ y = .nilIface ∧ Hid (wx.heap[g14]? = some (.cells #[.int .u32 (rgS a (!b) : Nat), sl g3' 7, sl gS' 7] 36 (0, 0))) ∧ Hid (CfR w3.heap.size wx 7 (rgX a (!b) z3 z4 (cond b ((k : Int) + 1) 0) (cond b 0 ((k : Int) + 1))) (sl g3' 7) gS') ∧ w3.heap.size ≤ g3' ∧ w3.heap.size ≤ g14 ∧ Hid (Below w3.heap.size w3 wx))
          case first =>
            go_region_held3 (fun w' => w'.cell? ⟨w.heap.size + 1 + 1 + 1, 0, none⟩ = some (sl w.heap.size 7) ∧ w'.cell? ⟨w.heap.size + 1 + 1 + 1, 1, none⟩ = some (sl (w.heap.size + 1) 7) ∧ w'.cell? ⟨w.heap.size + 1 + 1 + 1, 2, none⟩ = some (sl (w.heap.size + 1 + 1) 7) ∧ w'.cell? ⟨w.heap.size + 1 + 1 + 1, 3, none⟩ = some (.slice AT 4 cT) ∧ w'.cell? ⟨w2.heap.size, 0, none⟩ = some (.int .u32 (rgS a b : Nat)) ∧ w'.cell? ⟨w2.heap.size, 1, none⟩ = some (sl gP 7) ∧ w'.cell? ⟨w2.heap.size, 2, none⟩ = some (sl gS2 7) ∧ w'.cell? ⟨b3, o3 + 1, none⟩ = some (.int .i64 ((cond b 3 2 : Nat) : Int)))
              (first | exact ⟨c0, c1, c2, c3, x0, x1, x2, l1⟩ | exact ⟨(hb7.cell (p := ⟨w.heap.size + 1 + 1 + 1, 0, none⟩) hL0).trans c0, (hb7.cell (p := ⟨w.heap.size + 1 + 1 + 1, 1, none⟩) hL0).trans c1, (hb7.cell (p := ⟨w.heap.size + 1 + 1 + 1, 2, none⟩) hL0).trans c2, (hb7.cell (p := ⟨w.heap.size + 1 + 1 + 1, 3, none⟩) hL0).trans c3, (hb7.cell (p := ⟨w2.heap.size, 0, none⟩) hL1).trans x0, (hb7.cell (p := ⟨w2.heap.size, 1, none⟩) hL1).trans x1, (hb7.cell (p := ⟨w2.heap.size, 2, none⟩) hL1).trans x2, (hb7.cell (p := ⟨b3, o3 + 1, none⟩) hL3).trans l1⟩ | exact ⟨(World.cell?_alloc_lt _ _ _ hN0).trans ((hb7.cell (p := ⟨w.heap.size + 1 + 1 + 1, 0, none⟩) hL0).trans c0), (World.cell?_alloc_lt _ _ _ hN0).trans ((hb7.cell (p := ⟨w.heap.size + 1 + 1 + 1, 1, none⟩) hL0).trans c1), (World.cell?_alloc_lt _ _ _ hN0).trans ((hb7.cell (p := ⟨w.heap.size + 1 + 1 + 1, 2, none⟩) hL0).trans c2), (World.cell?_alloc_lt _ _ _ hN0).trans ((hb7.cell (p := ⟨w.heap.size + 1 + 1 + 1, 3, none⟩) hL0).trans c3), (World.cell?_alloc_lt _ _ _ hN1).trans ((hb7.cell (p := ⟨w2.heap.size, 0, none⟩) hL1).trans x0), (World.cell?_alloc_lt _ _ _ hN1).trans ((hb7.cell (p := ⟨w2.heap.size, 1, none⟩) hL1).trans x1), (World.cell?_alloc_lt _ _ _ hN1).trans ((hb7.cell (p := ⟨w2.heap.size, 2, none⟩) hL1).trans x2), (World.cell?_alloc_lt _ _ _ hN3).trans ((hb7.cell (p := ⟨b3, o3 + 1, none⟩) hL3).trans l1)⟩ | exact ⟨(sets3_cell w7 _ _ _ _ _ _ hN0 (Nat.ne_of_lt hL0)).trans ((hb7.cell (p := ⟨w.heap.size + 1 + 1 + 1, 0, none⟩) hL0).trans c0), (sets3_cell w7 _ _ _ _ _ _ hN0 (Nat.ne_of_lt hL0)).trans ((hb7.cell (p := ⟨w.heap.size + 1 + 1 + 1, 1, none⟩) hL0).trans c1), (sets3_cell w7 _ _ _ _ _ _ hN0 (Nat.ne_of_lt hL0)).trans ((hb7.cell (p := ⟨w.heap.size + 1 + 1 + 1, 2, none⟩) hL0).trans c2), (sets3_cell w7 _ _ _ _ _ _ hN0 (Nat.ne_of_lt hL0)).trans ((hb7.cell (p := ⟨w.heap.size + 1 + 1 + 1, 3, none⟩) hL0).trans c3), (sets3_cell w7 _ _ _ _ _ _ hN1 (Nat.ne_of_lt hL1)).trans ((hb7.cell (p := ⟨w2.heap.size, 0, none⟩) hL1).trans x0), (sets3_cell w7 _ _ _ _ _ _ hN1 (Nat.ne_of_lt hL1)).trans ((hb7.cell (p := ⟨w2.heap.size, 1, none⟩) hL1).trans x1), (sets3_cell w7 _ _ _ _ _ _ hN1 (Nat.ne_of_lt hL1)).trans ((hb7.cell (p := ⟨w2.heap.size, 2, none⟩) hL1).trans x2), (sets3_cell w7 _ _ _ _ _ _ hN3 (Nat.ne_of_lt hL3)).trans ((hb7.cell (p := ⟨b3, o3 + 1, none⟩) hL3).trans l1)⟩ | go_keep)
              (first | (go_at_call 14; refine (TK.out _ (by first | exact Below.refl _ _ | exact below_drew (Below.refl _ _) | exact Below.alloc (below_drew (Below.refl _ _)) (Nat.le_refl _) _ | exact Below.alloc (Below.refl _ _) (Nat.le_refl _) _)).mono ?_; rintro e w7 ⟨hb7', g3', gS', rfl, hg3', hR7⟩; have hb7 : Below w3.heap.size w3 w7 := (by first | exact hb7' | exact below_then (below_drew (Below.refl _ _)) hb7' (Nat.le_refl _) | exact below_then (Below.alloc (below_drew (Below.refl _ _)) (Nat.le_refl _) _) hb7' (box_b _ _).size | exact below_then (Below.alloc (Below.refl _ _) (Nat.le_refl _) _) hb7' (box_b _ _).size); have hN0 : w.heap.size + 1 + 1 + 1 < w7.heap.size := Nat.lt_of_lt_of_le hL0 hb7.size; have hN1 : w2.heap.size < w7.heap.size := Nat.lt_of_lt_of_le hL1 hb7.size; have hN3 : b3 < w7.heap.size := Nat.lt_of_lt_of_le hL3 hb7.size; first | (have rr7 : w7.heap[w3.heap.size]? = some (.cells #[.int .u32 0, .slice none 0 0, .slice none 0 0] 36 (0, 0)) := (hb7'.block _ (by simp)).trans (heap_alloc_new _ _); have d0 := cell_of_row _ _ 0 _ _ _ rr7; have d1 := cell_of_row _ _ 1 _ _ _ rr7; have d2 := cell_of_row _ _ 2 _ _ _ rr7; have f0 := fzc_of rr7 0; have f1 := fzc_of rr7 1; have f2 := fzc_of rr7 2; have hx3 : w3.heap.size < g3' := Nat.lt_of_lt_of_le (by simp) hg3'; have hxS : w3.heap.size < gS' := Nat.lt_of_lt_of_le (by simp) hR7.lo) | skip); have hg3 : w3.heap.size ≤ g3' := (by first | exact hg3' | exact Nat.le_trans (box_b _ _).size hg3'); have hR9 := hR7.base (base' := w3.heap.size) (by first | exact Nat.le_refl _ | exact (box_b _ _).size))
            all_goals
              go_wp2_with fail
              go_meet
              first
                | exact ⟨_, g3', gS', rfl, rfl, heap_alloc_new _ _, hR9.below (box_b _ _), hg3, hb7.size, hb7.alloc hb7.size _⟩
                | exact ⟨_, g3', gS', rfl, rfl, sets3_row rr7 _ _ _, sets3_cfr hR9 (Nat.ne_of_gt hx3) (Nat.ne_of_gt hxS) _ _ _, hg3, Nat.le_refl _, sets3_below hb7 (Nat.le_refl _) (Nat.le_refl _) _ _ _⟩
          case rest =>
            obtain ⟨g14, gP4, gS4, rfl, rfl, HY, HRY, hgP4, hg14, HBc⟩ := hcut
            clear TK c0 c1 c2 c3 x0 x1 x2 l0 l1
            have hXc := (HBc.out.block _ hL1).trans HX3.out
            have f0 := fzc_of hXc 0; have f1 := fzc_of hXc 1; have f2 := fzc_of hXc 2
            have x0 := cell_of_row _ _ 0 _ _ _ hXc; have x1 := cell_of_row _ _ 1 _ _ _ hXc; have x2 := cell_of_row _ _ 2 _ _ _ hXc
            have y1 : wc.cell? ⟨g14, 1, none⟩ = some (sl gP4 7) := cell_of_row _ _ 1 _ _ _ HY.out
            have y2 : wc.cell? ⟨g14, 2, none⟩ = some (sl gS4 7) := cell_of_row _ _ 2 _ _ _ HY.out
            have s0 : wc.cell? ⟨gS4, 0, none⟩ = some (.int .i64 0) := cell_of_row _ _ 0 _ _ _ HRY.out.rS
            have s1 : wc.cell? ⟨gS4, 1, none⟩ = some (.int .i64 0) := cell_of_row _ _ 1 _ _ _ HRY.out.rS
            have hy0 := cell_of_row _ _ 0 _ _ _ HY.out
            have hgS4 := HRY.out.lo
            have HBn := Lib.hid (below_then HBl3.out HBc.out HBl3.out.size)
            have HFIN : Hid (∀ v0 v1 v2, CfR w.heap.size (sets3 wc w2.heap.size v0 v1 v2) 7 (rgX a (!b) z3 z4 (cond b ((k : Int) + 1) 0) (cond b 0 ((k : Int) + 1))) (sl gP4 7) gS4 ∧ Below w2.heap.size w2 (sets3 wc w2.heap.size v0 v1 v2) ∧ (sets3 wc w2.heap.size v0 v1 v2).heap[w2.heap.size]? = some (.cells #[v0, v1, v2] 36 (0, 0))) := fun v0 v1 v2 =>
              ⟨(sets3_cfr HRY.out (by omega) (by omega) v0 v1 v2).base (by omega), sets3_below HBn.out (Nat.le_refl _) (Nat.le_refl _) v0 v1 v2, sets3_row hXc v0 v1 v2⟩
            have HZK : Hid ((Lit.int .i64 ((k : Int) + 1)).wf = true) := wf_any (by omega) (by omega)
            have hgn1 : gP4 ≠ w2.heap.size := by omega
            have hgn2 : gS4 ≠ w2.heap.size := by omega
            clear HY HX3 HC3 hXc HRY WA HBl3 HB3 HR3
            cases a
            · cases b
              · have y0 : wc.cell? ⟨g14, 0, none⟩ = some (.int .u32 79) := hy0
                clear hy0
                have o1 : bits .or .u32 7 8 = 15 := by kernel_rfl
                have o2 : bits .or .u32 15 64 = 79 := by kernel_rfl
                go_wp2
                go_roundw
                case rel =>
                  obtain ⟨hf1, hf2, hf3⟩ := HFIN.out (.int .u32 79) (sl gP4 7) (sl gS4 7)
                  exact ⟨k + 1, false, true, z3, z4, 0, (k : Int) + 1, gP4, gS4, by go_num, by omega, by rfl, by rfl, ⟨HZ.out.1, HZ.out.2.1, by decide, HZK.out⟩, hf3, hf1, hgn1, hgn2, hf2⟩
                case measure => simp [intOf]; omega
              · have y0 : wc.cell? ⟨g14, 0, none⟩ = some (.int .u32 47) := hy0
                clear hy0
                have o1 : bits .or .u32 7 8 = 15 := by kernel_rfl
                have o2 : bits .or .u32 15 32 = 47 := by kernel_rfl
                go_wp2
                go_roundw
                case rel =>
                  obtain ⟨hf1, hf2, hf3⟩ := HFIN.out (.int .u32 47) (sl gP4 7) (sl gS4 7)
                  exact ⟨k + 1, false, false, z3, z4, (k : Int) + 1, 0, gP4, gS4, by go_num, by omega, by rfl, by rfl, ⟨HZ.out.1, HZ.out.2.1, HZK.out, by decide⟩, hf3, hf1, hgn1, hgn2, hf2⟩
                case measure => simp [intOf]; omega
            · cases b
              · have y0 : wc.cell? ⟨g14, 0, none⟩ = some (.int .u32 87) := hy0
                clear hy0
                have o1 : bits .or .u32 7 16 = 23 := by kernel_rfl
                have o2 : bits .or .u32 23 64 = 87 := by kernel_rfl
                go_wp2
                go_roundw
                case rel =>
                  obtain ⟨hf1, hf2, hf3⟩ := HFIN.out (.int .u32 87) (sl gP4 7) (sl gS4 7)
                  exact ⟨k + 1, true, true, z3, z4, 0, (k : Int) + 1, gP4, gS4, by go_num, by omega, by rfl, by rfl, ⟨HZ.out.1, HZ.out.2.1, by decide, HZK.out⟩, hf3, hf1, hgn1, hgn2, hf2⟩
                case measure => simp [intOf]; omega
              · have y0 : wc.cell? ⟨g14, 0, none⟩ = some (.int .u32 55) := hy0
                clear hy0
                have o1 : bits .or .u32 7 16 = 23 := by kernel_rfl
                have o2 : bits .or .u32 23 32 = 55 := by kernel_rfl
                go_wp2
                go_roundw
                case rel =>
                  obtain ⟨hf1, hf2, hf3⟩ := HFIN.out (.int .u32 55) (sl gP4 7) (sl gS4 7)
                  exact ⟨k + 1, true, false, z3, z4, (k : Int) + 1, 0, gP4, gS4, by go_num, by omega, by rfl, by rfl, ⟨HZ.out.1, HZ.out.2.1, HZK.out, by decide⟩, hf3, hf1, hgn1, hgn2, hf2⟩
                case measure => simp [intOf]; omega
end Go.Proofs.Ytbacdllokgcohaa
