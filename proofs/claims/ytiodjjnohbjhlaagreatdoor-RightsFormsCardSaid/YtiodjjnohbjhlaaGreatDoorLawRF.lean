/-
  RightsForms: rules that are no rights: the walk.
-/
import Derived.Test.YtiodjjnohbjhlaaGreatDoorRf1
namespace Go.Proofs.YtiodjjnohbjhlaaGreatDoor
set_option maxRecDepth 100000
open Go.ChangeShapes Go.WideShapes Go.ChangeAt Go.RowKit

/-- what Compile tells of a text that is no rights -/
theorem rno_of {p : Rs (List Tx × List Pr × Rt)} {ln er : Int} {w : World} {e : Ending} {w' : World} (hp : ∀ c, p ≠ .ok c) (hf : rformB p ln er = true) (h : RcTo (some p) w e w') :
    Below w.heap.size w w' ∧ ∃ b, e = .returned (.tuple #[.pointer none, .iface 94 (.pointer (some ⟨b, 0, none⟩))]) ∧ b < w'.heap.size ∧ FaultAt w' b ln 1 er := by
  cases p with
  | ok c => exact (hp c rfl).elim
  | bad l c =>
    simp only [rformB, Bool.and_eq_true, decide_eq_true_eq] at hf
    obtain ⟨⟨⟨⟨rfl, h1⟩, rfl⟩, _⟩, _⟩ := hf
    obtain ⟨h1, b, h2, _, h3, h4⟩ := h
    exact ⟨h1, b, h2, h3, h4⟩
theorem rer_of {p : Rs (List Tx × List Pr × Rt)} {ln er : Int} (hp : ∀ c, p ≠ .ok c) (hf : rformB p ln er = true) : 1 ≤ er ∧ er ≤ 14 := by
  cases p with
  | ok c => exact (hp c rfl).elim
  | bad l c =>
    simp only [rformB, Bool.and_eq_true, decide_eq_true_eq] at hf
    omega
set_option maxHeartbeats 8000000 in
theorem rforms_walk (w : World) (a : Int) (ha : (Lit.int .i64 a).wf = true) (hg : HandleAt w) (ht : TabAt w) :
    Calls Tryz.prog 7 #[.int .i64 a] w (TrueOn w) := by
  have h1 := within_bd a 9 (by omega)
  obtain ⟨i, hi⟩ : ∃ i : Nat, within a 9 = i := ⟨(within a 9).toNat, by omega⟩
  have hi9 : i < 9 := by omega
  have HN : Hid (∀ W, Calls Tryz.prog 31 #[.string ⟨#[120]⟩, .int .i64 a, .int .i64 9] W fun e w' => e = .returned (.string (bs (nmR i))) ∧ Below W.heap.size W w') :=
    fun W => by rw [← nmR_bs hi]; exact keepName9R ⟨#[120]⟩ a W ha (by decide)
  have HG := Lib.hid hg
  have HT := Lib.hid ht
  have HF := Lib.hid (fun x hx => rform_at hi9 (x := x) hx)
  have hsz : (bs (nmR i)).size = 2 := rfl
  generalize nmR i = k at *
  clear hi h1 hg ht
  go_enter Tryz.func7, Tryz.ntmps7
  go_upto_region 2 with (go_at_call 31; refine (HN.out _).mono ?_; rintro e w1 ⟨rfl, hb1⟩; have HB1 := Lib.hid hb1; clear hb1)
  go_upto_region 3 with fail
  go_loopw [61] (fun j wr => ∃ m : Nat, m ≤ 16 ∧ j = .int .i64 m ∧ Hid (TabR wr w1.heap.size k) ∧ Hid (Below w.heap.size w wr)) (fun j _ => 16 - (intOf j).toNat)
  case atStart => exact ⟨0, Nat.zero_le _, rfl, rform_tab w1 k _, HB1.out.alloc HB1.out.size _⟩
  case round =>
    obtain ⟨m, hm, rfl, HTB, HB⟩ := hrel
    by_cases hlt : m < 16
    · have hli : (m : Int) < 16 := by omega
      obtain ⟨⟨t, ln, er⟩, hx, q0, q1, q2⟩ := HTB.out.2 m hlt
      have hfb := HF.out _ hx
      dsimp only at q0 q1 q2 hfb
      have PR : Hid (∀ W, Calls Tryz.prog 8 #[.string (bs t)] W (RulTo (polT t).l W)) := fun W => by have := PlayRules_any (bs t) W; rwa [list_bs] at this
      have CP : Hid (∀ (W : World) (base cap : Nat) (A : Option Addr) (acc : List RL), RowsAt W base (.slice A acc.length cap) acc → acc.map Go.Proofs.YtiodjjnohbjhlaaGreatDoor.er = (polT t).l → HandleAt W → TabAt W → Calls Tryz.prog 10 #[.slice A acc.length cap] W (RcTo (some (rtL (polT t).l)) W)) :=
        fun W base cap A acc h1 h2 h3 h4 => RComp_pol acc A cap base W h1 h2 h3 h4
      have hbl := HTB.out.1
      have hbz := HB.out.size
      generalize rtL (polT t).l = p at hfb CP
      generalize (polT t).l = tl at PR CP
      clear hx
      go_upto_region 5 with fail
      have R0 : Hid ((wr.alloc (.cells #[.string (bs t), .int .i64 ln, .int .i64 er] 66)).heap[wr.heap.size]? = some (.cells #[.string (bs t), .int .i64 ln, .int .i64 er] 66 (0, 0))) := heap_alloc_new _ _
      have HBX : Hid (Below wr.heap.size wr (wr.alloc (.cells #[.string (bs t), .int .i64 ln, .int .i64 er] 66))) := (Below.refl _ _).alloc (Nat.le_refl _) _
      have hlx : wr.heap.size < (wr.alloc (.cells #[.string (bs t), .int .i64 ln, .int .i64 er] 66)).heap.size := by simp
      generalize (wr.alloc (.cells #[.string (bs t), .int .i64 ln, .int .i64 er] 66)) = w2 at *
      have HB2 := Lib.hid (below_then HB.out HBX.out hbz)
      clear q0 q1 q2
      have x0 : w2.cell? ⟨wr.heap.size, 0, none⟩ = some (.string (bs t)) := by rw [cell_of_row _ _ _ _ _ _ R0.out]; rfl
      have HFB := Lib.hid hfb
      clear hfb
      by_cases hno : ∀ c, p ≠ .ok c
      · obtain ⟨he1, he2⟩ := rer_of hno HFB.out
        go_upto_region 6 with (first
          | (go_at_call 8; refine (PR.out _).mono ?_; rintro e w3 ⟨hb3, v, acc, rfl, hacc, hr⟩; obtain ⟨A, cap, rfl⟩ := own_slice hr.1; have HB3 := Lib.hid hb3; have HBW := Lib.hid (below_then HB2.out hb3 HB2.out.size); have CC := Lib.hid (CP.out w3 _ cap A acc hr hacc (HG.out.below' HBW.out) (HT.out.below HBW.out)); clear hb3 hr hacc)
          | (go_at_call 10; refine CC.out.mono ?_; intro e w4 h9; obtain ⟨hb4, fb, e9, hf2, hF⟩ := rno_of hno HFB.out h9; subst e9; clear h9; have HF4 := Lib.hid hF; have HB4 := Lib.hid (below_then HB3.out hb4 HB3.out.size); clear hb4 hF))
        have HB5 := Lib.hid (below_then HB2.out HB4.out HB2.out.size)
        have R5 := (HB4.out.block _ hlx).trans R0.out
        have hl5 := Nat.lt_of_lt_of_le hlx HB4.out.size
        clear CC HBW HB3
        have HT5 : Hid (TabR w4 w1.heap.size k) := (HTB.out.below HBX.out).below HB4.out
        clear HB4
        have KA := Lib.hid (keepAt fb ln 1 er w4 HF4.out (HG.out.below' HB5.out))
        have heb : (er != 0) = true := by rw [bne_iff_ne]; omega
        have hec : (er == 0) = false := by rw [beq_eq_false_iff_ne]; omega
        have HR5 := Lib.hid R5
        clear R5
        go_upto_region 7 with (go_at_call 19; refine KA.out.mono ?_; rintro e w6 ⟨rfl, hb6⟩; have R6 := (hb6.block _ hl5).trans HR5.out; have x1 : w6.cell? ⟨wr.heap.size, 1, none⟩ = some (.int .i64 ln) := (by rw [cell_of_row _ _ _ _ _ _ R6]; rfl); have x2 : w6.cell? ⟨wr.heap.size, 2, none⟩ = some (.int .i64 er) := (by rw [cell_of_row _ _ _ _ _ _ R6]; rfl); have HB6 := Lib.hid (below_then HB5.out hb6 HB5.out.size); have HT6 := Lib.hid (HT5.out.below hb6); have KI := Lib.hid (keepIs (.iface 94 (.pointer (some ⟨fb, 0, none⟩))) er er w6 (.inr ⟨fb, 0, rfl, (fault_keep HF4.out hf2 hb6).2.2⟩) (by omega) (by omega)); clear R6 hb6)
        go_wp2_with (go_at_call 20; refine KI.out.mono ?_; rintro e w7 ⟨rfl, rfl⟩)
        go_roundw
        case rel => exact ⟨m + 1, by omega, by go_num, HT6, HB6⟩
        case measure => simp [intOf]; omega
      · obtain ⟨c, rfl⟩ : ∃ c, p = .ok c := Classical.byContradiction fun h => hno fun c e => h ⟨c, e⟩
        obtain ⟨cn, cp, cr⟩ := c
        have hfo := HFB.out
        simp only [rformB, Bool.and_eq_true, decide_eq_true_eq] at hfo
        obtain ⟨rfl, rfl⟩ := hfo
        go_upto_region 6 with (first
          | (go_at_call 8; refine (PR.out _).mono ?_; rintro e w3 ⟨hb3, v, acc, rfl, hacc, hr⟩; obtain ⟨A, cap, rfl⟩ := own_slice hr.1; have HB3 := Lib.hid hb3; have HBW := Lib.hid (below_then HB2.out hb3 HB2.out.size); have CC := Lib.hid (CP.out w3 _ cap A acc hr hacc (HG.out.below' HBW.out) (HT.out.below HBW.out)); clear hb3 hr hacc)
          | (go_at_call 10; refine CC.out.mono ?_; rintro e w4 ⟨hb4, rb, rfl, _⟩; have HB4 := Lib.hid (below_then HB3.out hb4 HB3.out.size); clear hb4))
        have HB5 := Lib.hid (below_then HB2.out HB4.out HB2.out.size)
        have R5 := (HB4.out.block _ hlx).trans R0.out
        have hl5 := Nat.lt_of_lt_of_le hlx HB4.out.size
        clear CC HBW HB3
        have HT5 : Hid (TabR w4 w1.heap.size k) := (HTB.out.below HBX.out).below HB4.out
        clear HB4
        go_upto_region 7 with (go_at_call 19; refine (keepAt0R _).mono ?_; rintro e w6 ⟨rfl, hb6⟩)
        have R6 := (hb6.block _ hl5).trans R5
        have x2 : w6.cell? ⟨wr.heap.size, 2, none⟩ = some (.int .i64 0) := by rw [cell_of_row _ _ _ _ _ _ R6]; rfl
        have HB6 := Lib.hid (below_then HB5.out hb6 HB5.out.size)
        have HT6 := Lib.hid (HT5.out.below hb6)
        clear R5 R6 hb6
        go_wp2_with (go_at_call 20; refine (keepIsNilR _).mono ?_; rintro e w7 ⟨rfl, rfl⟩)
        go_roundw
        case rel => exact ⟨m + 1, by omega, by go_num, HT6, HB6⟩
        case measure => simp [intOf]; omega
    · go_wp2_with (go_at_call 11; refine (wakes11 _ (HG.out.below' HB.out) (HT.out.below HB.out)).mono ?_; rintro e w5 ⟨rfl, hb5⟩)
      go_ret
      exact ⟨rfl, below_then HB.out hb5 HB.out.size⟩
end Go.Proofs.YtiodjjnohbjhlaaGreatDoor
