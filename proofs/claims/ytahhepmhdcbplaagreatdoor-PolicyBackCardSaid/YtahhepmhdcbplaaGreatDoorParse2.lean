/-
  rule.Parse: the walks, of a word that does not fit.
-/
import Derived.Test.YtahhepmhdcbplaaGreatDoorParse0
namespace Go.Proofs.YtahhepmhdcbplaaGreatDoor
set_option maxRecDepth 100000
open Go.ChangeShapes Go.WideShapes Go.ChangeAt Go.RowKit

set_option maxHeartbeats 2000000 in
theorem parse_bad (s : ByteArray) (n : Int) (bad : Nat) (w : World) (hpos : 0 < bad) (hsp : ∀ W, Calls Tryz.prog 51 #[.string s] W (SplitTo [] bad W)) :
    Calls Tryz.prog 26 #[.string s, .int .i64 n] w (ParseTo (.bad bad 2) n w) := by
  have HSP := Lib.hid hsp
  clear hsp
  have g1 : decide ((0 : Int) < bad) = true := by simp; omega
  go_enter Tryz.func26, Tryz.ntmps26
  go_upto_region 3 with (go_at_call 51; refine (HSP.out _).mono ?_; rintro e w1 ⟨v, rfl, hown, hb⟩; obtain ⟨A1, c1, rfl⟩ := own_slice hown; have hbw := (Below.refl w.heap.size w).alloc (Nat.le_refl _) (.cells zero11 24); have hb1 : Below w.heap.size w w1 := below_then hbw hb (by simp); have R1 : w1.heap[w.heap.size]? = some (.cells zero11 24 (0, 0)) := (hb.block _ (by simp)).trans (heap_alloc_new _ _))
  have q0 := row_q0 R1; have q1 := row_q1 R1; have q2 := row_q2 R1; have q3 := row_q3 R1; have q4 := row_q4 R1; have q5 := row_q5 R1; have q6 := row_q6 R1; have q7 := row_q7 R1; have q8 := row_q8 R1; have q9 := row_q9 R1; have q10 := row_q10 R1
  have f0 := row_fz R1 0; have f1 := row_fz R1 1; have f2 := row_fz R1 2; have f3 := row_fz R1 3; have f4 := row_fz R1 4; have f5 := row_fz R1 5; have f6 := row_fz R1 6; have f7 := row_fz R1 7; have f8 := row_fz R1 8; have f9 := row_fz R1 9; have f10 := row_fz R1 10
  have qa0 := fun O => row_q0 (row_alloc R1 O); have qa1 := fun O => row_q1 (row_alloc R1 O); have qa2 := fun O => row_q2 (row_alloc R1 O); have qa3 := fun O => row_q3 (row_alloc R1 O); have qa4 := fun O => row_q4 (row_alloc R1 O); have qa5 := fun O => row_q5 (row_alloc R1 O); have qa6 := fun O => row_q6 (row_alloc R1 O); have qa7 := fun O => row_q7 (row_alloc R1 O); have qa8 := fun O => row_q8 (row_alloc R1 O); have qa9 := fun O => row_q9 (row_alloc R1 O); have qa10 := fun O => row_q10 (row_alloc R1 O)
  have fa0 := fun O => row_fz (row_alloc R1 O) 0; have fa1 := fun O => row_fz (row_alloc R1 O) 1; have fa2 := fun O => row_fz (row_alloc R1 O) 2; have fa3 := fun O => row_fz (row_alloc R1 O) 3; have fa4 := fun O => row_fz (row_alloc R1 O) 4; have fa5 := fun O => row_fz (row_alloc R1 O) 5; have fa6 := fun O => row_fz (row_alloc R1 O) 6; have fa7 := fun O => row_fz (row_alloc R1 O) 7; have fa8 := fun O => row_fz (row_alloc R1 O) 8; have fa9 := fun O => row_fz (row_alloc R1 O) 9; have fa10 := fun O => row_fz (row_alloc R1 O) 10
  go_wp2

  clear q0 f0 q1 f1 q2 f2 q3 f3 q4 f4 q5 f5 q6 f6 q7 f7 q8 f8 q9 f9 q10 f10 qa0 fa0 qa1 fa1 qa2 fa2 qa3 fa3 qa4 fa4 qa5 fa5 qa6 fa6 qa7 fa7 qa8 fa8 qa9 fa9 qa10 fa10
  have RA := row_alloc R1 (.cells #[.int .i64 n, .int .i64 bad, .iface 34 (.int .i64 2)] 88)
  have FB : FaultAt (w1.alloc (.cells #[.int .i64 n, .int .i64 bad, .iface 34 (.int .i64 2)] 88)) w1.heap.size n bad 2 := ⟨new_cell w1 _ _ 0, new_cell w1 _ _ 1, new_cell w1 _ _ 2⟩
  have BA := (hb1).alloc (hb1).size (.cells #[.int .i64 n, .int .i64 bad, .iface 34 (.int .i64 2)] 88)
  have SA : w1.heap.size < (w1.alloc (.cells #[.int .i64 n, .int .i64 bad, .iface 34 (.int .i64 2)] 88)).heap.size := by simp
  have T5 := row_tell (.int .i64 0) (.string ⟨#[]⟩) (.slice none 0 0) (.int .i64 0) (.int .i64 0) (.string ⟨#[]⟩) (.string ⟨#[]⟩) (.string ⟨#[]⟩) (.string ⟨#[]⟩) (.string ⟨#[]⟩) (.int .i64 0) RA _ rfl
  generalize (World.setCell (World.setCell (World.setCell (World.setCell (World.setCell (World.setCell (World.setCell (World.setCell (World.setCell (World.setCell (World.setCell (w1.alloc (.cells #[.int .i64 n, .int .i64 bad, .iface 34 (.int .i64 2)] 88)) ⟨w.heap.size, 0, none⟩ (.int .i64 0)) ⟨w.heap.size, 1, none⟩ (.string ⟨#[]⟩)) ⟨w.heap.size, 2, none⟩ (.slice none 0 0)) ⟨w.heap.size, 3, none⟩ (.int .i64 0)) ⟨w.heap.size, 4, none⟩ (.int .i64 0)) ⟨w.heap.size, 5, none⟩ (.string ⟨#[]⟩)) ⟨w.heap.size, 6, none⟩ (.string ⟨#[]⟩)) ⟨w.heap.size, 7, none⟩ (.string ⟨#[]⟩)) ⟨w.heap.size, 8, none⟩ (.string ⟨#[]⟩)) ⟨w.heap.size, 9, none⟩ (.string ⟨#[]⟩)) ⟨w.heap.size, 10, none⟩ (.int .i64 0)) = X5 at *
  obtain ⟨RX5, GX5⟩ := T5
  (try simp only [Exit.inBlock, Exit.then])
  refine bodyPost_ret (run_cell3 rfl _ _ w.heap.size _ _ _ _ rfl RX5 Tryz.underlying24 rfl (by kernel_rfl)) rfl ?_
  exact fault_end BA GX5 SA FB (hb1).size (by have := (Array.getElem?_eq_some_iff.1 R1).1; omega)


set_option maxHeartbeats 2000000 in
theorem parse_empty (s : ByteArray) (n : Int) (w : World) (hsp : ∀ W, Calls Tryz.prog 51 #[.string s] W (SplitTo [] 0 W)) :
    Calls Tryz.prog 26 #[.string s, .int .i64 n] w (ParseTo .empty n w) := by
  have HSP := Lib.hid hsp
  clear hsp
  go_enter Tryz.func26, Tryz.ntmps26
  go_upto_region 4 with (go_at_call 51; refine (HSP.out _).mono ?_; rintro e w1 ⟨v, rfl, hown, hb⟩; obtain ⟨A1, c1, rfl⟩ := own_slice hown; have hbw := (Below.refl w.heap.size w).alloc (Nat.le_refl _) (.cells zero11 24); have hb1 : Below w.heap.size w w1 := below_then hbw hb (by simp); have R1 : w1.heap[w.heap.size]? = some (.cells zero11 24 (0, 0)) := (hb.block _ (by simp)).trans (heap_alloc_new _ _))
  have q0 := row_q0 R1; have q1 := row_q1 R1; have q2 := row_q2 R1; have q3 := row_q3 R1; have q4 := row_q4 R1; have q5 := row_q5 R1; have q6 := row_q6 R1; have q7 := row_q7 R1; have q8 := row_q8 R1; have q9 := row_q9 R1; have q10 := row_q10 R1
  have f0 := row_fz R1 0; have f1 := row_fz R1 1; have f2 := row_fz R1 2; have f3 := row_fz R1 3; have f4 := row_fz R1 4; have f5 := row_fz R1 5; have f6 := row_fz R1 6; have f7 := row_fz R1 7; have f8 := row_fz R1 8; have f9 := row_fz R1 9; have f10 := row_fz R1 10
  go_wp2
  clear q0 f0 q1 f1 q2 f2 q3 f3 q4 f4 q5 f5 q6 f6 q7 f7 q8 f8 q9 f9 q10 f10
  have T5 := row_tell (.int .i64 0) (.string ⟨#[]⟩) (.slice none 0 0) (.int .i64 0) (.int .i64 0) (.string ⟨#[]⟩) (.string ⟨#[]⟩) (.string ⟨#[]⟩) (.string ⟨#[]⟩) (.string ⟨#[]⟩) (.int .i64 0) R1 _ rfl
  generalize (World.setCell (World.setCell (World.setCell (World.setCell (World.setCell (World.setCell (World.setCell (World.setCell (World.setCell (World.setCell (World.setCell w1 ⟨w.heap.size, 0, none⟩ (.int .i64 0)) ⟨w.heap.size, 1, none⟩ (.string ⟨#[]⟩)) ⟨w.heap.size, 2, none⟩ (.slice none 0 0)) ⟨w.heap.size, 3, none⟩ (.int .i64 0)) ⟨w.heap.size, 4, none⟩ (.int .i64 0)) ⟨w.heap.size, 5, none⟩ (.string ⟨#[]⟩)) ⟨w.heap.size, 6, none⟩ (.string ⟨#[]⟩)) ⟨w.heap.size, 7, none⟩ (.string ⟨#[]⟩)) ⟨w.heap.size, 8, none⟩ (.string ⟨#[]⟩)) ⟨w.heap.size, 9, none⟩ (.string ⟨#[]⟩)) ⟨w.heap.size, 10, none⟩ (.int .i64 0)) = X5 at *
  obtain ⟨RX5, GX5⟩ := T5
  (try simp only [Exit.inBlock, Exit.then])
  refine bodyPost_ret (run_cell3 rfl _ _ w.heap.size _ _ _ _ rfl RX5 Tryz.underlying24 rfl (by kernel_rfl)) rfl ?_
  exact ⟨hb1.grown GX5 hb1.size (fun j e => by cases e; exact Nat.le_refl _), rfl⟩

end Go.Proofs.YtahhepmhdcbplaaGreatDoor
namespace Go.Proofs.YtahhepmhdcbplaaGreatDoor
set_option maxRecDepth 100000
open Go.ChangeShapes Go.WideShapes Go.ChangeAt Go.RowKit
set_option maxHeartbeats 4000000 in
theorem parse_misfit (s : ByteArray) (n : Int) (ws : List (Nat × Tx)) (kd : Int) (nm : Tx) (l : List Tx) (rn rm : Int) (rf rt rb ra ri : Tx) (s' : St) (w : World) (hpos : 0 < ws.length) (hlen : ws.length ≤ 1099511627776) (hsz : ∀ j (h : j < ws.length), ws[j].2.length ≤ maxLen) (hcol : ∀ j (h : j < ws.length), ws[j].1 + ws[j].2.length ≤ 4611686018427387904)
    (hru : ∀ b g cap W, Rd W b g cap ws ⟨0, false⟩ → Calls Tryz.prog 52 #[.pointer (some ⟨b, 0, none⟩)] W (RuleTo b g cap ws (⟨kd, nm, l, rn, rm, rf, rt, rb, ra, ri⟩, s') W)) (hM : 0 < misP ws s') (hsp : ∀ W, Calls Tryz.prog 51 #[.string s] W (SplitTo ws 0 W)) :
    Calls Tryz.prog 26 #[.string s, .int .i64 n] w (ParseTo (PR.bad (misP ws s') 2) n w) := by
  have HSP := Lib.hid hsp
  clear hsp
  have HRU := Lib.hid hru
  clear hru
  go_enter Tryz.func26, Tryz.ntmps26
  go_upto_region 6 with (go_at_call 51; refine (HSP.out _).mono ?_; rintro e w1 ⟨v, rfl, hown, hb⟩; obtain ⟨g, c1, rfl, hg1, hg2, hcap, hcells⟩ := own_form hown hpos; have HCE := Lib.hid hcells; clear hcells hown)
  have hbw := (Below.refl w.heap.size w).alloc (Nat.le_refl _) (.cells zero11 24)
  have hb1 : Below w.heap.size w w1 := below_then hbw hb (by simp)
  have R1 : w1.heap[w.heap.size]? = some (.cells zero11 24 (0, 0)) := (hb.block _ (by simp)).trans (heap_alloc_new _ _)
  have hgw : w.heap.size < g := by simp at hg1; omega
  have hcap' : (ws.length : Int) ≤ c1 := by omega
  have s1 : w.heap.size < w1.heap.size := by omega
  clear hb hbw hg1
  go_upto_region 7 with fail
  have HR0 : Rd (w1.alloc (.cells #[.slice (some ⟨g, 0, none⟩) ws.length c1, .int .i64 0, .bool false] 96)) w1.heap.size g c1 ws ⟨0, false⟩ := rd_start hg2 hcap hlen hsz HCE.out
  go_upto_region 8 with (go_at_call 52; refine (HRU.out _ _ _ _ HR0).mono ?_; rintro e w2 ⟨L, rfl, h2, ho2, g2⟩; obtain ⟨A2, c2, rfl⟩ := own_slice ho2; dsimp only [ruV]; have R2 := row_step (row_alloc R1 (.cells #[.slice (some ⟨g, 0, none⟩) ws.length c1, .int .i64 0, .bool false] 96)) g2 s1; have q0 := row_q0 R2; have q1 := row_q1 R2; have q2 := row_q2 R2; have q3 := row_q3 R2; have q4 := row_q4 R2; have q5 := row_q5 R2; have q6 := row_q6 R2; have q7 := row_q7 R2; have q8 := row_q8 R2; have q9 := row_q9 R2; have q10 := row_q10 R2; have f0 := row_fz R2 0; have f1 := row_fz R2 1; have f2 := row_fz R2 2; have f3 := row_fz R2 3; have f4 := row_fz R2 4; have f5 := row_fz R2 5; have f6 := row_fz R2 6; have f7 := row_fz R2 7; have f8 := row_fz R2 8; have f9 := row_fz R2 9; have f10 := row_fz R2 10)
  clear q0 f0 q1 f1 q2 f2 q3 f3 q4 f4 q5 f5 q6 f6 q7 f7 q8 f8 q9 f9 q10 f10
  have T5 := row_tell (.int .i64 kd) (.string (bs nm)) (.slice A2 l.length c2) (.int .i64 rn) (.int .i64 rm) (.string (bs rf)) (.string (bs rt)) (.string (bs rb)) (.string (bs ra)) (.string (bs ri)) (.int .i64 0) R2 _ rfl
  generalize (World.setCell (World.setCell (World.setCell (World.setCell (World.setCell (World.setCell (World.setCell (World.setCell (World.setCell (World.setCell (World.setCell w2 ⟨w.heap.size, 0, none⟩ (.int .i64 kd)) ⟨w.heap.size, 1, none⟩ (.string (bs nm))) ⟨w.heap.size, 2, none⟩ (.slice A2 l.length c2)) ⟨w.heap.size, 3, none⟩ (.int .i64 rn)) ⟨w.heap.size, 4, none⟩ (.int .i64 rm)) ⟨w.heap.size, 5, none⟩ (.string (bs rf))) ⟨w.heap.size, 6, none⟩ (.string (bs rt))) ⟨w.heap.size, 7, none⟩ (.string (bs rb))) ⟨w.heap.size, 8, none⟩ (.string (bs ra))) ⟨w.heap.size, 9, none⟩ (.string (bs ri))) ⟨w.heap.size, 10, none⟩ (.int .i64 0)) = X3 at *
  obtain ⟨RX3, GX3⟩ := T5
  have B2 : Below w.heap.size w w2 := (hb1.alloc hb1.size _).grown g2 (by simp; omega) (fun j e => by cases e; omega)
  have B3 : Below w.heap.size w X3 := B2.grown GX3 B2.size (fun j e => by cases e; exact Nat.le_refl _)
  have h3 : Rd X3 w1.heap.size g c1 ws s' := h2.keptBut GX3 (by simp; omega) (by simp; omega)
  have own3 : OwnL X3 (w.heap.size + 1) (.slice A2 l.length c2) l := World.ownsRow.mono (World.ownsRow.kept ho2 GX3 (own_far2 ho2 (by simp; omega))) (by simp; omega)
  have WA3 : WAt X3 g 0 ws := h3.wat
  have gx3 := h3.lt
  have hk3 := h3.k
  clear HR0 h2 ho2 g2 GX3 R1 HCE
  go_upto_region 9 with (go_at_call 53; refine (mis_any _ _ _ ws s' _ h3 hpos hcol).mono ?_; rintro e w4 ⟨rfl, hb4⟩; have R4 := row_below RX3 hb4; have B4 := below_then B3 hb4 B3.size)
  generalize misP ws s' = M at *
  have g1 : decide ((0 : Int) < M) = true := by simp; omega
  go_upto_region 10 with fail
  have q0 := row_q0 R4; have q1 := row_q1 R4; have q2 := row_q2 R4; have q3 := row_q3 R4; have q4 := row_q4 R4; have q5 := row_q5 R4; have q6 := row_q6 R4; have q7 := row_q7 R4; have q8 := row_q8 R4; have q9 := row_q9 R4; have q10 := row_q10 R4
  have f0 := row_fz R4 0; have f1 := row_fz R4 1; have f2 := row_fz R4 2; have f3 := row_fz R4 3; have f4 := row_fz R4 4; have f5 := row_fz R4 5; have f6 := row_fz R4 6; have f7 := row_fz R4 7; have f8 := row_fz R4 8; have f9 := row_fz R4 9; have f10 := row_fz R4 10
  have qa0 := fun O => row_q0 (row_alloc R4 O); have qa1 := fun O => row_q1 (row_alloc R4 O); have qa2 := fun O => row_q2 (row_alloc R4 O); have qa3 := fun O => row_q3 (row_alloc R4 O); have qa4 := fun O => row_q4 (row_alloc R4 O); have qa5 := fun O => row_q5 (row_alloc R4 O); have qa6 := fun O => row_q6 (row_alloc R4 O); have qa7 := fun O => row_q7 (row_alloc R4 O); have qa8 := fun O => row_q8 (row_alloc R4 O); have qa9 := fun O => row_q9 (row_alloc R4 O); have qa10 := fun O => row_q10 (row_alloc R4 O)
  have fa0 := fun O => row_fz (row_alloc R4 O) 0; have fa1 := fun O => row_fz (row_alloc R4 O) 1; have fa2 := fun O => row_fz (row_alloc R4 O) 2; have fa3 := fun O => row_fz (row_alloc R4 O) 3; have fa4 := fun O => row_fz (row_alloc R4 O) 4; have fa5 := fun O => row_fz (row_alloc R4 O) 5; have fa6 := fun O => row_fz (row_alloc R4 O) 6; have fa7 := fun O => row_fz (row_alloc R4 O) 7; have fa8 := fun O => row_fz (row_alloc R4 O) 8; have fa9 := fun O => row_fz (row_alloc R4 O) 9; have fa10 := fun O => row_fz (row_alloc R4 O) 10
  go_wp2
  clear q0 f0 q1 f1 q2 f2 q3 f3 q4 f4 q5 f5 q6 f6 q7 f7 q8 f8 q9 f9 q10 f10 qa0 fa0 qa1 fa1 qa2 fa2 qa3 fa3 qa4 fa4 qa5 fa5 qa6 fa6 qa7 fa7 qa8 fa8 qa9 fa9 qa10 fa10
  have RA := row_alloc R4 (.cells #[.int .i64 n, .int .i64 M, .iface 34 (.int .i64 2)] 88)
  have FB : FaultAt (w4.alloc (.cells #[.int .i64 n, .int .i64 M, .iface 34 (.int .i64 2)] 88)) w4.heap.size n M 2 := ⟨new_cell w4 _ _ 0, new_cell w4 _ _ 1, new_cell w4 _ _ 2⟩
  have BA := (B4).alloc (B4).size (.cells #[.int .i64 n, .int .i64 M, .iface 34 (.int .i64 2)] 88)
  have SA : w4.heap.size < (w4.alloc (.cells #[.int .i64 n, .int .i64 M, .iface 34 (.int .i64 2)] 88)).heap.size := by simp
  have T5 := row_tell (.int .i64 0) (.string ⟨#[]⟩) (.slice none 0 0) (.int .i64 0) (.int .i64 0) (.string ⟨#[]⟩) (.string ⟨#[]⟩) (.string ⟨#[]⟩) (.string ⟨#[]⟩) (.string ⟨#[]⟩) (.int .i64 0) RA _ rfl
  generalize (World.setCell (World.setCell (World.setCell (World.setCell (World.setCell (World.setCell (World.setCell (World.setCell (World.setCell (World.setCell (World.setCell (w4.alloc (.cells #[.int .i64 n, .int .i64 M, .iface 34 (.int .i64 2)] 88)) ⟨w.heap.size, 0, none⟩ (.int .i64 0)) ⟨w.heap.size, 1, none⟩ (.string ⟨#[]⟩)) ⟨w.heap.size, 2, none⟩ (.slice none 0 0)) ⟨w.heap.size, 3, none⟩ (.int .i64 0)) ⟨w.heap.size, 4, none⟩ (.int .i64 0)) ⟨w.heap.size, 5, none⟩ (.string ⟨#[]⟩)) ⟨w.heap.size, 6, none⟩ (.string ⟨#[]⟩)) ⟨w.heap.size, 7, none⟩ (.string ⟨#[]⟩)) ⟨w.heap.size, 8, none⟩ (.string ⟨#[]⟩)) ⟨w.heap.size, 9, none⟩ (.string ⟨#[]⟩)) ⟨w.heap.size, 10, none⟩ (.int .i64 0)) = X5 at *
  obtain ⟨RX5, GX5⟩ := T5
  (try simp only [Exit.inBlock, Exit.then])
  refine bodyPost_ret (run_cell3 rfl _ _ w.heap.size _ _ _ _ rfl RX5 Tryz.underlying24 rfl (by kernel_rfl)) rfl ?_
  exact fault_end BA GX5 SA FB (B4).size (by have := (Array.getElem?_eq_some_iff.1 R4).1; omega)

end Go.Proofs.YtahhepmhdcbplaaGreatDoor
