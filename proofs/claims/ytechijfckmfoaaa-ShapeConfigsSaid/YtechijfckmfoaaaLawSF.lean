/-
  ShapeConfigs: the walk.
-/
import Derived.Test.YtechijfckmfoaaaCfg2
namespace Go.Proofs.Ytechijfckmfoaaa
set_option maxRecDepth 100000
open Go.ChangeShapes Go.WideShapes Go.ChangeAt Go.RowKit

theorem ShOk.top2 {ks ps : List Int} (h : ShOk ks ps) (h0 : 0 < ks.length) : (List.range ks.length).any (isKid ks ps (-1)) = true := by
  rw [List.any_eq_true]
  refine ⟨0, List.mem_range.2 h0, ?_⟩
  have := h.2.2.1 0 h0
  unfold isKid
  rw [h.2.2.2, show ps.getD 0 0 = -1 by omega]; rfl
set_option maxHeartbeats 4000000 in
theorem configs_walk (w : World) (v : Value) (l : List Int) (h : IntsAt w v l) (u : Value) (l2 : List Int) (hu : IntsAt w u l2) (at0 : Int) (hat : (Lit.int .i64 at0).wf = true) :
    Calls Try.prog 6 #[v, u, .int .i64 at0] w (TrueOn w) := by
  obtain ⟨A0, c0, rfl⟩ := ints_form h
  obtain ⟨A1, c1, rfl⟩ := ints_form hu
  have OF := Lib.hid (Of_any _ l w h)
  have HU := Lib.hid hu
  clear h hu
  go_enter Try.func6, Try.ntmps6
  go_upto_region 2 with (go_at_call 10; refine OF.out.mono ?_; rintro e w2 ⟨A, c, B, d, A', c', B', d', n, ks, ps, rfl, ok, h0, h12, hn, S1, S2, hb2⟩; have HN := Lib.hid hn; clear hn)
  have q0 : ((w2.alloc (.cells #[.slice A n c, .slice B n d] 25)).alloc (.cells #[.slice A' n c', .slice B' n d'] 30)).cell? ⟨w2.heap.size, 0, none⟩ = some (.slice A n c) := box_x _ (by simp) (box_0 _ _ _ _)
  have q1 : ((w2.alloc (.cells #[.slice A n c, .slice B n d] 25)).alloc (.cells #[.slice A' n c', .slice B' n d'] 30)).cell? ⟨w2.heap.size, 1, none⟩ = some (.slice B n d) := box_x _ (by simp) (box_1 _ _ _ _)
  have hs1 : (w2.alloc (.cells #[.slice A n c, .slice B n d] 25)).heap.size = w2.heap.size + 1 := by simp
  have r0 := box_0 (w2.alloc (.cells #[.slice A n c, .slice B n d] 25)) 30 (.slice A' n c') (.slice B' n d')
  have r1 := box_1 (w2.alloc (.cells #[.slice A n c, .slice B n d] 25)) 30 (.slice A' n c') (.slice B' n d')
  rw [hs1] at r0 r1
  have b3 : Below w2.heap.size w2 ((w2.alloc (.cells #[.slice A n c, .slice B n d] 25)).alloc (.cells #[.slice A' n c', .slice B' n d'] 30)) := ((Below.refl _ _).alloc (Nat.le_refl _) _).alloc (by simp) _
  have hlt : w2.heap.size + 1 < ((w2.alloc (.cells #[.slice A n c, .slice B n d] 25)).alloc (.cells #[.slice A' n c', .slice B' n d'] 30)).heap.size := by simp
  generalize (w2.alloc (.cells #[.slice A n c, .slice B n d] 25)).alloc (.cells #[.slice A' n c', .slice B' n d'] 30) = w3 at *
  have hlt0 : w2.heap.size < w3.heap.size := by omega
  have S3 := Lib.hid (shp_below S1 b3)
  have T3 := Lib.hid (shp_below S2 b3)
  have HB3 := Lib.hid (below_then hb2 b3 hb2.size)
  have U3 := Lib.hid (HU.out.below HB3.out)
  have HOK := Lib.hid ok
  have hsz : Hid (szN ks ps = n) := by show _ = _; unfold szN; have := HN.out; have := ok.1; omega
  have HM : Hid (n = ps.length) := by show _ = _; have := HN.out; have := ok.1; omega
  have HP : Hid (∀ k, k < n → -1 ≤ ps.getD k 0 ∧ ps.getD k 0 < k) := fun k hk => ok.2.2.1 k (by have := HN.out; omega)
  have CF := Lib.hid (Config_any ks ps A' B' n c' d' _ l2 w3 T3.out HOK.out HN.out h0 (by omega) U3.out)
  have PR := Lib.hid (fun W (hW : Below w3.heap.size w3 W) s hs => Proper_any ks ps A B n c n d W s hs (shp_below S3.out hW) HN.out HM.out (by omega) (by omega))
  clear S1 S2 b3 hb2 ok hs1 OF HU
  go_upto_region 3 with (go_at_call 15; refine CF.out.mono ?_; rintro e w4 ⟨s, hs, rfl, hps, hb4⟩)
  have HPS := Lib.hid hps
  have HS := Lib.hid hs
  have hs32 : s < 4294967296 := Nat.lt_of_lt_of_le hs (Nat.pow_le_pow_right (n := 2) (by omega) (show n ≤ 32 by omega))
  have y0 := (hb4.cell (p := ⟨w2.heap.size, 0, none⟩) hlt0).trans q0
  have y1 := (hb4.cell (p := ⟨w2.heap.size, 1, none⟩) hlt0).trans q1
  have hor := u32_or_nat s 2147483648 hs32 (by omega)
  have hor2 : bits .or .u32 (s : Int) 2147483648 = ((s ||| 2147483648 : Nat) : Int) := by simpa using hor
  have hlt3 : s ||| 2147483648 < 4294967296 := Nat.or_lt_two_pow (n := 32) hs32 (by omega)
  have P1 : Hid (∀ W, Below w3.heap.size w3 W → Calls Try.prog 12 #[.agg #[.slice A n c, .slice B n d], .int .u32 s] W fun e w' => e = .returned (.bool true) ∧ Below W.heap.size W w') := fun W hW => by
    have := PR.out W hW s hs32
    rwa [HPS.out] at this
  have P2 : Hid (∀ W, Below w3.heap.size w3 W → Calls Try.prog 12 #[.agg #[.slice A n c, .slice B n d], .int .u32 0] W fun e w' => e = .returned (.bool false) ∧ Below W.heap.size W w') := fun W hW => by
    have := PR.out W hW 0 (by omega)
    rwa [prop_zero hsz.out (by omega)] at this
  have P3 : Hid (∀ W, Below w3.heap.size w3 W → Calls Try.prog 12 #[.agg #[.slice A n c, .slice B n d], .int .u32 (s ||| 2147483648 : Nat)] W fun e w' => e = .returned (.bool false) ∧ Below W.heap.size W w') := fun W hW => by
    have := PR.out W hW (s ||| 2147483648) hlt3
    rwa [prop_high hsz.out (by omega) s] at this
  have hbd := within_bd at0 (n : Int) (by omega)
  have WI := Lib.hid (fun W => Within_any at0 (n : Int) W hat (by omega) (by omega))
  generalize within at0 (n : Int) = z at *
  obtain ⟨k, rfl⟩ : ∃ k : Nat, z = k := ⟨z.toNat, by omega⟩
  have hkn : k < n := by omega
  have P4 : Hid (∀ W, Below w3.heap.size w3 W → Calls Try.prog 12 #[.agg #[.slice A n c, .slice B n d], .int .u32 (s ^^^ 2 ^ k : Nat)] W fun e w' => e = .returned (.bool false) ∧ Below W.heap.size W w') := fun W hW => by
    have := PR.out W hW (s ^^^ 2 ^ k) (Nat.xor_lt_two_pow (n := 32) hs32 (two_lt (by omega)))
    rwa [prop_flip HP.out hsz.out (by omega) hkn HPS.out] at this
  have h2 := two_lt (k := k) (by omega)
  have hxor := u32_xor_nat s (2 ^ k) hs32 h2
  have hsh := two_val (i := k) (by omega)
  have hk32 : k < 32 := by omega
  have hb4' := hb4
  clear CF PR hs hps hor hbd
  generalize hx : s ^^^ 2 ^ k = x at *
  generalize ho : s ||| 2147483648 = y at *
  clear hx ho
  generalize 2 ^ k = p at *
  have tok : True := trivial
  go_wp2_with (first
    | (have _t := tok; go_at_call_of 12 (Value.int .u32 (s : Int)); refine (P1.out _ hb4').mono ?_; rintro e w5 ⟨rfl, hb5⟩; have h5 := below_then hb4 hb5 hb4.size; have y50 := (h5.cell (p := ⟨w2.heap.size, 0, none⟩) hlt0).trans q0; have y51 := (h5.cell (p := ⟨w2.heap.size, 1, none⟩) hlt0).trans q1; clear tok _t)
    | (go_at_call_of 12 (Value.int .u32 0); refine (P2.out _ h5).mono ?_; rintro e w6 ⟨rfl, hb6⟩; have h6 := below_then h5 hb6 h5.size; have y60 := (h6.cell (p := ⟨w2.heap.size, 0, none⟩) hlt0).trans q0; have y61 := (h6.cell (p := ⟨w2.heap.size, 1, none⟩) hlt0).trans q1)
    | (go_at_call_of 12 (Value.int .u32 (y : Int)); refine (P3.out _ h6).mono ?_; rintro e w7 ⟨rfl, hb7⟩; have h7 := below_then h6 hb7 h6.size; have y70 := (h7.cell (p := ⟨w2.heap.size, 0, none⟩) hlt0).trans q0; have y71 := (h7.cell (p := ⟨w2.heap.size, 1, none⟩) hlt0).trans q1)
    | (go_at_call 7; refine (WI.out _).mono ?_; rintro e w8 ⟨rfl, rfl⟩)
    | (go_at_call_of 12 (Value.int .u32 (x : Int)); refine (P4.out _ h7).mono ?_; rintro e w9 ⟨rfl, hb9⟩; have h9 := below_then h7 hb9 h7.size)
    | (go_at_call 9; refine (wakes06 _).mono ?_; rintro e w10 ⟨rfl, hb10⟩))
  go_ret
  exact ⟨rfl, below_then HB3.out (below_then h9 hb10 h9.size) HB3.out.size⟩
end Go.Proofs.Ytechijfckmfoaaa
