/-
  ShapeCounts: the walk.
-/
import Derived.Test.YtechijfckmfoaaaSh9
import Derived.Test.YtechijfckmfoaaaShOf
namespace Go.Proofs.Ytechijfckmfoaaa
set_option maxRecDepth 100000
open Go.ChangeShapes Go.WideShapes Go.ChangeAt Go.RowKit

theorem ShOk.top {ks ps : List Int} (h : ShOk ks ps) (h0 : 0 < ks.length) : (List.range ks.length).any (isKid ks ps (-1)) = true := by
  rw [List.any_eq_true]
  refine ⟨0, List.mem_range.2 h0, ?_⟩
  have := h.2.2.1 0 h0
  unfold isKid
  rw [h.2.2.2, show ps.getD 0 0 = -1 by omega]; rfl
theorem cntP_le (f : Nat → Bool) : ∀ N, cntP f N ≤ N
  | 0 => Nat.le_refl _
  | N + 1 => by
    have := cntP_le f N
    have h : cntP f (N + 1) = cntP f N + (f N).toNat := rfl
    have h2 : (f N).toNat ≤ 1 := by cases f N <;> decide
    omega
set_option maxHeartbeats 4000000 in
theorem counts_walk (w : World) (v : Value) (l : List Int) (h : IntsC w v l) : Calls Try.prog 4 #[v] w (TrueOn w) := by
  have ho := okI_take (okI_of h.1) 9
  have C1 := Lib.hid (Cut_any l v 9 w h (by omega))
  have hl1 : (l.take 9).length ≤ 9 := List.length_take_le _ _
  obtain ⟨_, A0, c0, rfl, _⟩ := h
  generalize l.take 9 = K at *
  have HOK := Lib.hid ho
  clear ho
  go_enter Try.func4, Try.ntmps4
  go_upto_region 2 with (first
    | (go_at_call 11; refine C1.out.mono ?_; rintro e w1 ⟨v1, rfl, o1, hb1⟩; obtain ⟨A1, c1, rfl⟩ := own_slice o1; have i1 := ints_of_own o1 HOK.out (by omega))
    | (go_at_call 10; refine (Of_any _ K _ i1).mono ?_; rintro e w2 ⟨A, c, B, d, A', c', B', d', n, ks, ps, rfl, ok, h0, h12, hn, S1, S2, hb2⟩; have HN := Lib.hid hn; clear hn))
  have q0 : ((w2.alloc (.cells #[.slice A n c, .slice B n d] 25)).alloc (.cells #[.slice A' n c', .slice B' n d'] 30)).cell? ⟨w2.heap.size, 0, none⟩ = some (.slice A n c) := box_x _ (by simp) (box_0 _ _ _ _)
  have q1 : ((w2.alloc (.cells #[.slice A n c, .slice B n d] 25)).alloc (.cells #[.slice A' n c', .slice B' n d'] 30)).cell? ⟨w2.heap.size, 1, none⟩ = some (.slice B n d) := box_x _ (by simp) (box_1 _ _ _ _)
  have b3 : Below w2.heap.size w2 ((w2.alloc (.cells #[.slice A n c, .slice B n d] 25)).alloc (.cells #[.slice A' n c', .slice B' n d'] 30)) := ((Below.refl _ _).alloc (Nat.le_refl _) _).alloc (by simp) _
  have hlt : w2.heap.size < ((w2.alloc (.cells #[.slice A n c, .slice B n d] 25)).alloc (.cells #[.slice A' n c', .slice B' n d'] 30)).heap.size := by simp; omega
  generalize (w2.alloc (.cells #[.slice A n c, .slice B n d] 25)).alloc (.cells #[.slice A' n c', .slice B' n d'] 30) = w3 at *
  have S3 := Lib.hid (shp_below S1 b3)
  have HB3 := Lib.hid (below_then (below_then hb1 hb2 hb1.size) b3 (Nat.le_trans hb1.size hb2.size))
  have OK := Lib.hid ok
  have hsz : Hid (szN ks ps = n) := by show _ = _; unfold szN; have := HN.out; have := ok.1; omega
  have HM : Hid (n = ps.length) := by show _ = _; have := HN.out; have := ok.1; omega
  have HP : Hid (∀ k, k < n → -1 ≤ ps.getD k 0 ∧ ps.getD k 0 < k) := fun k hk => ok.2.2.1 k (by have := HN.out; omega)
  have HKS : Hid (∀ k, k < n → 1 ≤ ks.getD k 0) := fun k hk => (ok.2.1 k (by have := HN.out; omega)).1
  have HTOP : Hid ((List.range n).any (isKid ks ps (-1)) = true) := by show _ = _; have := ok.top (by have := HN.out; omega); rwa [← HN.out] at this
  have HCA : Hid (cntP (prop ks ps) (2 ^ n) = wy ks ps n (-1)) := count_all HP.out hsz.out (by omega) HTOP.out
  have WY := Lib.hid (fun W (hW : Below w3.heap.size w3 W) => ways_any ks ps A B n c d w3 S3.out HN.out HM.out (by omega) HKS.out (fun k hk => (HP.out k hk).2) (n + 1) (-1) W hW (by omega) (by omega) (by omega))
  have PR := Lib.hid (fun W (hW : Below w3.heap.size w3 W) s hs => Proper_any ks ps A B n c n d W s hs (shp_below S3.out hW) HN.out HM.out (by omega) (by omega))
  have h2n : 2 ^ n ≤ 4096 := Nat.pow_le_pow_right (n := 2) (by omega) h12
  have hsh := two_val (i := n) (by omega)
  have hn32 : n < 32 := by omega
  clear S1 S2 b3 hb1 hb2 o1 i1 ok hsz HP HKS HTOP S3 C1 HOK
  go_upto_region 4 with (fail)
  go_loopw [5, 6] (fun x y wr => ∃ k : Nat, k ≤ 2 ^ n ∧ y = .int .u32 (k : Nat) ∧ Hid (x = .int .i64 (cntP (prop ks ps) k : Nat)) ∧ Hid (Below w3.heap.size w3 wr)) (fun _ y _ => 2 ^ n - (intOf y).toNat)
  case atStart => exact ⟨0, Nat.zero_le _, rfl, Lib.hid rfl, Below.refl _ _⟩
  case round =>
    obtain ⟨k, hk, rfl, HX, HB⟩ := hrel
    have hx := HX.out
    subst hx
    clear HX
    have z0 := (HB.out.cell (p := ⟨w2.heap.size, 0, none⟩) hlt).trans q0
    have z1 := (HB.out.cell (p := ⟨w2.heap.size, 1, none⟩) hlt).trans q1
    have hcl := cntP_le (prop ks ps) k
    by_cases hlk : k < 2 ^ n
    · have hlki : (k : Int) < ((2 ^ n : Nat) : Int) := by omega
      have P1 := Lib.hid (PR.out wr HB.out k (by omega))
      have HS : Hid (cntP (prop ks ps) (k + 1) = cntP (prop ks ps) k + (prop ks ps k).toNat) := rfl
      clear PR WY
      generalize hpb : prop ks ps k = pb at *
      clear hpb
      generalize cntP (prop ks ps) k = q at *
      generalize 2 ^ n = N at *
      cases pb
      · have HS2 : Hid (cntP (prop ks ps) (k + 1) = q) := HS.out
        clear HS
        go_wp2_with (go_at_call 12; refine P1.out.mono ?_; rintro e w5 ⟨rfl, hb5⟩)
        go_roundw
        case rel => exact ⟨k + 1, by omega, by go_num, by show _ = _; rw [HS2.out], below_then HB.out hb5 HB.out.size⟩
        case measure => simp [intOf]; omega
      · have HS2 : Hid (cntP (prop ks ps) (k + 1) = q + 1) := HS.out
        clear HS
        go_wp2_with (go_at_call 12; refine P1.out.mono ?_; rintro e w5 ⟨rfl, hb5⟩)
        go_roundw
        case rel => exact ⟨k + 1, by omega, by go_num, by show _ = _; rw [HS2.out]; go_num, below_then HB.out hb5 HB.out.size⟩
        case measure => simp [intOf]; omega
    · have hke : k = 2 ^ n := by omega
      subst hke
      have hca := HCA.out
      have hwz : wz (wy ks ps n (-1) : Nat) = (wy ks ps n (-1) : Nat) := wz_small (by omega) (by rw [← hca]; omega)
      have W1 := Lib.hid (WY.out wr HB.out)
      rw [hwz] at W1
      rw [hca] at hcl
      clear PR WY hwz
      rw [hca]
      clear hca HCA
      generalize wy ks ps n (-1) = q at *
      generalize 2 ^ n = N at *
      have hqq : ((q : Int) == (q : Int)) = true := by simp
      go_wp2_with (first
        | (go_at_call 13; refine W1.out.mono ?_; rintro e w5 ⟨rfl, hb5⟩; have h5 := below_then HB.out hb5 HB.out.size)
        | (go_at_call 9; refine (wakes06 _).mono ?_; rintro e w7 ⟨rfl, hb7⟩))
      go_ret
      exact ⟨rfl, below_then HB3.out (below_then h5 hb7 h5.size) HB3.out.size⟩
end Go.Proofs.Ytechijfckmfoaaa
