/-
  Package step: entered.
-/
import Derived.Test.YtbacdllokgcohaaSt1
namespace Go.Proofs.Ytbacdllokgcohaa
set_option maxRecDepth 100000
open Go.ChangeShapes Go.WideShapes Go.ChangeAt Go.RowKit

theorem icells_set (l : List Int) (k : Nat) (v : Int) : icells (l.set k v) = (icells l).set k (.int .i64 v) := by simp [icells, List.map_set]
theorem row_set {W : World} {g : Nat} {l : List Int} {k : Nat} {v : Int} (h : W.heap[g]? = some (.cells (icells l).toArray 3 (0, 0))) : (W.setCell ⟨g, k, none⟩ (.int .i64 v)).heap[g]? = some (.cells (icells (l.set k v)).toArray 3 (0, 0)) := by
  rw [heap_set (j := k) h, icells_set]
  simp
theorem entC_past (now : Int) : ∀ (l : List Nat) (x : Cf), (entC now x l).past = x.past
  | [], _ => rfl
  | k :: l, x => entC_past now l (ent1 now x k)
section
variable {W X : World} {gS : Nat}
theorem ints_frame {A : Option Addr} {n c : Nat} {zs : List Int} (h : IntsAt W (.slice A n c) zs) (hf : ∀ g, g < W.heap.size → g ≠ gS → X.heap[g]? = W.heap[g]?) (hA : ∀ b off, A = some ⟨b, off, none⟩ → b ≠ gS) (hs : W.heap.size ≤ X.heap.size) : IntsAt X (.slice A n c) zs := by
  obtain ⟨A', c', e, hl, hc⟩ := h
  refine ⟨A', c', e, hl, fun k hk => ?_⟩
  obtain ⟨b, off, e2, hb, hx, hw⟩ := hc k hk
  injection e with e1
  exact ⟨b, off, e2, by omega, (World.cell?_of_block (a := ⟨b, off + k, none⟩) (hf b hb (hA b off (by rw [e1, e2])))).trans hx, hw⟩
theorem u32s_frame {v : Value} {rs : List Nat} {l : List Int} (h : U32sAt W v rs) (hS : W.heap[gS]? = some (.cells (icells l).toArray 3 (0, 0))) (hf : ∀ g, g < W.heap.size → g ≠ gS → X.heap[g]? = W.heap[g]?) (hs : W.heap.size ≤ X.heap.size) : U32sAt X v rs := by
  obtain ⟨A, c, e, hl, hc⟩ := h
  refine ⟨A, c, e, hl, fun k hk => ?_⟩
  obtain ⟨b, off, e2, hb, hx, hw⟩ := hc k hk
  have hne : b ≠ gS := fun e9 => by
    subst e9
    rw [cell_of_row _ _ _ _ _ _ hS] at hx
    simp only [icells, List.getElem?_toArray, List.getElem?_map] at hx
    cases h9 : l[off + k]? with
    | none => rw [h9] at hx; cases hx
    | some z => rw [h9] at hx; simp at hx
  exact ⟨b, off, e2, by omega, (World.cell?_of_block (a := ⟨b, off + k, none⟩) (hf b hb hne)).trans hx, hw⟩
end
set_option maxHeartbeats 4000000 in
theorem entered_any (n : Nat) (x : Cf) (vP : Value) (gS base : Nat) (l : List Nat) (A : Option Addr) (cap : Nat) (now : Int) (w : World) (hn : n ≤ 24) (hR : CfR base w n x vP gS) (hb : base ≤ w.heap.size) (hl : IntsAt w (.slice A l.length cap) (l.map fun k : Nat => (k : Int))) (hk : ∀ k ∈ l, k < n)
    (hA : ∀ b off, A = some ⟨b, off, none⟩ → b ≠ gS) (hll : l.length ≤ 1000) (hw : (Lit.int .i64 now).wf = true) :
    Calls Try.prog 33 #[cfV x vP gS n, .slice A l.length cap, .int .i64 now] w (fun e w' => Below base w w' ∧ e = .returned (cfV (entC now x l) vP gS n) ∧ CfR base w' n (entC now x l) vP gS) := by
  obtain ⟨AP, cP, rfl⟩ : ∃ AP cP, vP = .slice AP n cP := by obtain ⟨a, c, e⟩ := u32s_form hR.uP; rw [hR.ok.lp] at e; exact ⟨a, c, e⟩
  have R0 : ((w.alloc (.cells #[.int .u32 (x.set : Nat), .slice AP n cP, .slice (some ⟨gS, 0, none⟩) n n] 36)).alloc (.cells #[.int .u32 0, .slice none 0 0, .slice none 0 0] 36)).heap[w.heap.size]? = _ := (heap_alloc_old _ _ (by simp)).trans (heap_alloc_new _ _)
  have R1 : ((w.alloc (.cells #[.int .u32 (x.set : Nat), .slice AP n cP, .slice (some ⟨gS, 0, none⟩) n n] 36)).alloc (.cells #[.int .u32 0, .slice none 0 0, .slice none 0 0] 36)).heap[w.heap.size + 1]? = some (.cells #[.int .u32 0, .slice none 0 0, .slice none 0 0] 36 (0, 0)) := by
    have := heap_alloc_new (w.alloc (.cells #[.int .u32 (x.set : Nat), .slice AP n cP, .slice (some ⟨gS, 0, none⟩) n n] 36)) (.cells #[.int .u32 0, .slice none 0 0, .slice none 0 0] 36)
    simpa using this
  have hB0 : Below w.heap.size w ((w.alloc (.cells #[.int .u32 (x.set : Nat), .slice AP n cP, .slice (some ⟨gS, 0, none⟩) n n] 36)).alloc (.cells #[.int .u32 0, .slice none 0 0, .slice none 0 0] 36)) := ((Below.refl _ _).alloc (Nat.le_refl _) _).alloc (by simp) _
  have HF0 : Hid (∀ g, g < w.heap.size → g ≠ gS → ((w.alloc (.cells #[.int .u32 (x.set : Nat), .slice AP n cP, .slice (some ⟨gS, 0, none⟩) n n] 36)).alloc (.cells #[.int .u32 0, .slice none 0 0, .slice none 0 0] 36)).heap[g]? = w.heap[g]?) := fun g hg _ => hB0.block g hg
  have HB0 := Lib.hid (hB0.mono hb)
  have hgw := (Array.getElem?_eq_some_iff.1 hR.rS).1
  have HS0 := Lib.hid ((hB0.block _ hgw).trans hR.rS)
  have HL := Lib.hid hl
  have HR := Lib.hid hR
  have HK := Lib.hid hk
  have HA := Lib.hid hA
  have HOK : Hid (∀ j, CfOk n (entC now x (l.take j))) := fun j => hR.ok.entC hw fun k h => hk k (List.mem_of_mem_take h)
  have HP : Hid ((entC now x l).past = x.past) := entC_past now l x
  have hlo := hR.lo
  clear hR hl hB0 hk hA
  go_enter Try.func33, Try.ntmps33
  go_upto_region 2 with fail
  generalize (w.alloc (.cells #[.int .u32 (x.set : Nat), .slice AP n cP, .slice (some ⟨gS, 0, none⟩) n n] 36)).alloc (.cells #[.int .u32 0, .slice none 0 0, .slice none 0 0] 36) = w0 at *
  go_loopw [11] (fun i wr => ∃ j : Nat, j ≤ l.length ∧ i = .int .i64 j ∧ Hid (wr.heap[w.heap.size]? = some (.cells #[.int .u32 ((entC now x (l.take j)).set : Nat), .slice AP n cP, .slice (some ⟨gS, 0, none⟩) n n] 36 (0, 0))) ∧ Hid (wr.heap[w.heap.size + 1]? = some (.cells #[.int .u32 0, .slice none 0 0, .slice none 0 0] 36 (0, 0))) ∧
    Hid (wr.heap[gS]? = some (.cells (icells (entC now x (l.take j)).since).toArray 3 (0, 0))) ∧ Hid (∀ g, g < w.heap.size → g ≠ gS → wr.heap[g]? = w.heap[g]?) ∧ Hid (Below base w wr)) (fun i _ => l.length - (intOf i).toNat)
  case atStart => exact ⟨0, Nat.zero_le _, rfl, R0, R1, HS0.out, HF0.out, HB0.out⟩
  case round =>
    obtain ⟨j, hj, rfl, HX, HZ, HS, HF, HB⟩ := hrel
    have hxs : w.heap.size + 1 < wr.heap.size := (Array.getElem?_eq_some_iff.1 HZ.out).1
    have hok := HOK.out j
    by_cases hlt : j < l.length
    · have hji : (j : Int) < l.length := by omega
      obtain ⟨b9, off9, rfl, hb9, hx9⟩ := nat_cell (ints_frame HL.out HF.out HA.out (by omega)) hlt
      have hsn : entC now x (l.take (j + 1)) = ⟨(entC now x (l.take j)).set ||| 2 ^ l[j], (entC now x (l.take j)).past, (entC now x (l.take j)).since.set l[j] now⟩ := by rw [List.take_succ_eq_append_getElem hlt, entC_snoc]; rfl
      have hkn := HK.out _ (List.getElem_mem hlt)
      have HSN := Lib.hid hsn
      clear hsn
      generalize entC now x (l.take j) = y at *
      generalize l[j] = k at *
      have hy32 : y.set < 4294967296 := Nat.lt_of_lt_of_le hok.st (Nat.pow_le_pow_right (n := 2) (by omega) (show n ≤ 32 by omega))
      have h2 := two_lt (k := k) (by omega)
      have hor := u32_or_nat y.set (2 ^ k) hy32 h2
      have hsh := two_val (i := k) (by omega)
      generalize 2 ^ k = p at *
      have x0 := cell_of_row _ _ 0 _ _ _ HX.out
      have f0 := fzc_of HX.out 0
      have hkI : (k : Int) < n := by omega
      have hls := hok.ls
      have HB4 : Hid (Below base w (wr.setCell ⟨w.heap.size, 0, none⟩ (.int .u32 ((y.set ||| p : Nat) : Int))).drew) := below_drew (set_below HB.out (by omega) hb)
      have HX4 : Hid ((wr.setCell ⟨w.heap.size, 0, none⟩ (.int .u32 ((y.set ||| p : Nat) : Int))).drew.heap[w.heap.size]? = some (.cells #[.int .u32 ((y.set ||| p : Nat) : Int), .slice AP n cP, .slice (some ⟨gS, 0, none⟩) n n] 36 (0, 0))) := by
        have := heap_set (j := 0) HX.out (.int .u32 ((y.set ||| p : Nat) : Int))
        show (wr.setCell ⟨w.heap.size, 0, none⟩ (.int .u32 ((y.set ||| p : Nat) : Int))).heap[w.heap.size]? = _
        simpa using this
      have HO4 : Hid (∀ g, g < wr.heap.size → g ≠ w.heap.size → (wr.setCell ⟨w.heap.size, 0, none⟩ (.int .u32 ((y.set ||| p : Nat) : Int))).drew.heap[g]? = wr.heap[g]?) := fun g hg h9 => (grown_setCell _ _ _ _).block g hg (by simpa using h9)
      have HS4 : Hid ((wr.setCell ⟨w.heap.size, 0, none⟩ (.int .u32 ((y.set ||| p : Nat) : Int))).drew.heap.size = wr.heap.size) := by show (wr.setCell _ _).heap.size = _; simp [World.setCell]
      go_upto_region 4 with fail
      go_region
      go_upto_region 5 with fail
      generalize (wr.setCell ⟨w.heap.size, 0, none⟩ (.int .u32 ((y.set ||| p : Nat) : Int))).drew = X at *
      have hXs := HS4.out
      have rZ := (HO4.out _ hxs (by omega)).trans HZ.out
      have rS := (HO4.out gS (by omega) (by omega)).trans HS.out
      have rF : ∀ g, g < w.heap.size → g ≠ gS → X.heap[g]? = w.heap[g]? := fun g hg h9 => (HO4.out g (by omega) (by omega)).trans (HF.out g hg h9)
      have HRZ := Lib.hid rZ
      have HRF := Lib.hid rF
      have HRS := Lib.hid rS
      clear x0 f0 HO4 HS4 HX HZ HS HF HB rF rZ
      have x2 := cell_of_row _ _ 2 _ _ _ HX4.out
      have hkc : X.cell? ⟨gS, k, none⟩ = some (.int .i64 (y.since.getD k 0)) := by rw [cell_of_row _ _ _ _ _ _ rS]; simp [icells, List.getD_eq_getElem?_getD, hls, hkn]
      have f9 := fzc_of rS k
      clear rS
      go_wp2
      have gb : ∀ g, g < X.heap.size → g ≠ gS → (X.setCell ⟨gS, k, none⟩ (.int .i64 now)).heap[g]? = X.heap[g]? := fun g hg h9 => (grown_setCell _ _ _ _).block g hg (by simpa using h9)
      have HGB := Lib.hid gb
      clear gb
      go_roundw
      case rel =>
        refine ⟨j + 1, by omega, by go_num, ?_, ?_, ?_, ?_, ?_⟩
        · show _ = _
          rw [HGB.out _ (by omega) (by omega), HX4.out, HSN.out]
        · exact (HGB.out _ (by omega) (by omega)).trans HRZ.out
        · show _ = _
          rw [HSN.out]
          exact row_set HRS.out
        · exact fun g hg h9 => (HGB.out g (by omega) h9).trans (HRF.out g hg h9)
        · exact set_below HB4.out (by omega) hlo
      case measure => simp [intOf]; omega
    · have ej : j = l.length := by omega
      subst ej
      rw [List.take_length] at HX HS hok
      obtain ⟨y, hy⟩ : ∃ y, y = entC now x l := ⟨_, rfl⟩
      rw [← hy] at HX HS hok HP
      have HY := Lib.hid hy
      clear hy
      have x0 := cell_of_row _ _ 0 _ _ _ HX.out
      have x1 := cell_of_row _ _ 1 _ _ _ HX.out
      have x2 := cell_of_row _ _ 2 _ _ _ HX.out
      have d0 := cell_of_row _ _ 0 _ _ _ HZ.out
      have d1 := cell_of_row _ _ 1 _ _ _ HZ.out
      have d2 := cell_of_row _ _ 2 _ _ _ HZ.out
      have f0 := fzc_of HZ.out 0
      have f1 := fzc_of HZ.out 1
      have f2 := fzc_of HZ.out 2
      go_wp2
      have e := heap_set (j := 2) (heap_set (j := 1) (heap_set (j := 0) HZ.out (.int .u32 (y.set : Nat))) (.slice AP n cP)) (.slice (some ⟨gS, 0, none⟩) n n)
      have ho : ∀ g, g < wr.heap.size → g ≠ w.heap.size + 1 → (((wr.setCell ⟨w.heap.size + 1, 0, none⟩ (.int .u32 (y.set : Nat))).setCell ⟨w.heap.size + 1, 1, none⟩ (.slice AP n cP)).setCell ⟨w.heap.size + 1, 2, none⟩ (.slice (some ⟨gS, 0, none⟩) n n)).heap[g]? = wr.heap[g]? := fun g hg hne => by
        rw [(grown_setCell _ _ _ _).block g (by simpa [World.setCell] using hg) (by simpa using hne), (grown_setCell _ _ _ _).block g (by simpa [World.setCell] using hg) (by simpa using hne), (grown_setCell _ _ _ _).block g hg (by simpa using hne)]
      (try simp only [Exit.inBlock, Exit.then])
      refine bodyPost_ret (results_cell_row rfl _ _ (w.heap.size + 1) _ _ _ _ rfl (by simpa using e) Try.underlying36 rfl (by kernel_rfl)) rfl ?_
      have hy := HY.out
      subst hy
      have hzz : wr.heap.size ≤ (((wr.setCell ⟨w.heap.size + 1, 0, none⟩ (.int .u32 ((entC now x l).set : Nat))).setCell ⟨w.heap.size + 1, 1, none⟩ (.slice AP n cP)).setCell ⟨w.heap.size + 1, 2, none⟩ (.slice (some ⟨gS, 0, none⟩) n n)).heap.size := by simp [World.setCell]
      refine ⟨?_, rfl, hok, ?_, hlo, ?_⟩
      · exact set_below (set_below (set_below HB.out (by omega) (by omega)) (by simp [World.setCell]; omega) (by omega)) (by simp [World.setCell]; omega) (by omega)
      · have hp : (entC now x l).past = x.past := HP.out
        rw [hp]
        exact u32s_frame HR.out.uP HR.out.rS (fun g hg h9 => (ho g (by omega) (by omega)).trans (HF.out g hg h9)) (by omega)
      · exact (ho gS (by omega) (by omega)).trans HS.out
end Go.Proofs.Ytbacdllokgcohaa
