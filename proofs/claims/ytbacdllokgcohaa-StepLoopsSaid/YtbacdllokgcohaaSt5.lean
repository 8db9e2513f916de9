/-
  Package shape: Level.
-/
import Derived.Test.YtbacdllokgcohaaSt0
import Derived.Test.YtbacdllokgcohaaSt4
namespace Go.Proofs.Ytbacdllokgcohaa
set_option maxRecDepth 100000
open Go.ChangeShapes Go.WideShapes Go.ChangeAt Go.RowKit

/-- how deep a state lies -/
def levF (ps : List Int) : Nat → Nat → Nat
  | 0, _ => 0
  | f + 1, k => if ps.getD k 0 < 0 then 0 else levF ps f (ps.getD k 0).toNat + 1
def levN (ps : List Int) (k : Nat) : Nat := levF ps (k + 1) k
section
variable {ks ps : List Int} {n : Nat}
theorem levF_stab (h : ShF ks ps n) : ∀ (f f' k : Nat), k < f → k < f' → k < n → levF ps f k = levF ps f' k
  | 0, _, k, h1, _, _ => by omega
  | _ + 1, 0, k, _, h1, _ => by omega
  | f + 1, f' + 1, k, h1, h2, hk => by
    unfold levF
    have := h.pa k hk
    split
    · rfl
    · rw [levF_stab h f f' _ (by omega) (by omega) (by omega)]
theorem levN_top {k : Nat} (h : ps.getD k 0 < 0) : levN ps k = 0 := by unfold levN levF; rw [if_pos h]
theorem levN_up (h : ShF ks ps n) {k q : Nat} (hk : k < n) (e : ps.getD k 0 = q) : levN ps k = levN ps q + 1 := by
  have hp := h.pa k hk
  unfold levN
  rw [levF, if_neg (by omega), e, Int.toNat_natCast, levF_stab h k (q + 1) q (by omega) (by omega) (by omega)]
theorem levN_le (h : ShF ks ps n) : ∀ k, k < n → levN ps k ≤ k := by
  intro k
  induction k using Nat.strongRecOn with
  | ind k ih =>
    intro hk
    have hp := h.pa k hk
    by_cases h0 : ps.getD k 0 < 0
    · rw [levN_top h0]; omega
    · obtain ⟨q, e⟩ : ∃ q : Nat, ps.getD k 0 = q := ⟨(ps.getD k 0).toNat, by omega⟩
      rw [levN_up h hk e]
      have := ih q (by omega) (by omega)
      omega
end
section
variable {ks ps : List Int} {A B : Option Addr} {n c d : Nat}
set_option maxHeartbeats 2000000 in
theorem Level_any (k : Nat) (w : World) (h : IntsAt w (.slice A n c) ks ∧ IntsAt w (.slice B n d) ps) (hf : ShF ks ps n) (hn : n ≤ 100) (hk : k < n) :
    Calls Try.prog 40 #[.agg #[.slice A n c, .slice B n d], .int .i64 k] w fun e w' => e = .returned (.int .i64 (levN ps k : Nat)) ∧ Below w.heap.size w w' := by
  have x0 := box_0 w 25 (.slice A n c) (.slice B n d)
  have x1 := box_1 w 25 (.slice A n c) (.slice B n d)
  have hz := box_b w (.cells #[.slice A n c, .slice B n d] 25)
  have hlt0 : w.heap.size < (w.alloc (.cells #[.slice A n c, .slice B n d] 25)).heap.size := by simp
  have S1 := Lib.hid (shp_below h hz)
  have HZ := Lib.hid hz
  have HF := Lib.hid hf
  have hpk := hf.pa k hk
  clear h hz hf
  go_enter Try.func40, Try.ntmps40
  go_upto_region 1 with (fail)
  generalize w.alloc (.cells #[.slice A n c, .slice B n d] 25) = w0 at *
  have TH := Lib.hid (fun W => there_any (A := A) (B := B) (c := c) (d := d) k W hn hk)
  have PA := Lib.hid (fun W (hW : Below w0.heap.size w0 W) (q : Nat) (hq : q < n) => parent_any ps A B n c n d q W (shp_below S1.out hW).2 HF.out.pl.symm hq (by omega))
  have hpar : ∀ q, q < n → par ps q = ps.getD q 0 := fun q hq => by have := HF.out.pa q hq; unfold par; omega
  have HPAR := Lib.hid hpar
  clear hpar
  go_upto_region 4 with (go_at_call 63; refine (TH.out _).mono ?_; rintro e w1 ⟨rfl, hb1⟩; have HB1 := Lib.hid hb1; have y0 := (hb1.cell (p := ⟨w.heap.size, 0, none⟩) hlt0).trans x0; have y1 := (hb1.cell (p := ⟨w.heap.size, 1, none⟩) hlt0).trans x1; clear hb1)
  have hp0 := HPAR.out k hk
  have PAk := Lib.hid (PA.out w1 HB1.out k hk)
  rw [hp0] at PAk
  go_upto_region 5 with (go_at_call 64; refine PAk.out.mono ?_; rintro e w2 ⟨rfl, hb2⟩; have HB2 := Lib.hid (below_then HB1.out hb2 HB1.out.size); clear hb2)
  clear y0 y1 hp0 PAk
  go_loopw [1, 5] (fun a m wr => ∃ (z : Int) (j : Nat), a = .int .i64 z ∧ m = .int .i64 (j : Nat) ∧ Hid (-1 ≤ z ∧ z < n) ∧ Hid (z < 0 → levN ps k = j) ∧ Hid (0 ≤ z → levN ps k = j + 1 + levN ps z.toNat) ∧ Hid (Below w0.heap.size w0 wr)) (fun a _ _ => (intOf a + 1).toNat)
  case atStart =>
    refine ⟨ps.getD k 0, 0, by simp, rfl, (show -1 ≤ _ ∧ _ < _ by omega), fun h0 => levN_top h0, fun h0 => ?_, HB2.out⟩
    rw [levN_up HF.out hk (q := (ps.getD k 0).toNat) (by omega)]; omega
  case round =>
    obtain ⟨z, j, rfl, rfl, HZR, HN, HP, HB⟩ := hrel
    have hzr := HZR.out
    by_cases h0 : z < 0
    · have HE := Lib.hid (HN.out h0)
      have hz1 : z = -1 := by omega
      subst hz1
      go_wp2
      go_ret
      exact ⟨ret_int (by rw [HE.out]), below_then HZ.out HB.out HZ.out.size⟩
    · obtain ⟨q, rfl⟩ : ∃ q : Nat, z = q := ⟨z.toNat, by omega⟩
      have hqn : q < n := by omega
      have hlv := HP.out (by omega)
      rw [Int.toNat_natCast] at hlv
      have hpq := HF.out.pa q hqn
      have PAq := Lib.hid (PA.out wr HB.out q hqn)
      rw [HPAR.out q hqn] at PAq
      have hq0 : (0 : Int) ≤ q := by omega
      have y0 := (HB.out.cell (p := ⟨w.heap.size, 0, none⟩) hlt0).trans x0
      have y1 := (HB.out.cell (p := ⟨w.heap.size, 1, none⟩) hlt0).trans x1
      have hjl : j < 100 := by have := levN_le HF.out k hk; omega
      have HLV := Lib.hid hlv
      clear hlv HP HN HZR hzr h0
      go_wp2_with (go_at_call 64; refine PAq.out.mono ?_; rintro e w3 ⟨rfl, hb3⟩)
      go_roundw
      case rel =>
        refine ⟨ps.getD q 0, j + 1, by simp, by go_num, (show -1 ≤ _ ∧ _ < _ by omega), fun h9 => ?_, fun h9 => ?_, below_then HB.out hb3 HB.out.size⟩
        · rw [HLV.out, levN_top h9]
        · rw [HLV.out, levN_up HF.out hqn (q := (ps.getD q 0).toNat) (by omega)]; omega
      case measure =>
        have eg : ps[q]?.getD 0 = ps.getD q 0 := by rw [List.getD_eq_getElem?_getD]
        simp [intOf]; omega
end
end Go.Proofs.Ytbacdllokgcohaa
/-
  Package step: the order of what is enabled: a list sorted by levels, plainly; the library's sort by insertion.
-/
namespace Go.Proofs.Ytbacdllokgcohaa
set_option maxRecDepth 100000
open Go.ChangeShapes Go.WideShapes Go.ChangeAt Go.RowKit

/-- an element put into a list from its end, ahead of all that are smaller -/
def insD (lv : Nat → Nat) (x : Nat) : List Nat → List Nat
  | [] => [x]
  | a :: r => if (a :: r).all (fun y => decide (lv y < lv x)) then x :: a :: r else a :: insD lv x r
def sortD (lv : Nat → Nat) (l : List Nat) : List Nat := l.foldl (fun out x => insD lv x out) []
theorem sortD_snoc (lv : Nat → Nat) (l : List Nat) (x : Nat) : sortD lv (l ++ [x]) = insD lv x (sortD lv l) := by unfold sortD; rw [List.foldl_append]; rfl
theorem insD_len (lv : Nat → Nat) (x : Nat) : ∀ l, (insD lv x l).length = l.length + 1
  | [] => rfl
  | a :: r => by rw [insD]; split <;> simp [insD_len lv x r]
theorem foldD_len (lv : Nat → Nat) : ∀ (l out : List Nat), (l.foldl (fun out x => insD lv x out) out).length = out.length + l.length
  | [], _ => rfl
  | x :: l, out => by rw [List.foldl_cons, foldD_len lv l, insD_len, List.length_cons]; omega
theorem sortD_len (lv : Nat → Nat) (l : List Nat) : (sortD lv l).length = l.length := by unfold sortD; rw [foldD_len]; simp
/-- where an element stands: behind one that is not smaller, ahead of smaller ones -/
theorem insD_spot (lv : Nat → Nat) (x : Nat) : ∀ (P B : List Nat), (∀ y ∈ B, lv y < lv x) → (∀ a, P.getLast? = some a → ¬ lv a < lv x) → insD lv x (P ++ B) = P ++ x :: B
  | [], B, hB, _ => by
    cases B with
    | nil => rfl
    | cons b r => rw [List.nil_append, insD, if_pos (List.all_eq_true.2 fun y hy => decide_eq_true (hB y hy))]; rfl
  | a :: P, B, hB, hP => by
    have hnot : ¬ ((a :: (P ++ B)).all fun y => decide (lv y < lv x)) = true := fun h => by
      rw [List.all_eq_true] at h
      cases hl : (a :: P).getLast? with
      | none => simp at hl
      | some z =>
        have hz : z ∈ a :: P := List.mem_of_getLast? hl
        have hz2 : z ∈ a :: (P ++ B) := by
          rcases List.mem_cons.1 hz with e | e
          · exact List.mem_cons.2 (.inl e)
          · exact List.mem_cons.2 (.inr (List.mem_append.2 (.inl e)))
        exact hP z hl (of_decide_eq_true (h z hz2))
    rw [List.cons_append, insD, if_neg hnot, insD_spot lv x P B hB (fun z hz => by
      cases P with
      | nil => simp at hz
      | cons b r => exact hP z (by rw [List.getLast?_cons_cons]; exact hz))]
    rfl
theorem insD_mem (lv : Nat → Nat) (x y : Nat) : ∀ l, y ∈ insD lv x l ↔ y = x ∨ y ∈ l
  | [] => by simp [insD]
  | a :: r => by
    rw [insD]
    split
    · simp
    · rw [List.mem_cons, insD_mem lv x y r, List.mem_cons]
      constructor
      · rintro (h | h | h)
        · exact .inr (.inl h)
        · exact .inl h
        · exact .inr (.inr h)
      · rintro (h | h | h)
        · exact .inr (.inl h)
        · exact .inl h
        · exact .inr (.inr h)
theorem foldD_mem (lv : Nat → Nat) (y : Nat) : ∀ (l out : List Nat), y ∈ l.foldl (fun out x => insD lv x out) out ↔ y ∈ out ∨ y ∈ l
  | [], out => by simp
  | x :: l, out => by
    rw [List.foldl_cons, foldD_mem lv y l, insD_mem, List.mem_cons]
    constructor
    · rintro ((h | h) | h)
      · exact .inr (.inl h)
      · exact .inl h
      · exact .inr (.inr h)
    · rintro (h | h | h)
      · exact .inl (.inr h)
      · exact .inl (.inl h)
      · exact .inr h
theorem sortD_mem (lv : Nat → Nat) (l : List Nat) (y : Nat) : y ∈ sortD lv l ↔ y ∈ l := by unfold sortD; rw [foldD_mem]; simp
end Go.Proofs.Ytbacdllokgcohaa
