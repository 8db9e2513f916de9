/-
  The document of chapter 1.
-/
import Derived.Test.YtahgfmobdfhaaaaGreatDoorOkP
import Derived.Test.YtahgfmobdfhaaaaGreatDoorOwn
import Derived.Test.YtahgfmobdfhaaaaGreatDoorAs
import Derived.Test.YtahgfmobdfhaaaaGreatDoorParse
import Derived.Test.YtahgfmobdfhaaaaGreatDoorSameL
namespace Go.Proofs.YtahgfmobdfhaaaaGreatDoor
set_option maxRecDepth 100000
open Go.ChangeShapes Go.WideShapes Go.ChangeAt Go.RowKit

theorem Tryz.infoRWord : (Tryz.prog.info? 97).map (fun i => (i.zero, i.size, i.bytes)) = some (some (.agg #[.string ⟨#[]⟩, .int .i64 0]), 2, 24) := by kernel_rfl
def RSplitTo (ws : List (Nat × List UInt8)) (bad : Nat) (w : World) (e : Ending) (w' : World) : Prop :=
  ∃ v, e = .returned (.tuple #[v, .int .i64 bad]) ∧ w'.ownsRow w.heap.size 97 2 v ws.length (wcells ws) ∧ Below w.heap.size w w'
theorem rsplitTo_mk {ws : List (Nat × List UInt8)} {bad : Nat} {w w' : World} {v : Value} {b : Int} (hb : b = bad) (h : w'.ownsRow w.heap.size 97 2 v ws.length (wcells ws)) (hw : Below w.heap.size w w') :
    RSplitTo ws bad w (.returned (.tuple #[v, .int .i64 b])) w' := ⟨v, by rw [hb], h, hw⟩
theorem own_snoc {w : World} {B e : Nat} {v : Value} {out : List (Nat × List UInt8)} {t : ByteArray} {a : Nat} {W : List UInt8} (h : w.ownsRow B e 2 v (out.length + 1) (wcells out ++ [.string t, .int .i64 (a + 1)])) (ht : t = bs W) :
    w.ownsRow B e 2 v (out ++ [(a + 1, W)]).length (wcells (out ++ [(a + 1, W)])) := by
  subst ht
  rw [wcells_append, List.length_append]
  simpa [wcells, wcell] using h
/-- what is left of the part from k on -/
def restP (s : ByteArray) (k : Nat) : List UInt8 := upTo 35 (s.data.toList.drop k)
theorem restP_end (s : ByteArray) (k : Nat) (h : s.size ≤ k) : restP s k = [] := by unfold restP; rw [drop_end s k h]; rfl
theorem restP_note (s : ByteArray) (k : Nat) (h : k < s.size) (hc : (s[k].toNat : Int) = 35) : restP s k = [] := by
  unfold restP; rw [drop_cons s k h]
  have : s[k] = 35 := UInt8.toNat_inj.1 (show s[k].toNat = 35 by omega)
  rw [this]; simp [upTo]
theorem restP_cons (s : ByteArray) (k : Nat) (h : k < s.size) (hc : (s[k].toNat : Int) ≠ 35) : restP s k = s[k] :: restP s (k + 1) := by
  unfold restP; rw [drop_cons s k h]
  have : (s[k] != 35) = true := by rw [bne_iff_ne]; intro e; exact hc (by rw [e]; rfl)
  show List.takeWhile _ _ = _
  rw [List.takeWhile_cons, if_pos this]; rfl
theorem part_at (s : ByteArray) (k : Nat) (h : okP (s.data.toList.take k)) : partL s.data.toList = s.data.toList.take k ++ restP s k := by
  have := upTo_ok h (s.data.toList.drop k)
  rw [List.take_append_drop] at this
  exact this
theorem bad_at (s : ByteArray) (k : Nat) (hk : k < s.size) (h : okP (s.data.toList.take k)) (hc : (s[k].toNat : Int) ≠ 35) (hb : (s[k].toNat : Int) < 32 ∨ 126 < (s[k].toNat : Int)) : badL s.data.toList = k + 1 ∧ wordsL s.data.toList = [] := by
  have e : badL s.data.toList = k + 1 := by
    unfold badL
    rw [part_at s k h, badCol_okP h, restP_cons s k hk hc, badCol, if_pos (by omega)]
    simp; omega
  exact ⟨e, by unfold wordsL; rw [e, if_neg (by omega)]⟩
theorem okP_snoc (s : ByteArray) (k : Nat) (hk : k < s.size) (h : okP (s.data.toList.take k)) (hc : (s[k].toNat : Int) ≠ 35) (hb : ¬ ((s[k].toNat : Int) < 32 ∨ 126 < (s[k].toNat : Int))) : okP (s.data.toList.take (k + 1)) := by
  rw [take_snoc s k hk]
  refine okP_append h ?_
  intro b hm
  simp at hm; subst hm
  exact ⟨by omega, by omega, fun e => hc (by rw [e]; rfl)⟩
theorem ends_at (s : ByteArray) (k : Nat) (h : okP (s.data.toList.take k)) (hr : restP s k = []) : badL s.data.toList = 0 ∧ wordsL s.data.toList = toks (partL s.data.toList) 1 := by
  have e : partL s.data.toList = s.data.toList.take k := by rw [part_at s k h, hr, List.append_nil]
  have z : badL s.data.toList = 0 := by unfold badL; rw [e]; exact badCol_zero h 0
  exact ⟨z, by unfold wordsL; rw [z, if_pos rfl]⟩
/-- the word that began at a, as far as k -/
def wordAt (s : ByteArray) (a k : Nat) : List UInt8 := (s.data.toList.drop a).take (k - a)
theorem wordAt_snoc (s : ByteArray) (a k : Nat) (h : k < s.size) (ha : a ≤ k) : wordAt s a (k + 1) = wordAt s a k ++ [s[k]] := by
  unfold wordAt
  rw [show k + 1 - a = (k - a) + 1 by omega, List.take_succ_eq_append_getElem (by simp; omega)]
  congr 1
  simp only [List.getElem_drop]
  congr 1
  show s.data.toList[a + (k - a)]'_ = s[k]
  have : a + (k - a) = k := by omega
  simp only [this]; rfl
theorem wordAt_len (s : ByteArray) (a k : Nat) (h : k ≤ s.size) (ha : a ≤ k) : (wordAt s a k).length = k - a := by
  unfold wordAt; simp; omega
/-- where the walk of a line stands: at the k-th byte, the words so far, the word that is under way -/
def AtP (s : ByteArray) (k : Nat) (out : List (Nat × List UInt8)) : Prop := okP (s.data.toList.take k) ∧ toks (partL s.data.toList) 1 = out ++ toks (restP s k) (k + 1)
def InW (s : ByteArray) (a k : Nat) (out : List (Nat × List UInt8)) : Prop := okP (s.data.toList.take k) ∧ a < k ∧ okW (wordAt s a k) ∧ toks (partL s.data.toList) 1 = out ++ toks (wordAt s a k ++ restP s k) (a + 1)
theorem AtP.start (s : ByteArray) : AtP s 0 [] := ⟨by intro b hb; simp at hb, rfl⟩
theorem AtP.blank {s : ByteArray} {k : Nat} {out : List (Nat × List UInt8)} (h : AtP s k out) (hk : k < s.size) (hc : (s[k].toNat : Int) = 32) : AtP s (k + 1) out := by
  refine ⟨okP_snoc s k hk h.1 (by omega) (by omega), ?_⟩
  have e : s[k] = 32 := UInt8.toNat_inj.1 (show s[k].toNat = 32 by omega)
  rw [h.2, restP_cons s k hk (by omega), e, toks_blank]
theorem AtP.letter {s : ByteArray} {k : Nat} {out : List (Nat × List UInt8)} (h : AtP s k out) (hk : k < s.size) (h35 : (s[k].toNat : Int) ≠ 35) (hb : ¬ ((s[k].toNat : Int) < 32 ∨ 126 < (s[k].toNat : Int))) (hc : (s[k].toNat : Int) ≠ 32) : InW s k (k + 1) out := by
  have e : wordAt s k (k + 1) = [s[k]] := by rw [wordAt_snoc s k k hk (Nat.le_refl _)]; simp [wordAt]
  refine ⟨okP_snoc s k hk h.1 h35 hb, by omega, ?_, ?_⟩
  · rw [e]; intro b hm; simp at hm; subst hm
    exact ⟨by omega, by omega, fun e => h35 (by rw [e]; rfl)⟩
  · rw [h.2, restP_cons s k hk h35, e]; rfl
theorem InW.letter {s : ByteArray} {a k : Nat} {out : List (Nat × List UInt8)} (h : InW s a k out) (hk : k < s.size) (h35 : (s[k].toNat : Int) ≠ 35) (hb : ¬ ((s[k].toNat : Int) < 32 ∨ 126 < (s[k].toNat : Int))) (hc : (s[k].toNat : Int) ≠ 32) : InW s a (k + 1) out := by
  refine ⟨okP_snoc s k hk h.1 h35 hb, by have := h.2.1; omega, ?_, ?_⟩
  · rw [wordAt_snoc s a k hk (Nat.le_of_lt h.2.1)]
    intro b hm
    rcases List.mem_append.1 hm with hm | hm
    · exact h.2.2.1 b hm
    · simp at hm; subst hm
      exact ⟨by omega, by omega, fun e => h35 (by rw [e]; rfl)⟩
  · rw [h.2.2.2, restP_cons s k hk h35, wordAt_snoc s a k hk (Nat.le_of_lt h.2.1), List.append_assoc]; rfl
theorem InW.ne {s : ByteArray} {a k : Nat} {out : List (Nat × List UInt8)} (h : InW s a k out) (hk : k ≤ s.size) : wordAt s a k ≠ [] := by
  intro e; have := wordAt_len s a k hk (Nat.le_of_lt h.2.1); rw [e] at this; simp at this; have := h.2.1; omega
theorem InW.blank {s : ByteArray} {a k : Nat} {out : List (Nat × List UInt8)} (h : InW s a k out) (hk : k < s.size) (hc : (s[k].toNat : Int) = 32) : AtP s (k + 1) (out ++ [(a + 1, wordAt s a k)]) := by
  refine ⟨okP_snoc s k hk h.1 (by omega) (by omega), ?_⟩
  have e : s[k] = 32 := UInt8.toNat_inj.1 (show s[k].toNat = 32 by omega)
  rw [h.2.2.2, restP_cons s k hk (by omega), e, toks_append, toks_one h.2.2.1 (h.ne (Nat.le_of_lt hk)), wordAt_len s a k (Nat.le_of_lt hk) (Nat.le_of_lt h.2.1), List.append_assoc]
  congr 3; have := h.2.1; omega
theorem AtP.ends {s : ByteArray} {k : Nat} {out : List (Nat × List UInt8)} (h : AtP s k out) (hr : restP s k = []) : badL s.data.toList = 0 ∧ wordsL s.data.toList = out := by
  have := ends_at s k h.1 hr
  rw [h.2, hr, toks_nil, List.append_nil] at this; exact this
theorem InW.ends {s : ByteArray} {a k : Nat} {out : List (Nat × List UInt8)} (h : InW s a k out) (hk : k ≤ s.size) (hr : restP s k = []) : badL s.data.toList = 0 ∧ wordsL s.data.toList = out ++ [(a + 1, wordAt s a k)] := by
  have := ends_at s k h.1 hr
  rw [h.2.2.2, hr, List.append_nil, toks_one h.2.2.1 (h.ne hk)] at this; exact this
theorem AtP.count {s : ByteArray} {k : Nat} {out : List (Nat × List UInt8)} (h : AtP s k out) : 2 * out.length ≤ s.size + 1 := by
  have h1 := toks_count (partL s.data.toList) 1
  have h2 := partL_le s.data.toList
  rw [h.2] at h1; rw [size_list] at h2; simp at h1; omega
theorem InW.count {s : ByteArray} {a k : Nat} {out : List (Nat × List UInt8)} (h : InW s a k out) : 2 * out.length ≤ s.size + 1 := by
  have h1 := toks_count (partL s.data.toList) 1
  have h2 := partL_le s.data.toList
  rw [h.2.2.2] at h1; rw [size_list] at h2; simp at h1; omega
def Stands (s : ByteArray) (k : Nat) (at_ : Value) (out : List (Nat × List UInt8)) : Prop := (at_ = .int .i64 (-1) ∧ AtP s k out) ∨ ∃ a : Nat, at_ = .int .i64 a ∧ InW s a k out

set_option maxHeartbeats 2000000 in
theorem RSplit_any (s : ByteArray) (w : World) (hs : s.size ≤ 1000000000) : Calls Tryz.prog 41 #[.string s] w (RSplitTo (wordsL s.data.toList) (badL s.data.toList) w) := by
  obtain ⟨i0, hi, hz0, hz1, hz2⟩ := info_parts Tryz.infoRWord
  generalize hW0 : wordsL s.data.toList = WS
  generalize hB0 : badL s.data.toList = BD
  have HW := Lib.hid hW0
  have HB := Lib.hid hB0
  clear hW0 hB0
  go_enter Tryz.func41, Tryz.ntmps41
  go_wp2
  go_loopw [4, 5, 6] (fun l at_ i wr => ∃ (k : Nat) (out : List (Nat × List UInt8)), k ≤ s.size ∧ i = .int .i64 k ∧ Stands s k at_ out ∧
      wr.ownsRow w.heap.size 97 2 l out.length (wcells out) ∧ Below w.heap.size w wr) (fun _ _ i _ => s.size - (intOf i).toNat)
  case atStart => exact ⟨0, [], by omega, rfl, .inl ⟨rfl, AtP.start s⟩, World.ownsRow_nil _ _ _ _, Below.refl _ _⟩
  case round =>
    obtain ⟨k, out, hk, rfl, hst, hown, hbw⟩ := hrel
    by_cases hlt : k < s.size
    · have hne : ((k : Int) == s.size) = false := by rw [beq_eq_false_iff_ne]; omega
      by_cases h35 : (s[k].toNat : Int) = 35
      · have hr := restP_note s k hlt h35
        have h35' : ((s[k].toNat : Int) == 35) = true := by rw [beq_iff_eq]; exact h35
        have HR := Lib.hid hr
        clear h35 hr
        rcases hst with ⟨rfl, hA⟩ | ⟨a, rfl, hA⟩
        · have hE := hA.ends HR.out
          rw [HW.out, HB.out] at hE
          have H1 := Lib.hid hE.1
          have H2 := Lib.hid hE.2
          clear hE hA
          go_wp2
          go_ret2
          exact rsplitTo_mk (by rw [H1.out]; rfl) (by rw [H2.out]; exact hown) hbw
        · have hE := hA.ends (by omega) HR.out
          rw [HW.out, HB.out] at hE
          have H1 := Lib.hid hE.1
          have H2 := Lib.hid hE.2
          have hcnt := hA.count
          have hak := hA.2.1
          have HV : Hid ((s.data.toList.drop a).take (k - a) = wordAt s a k) := rfl
          have hki : (k : Int) ≤ s.size := by omega
          clear hE hA
          go_wp2_with (at_builtin; go_must (refine wpList_append_own _ rfl (.tmp 53) (.tmp 61) 89 rfl w.heap.size 97 i0 _ 2 24 Tryz.underlying89 hi hz0 hz1 hz2 rfl (by decide) _ _ _ rfl (hown.alloc _) ⟨wr.heap.size, 0, none⟩ 1 1 [.string (s.extract a k), .int .i64 (a + 1)] rfl rfl (cells_new _ _ _) (by intro u hu; simp at hu; rcases hu with rfl | rfl <;> rfl) (by unfold maxLen; omega) (by omega) (by have := hbw.size; simp; omega) ?_); intro v1 w1 hown1 hg1 _)
          have hg2 : (wr.alloc (.cells #[.string (s.extract a k), .int .i64 (a + 1)] 97)).grownBy w1 u4.ownBlock := hg1
          have hbw1 : Below w.heap.size w w1 := (hbw.alloc hbw.size _).grown hg2 (by have := hbw.size; simp; omega) (fun g hg => (hown.lt g hg).1)
          clear hg1
          have hown2 := own_snoc hown1 (by rw [extract_bs, HV.out])
          go_wp2
          go_ret2
          exact rsplitTo_mk (by rw [H1.out]; rfl) (by rw [H2.out]; exact hown2) hbw1
      have h35' : ((s[k].toNat : Int) == 35) = false := by rw [beq_eq_false_iff_ne]; exact h35
      by_cases hb : (s[k].toNat : Int) < 32 ∨ 126 < (s[k].toNat : Int)
      · have hE : badL s.data.toList = k + 1 ∧ wordsL s.data.toList = [] := bad_at s k hlt (by rcases hst with ⟨_, h⟩ | ⟨_, _, h⟩ <;> exact h.1) h35 hb
        rw [HW.out, HB.out] at hE
        have H1 := Lib.hid hE.1
        have H2 := Lib.hid hE.2
        clear hE hst
        rcases hb with hb | hb
        all_goals
          go_wp2
          go_ret2
          exact rsplitTo_mk (by rw [H1.out]; rfl) (by rw [H2.out]; exact World.ownsRow_nil _ _ _ _) hbw
      have hb1 : 32 ≤ (s[k].toNat : Int) := by omega
      have hb2 : (s[k].toNat : Int) ≤ 126 := by omega
      by_cases h32 : (s[k].toNat : Int) = 32
      · have h32' : ((s[k].toNat : Int) != 32) = false := by rw [bne_eq_false_iff_eq]; exact h32
        rcases hst with ⟨rfl, hA⟩ | ⟨a, rfl, hA⟩
        · have hN : Stands s (k + 1) (.int .i64 (-1)) out := .inl ⟨rfl, hA.blank hlt h32⟩
          have HN := Lib.hid hN
          clear hN hA h32 h35 hb
          go_wp2
          go_roundw
          case rel => exact ⟨k + 1, out, by omega, by go_num, HN.out, hown, hbw⟩
          case measure => simp [intOf]; omega
        · have hN : Stands s (k + 1) (.int .i64 (-1)) (out ++ [(a + 1, wordAt s a k)]) := .inl ⟨rfl, hA.blank hlt h32⟩
          have HN := Lib.hid hN
          have hcnt := hA.count
          have hak := hA.2.1
          have HV : Hid ((s.data.toList.drop a).take (k - a) = wordAt s a k) := rfl
          have hki : (k : Int) ≤ s.size := by omega
          clear hN hA h32 h35 hb
          go_wp2_with (at_builtin; go_must (refine wpList_append_own _ rfl (.tmp 53) (.tmp 61) 89 rfl w.heap.size 97 i0 _ 2 24 Tryz.underlying89 hi hz0 hz1 hz2 rfl (by decide) _ _ _ rfl (hown.alloc _) ⟨wr.heap.size, 0, none⟩ 1 1 [.string (s.extract a k), .int .i64 (a + 1)] rfl rfl (cells_new _ _ _) (by intro u hu; simp at hu; rcases hu with rfl | rfl <;> rfl) (by unfold maxLen; omega) (by omega) (by have := hbw.size; simp; omega) ?_); intro v1 w1 hown1 hg1 _)
          have hg2 : (wr.alloc (.cells #[.string (s.extract a k), .int .i64 (a + 1)] 97)).grownBy w1 u4.ownBlock := hg1
          have hbw1 : Below w.heap.size w w1 := (hbw.alloc hbw.size _).grown hg2 (by have := hbw.size; simp; omega) (fun g hg => (hown.lt g hg).1)
          clear hg1
          have hown2 := own_snoc hown1 (by rw [extract_bs, HV.out])
          go_roundw
          case rel => exact ⟨k + 1, _, by omega, by go_num, HN.out, hown2, hbw1⟩
          case measure => simp [intOf]; omega
      have h32' : ((s[k].toNat : Int) != 32) = true := by rw [bne_iff_ne]; exact h32
      rcases hst with ⟨rfl, hA⟩ | ⟨a, rfl, hA⟩
      · have hN : Stands s (k + 1) (.int .i64 k) out := .inr ⟨k, rfl, hA.letter hlt h35 hb h32⟩
        have HN := Lib.hid hN
        clear hN hA h32 h35 hb
        go_wp2
        go_roundw
        case rel => exact ⟨k + 1, out, by omega, by go_num, HN.out, hown, hbw⟩
        case measure => simp [intOf]; omega
      · have hN : Stands s (k + 1) (.int .i64 a) out := .inr ⟨a, rfl, hA.letter hlt h35 hb h32⟩
        have HN := Lib.hid hN
        clear hN hA h32 h35 hb
        go_wp2
        go_roundw
        case rel => exact ⟨k + 1, out, by omega, by go_num, HN.out, hown, hbw⟩
        case measure => simp [intOf]; omega
    · obtain rfl : s.size = k := by omega
      have HR := Lib.hid (restP_end s s.size (Nat.le_refl _))
      rcases hst with ⟨rfl, hA⟩ | ⟨a, rfl, hA⟩
      · have hE := hA.ends HR.out
        rw [HW.out, HB.out] at hE
        have H1 := Lib.hid hE.1
        have H2 := Lib.hid hE.2
        clear hE hA
        go_wp2
        go_ret2
        exact rsplitTo_mk (by rw [H1.out]; rfl) (by rw [H2.out]; exact hown) hbw
      · have hE := hA.ends (by omega) HR.out
        rw [HW.out, HB.out] at hE
        have H1 := Lib.hid hE.1
        have H2 := Lib.hid hE.2
        have hcnt := hA.count
        have hak := hA.2.1
        have HV : Hid ((s.data.toList.drop a).take (s.size - a) = wordAt s a s.size) := rfl
        have hki : (s.size : Int) ≤ s.size := by omega
        clear hE hA
        go_wp2_with (at_builtin; go_must (refine wpList_append_own _ rfl (.tmp 53) (.tmp 61) 89 rfl w.heap.size 97 i0 _ 2 24 Tryz.underlying89 hi hz0 hz1 hz2 rfl (by decide) _ _ _ rfl (hown.alloc _) ⟨wr.heap.size, 0, none⟩ 1 1 [.string (s.extract a s.size), .int .i64 (a + 1)] rfl rfl (cells_new _ _ _) (by intro u hu; simp at hu; rcases hu with rfl | rfl <;> rfl) (by unfold maxLen; omega) (by omega) (by have := hbw.size; simp; omega) ?_); intro v1 w1 hown1 hg1 _)
        have hg2 : (wr.alloc (.cells #[.string (s.extract a s.size), .int .i64 (a + 1)] 97)).grownBy w1 u4.ownBlock := hg1
        have hbw1 : Below w.heap.size w w1 := (hbw.alloc hbw.size _).grown hg2 (by have := hbw.size; simp; omega) (fun g hg => (hown.lt g hg).1)
        clear hg1
        have hown2 := own_snoc hown1 (by rw [extract_bs, HV.out])
        go_wp2
        go_ret2
        exact rsplitTo_mk (by rw [H1.out]; rfl) (by rw [H2.out]; exact hown2) hbw1
end Go.Proofs.YtahgfmobdfhaaaaGreatDoor
namespace Go.Proofs.YtahgfmobdfhaaaaGreatDoor
set_option maxRecDepth 100000
open Go.ChangeShapes Go.WideShapes Go.ChangeAt Go.RowKit

theorem nameB_of (c : Int) : nameB c = ((decide (97 ≤ c) && decide (c ≤ 122)) || (decide (48 ≤ c) && decide (c ≤ 57)) || (c == 95) || (c == 45)) := rfl
theorem RName_any (s : ByteArray) (w : World) (hs : s.size ≤ maxLen) : Calls Tryz.prog 81 #[.string s] w fun e w' => e = .returned (.bool (nameL s.data.toList)) ∧ w = w' := by
  unfold maxLen at hs
  go_enter Tryz.func81, Tryz.ntmps81
  go_wp2
  go_loop [3] (fun i => ∃ k : Nat, k ≤ s.size ∧ i = .int .i64 k ∧ allB nameB (s.data.toList.take k) = true) (fun i => s.size - (intOf i).toNat)
  case atStart => exact ⟨0, Nat.zero_le _, rfl, rfl⟩
  case round =>
    obtain ⟨k, hk, rfl, hb⟩ := hrel
    have HB := Lib.hid hb
    clear hb
    by_cases hlt : k < s.size
    · have hS := all_split nameB s k hlt
      have hT : allB nameB (s.data.toList.take (k + 1)) = nameB s[k].toNat := by rw [take_snoc s k hlt, allB_snoc, HB.out]; rfl
      have hF : nameB s[k].toNat = false → nameL s.data.toList = false := by
        intro h; unfold nameL; rw [hS, h]; simp
      rw [nameB_of] at hT hF
      have HT := Lib.hid hT; have HF := Lib.hid hF
      clear hS hT hF
      go_wp2
      all_goals first
        | (go_ret
           refine ⟨ret_bool (Eq.symm (HF.out ?_)), rfl⟩
           grind)
        | (go_round
           case rel => exact ⟨k + 1, by omega, by go_num, by rw [HT.out]; grind⟩
           case measure => simp [intOf]; omega)
    · have hA : nameL s.data.toList = (decide (1 ≤ s.size) && decide (s.size ≤ 12)) := by
        unfold nameL
        rw [← List.take_of_length_le (l := s.data.toList) (i := k) (by simp; omega), HB.out]
        rw [List.take_of_length_le (by simp; omega)]; simp
      have HA := Lib.hid hA
      clear hA
      go_wp2
      all_goals
        go_ret
        refine ⟨ret_bool ?_, rfl⟩
        rw [HA.out]
      all_goals grind

def rnum (l : List UInt8) : Int := if isNum l = true then valL l else -1
theorem rnum_no {l : List UInt8} (h : isNum l = false) : Ending.returned (.int .i64 (-1)) = .returned (.int .i64 (rnum l)) := by simp [rnum, h]
theorem RNumber_any (s : ByteArray) (w : World) (hs : s.size ≤ maxLen) : Calls Tryz.prog 82 #[.string s] w fun e w' => e = .returned (.int .i64 (rnum s.data.toList)) ∧ w = w' := by
  unfold maxLen at hs
  by_cases h1 : s.size < 1
  · have HN : Hid (isNum s.data.toList = false) := by show _ = _; simp [isNum]; omega
    go_enter Tryz.func82, Tryz.ntmps82
    go_wp2
    go_ret
    exact ⟨rnum_no HN.out, rfl⟩
  by_cases h2 : 9 < s.size
  · have HN : Hid (isNum s.data.toList = false) := by show _ = _; simp [isNum]; omega
    go_enter Tryz.func82, Tryz.ntmps82
    go_wp2
    go_ret
    exact ⟨rnum_no HN.out, rfl⟩
  have h3 : 0 < s.size := by omega
  have hh : s.data.toList.head? = some s[0] := by
    have := drop_cons s 0 h3
    rw [List.drop_zero] at this
    rw [this]; rfl
  by_cases h4 : (s[0].toNat : Int) = 48 ∧ 1 < s.size
  · have HN : Hid (isNum s.data.toList = false) := by
      show _ = _
      have : s[0] = 48 := UInt8.toNat_inj.1 (show s[0].toNat = 48 by omega)
      simp [isNum, hh, this, h4.2]
    obtain ⟨h5, h6⟩ := h4
    have h7 : ((s[0].toNat : Int) == 48) = true := by simp [h5]
    clear h5 hh
    go_enter Tryz.func82, Tryz.ntmps82
    go_wp2
    go_ret
    exact ⟨rnum_no HN.out, rfl⟩
  have HN : Hid (isNum s.data.toList = allB digB s.data.toList) := by
    show _ = _
    have e : (s.data.toList.head? == some (48 : UInt8) && decide (1 < s.data.toList.length)) = false := by
      rw [hh, size_list, Bool.eq_false_iff]
      intro h
      simp only [Bool.and_eq_true, decide_eq_true_eq, beq_iff_eq, Option.some.injEq] at h
      exact h4 ⟨by rw [h.1]; rfl, h.2⟩
    unfold isNum
    rw [e]
    simp; omega
  clear hh
  have main : ∀ (b c : Bool), decide ((1 : Int) < s.size) = b → ((s[0].toNat : Int) == 48) = c → (b && c) = false → Calls Tryz.prog 82 #[.string s] w fun e w' => e = .returned (.int .i64 (rnum s.data.toList)) ∧ w = w' := by
    intro b c hb hc hbc
    clear h4
    cases b
    all_goals
      try (have hc' : ((s[0].toNat : Int) == 48) = false := by rw [hc]; simpa using hbc)
      clear hbc hc
      go_enter Tryz.func82, Tryz.ntmps82
      go_wp2
      go_loop [3, 4] (fun n i => ∃ k : Nat, k ≤ s.size ∧ i = .int .i64 k ∧ n = .int .i64 (valL (s.data.toList.take k)) ∧ allB digB (s.data.toList.take k) = true) (fun _ i => s.size - (intOf i).toNat)
      case atStart => exact ⟨0, Nat.zero_le _, rfl, rfl, rfl⟩
      case round =>
        obtain ⟨k, hk, rfl, rfl, ha⟩ := hrel
        have hv : valL (s.data.toList.take k) < 1000000000 := pow_le_9 (valL_lt ha) (by simp; omega)
        have HA := Lib.hid ha
        clear ha
        by_cases hlt : k < s.size
        · by_cases hd : 48 ≤ (s[k].toNat : Int) ∧ (s[k].toNat : Int) ≤ 57
          · have HD : Hid (digB s[k].toNat = true) := by show _ = _; simp [digB]; omega
            have HS : Hid (valL (s.data.toList.take (k + 1)) = valL (s.data.toList.take k) * 10 + (s[k].toNat - 48)) := by show _ = _; rw [take_snoc s k hlt, valL_snoc]
            obtain ⟨hd1, hd2⟩ := hd
            generalize hn : valL (s.data.toList.take k) = n at hv HS
            have HNN := Lib.hid hn; clear hn
            go_wp2
            go_round
            case rel => exact ⟨k + 1, by omega, by go_num, by rw [HS.out]; congr 1; omega, by rw [take_snoc s k hlt, allB_snoc, HA.out, HD.out]; rfl⟩
            case measure => simp [intOf]; omega
          · have HD : Hid (digB s[k].toNat = false) := by show _ = _; simp [digB]; omega
            by_cases hd1 : (s[k].toNat : Int) < 48
            · clear hd
              go_wp2
              go_ret
              exact ⟨rnum_no (by rw [HN.out, all_split digB s k hlt, HD.out]; simp), rfl⟩
            · have hd2 : 57 < (s[k].toNat : Int) := by omega
              clear hd
              go_wp2
              go_ret
              exact ⟨rnum_no (by rw [HN.out, all_split digB s k hlt, HD.out]; simp), rfl⟩
        · have HT : Hid (s.data.toList.take k = s.data.toList) := by show _ = _; exact List.take_of_length_le (by simp; omega)
          go_wp2
          go_ret
          rw [HT.out] at HA ⊢
          exact ⟨ret_int (by unfold rnum; rw [HN.out, HA.out]; rfl), rfl⟩
  by_cases hb : (1 : Int) < s.size
  · refine main true _ (by simpa using hb) rfl ?_
    rw [Bool.true_and, beq_eq_false_iff_ne]
    exact fun h => h4 ⟨h, by omega⟩
  · exact main false _ (by simpa using hb) rfl rfl
theorem RNumber_yes (s : ByteArray) (n : Nat) (w : World) (hs : s.size ≤ maxLen) (h : isNum s.data.toList = true) (hv : valL s.data.toList = n) :
    Calls Tryz.prog 82 #[.string s] w fun e w' => e = .returned (.int .i64 n) ∧ w = w' :=
  (RNumber_any s w hs).mono fun e w' ⟨he, hw⟩ => ⟨by rw [he, rnum, if_pos h, hv], hw⟩
theorem RNumber_no (s : ByteArray) (w : World) (hs : s.size ≤ maxLen) (h : isNum s.data.toList = false) :
    Calls Tryz.prog 82 #[.string s] w fun e w' => e = .returned (.int .i64 (-1)) ∧ w = w' :=
  (RNumber_any s w hs).mono fun e w' ⟨he, hw⟩ => ⟨by rw [he, ← rnum_no h], hw⟩
end Go.Proofs.YtahgfmobdfhaaaaGreatDoor
/-
  Errors kept; rules the same.
-/
namespace Go.Proofs.YtahgfmobdfhaaaaGreatDoor
set_option maxRecDepth 100000
open Go.ChangeShapes Go.WideShapes Go.ChangeAt Go.RowKit

/-- Is: an error that is c, asked for n -/
theorem keepIs (v : Value) (c n : Int) (w : World) (hv : IsErr w v c) (hn : 1 ≤ n) (hn2 : n ≤ 14) :
    Calls Tryz.prog 15 #[v, .int .i64 n] w fun e w' => e = .returned (.bool (c == n)) ∧ w = w' := by
  have h0 : (n == 0) = false := by simp; omega
  by_cases hcn : c = n
  · subst hcn
    have h1 := fun W (h : IsErr W v c) => Is_any v c c W h
    simp only [beq_self_eq_true] at h1 ⊢
    have h2 := fun W (h : IsErr W v c) m (hm : ¬ c = m) => Is_any v c m W h
    have H2 := Lib.hid h2
    have hv0 := hv
    have H1 : Hid (Calls Tryz.prog 35 #[v, .iface 45 (.int .i64 c)] w fun e w' => e = .returned (.bool true) ∧ w = w') := h1 w hv
    have HV := Lib.hid hv
    clear h1 h2 hv0
    rcases hv with rfl | ⟨b, o, rfl, hc⟩
    all_goals
      go_enter Tryz.func15, Tryz.ntmps15
      go_wp2_with (go_at_call 35; refine H1.out.mono ?_; rintro e w1 ⟨rfl, rfl⟩)
      go_loop [5] (fun i => ∃ k : Nat, 1 ≤ k ∧ k ≤ 15 ∧ i = .int .i64 k) (fun i => 15 - (intOf i).toNat)
      case atStart => exact ⟨1, by omega, by omega, rfl⟩
      case round =>
        obtain ⟨k, hk1, hk2, rfl⟩ := hrel
        by_cases hk : k ≤ 14
        · by_cases hkc : (k : Int) = c
          · have g1 : ((k : Int) != c) = false := by simp [hkc]
            have HK := Lib.hid hkc
            clear hkc
            go_wp2
            go_round
            case rel => exact ⟨k + 1, by omega, by omega, by go_num⟩
            case measure => simp [intOf]; omega
          · have g1 : ((k : Int) != c) = true := by simp [hkc]
            have hf : (c == (k : Int)) = false := by simp; omega
            have H3 := H2.out w HV.out k (by omega)
            rw [hf] at H3
            clear hf
            go_wp2_with (go_at_call 35; refine H3.mono ?_; rintro e w1 ⟨rfl, rfl⟩)
            go_round
            case rel => exact ⟨k + 1, by omega, by omega, by go_num⟩
            case measure => simp [intOf]; omega
        · go_wp2
          go_ret
          exact ⟨rfl, rfl⟩
  · have hf : (c == n) = false := by simpa using hcn
    have H1 := Is_any v c n w hv
    rw [hf] at H1 ⊢
    rcases hv with rfl | ⟨b, o, rfl, hc⟩
    all_goals
      go_enter Tryz.func15, Tryz.ntmps15
      go_wp2_with (go_at_call 35; refine H1.mono ?_; rintro e w1 ⟨rfl, rfl⟩)
      go_ret
      exact ⟨rfl, rfl⟩
end Go.Proofs.YtahgfmobdfhaaaaGreatDoor
namespace Go.Proofs.YtahgfmobdfhaaaaGreatDoor
set_option maxRecDepth 100000
open Go.ChangeShapes Go.WideShapes Go.ChangeAt Go.RowKit

end Go.Proofs.YtahgfmobdfhaaaaGreatDoor
/-
  rule.Print: numbers and names: a rule's fields as arrays.
-/
namespace Go.Proofs.YtahgfmobdfhaaaaGreatDoor
set_option maxRecDepth 100000
open Go.ChangeShapes Go.WideShapes Go.ChangeAt Go.RowKit

/-- texts in the cells of a slice, wherever it lies -/
def LAt (w : World) (A : Option Addr) (c : Nat) (l : List Tx) : Prop := l.length ≤ c ∧ l.length ≤ 9223372036854775807 ∧ ∀ j (hj : j < l.length), ∃ g off, A = some ⟨g, off, none⟩ ∧ g < w.heap.size ∧ w.cell? ⟨g, off + j, none⟩ = some (.string (bs l[j]))
theorem LAt.below {w w' : World} {A : Option Addr} {c : Nat} {l : List Tx} (h : LAt w A c l) (hb : Below w.heap.size w w') : LAt w' A c l :=
  ⟨h.1, h.2.1, fun j hj => let ⟨g, off, e, hl, hc⟩ := h.2.2 j hj; ⟨g, off, e, Nat.lt_of_lt_of_le hl hb.size, (hb.cell hl).trans hc⟩⟩
theorem lAt_of {w : World} {A : Option Addr} {c : Nat} {l : List Tx} (h : ListAt w A c l) (hm : l.length ≤ 9223372036854775807) : LAt w A c l :=
  ⟨h.1, hm, fun j hj => let ⟨g, e, hl, hc⟩ := h.2 j hj; ⟨g, 0, e, hl, by rw [Nat.zero_add]; exact hc⟩⟩
/-- the word at a kind -/
def wordP (tbl : List Tx) (k : Int) : Tx := if k < 0 ∨ (tbl.length : Int) ≤ k then [] else tbl[k.toNat]?.getD []
theorem wordAt_any (t n c : Nat) (l : List Tx) (k : Int) (w : World) (h : StrAt w t l) (hn : n = l.length) (_hl : l.length ≤ 1000000) (_hc : l.length ≤ c) :
    Calls Tryz.prog 55 #[.slice (some ⟨t, 0, none⟩) n c, .int .i64 k] w fun e w' => e = .returned (.string (bs (wordP l k))) ∧ w = w' := by
  subst hn
  by_cases h1 : k < 0
  · have hv : wordP l k = [] := by unfold wordP; rw [if_pos (.inl h1)]
    rw [hv]
    go_enter Tryz.func55, Tryz.ntmps55
    go_wp2
    go_ret
    exact ⟨rfl, rfl⟩
  · obtain ⟨j, rfl⟩ : ∃ j : Nat, k = j := ⟨k.toNat, by omega⟩
    by_cases h2 : l.length ≤ j
    · have hv : wordP l j = [] := by unfold wordP; rw [if_pos (.inr (by omega))]
      rw [hv]
      go_enter Tryz.func55, Tryz.ntmps55
      go_wp2
      go_ret
      exact ⟨rfl, rfl⟩
    · have hj : j < l.length := by omega
      have hv : wordP l j = l[j] := by unfold wordP; rw [if_neg (by omega)]; simp [hj]
      have hx := h j hj
      rw [hv]
      generalize bs l[j] = X at *
      go_enter Tryz.func55, Tryz.ntmps55
      go_wp2
      go_ret
      exact ⟨rfl, rfl⟩
def optP (x y : Tx) : List Tx := if y = [] then [] else [x, y]
set_option maxHeartbeats 1000000 in
theorem Equal_any (la lb : List Tx) (A B : Option Addr) (ca cb : Nat) (w : World) (h1 : LAt w A ca la) (h2 : LAt w B cb lb) :
    Calls Tryz.prog 70 #[.slice A la.length ca, .slice B lb.length cb] w fun e w' => e = .returned (.bool (decide (la = lb))) ∧ Below w.heap.size w w' := by
  obtain ⟨c1, m1, H1⟩ := h1
  obtain ⟨c2, m2, H2⟩ := h2
  by_cases hl : la.length = lb.length
  · have HL := Lib.hid hl
    clear hl
    rw [← HL.out] at c2 m2 ⊢
    have H1' := Lib.hid H1
    have H2' := Lib.hid H2
    clear H1 H2
    go_enter Tryz.func70, Tryz.ntmps70
    go_wp2
    go_loopw [13] (fun i wr => ∃ k : Nat, k ≤ la.length ∧ i = .int .i64 k ∧ Hid (la.take k = lb.take k) ∧ ∃ n, wr = w.drewN n) (fun i _ => la.length - (intOf i).toNat)
    case atStart => exact ⟨0, Nat.zero_le _, rfl, rfl, 0, rfl⟩
    case round =>
      obtain ⟨k, hk, rfl, HT, n, rfl⟩ := hrel
      by_cases hlt : k < la.length
      · have hlt2 : k < lb.length := by have := HL.out; omega
        obtain ⟨g, off, rfl, _, x1⟩ := H1'.out k hlt
        obtain ⟨g', off', rfl, _, x2⟩ := H2'.out k hlt2
        by_cases he : la[k] = lb[k]
        · have hb : ((bs la[k]).toList != (bs lb[k]).toList) = false := by rw [Lib.toList_data, Lib.toList_data, list_bs, list_bs, he]; simp
          have hb' : ((bs la[k]).toList == (bs lb[k]).toList) = true := by rw [Lib.toList_data, Lib.toList_data, list_bs, list_bs, he]; simp
          have HN : Hid (la.take (k + 1) = lb.take (k + 1)) := by show _ = _; rw [List.take_succ_eq_append_getElem hlt, List.take_succ_eq_append_getElem hlt2, HT.out, he]
          clear he HT
          generalize bs la[k] = X at *
          generalize bs lb[k] = Y at *
          go_wp2
          go_quiet (fail)
          go_wp2
          go_roundw
          case rel => exact ⟨k + 1, by omega, by go_num, HN, _, rfl⟩
          case measure => simp [intOf]; omega
        · have hb : ((bs la[k]).toList != (bs lb[k]).toList) = true := by rw [Lib.toList_data, Lib.toList_data, list_bs, list_bs]; simpa using he
          have hb' : ((bs la[k]).toList == (bs lb[k]).toList) = false := by rw [Lib.toList_data, Lib.toList_data, list_bs, list_bs]; simpa using he
          have HF : Hid (decide (la = lb) = false) := by
            show _ = _
            rw [decide_eq_false_iff_not]
            intro e; apply he; subst e; rfl
          clear he HT
          generalize bs la[k] = X at *
          generalize bs lb[k] = Y at *
          go_wp2
          go_quiet (fail)
          go_wp2
          go_ret
          exact ⟨ret_bool HF.out.symm, below_drewN (below_drewN (Below.refl _ _) _) _⟩
      · have HE : Hid (decide (la = lb) = true) := by
          show _ = _
          rw [decide_eq_true_iff]
          have := HT.out
          rwa [List.take_of_length_le (by omega), List.take_of_length_le (by have := HL.out; omega)] at this
        go_wp2
        go_ret
        exact ⟨ret_bool HE.out.symm, below_drewN (Below.refl _ _) _⟩
  · have hd : decide (la = lb) = false := by rw [decide_eq_false_iff_not]; intro e; apply hl; rw [e]
    have hi : ((la.length : Int) != lb.length) = true := by simp; omega
    have hi2 : (la.length != lb.length) = true := by simpa using hl
    rw [hd]
    go_enter Tryz.func70, Tryz.ntmps70
    go_wp2
    go_ret
    exact ⟨rfl, Below.refl _ _⟩
end Go.Proofs.YtahgfmobdfhaaaaGreatDoor
namespace Go.Proofs.YtahgfmobdfhaaaaGreatDoor
set_option maxRecDepth 100000
open Go.ChangeShapes Go.WideShapes Go.ChangeAt Go.RowKit

def ValB (v : Value) (w : World) (e : Ending) (w' : World) : Prop := e = .returned v ∧ Below w.heap.size w w'
end Go.Proofs.YtahgfmobdfhaaaaGreatDoor
