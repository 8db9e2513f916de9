/-
  words.Split: the words of a line, in new memory.
-/
import Derived.Test.YtgemciecdplcgaaDoorWords
import Derived.OwnWalk
import Derived.Deep.DeepMust
import Derived.WalkSpells
import Derived.Laws.DeepStrings4
namespace Go.Proofs.YtgemciecdplcgaaDoor
set_option maxRecDepth 100000
open Go.ChangeShapes Go.WideShapes Go.ChangeAt Go.RowKit

/-- the cells of a new block -/
theorem cells_new (w : World) (l : List Value) (e : TypeId) : ∀ j u, l[j]? = some u → (w.alloc (.cells l.toArray e)).cell? ((⟨w.heap.size, 0, none⟩ : Addr).add j) = some u := by
  intro j u hu
  have hadd : (⟨w.heap.size, 0, none⟩ : Addr).add j = ⟨w.heap.size, j, none⟩ := by unfold Addr.add; split <;> simp_all
  rw [hadd, cell_of_row _ _ j l.toArray e (0, 0) (heap_alloc_new w _)]
  simpa using hu
theorem wcells_one (l : List (Nat × List UInt8)) : ∀ u ∈ wcells l, u.oneCell' = true := by
  intro u hu
  simp only [wcells, List.mem_flatMap] at hu
  obtain ⟨x, _, hu⟩ := hu
  simp [wcell] at hu
  rcases hu with rfl | rfl <;> rfl
theorem Tryd.infoWord : (Tryd.prog.info? 99).map (fun i => (i.zero, i.size, i.bytes)) = some (some (.agg #[.string ⟨#[]⟩, .int .i64 0]), 2, 24) := by kernel_rfl

/-- what Split answers: the words, a block of its own; the column -/
def SplitTo (ws : List (Nat × List UInt8)) (bad : Nat) (w : World) (e : Ending) (w' : World) : Prop :=
  ∃ v, e = .returned (.tuple #[v, .int .i64 bad]) ∧ w'.ownsRow w.heap.size 99 2 v ws.length (wcells ws) ∧ Below w.heap.size w w'
theorem splitTo_mk {ws : List (Nat × List UInt8)} {bad : Nat} {w w' : World} {v : Value} {b : Int} (hb : b = bad) (h : w'.ownsRow w.heap.size 99 2 v ws.length (wcells ws)) (hw : Below w.heap.size w w') :
    SplitTo ws bad w (.returned (.tuple #[v, .int .i64 b])) w' := ⟨v, by rw [hb], h, hw⟩
theorem below_then {B : Nat} {a w w1 : World} (h : Below B a w) (hb : Below w.heap.size w w1) (hB : B ≤ w.heap.size) : Below B a w1 := h.trans (hb.mono hB)
theorem below_drewN {B : Nat} {a w : World} (h : Below B a w) (n : Nat) : Below B a (w.drewN n) := ⟨h.os, h.tape, h.output, h.size, h.block⟩

set_option maxHeartbeats 1000000 in
theorem Split_any (s : ByteArray) (w : World) (hs : s.size ≤ maxLen) (hb : badL s.data.toList = 0 → (partL s.data.toList).length ≤ 1099511627776) :
    Calls Tryd.prog 27 #[.string s] w (SplitTo (wordsL s.data.toList) (badL s.data.toList) w) := by
  have hp : (bs (partL s.data.toList)).size ≤ s.size := partL_le _
  have HP : Hid (bs (partL s.data.toList) = bs (upTo 35 s.data.toList)) := rfl
  have HB : Hid (badL s.data.toList = badCol (bs (partL s.data.toList)).data.toList 0) := rfl
  have hw : badL s.data.toList = 0 → wordsL s.data.toList = toks (bs (partL s.data.toList)).data.toList 1 := by
    intro h; simp [wordsL, h]; rfl
  have hw' : badL s.data.toList ≠ 0 → wordsL s.data.toList = [] := by intro h; simp [wordsL, h]
  have hb' : badL s.data.toList = 0 → (bs (partL s.data.toList)).size ≤ 1099511627776 := hb
  clear hb
  generalize hp0 : bs (partL s.data.toList) = p at *
  generalize hb0 : badL s.data.toList = b at *
  generalize hw0 : wordsL s.data.toList = W at *
  clear hp0 hb0 hw0
  have hps : p.size ≤ maxLen := by omega
  unfold maxLen at hps
  by_cases h0 : b = 0
  · subst h0
    have hb := hb' rfl
    obtain rfl := hw rfl
    clear hb' hw hw'
    have hcount := toks_count p.data.toList 1
    rw [size_list] at hcount
    obtain ⟨i0, hi, hz0, hz1, hz2⟩ := info_parts Tryd.infoWord
    go_enter Tryd.func27, Tryd.ntmps27
    go_wp2_with (first
      | (go_at_call 45; refine (Cut_one _ _ _ hs).mono ?_; rintro e w' ⟨q, b, n, rfl, rfl⟩; rw [← HP.out])
      | (go_at_call 46; refine (badColumn_any _ _ (by unfold maxLen; omega)).mono ?_; rintro e w' ⟨rfl, rfl⟩; rw [← HB.out]))
    go_loopw [2, 7] (fun l i wr => ∃ (k : Nat) (acc : List (Nat × List UInt8)), k ≤ p.size + 1 ∧ i = .int .i64 k ∧ Hid (toks p.data.toList 1 = acc ++ toks (p.data.toList.drop k) (k + 1)) ∧
        wr.ownsRow w.heap.size 99 2 l acc.length (wcells acc) ∧ Below w.heap.size w wr) (fun _ i _ => p.size + 1 - (intOf i).toNat)
    case atStart => exact ⟨0, [], by omega, rfl, rfl, World.ownsRow_nil _ _ _ _, below_drewN (Below.refl _ _) _⟩
    case round =>
      obtain ⟨k, acc, hk, rfl, HT, hown, hbw⟩ := hrel
      have hacc : 2 * acc.length ≤ p.size + 1 := by
        have := congrArg List.length HT.out; simp at this; omega
      by_cases hlt : k < p.size
      · generalize hm : (word (p.data.toList.drop k)).length = m
        have HM := Lib.hid hm
        have hmle : k + m ≤ p.size := by
          have := word_le (p.data.toList.drop k); rw [hm] at this; simp at this; omega
        have HS : Hid (toks p.data.toList 1 = acc ++ ((if m = 0 then [] else [(k + 1, word (p.data.toList.drop k))]) ++ toks (p.data.toList.drop (k + m + 1)) (k + m + 2))) := by
          show _ = _
          rw [HT.out, toks_step, List.drop_drop, hm, show k + (m + 1) = k + m + 1 from rfl, show k + 1 + m + 1 = k + m + 2 by omega]
        clear hm
        by_cases hm0 : m = 0
        · subst hm0
          go_wp2_with (go_at_call 47; refine (wordEnd_any _ _ _ (by unfold maxLen; omega) (by omega)).mono ?_; rintro e w' ⟨rfl, rfl⟩; rw [HM.out])
          go_roundw
          case rel => exact ⟨k + 1, acc, by omega, by go_num, by show _ = _; simpa using HS.out, hown, hbw⟩
          case measure => simp [intOf]; omega
        · have hmp : 0 < m := by omega
          have hmi : (k : Int) + m ≤ p.size := by omega
          clear hm0
          go_wp2_with (first
            | (go_at_call 47; refine (wordEnd_any _ _ _ (by unfold maxLen; omega) (by omega)).mono ?_; rintro e w' ⟨rfl, rfl⟩; rw [HM.out])
            | (at_builtin; go_must (refine wpList_append_own _ rfl (.tmp 30) (.tmp 38) 65 rfl w.heap.size 99 i0 _ 2 24 Tryd.underlying65 hi hz0 hz1 hz2 rfl (by decide) _ _ _ rfl (hown.alloc _) ⟨wr.heap.size, 0, none⟩ 1 1 [.string (p.extract k (k + m)), .int .i64 (k + 1)] rfl rfl (cells_new _ _ _) (by intro u hu; simp at hu; rcases hu with rfl | rfl <;> rfl) (by unfold maxLen; omega) (by omega) (by have := hbw.size; simp; omega) ?_); intro v' w1 hown' hg' _))
          have hg2 : (wr.alloc (.cells #[.string (p.extract k (k + m)), .int .i64 (k + 1)] 99)).grownBy w1 u2.ownBlock := hg'
          have hbw1 : Below w.heap.size w w1 := (hbw.alloc hbw.size _).grown hg2 (by have := hbw.size; simp; omega) (fun g hg => (hown.lt g hg).1)
          clear hg'
          go_roundw
          case rel =>
            refine ⟨k + m + 1, acc ++ [(k + 1, word (p.data.toList.drop k))], by omega, by go_num, ?_, ?_, hbw1⟩
            · show _ = _
              have := HS.out
              rw [if_neg (by omega)] at this
              rw [this, List.append_assoc]
            · have e : p.extract k (k + m) = bs (word (p.data.toList.drop k)) := by
                rw [extract_bs, show k + m - k = m by omega, ← HM.out]; exact congrArg bs (upTo_prefix _ _)
              rw [wcells_append, List.length_append]
              rw [e] at hown'
              simpa [wcells, wcell] using hown'
          case measure => simp [intOf]; omega
      · go_wp2
        go_ret2
        have e := HT.out
        rw [drop_end p k (by omega), toks_nil, List.append_nil] at e
        refine splitTo_mk rfl ?_ hbw
        rw [e]; exact hown
  · obtain rfl := hw' h0
    have hb1 : (1 : Int) ≤ b := by omega
    clear hb' hw hw' h0
    go_enter Tryd.func27, Tryd.ntmps27
    go_wp2_with (first
      | (go_at_call 45; refine (Cut_one _ _ _ hs).mono ?_; rintro e w' ⟨q, b, n, rfl, rfl⟩; rw [← HP.out])
      | (go_at_call 46; refine (badColumn_any _ _ (by unfold maxLen; omega)).mono ?_; rintro e w' ⟨rfl, rfl⟩; rw [← HB.out]))
    go_ret2
    exact splitTo_mk rfl (World.ownsRow_nil _ _ _ _) (below_drewN (Below.refl _ _) _)
end Go.Proofs.YtgemciecdplcgaaDoor
