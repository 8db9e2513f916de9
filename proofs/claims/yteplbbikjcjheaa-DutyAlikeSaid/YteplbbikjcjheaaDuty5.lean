/-
  The tasks that the statements on duties are made of; the document's Tasks.
-/
import Derived.Test.YteplbbikjcjheaaDuty4
import Derived.Test.YteplbbikjcjheaaDArg
import Derived.Test.YteplbbikjcjheaaWithin
namespace Go.Proofs.Yteplbbikjcjheaa
set_option maxRecDepth 100000
open Go.ChangeShapes Go.WideShapes Go.ChangeAt Go.RowKit

/-- a task of a number -/
def tkT (of n : Int) : Tx := [116, byteOf (97 + within n of).toNat]
def tkL (zs : List Int) : List Tx := (zs.take 6).map (tkT 5)
theorem tkL_len (zs : List Int) : (tkL zs).length ≤ 6 := by unfold tkL; rw [List.length_map, List.length_take]; omega
theorem tkL_size {zs : List Int} : ∀ x ∈ tkL zs, x.length = 2 := fun x hx => by
  obtain ⟨n, _, rfl⟩ := List.mem_map.1 hx
  rfl
theorem Name_any (of n : Int) (w : World) (hv : (Lit.int .i64 n).wf = true) (hk : 1 ≤ of) (hk2 : of ≤ 26) :
    Calls Try.prog 36 #[.string ⟨#[116]⟩, .int .i64 n, .int .i64 of] w fun e w' => e = .returned (.string (bs (tkT of n))) ∧ Below w.heap.size w w' := by
  have hb := within_bd n of hk
  unfold tkT
  generalize hm : within n of = m at *
  have HM := Lib.hid hm
  clear hm
  have hw : (97 + m) % 256 = 97 + m := by omega
  have cv := fun W b cap => conv_one W b cap (97 + m) (by omega) (by omega)
  have ha : (⟨#[116]⟩ : ByteArray) ++ bs [byteOf (97 + m).toNat] = bs [116, byteOf (97 + m).toNat] := bs_append [116] _
  have HA := Lib.hid ha
  clear ha
  generalize bs [116, byteOf (97 + m).toNat] = T2 at *
  have hz : (bs [byteOf (97 + m).toNat]).size = 1 := rfl
  generalize bs [byteOf (97 + m).toNat] = T at *
  go_enter Try.func36, Try.ntmps36
  go_wp2_with (go_at_call 9; refine (Within_any _ _ _ hv (by omega) (by omega)).mono ?_; rintro e w' ⟨rfl, rfl⟩; rw [HM.out])
  go_ret
  exact ⟨ret_str HA.out, (Below.refl _ _).alloc (Nat.le_refl _) _⟩
def LTo (l : List Tx) (w : World) (e : Ending) (w' : World) : Prop := ∃ u, e = .returned u ∧ OwnL w' w.heap.size u l ∧ Below w.heap.size w w'
theorem lTo_mk {l m : List Tx} {w w' : World} {u : Value} (hl : m = l) (h : OwnL w' w.heap.size u m) (hb : Below w.heap.size w w') : LTo l w (.returned u) w' := by subst hl; exact ⟨u, rfl, h, hb⟩
set_option maxHeartbeats 1000000 in
theorem Tk_any (v : Value) (zs : List Int) (w : World) (hz : IntsAt w v zs) : Calls Try.prog 35 #[v] w (LTo (tkL zs) w) := by
  obtain ⟨i0, hi, hz0, hz1, hz2⟩ := info_parts Try.infoString
  obtain ⟨A, c, rfl, hzl, hzc⟩ := hz
  have HZ := Lib.hid hzc
  clear hzc
  unfold maxLen at hzl
  go_enter Try.func35, Try.ntmps35
  go_wp2
  go_loopw [3, 4] (fun v i wr => ∃ k : Nat, k ≤ 6 ∧ k ≤ zs.length ∧ i = .int .i64 k ∧ Hid (OwnL wr w.heap.size v ((zs.take k).map (tkT 5))) ∧ Hid (Below w.heap.size w wr)) (fun _ i _ => 6 - (intOf i).toNat)
  case atStart => exact ⟨0, Nat.zero_le _, Nat.zero_le _, rfl, World.ownsRow_nil _ _ _ _, Below.refl _ _⟩
  case round =>
    obtain ⟨k, hk, hkz, rfl, HO, HB⟩ := hrel
    have hbz := HB.out.size
    by_cases h1 : k < zs.length
    · have g1 : decide (k < zs.length) = true := by simpa using h1
      by_cases h2 : k < 6
      · have h2i : (k : Int) < 6 := by omega
        obtain ⟨g, off, rfl, hgl, hc, hwf⟩ := HZ.out k h1
        have x1 := (HB.out.cell (p := ⟨g, off + k, none⟩) hgl).trans hc
        have hsn : (zs.take (k + 1)).map (tkT 5) = (zs.take k).map (tkT 5) ++ [tkT 5 zs[k]] := by rw [List.take_succ_eq_append_getElem h1, List.map_append]; rfl
        have hl0 : ((zs.take k).map (tkT 5)).length = k := by rw [List.length_map, List.length_take]; omega
        have NM := Lib.hid (fun W => Name_any 5 zs[k] W hwf (by omega) (by omega))
        have HSN := Lib.hid hsn
        have HL0 := Lib.hid hl0
        clear hsn hl0 hc hwf
        generalize zs[k] = z at *
        generalize (zs.take k).map (tkT 5) = cur at *
        generalize tkT 5 z = T at *
        have hO := HO.out
        unfold OwnL at hO
        rw [HL0.out] at hO
        obtain ⟨A6, c6, rfl⟩ := own_slice hO
        go_wp2_with (first
          | (go_at_call 36; refine (NM.out _).mono ?_; rintro e w1 ⟨rfl, hb1⟩; have ho1 := own_below hO hb1 hbz; have hb1z := hb1.size)
          | (at_builtin; go_must (refine wpList_append_own _ rfl (.tmp 15) (.tmp 21) 25 rfl w.heap.size 9 i0 _ 1 16 Try.underlying25 hi hz0 hz1 hz2 rfl (by decide) _ k (scells cur) rfl (ho1.alloc _) ⟨w1.heap.size, 0, none⟩ 1 1 [.string (bs T)] rfl rfl (cells_new _ _ _) (by intro u hu; simp at hu; subst hu; rfl) (by unfold maxLen; omega) (by omega) (by simp; omega) ?_); intro v' w4 hown' hg' _; obtain ⟨A5, c5, rfl⟩ := own_slice hown'))
        have HO4 : Hid (OwnL w4 w.heap.size (.slice A5 (k + 1) c5) ((zs.take (k + 1)).map (tkT 5))) := by
          show World.ownsRow _ _ _ _ _ _ _
          rw [HSN.out, List.length_append, HL0.out]
          have e : scells (cur ++ [T]) = scells cur ++ [.string (bs T)] := by simp [scells]
          rw [e]; exact hown'
        have hb2 := below_then HB.out hb1 hbz
        have HB4 : Hid (Below w.heap.size w w4) := (hb2.alloc hb2.size _).grown hg' (Nat.le_trans hb2.size (by simp)) (fun j e => (ho1.lt j e).1)
        go_roundw
        case rel => exact ⟨k + 1, by omega, by omega, by go_num, HO4, HB4⟩
        case measure => simp [intOf]; omega
      · have g2 : decide ((k : Int) < 6) = false := by simp; omega
        have HE : Hid ((zs.take k).map (tkT 5) = tkL zs) := by show _ = _; unfold tkL; rw [show k = 6 by omega]
        clear h1 h2 hk hkz
        go_wp2
        go_ret
        exact lTo_mk HE.out HO.out HB.out
    · have g1 : decide (k < zs.length) = false := by simpa using h1
      have HE : Hid ((zs.take k).map (tkT 5) = tkL zs) := by show _ = _; unfold tkL; rw [List.take_of_length_le (by omega), List.take_of_length_le (by omega)]
      clear h1 hk hkz
      go_wp2
      go_ret
      exact lTo_mk HE.out HO.out HB.out

/-! ### the document's -/
set_option maxHeartbeats 1000000 in
theorem HasR_any (l : List Tx) (x : Tx) (A : Option Addr) (c : Nat) (w : World) (h : ListAt w A c l) (hl : l.length ≤ 1000000) :
    Calls Try.prog 54 #[.slice A l.length c, .string (bs x)] w fun e w' => e = .returned (.bool (decide (x ∈ l))) ∧ w = w' := by
  have hc := h.1
  have h := h.2
  go_enter Try.func54, Try.ntmps54
  go_wp2
  go_loop [5, 8] (fun _ i => ∃ k : Nat, k ≤ l.length ∧ i = .int .i64 k ∧ Hid (x ∉ l.take k)) (fun _ i => l.length - (intOf i).toNat)
  case atStart => exact ⟨0, Nat.zero_le _, rfl, by show ¬ _; simp⟩
  case round =>
    obtain ⟨k, hk, rfl, HI⟩ := hrel
    by_cases hlt : k < l.length
    · obtain ⟨b, rfl, _, hx⟩ := h k hlt
      have hsn : l.take (k + 1) = l.take k ++ [l[k]] := by rw [List.take_succ_eq_append_getElem hlt]
      have hme : l[k] ∈ l := List.getElem_mem hlt
      clear h
      by_cases he : l[k] = x
      · have HM : Hid (decide (x ∈ l) = true) := decide_eq_true (he ▸ hme)
        have hb : ((bs l[k]).toList == (bs x).toList) = true := by rw [beq_tx]; simp [he]
        clear he hme hsn
        generalize bs l[k] = y at *
        go_wp2
        go_ret
        exact ⟨ret_bool HM.out.symm, rfl⟩
      · have HT : Hid (x ∉ l.take (k + 1)) := by
          show ¬ _
          rw [hsn, List.mem_append]
          exact fun hh => hh.elim HI.out (fun h => he (List.mem_singleton.1 h).symm)
        have hb : ((bs l[k]).toList == (bs x).toList) = false := by rw [beq_tx]; simp [he]
        clear he hme hsn
        generalize bs l[k] = y at *
        go_wp2
        go_round
        case rel => exact ⟨k + 1, by omega, by go_num, HT⟩
        case measure => simp [intOf]; omega
    · have HT : Hid (decide (x ∈ l) = false) := by have := HI.out; rw [List.take_of_length_le (by omega)] at this; show _ = _; simpa using this
      clear h
      go_wp2
      go_ret
      exact ⟨ret_bool HT.out.symm, rfl⟩
set_option maxHeartbeats 2000000 in
theorem RTasks_any (done : List Tx) (task : Tx) (L : List (List Tx)) (A B : Option Addr) (c d : Nat) (w : World) (hd : ListAt w B d done) (hdl : done.length ≤ 1000000) (h : LLAt w A c L) (hL : L.length ≤ 100) (hl : ∀ l ∈ L, l.length ≤ 100) :
    Calls Try.prog 38 #[.slice B done.length d, .string (bs task), .slice A L.length c] w fun e w' => e = .returned (.bool (mayB done task L)) ∧ w = w' := by
  have HL := Lib.hid h.2
  have hcc := h.1
  have HAS := Lib.hid (fun x => HasR_any done x B d w hd hdl)
  have hdc := hd.1
  clear h hd
  go_enter Try.func38, Try.ntmps38
  go_wp2
  go_loop [12] (fun i => ∃ k : Nat, k ≤ L.length ∧ i = .int .i64 k ∧ Hid (∀ l ∈ L.take k, task ∈ l → ∀ x ∈ l, x ≠ task → x ∉ done)) (fun i => L.length - (intOf i).toNat)
  case atStart => exact ⟨0, Nat.zero_le _, rfl, fun l hl => by simp at hl⟩
  case round =>
    obtain ⟨k, hk, rfl, HI⟩ := hrel
    by_cases hlt : k < L.length
    · obtain ⟨g, B2, d2, rfl, hgl, x1, hLk⟩ := HL.out k hlt
      have hlk := hl _ (List.getElem_mem hlt)
      have hme := List.getElem_mem hlt
      have hts : ∀ m ∈ L.take (k + 1), m ∈ L.take k ∨ m = L[k] := fun m hm => by
        rw [List.take_succ_eq_append_getElem hlt, List.mem_append, List.mem_singleton] at hm
        exact hm
      generalize L[k] = l at *
      have hH := HasR_any l task B2 d2 w hLk (by omega)
      have hcl := hLk.1
      have HLk := Lib.hid hLk.2
      clear hLk
      by_cases hin : task ∈ l
      · rw [decide_eq_true hin] at hH
        have HH := Lib.hid hH
        have HNO : Hid (∀ x ∈ l, x ≠ task → x ∈ done → mayB done task L = false) := fun x hx hne hd => may_no.2 ⟨l, hme, hin, x, hx, hne, hd⟩
        have HNX : Hid ((∀ x ∈ l, x ≠ task → x ∉ done) → ∀ m ∈ L.take (k + 1), task ∈ m → ∀ x ∈ m, x ≠ task → x ∉ done) := fun h m hm ht => by
          rcases hts m hm with h1 | h1
          · exact HI.out m h1 ht
          · subst h1; exact h
        clear hH hin hts hme
        go_wp2_with (go_at_call 54; refine HH.out.mono ?_; rintro e w1 ⟨rfl, rfl⟩)
        go_loop [27] (fun i => ∃ j : Nat, j ≤ l.length ∧ i = .int .i64 j ∧ Hid (∀ x ∈ l.take j, x ≠ task → x ∉ done)) (fun i => l.length - (intOf i).toNat)
        case atStart => exact ⟨0, Nat.zero_le _, rfl, fun x hx => by simp at hx⟩
        case round =>
          obtain ⟨j, hj, rfl, HJ⟩ := hrel
          by_cases hjl : j < l.length
          · obtain ⟨gl, rfl, hgl2, y1⟩ := HLk.out j hjl
            have hmx := List.getElem_mem hjl
            have htx : ∀ m ∈ l.take (j + 1), m ∈ l.take j ∨ m = l[j] := fun m hm => by
              rw [List.take_succ_eq_append_getElem hjl, List.mem_append, List.mem_singleton] at hm
              exact hm
            generalize l[j] = x at *
            have hne := neq_tx x task
            have hx := HAS.out x
            by_cases he : x = task
            · have hb : ((bs x).toList != (bs task).toList) = false := by rw [hne]; simp [he]
              have hbe : ((bs x).toList == (bs task).toList) = true := by rw [beq_tx]; simp [he]
              have HJ2 : Hid (∀ y ∈ l.take (j + 1), y ≠ task → y ∉ done) := fun y hy hn => by
                rcases htx y hy with h1 | h1
                · exact HJ.out y h1 hn
                · exact absurd (h1.trans he) hn
              clear hne he htx hmx hx
              go_wp2
              go_round
              case rel => exact ⟨j + 1, by omega, by go_num, HJ2⟩
              case measure => simp [intOf]; omega
            · have hb : ((bs x).toList != (bs task).toList) = true := by rw [hne]; simp [he]
              have hbe : ((bs x).toList == (bs task).toList) = false := by rw [beq_tx]; simp [he]
              by_cases hdn : x ∈ done
              · rw [decide_eq_true hdn] at hx
                have HX := Lib.hid hx
                have HE := Lib.hid (HNO.out x hmx he hdn)
                clear hne he htx hmx hx hdn HNO HNX HI HJ
                go_wp2_with (go_at_call 54; refine HX.out.mono ?_; rintro e w1 ⟨rfl, rfl⟩)
                go_ret
                exact ⟨ret_bool HE.out.symm, rfl⟩
              · rw [decide_eq_false hdn] at hx
                have HX := Lib.hid hx
                have HJ2 : Hid (∀ y ∈ l.take (j + 1), y ≠ task → y ∉ done) := fun y hy hn => by
                  rcases htx y hy with h1 | h1
                  · exact HJ.out y h1 hn
                  · rw [h1]; exact hdn
                clear hne he htx hmx hx hdn
                go_wp2_with (go_at_call 54; refine HX.out.mono ?_; rintro e w1 ⟨rfl, rfl⟩)
                go_round
                case rel => exact ⟨j + 1, by omega, by go_num, HJ2⟩
                case measure => simp [intOf]; omega
          · have HT : Hid (∀ m ∈ L.take (k + 1), task ∈ m → ∀ x ∈ m, x ≠ task → x ∉ done) := HNX.out (by have := HJ.out; rwa [List.take_of_length_le (by omega)] at this)
            go_wp2
            go_round
            case rel => exact ⟨k + 1, by omega, by go_num, HT⟩
            case measure => simp [intOf]; omega
      · rw [decide_eq_false hin] at hH
        have HH := Lib.hid hH
        have HT : Hid (∀ m ∈ L.take (k + 1), task ∈ m → ∀ x ∈ m, x ≠ task → x ∉ done) := fun m hm ht => by
          rcases hts m hm with h1 | h1
          · exact HI.out m h1 ht
          · subst h1; exact absurd ht hin
        clear hH hin hts hme
        go_wp2_with (go_at_call 54; refine HH.out.mono ?_; rintro e w1 ⟨rfl, rfl⟩)
        go_round
        case rel => exact ⟨k + 1, by omega, by go_num, HT⟩
        case measure => simp [intOf]; omega
    · have HE : Hid (mayB done task L = true) := may_yes (by have := HI.out; rwa [List.take_of_length_le (by omega)] at this)
      clear HI
      go_wp2
      go_ret
      exact ⟨ret_bool HE.out.symm, rfl⟩
end Go.Proofs.Yteplbbikjcjheaa
