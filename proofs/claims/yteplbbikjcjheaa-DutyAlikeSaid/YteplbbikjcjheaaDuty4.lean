/-
  Package duty: Tasks.
-/
import Derived.Test.YteplbbikjcjheaaSetL
import Derived.Test.YteplbbikjcjheaaIdx
import Derived.Test.YteplbbikjcjheaaDT0
namespace Go.Proofs.Yteplbbikjcjheaa
set_option maxRecDepth 100000
open Go.ChangeShapes Go.WideShapes Go.ChangeAt Go.RowKit Go.Maps Go.WideMaps Go.ChangeMaps

/-- lists of texts in cells -/
def LLAt (w : World) (A : Option Addr) (c : Nat) (L : List (List Tx)) : Prop := L.length ≤ c ∧ ∀ j (hj : j < L.length), ∃ g B d, A = some ⟨g, 0, none⟩ ∧ g < w.heap.size ∧ w.cell? ⟨g, j, none⟩ = some (.slice B L[j].length d) ∧ ListAt w B d L[j]
theorem LLAt.below {w w' : World} {A : Option Addr} {c : Nat} {L : List (List Tx)} (h : LLAt w A c L) (hb : Below w.heap.size w w') : LLAt w' A c L :=
  ⟨h.1, fun j hj => let ⟨g, B, d, e, hl, hc, hL⟩ := h.2 j hj; ⟨g, B, d, e, Nat.lt_of_lt_of_le hl hb.size, (hb.cell (p := ⟨g, j, none⟩) hl).trans hc, hL.below hb⟩⟩
def SetAt (w : World) (b n : Nat) (O : List Tx) : Prop := w.ownsMap Try.prog 9 unitElem b n (setL O)
theorem SetAt.lt {w : World} {b n : Nat} {O : List Tx} (h : SetAt w b n O) : b < w.heap.size := by
  obtain ⟨es, clock, h1, _⟩ := h
  exact (Array.getElem?_eq_some_iff.1 h1).1
theorem SetAt.below {w w' : World} {b n : Nat} {O : List Tx} (h : SetAt w b n O) (hb : Below w.heap.size w w') : SetAt w' b n O := by
  have hl := h.lt
  obtain ⟨es, clock, h1, r⟩ := h
  exact ⟨es, clock, (hb.block _ hl).trans h1, r⟩
theorem SetAt.le {w : World} {b n m : Nat} {O : List Tx} (h : SetAt w b n O) (hn : n ≤ m) : SetAt w b m O := by
  obtain ⟨es, clock, h1, h2, h3, h4⟩ := h
  exact ⟨es, clock, h1, h2, Nat.le_trans h3 hn, h4⟩
theorem neq_tx (a c : Tx) : ((bs a).toList != (bs c).toList) = (a != c) := by unfold bne; rw [beq_tx]
def ApartTo (O : List Tx) (w : World) (e : Ending) (w' : World) : Prop := ∃ b n, e = .returned (.map (some b)) ∧ SetAt w' b n O ∧ w.heap.size ≤ b ∧ Below w.heap.size w w'
theorem apartTo_mk {O P : List Tx} {w w' : World} {b n : Nat} (hO : P = O) (h1 : SetAt w' b n P) (h2 : w.heap.size ≤ b) (h3 : Below w.heap.size w w') : ApartTo O w (.returned (.map (some b))) w' := by
  subst hO; exact ⟨b, n, rfl, h1, h2, h3⟩
set_option maxHeartbeats 2000000 in
theorem apartFrom_any (task : Tx) (L : List (List Tx)) (A : Option Addr) (c : Nat) (w : World) (h : LLAt w A c L) (hL : L.length ≤ 100) (hl : ∀ l ∈ L, l.length ≤ 100) (ht : ∀ l ∈ L, ∀ x ∈ l, x.length ≤ 1000) :
    Calls Try.prog 51 #[.string (bs task), .slice A L.length c] w (ApartTo (othersP task L) w) := by
  have HL := Lib.hid h
  have hcc := h.1
  clear h
  have hmm := makeMap_none 93 9 96 Try.underlying93
  go_enter Try.func51, Try.ntmps51
  go_wp2
  go_loopw [13] (fun i wr => ∃ k : Nat, k ≤ L.length ∧ i = .int .i64 k ∧ Hid (SetAt wr w.heap.size (100 * k) (othersP task (L.take k))) ∧ Hid (Below w.heap.size w wr)) (fun i _ => L.length - (intOf i).toNat)
  case atStart => exact ⟨0, Nat.zero_le _, rfl, World.ownsMap_made _ _ _ _, (Below.refl _ _).alloc (Nat.le_refl _) _⟩
  case round =>
    obtain ⟨k, hk, rfl, HS, HB⟩ := hrel
    by_cases hlt : k < L.length
    · obtain ⟨g, B, d, rfl, hgl, xw, hLk⟩ := HL.out.2 k hlt
      have x1 := (HB.out.cell (p := ⟨g, k, none⟩) hgl).trans xw
      have hot := others_take (task := task) hlt
      have hlk := hl _ (List.getElem_mem hlt)
      have htk := ht _ (List.getElem_mem hlt)
      generalize L[k] = l at *
      have CN := Lib.hid (fun W (hW : Below w.heap.size w W) => Contains_str l task B d W (hLk.below hW) (by omega))
      have hcl := hLk.1
      have HLk := Lib.hid hLk
      clear hLk xw
      by_cases hin : task ∈ l
      · rw [if_pos hin] at hot
        rw [decide_eq_true hin] at CN
        have HOT := Lib.hid hot
        clear hot hin
        obtain ⟨w0, rfl⟩ : ∃ w0 : World, w0 = wr := ⟨_, rfl⟩
        go_wp2_with (go_at_call 55; refine (CN.out _ HB.out).mono ?_; rintro e w1 ⟨rfl, rfl⟩)
        go_loopw [23] (fun i wr => ∃ j : Nat, j ≤ l.length ∧ i = .int .i64 j ∧ Hid (SetAt wr w.heap.size (100 * k + j) (othersP task (L.take k) ++ (l.take j).filter (· != task))) ∧ Hid (Below w.heap.size w wr)) (fun i _ => l.length - (intOf i).toNat)
        case atStart => exact ⟨0, Nat.zero_le _, rfl, by show SetAt _ _ _ _; simpa using HS.out, HB⟩
        case round =>
          obtain ⟨j, hj, rfl, HS2, HB2⟩ := hrel
          by_cases hjl : j < l.length
          · obtain ⟨gl, rfl, hgl2, y1⟩ := (HLk.out.below HB2.out).2 j hjl
            have hft := filter_take (task := task) hjl
            have hxl := htk _ (List.getElem_mem hjl)
            generalize l[j] = x at *
            have hne := neq_tx x task
            have hbz := HB2.out.size
            by_cases he : x = task
            · rw [if_pos he, List.append_nil] at hft
              have hb : ((bs x).toList != (bs task).toList) = false := by rw [hne]; simp [he]
              have hbe : ((bs x).toList == (bs task).toList) = true := by rw [beq_tx]; simp [he]
              have HS3 : Hid (SetAt wr w.heap.size (100 * k + (j + 1)) (othersP task (L.take k) ++ (l.take (j + 1)).filter (· != task))) := by
                show SetAt _ _ _ _
                rw [hft]; exact HS2.out.le (by omega)
              clear hft he hne
              go_wp2
              go_roundw
              case rel => exact ⟨j + 1, by omega, by go_num, HS3, HB2⟩
              case measure => simp [intOf]; omega
            · rw [if_neg he] at hft
              have hb : ((bs x).toList != (bs task).toList) = true := by rw [hne]; simp [he]
              have hbe : ((bs x).toList == (bs task).toList) = false := by rw [beq_tx]; simp [he]
              have hkey : keyOf Try.prog 9 (.string (bs x)) = some (.string x) := keyOf_string_mk Try.underlying9 (by rw [size_bs]; unfold maxLen; omega)
              have hS2 := HS2.out
              unfold SetAt at hS2
              have HFT := Lib.hid hft
              clear hft he hne
              go_wp2_with (at_mapUpdate; go_must (refine wpList_mapUpdate_own _ rfl _ _ _ 93 rfl 9 96 Try.lawS Try.underlying93 (unitElem (H := Unit)) w.heap.size (100 * k + j) _ rfl hS2 (by unfold maxLen; omega) _ _ _ rfl rfl hkey _ [] unitElem_mk ?_); intro w1 hown1 hgrow1)
              have HB3 : Hid (Below w.heap.size w w1) := HB2.out.grown hgrow1 hbz (fun j hj => by cases hj; exact Nat.le_refl _)
              have HS3 : Hid (SetAt w1 w.heap.size (100 * k + (j + 1)) (othersP task (L.take k) ++ (l.take (j + 1)).filter (· != task))) := by
                show SetAt _ _ _ _
                have e : othersP task (L.take k) ++ (l.take (j + 1)).filter (· != task) = (othersP task (L.take k) ++ (l.take j).filter (· != task)) ++ [x] := by
                  rw [HFT.out, List.append_assoc]
                rw [e]
                unfold SetAt
                rw [setL_snoc]
                exact hown1
              go_roundw
              case rel => exact ⟨j + 1, by omega, by go_num, HS3, HB3⟩
              case measure => simp [intOf]; omega
          · have HS3 : Hid (SetAt wr w.heap.size (100 * (k + 1)) (othersP task (L.take (k + 1)))) := by
              show SetAt _ _ _ _
              have e : j = l.length := by omega
              have h := HS2.out
              rw [e, List.take_length] at h
              rw [HOT.out]
              exact h.le (by omega)
            go_wp2
            go_roundw
            case rel => exact ⟨k + 1, by omega, by go_num, HS3, HB2⟩
            case measure => simp [intOf]; omega
      · rw [if_neg hin, List.append_nil] at hot
        rw [decide_eq_false hin] at CN
        have HS3 : Hid (SetAt wr w.heap.size (100 * (k + 1)) (othersP task (L.take (k + 1)))) := by
          show SetAt _ _ _ _
          rw [hot]; exact HS.out.le (by omega)
        clear hot hin
        go_wp2_with (go_at_call 55; refine (CN.out _ HB.out).mono ?_; rintro e w1 ⟨rfl, rfl⟩)
        go_roundw
        case rel => exact ⟨k + 1, by omega, by go_num, HS3, HB⟩
        case measure => simp [intOf]; omega
    · have HE : Hid (othersP task (L.take k) = othersP task L) := by show _ = _; rw [List.take_of_length_le (by omega)]
      go_wp2
      go_ret
      exact apartTo_mk HE.out HS.out (Nat.le_refl _) HB.out
/-- the closure of Tasks -/
theorem did_any (O : List Tx) (b n pb : Nat) (d : Tx) (w : World) (hS : SetAt w b n O) (hd : d.length ≤ 1000) (hc : w.cell? ⟨pb, 0, none⟩ = some (.map (some b))) :
    Calls Try.prog 53 #[.string (bs d), .pointer (some ⟨pb, 0, none⟩)] w fun e w' => e = .returned (.bool (decide (d ∈ O))) ∧ Below w.heap.size w w' := by
  have hkey : keyOf Try.prog 9 (.string (bs d)) = some (.string d) := keyOf_string_mk Try.underlying9 (by rw [size_bs]; unfold maxLen; omega)
  have hs := has_setL O d
  have HS := Lib.hid hs
  have hown := hS
  unfold SetAt at hown
  clear hs hd
  go_enter Try.func53, Try.ntmps53
  go_wp2_with (at_lookup; refine wpList_lookup_own_unit _ rfl _ _ 93 rfl 9 96 Try.lawS Try.underlying93 (Try.zeroU _) b n _ rfl (by first | exact hown | exact hown.alloc _) _ _ rfl hkey ?_; rw [HS.out])
  go_ret
  exact ⟨rfl, (Below.refl _ _).alloc (Nat.le_refl _) _⟩
set_option maxHeartbeats 1000000 in
theorem IdxDid_any (O l : List Tx) (b n pb : Nat) (A : Option Addr) (c : Nat) (w : World) (hS : SetAt w b n O) (hp : pb < w.heap.size) (hc : w.cell? ⟨pb, 0, none⟩ = some (.map (some b))) (h : ListAt w A c l) (hl : l.length ≤ 1000000) (ht : ∀ x ∈ l, x.length ≤ 1000) :
    Calls Try.prog 58 #[.slice A l.length c, .func (.func 53) #[] #[.pointer (some ⟨pb, 0, none⟩)]] w fun e w' => e = .returned (.int .i64 (fI (fun d => decide (d ∈ O)) l)) ∧ Below w.heap.size w w' := by
  have HL := Lib.hid h
  have HS := Lib.hid hS
  have hcc := h.1
  clear h hS
  go_enter Try.func58, Try.ntmps58
  go_wp2
  go_loopw [5, 8] (fun _ i wr => ∃ k : Nat, k ≤ l.length ∧ i = .int .i64 k ∧ Hid (Below w.heap.size w wr) ∧ Hid (∀ j (_ : j < k) (h : j < l.length), decide (l[j] ∈ O) = false)) (fun _ i _ => l.length - (intOf i).toNat)
  case atStart => exact ⟨0, Nat.zero_le _, rfl, Below.refl _ _, fun j hj _ => by omega⟩
  case round =>
    obtain ⟨k, hk, rfl, HB, HI⟩ := hrel
    by_cases hlt : k < l.length
    · obtain ⟨g, rfl, hgl, x1⟩ := (HL.out.below HB.out).2 k hlt
      have hc2 := (HB.out.cell (p := ⟨pb, 0, none⟩) hp).trans hc
      have CL := Lib.hid (did_any O b n pb l[k] wr (HS.out.below HB.out) (ht _ (List.getElem_mem hlt)) hc2)
      have HH : Hid (decide (l[k] ∈ O) = true → fI (fun d => decide (d ∈ O)) l = k) := fun hb => fI_hit hlt hb fun j hj => HI.out j hj (by omega)
      have HT : Hid (decide (l[k] ∈ O) = false → ∀ j (_ : j < k + 1) (h : j < l.length), decide (l[j] ∈ O) = false) := fun hb j hj h => by
        by_cases e : j = k
        · subst e; exact hb
        · exact HI.out j (by omega) h
      clear hc2
      generalize l[k] = x at *
      cases hq : decide (x ∈ O)
      · have HT2 := Lib.hid (HT.out hq)
        rw [hq] at CL
        clear hq HH HT HI
        go_wp2_with (go_at_call 53; refine CL.out.mono ?_; rintro e w2 ⟨rfl, hb2⟩)
        have HB2 := Lib.hid (below_then HB.out hb2 HB.out.size)
        go_roundw
        case rel => exact ⟨k + 1, by omega, by go_num, HB2, HT2⟩
        case measure => simp [intOf]; omega
      · have HE := Lib.hid (HH.out hq)
        rw [hq] at CL
        clear hq HH HT HI
        go_wp2_with (go_at_call 53; refine CL.out.mono ?_; rintro e w2 ⟨rfl, hb2⟩)
        go_ret
        exact ⟨ret_int HE.out.symm, below_then HB.out hb2 HB.out.size⟩
    · have HE : Hid (fI (fun d => decide (d ∈ O)) l = -1) := fI_miss fun j hj => HI.out j (by omega) hj
      clear HI
      go_wp2
      go_ret
      exact ⟨ret_int HE.out.symm, HB.out⟩
theorem ConDid_any (O l : List Tx) (b n pb : Nat) (A : Option Addr) (c : Nat) (w : World) (hS : SetAt w b n O) (hp : pb < w.heap.size) (hc : w.cell? ⟨pb, 0, none⟩ = some (.map (some b))) (h : ListAt w A c l) (hl : l.length ≤ 1000000) (ht : ∀ x ∈ l, x.length ≤ 1000) :
    Calls Try.prog 52 #[.slice A l.length c, .func (.func 53) #[] #[.pointer (some ⟨pb, 0, none⟩)]] w fun e w' => e = .returned (.bool (l.any fun d => decide (d ∈ O))) ∧ Below w.heap.size w w' := by
  have IX := Lib.hid (IdxDid_any O l b n pb A c w hS hp hc h hl ht)
  have HA := Lib.hid (fI_any (fun d => decide (d ∈ O)) l)
  clear h hS hc ht
  generalize fI (fun d => decide (d ∈ O)) l = r at *
  go_enter Try.func52, Try.ntmps52
  go_wp2_with (go_at_call 58; refine IX.out.mono ?_; rintro e w2 ⟨rfl, hb2⟩)
  go_ret
  exact ⟨ret_bool HA.out, hb2⟩
theorem Tasks_any (done : List Tx) (task : Tx) (L : List (List Tx)) (A B : Option Addr) (c d : Nat) (w : World) (hd : ListAt w B d done) (hdl : done.length ≤ 1000000) (hdt : ∀ x ∈ done, x.length ≤ 1000) (h : LLAt w A c L) (hL : L.length ≤ 100) (hl : ∀ l ∈ L, l.length ≤ 100) (ht : ∀ l ∈ L, ∀ x ∈ l, x.length ≤ 1000) :
    Calls Try.prog 37 #[.slice B done.length d, .string (bs task), .slice A L.length c] w fun e w' => e = .returned (.bool (mayB done task L)) ∧ Below w.heap.size w w' := by
  have AF := Lib.hid (apartFrom_any task L A c w h hL hl ht)
  have HM : Hid (mayB done task L = !(done.any fun d => decide (d ∈ othersP task L))) := rfl
  have HD := Lib.hid hd
  have HDT := Lib.hid hdt
  have hmf : ∀ (fn : Fn) (first cap : Array Value) (w : World), (Instr.makeFunc fn first cap).run Try.prog w = .ok (.func fn first cap) w := fun _ _ _ _ => rfl
  clear h hL hl ht hd hdt
  generalize othersP task L = O at *
  go_enter Try.func37, Try.ntmps37
  go_upto_region 2 with (go_at_call 51; refine AF.out.mono ?_; rintro e w1 ⟨b, n, rfl, hs1, hbb, hb1⟩)
  have hbz : Below w1.heap.size w1 (w1.alloc (.cells #[.map (some b)] 93)) := (Below.refl _ _).alloc (Nat.le_refl _) _
  have R := heap_alloc_new w1 (.cells #[.map (some b)] 93)
  have CD := Lib.hid (ConDid_any O done b n w1.heap.size B d _ (hs1.below hbz) (by simp) (by rw [cell_of_row _ _ _ _ _ _ R]; rfl) (HD.out.below (below_then hb1 hbz hb1.size)) hdl HDT.out)
  have HBZ := Lib.hid (below_then hb1 hbz hb1.size)
  clear R hbz hs1
  generalize (done.any fun d => decide (d ∈ O)) = r at *
  go_wp2_with (go_at_call 52; refine CD.out.mono ?_; rintro e w2 ⟨rfl, hb2⟩)
  go_ret
  exact ⟨ret_bool HM.out.symm, below_then HBZ.out hb2 HBZ.out.size⟩
end Go.Proofs.Yteplbbikjcjheaa
