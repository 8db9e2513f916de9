/-
  rule.Parse: its contract, at every line.
-/
import Derived.Test.YtahhepmhdcbplaaGreatDoorParse2
import Derived.Test.YtahhepmhdcbplaaGreatDoorParse4
namespace Go.Proofs.YtahhepmhdcbplaaGreatDoor
set_option maxRecDepth 100000
open Go.ChangeShapes Go.WideShapes Go.ChangeAt Go.RowKit

theorem wrong_any (r : Ru) (ws : List (Nat × Tx)) (hF : Formed ws.length r) (hm : ws.length ≤ 1099511627776) (W : World) (g cap : Nat) (A : Option Addr) (c : Nat) (hWA : WAt W g 0 ws) (hg : g < W.heap.size) (hc : ws.length ≤ cap) :
    Calls Tryz.prog 54 #[ruV r (.slice A r.list.length c) 0, .slice (some ⟨g, 0, none⟩) ws.length cap] W (IntB (wrongP r ws) W) := by
  obtain ⟨kd, nm, l, n, m, f, t, by_, ta, in_⟩ := r
  obtain ⟨hl, hk, hn⟩ := hF
  simp only at hl hk hn
  have hn' : (bs nm).size ≤ maxLen := by rw [size_bs]; unfold maxLen; omega
  rcases hk with rfl | rfl | rfl | rfl | rfl | rfl | rfl | ⟨rfl | rfl | rfl, h2⟩ | ⟨rfl, h4⟩
  · exact wrong_1 nm l n m f t by_ ta in_ A c 0 g cap ws W hWA hg hm hc hl hn'
  · exact wrong_2 nm l n m f t by_ ta in_ A c 0 g cap ws W hWA hg hm hc hl
  · exact wrong_3 nm l n m f t by_ ta in_ A c 0 g cap ws W hWA hg hm hc hl
  · exact wrong_6 nm l n m f t by_ ta in_ A c 0 g cap ws W hWA hg hm hc hl
  · exact wrong_8 nm l n m f t by_ ta in_ A c 0 g cap ws W hWA hg hm hc hl
  · exact wrong_9 nm l n m f t by_ ta in_ A c 0 g cap ws W hWA hg hm hc hl
  · exact wrong_10 nm l n m f t by_ ta in_ A c 0 g cap ws W hWA hg hm hc hl
  · by_cases h1 : n < 2
    · have e : wrongP ⟨4, nm, l, n, m, f, t, by_, ta, in_⟩ ws = ws[1].1 := by simp [wrongP, h1, colAt_eq (show 1 < ws.length by omega)]
      rw [e]; exact wrong_4bad1 nm l n m f t by_ ta in_ A c 0 g cap ws W hWA hg hm hc hl h2 h1
    · by_cases h3 : (l.length : Int) < n
      · have e : wrongP ⟨4, nm, l, n, m, f, t, by_, ta, in_⟩ ws = ws[1].1 := by simp [wrongP, h3, colAt_eq (show 1 < ws.length by omega)]
        rw [e]; exact wrong_4bad2 nm l n m f t by_ ta in_ A c 0 g cap ws W hWA hg hm hc hl h2 h1 h3
      · have e : wrongP ⟨4, nm, l, n, m, f, t, by_, ta, in_⟩ ws = againP [] (ws.drop (ws.length - l.length)) := by simp [wrongP, h1, h3, listP]
        rw [e]; exact wrong_4good nm l n m f t by_ ta in_ A c 0 g cap ws W hWA hg hm hc hl h1 h3
  · by_cases h1 : n < 2
    · have e : wrongP ⟨5, nm, l, n, m, f, t, by_, ta, in_⟩ ws = ws[1].1 := by simp [wrongP, h1, colAt_eq (show 1 < ws.length by omega)]
      rw [e]; exact wrong_5bad1 nm l n m f t by_ ta in_ A c 0 g cap ws W hWA hg hm hc hl h2 h1
    · by_cases h3 : (l.length : Int) < n
      · have e : wrongP ⟨5, nm, l, n, m, f, t, by_, ta, in_⟩ ws = ws[1].1 := by simp [wrongP, h3, colAt_eq (show 1 < ws.length by omega)]
        rw [e]; exact wrong_5bad2 nm l n m f t by_ ta in_ A c 0 g cap ws W hWA hg hm hc hl h2 h1 h3
      · have e : wrongP ⟨5, nm, l, n, m, f, t, by_, ta, in_⟩ ws = againP [] (ws.drop (ws.length - l.length)) := by simp [wrongP, h1, h3, listP]
        rw [e]; exact wrong_5good nm l n m f t by_ ta in_ A c 0 g cap ws W hWA hg hm hc hl h1 h3
  · by_cases ht : timeP n = false
    · have e : wrongP ⟨11, nm, l, n, m, f, t, by_, ta, in_⟩ ws = ws[1].1 := by simp [wrongP, ht, colAt_eq (show 1 < ws.length by omega)]
      rw [e]; exact wrong_11a nm l n m f t by_ ta in_ A c 0 g cap ws W hWA hg hm hc hl h2 ht
    · have e : wrongP ⟨11, nm, l, n, m, f, t, by_, ta, in_⟩ ws = 0 := by simp [wrongP, ht]
      rw [e]; exact wrong_11b nm l n m f t by_ ta in_ A c 0 g cap ws W hWA hg hm hc hl (eq_true_of_ne_false ht)
  · by_cases h0 : n = 0
    · have e : wrongP ⟨7, nm, l, n, m, f, t, by_, ta, in_⟩ ws = ws[2].1 := by simp [wrongP, h0, colAt_eq (show 2 < ws.length by omega)]
      rw [e]; exact wrong_7a nm l n m f t by_ ta in_ A c 0 g cap ws W hWA hg hm hc hl h4 h0
    · by_cases ht : timeP m = false
      · have e : wrongP ⟨7, nm, l, n, m, f, t, by_, ta, in_⟩ ws = ws[3].1 := by simp [wrongP, h0, ht, colAt_eq (show 3 < ws.length by omega)]
        rw [e]; exact wrong_7b nm l n m f t by_ ta in_ A c 0 g cap ws W hWA hg hm hc hl h4 h0 ht
      · have e : wrongP ⟨7, nm, l, n, m, f, t, by_, ta, in_⟩ ws = 0 := by simp [wrongP, h0, ht]
        rw [e]; exact wrong_7c nm l n m f t by_ ta in_ A c 0 g cap ws W hWA hg hm hc hl h0 (eq_true_of_ne_false ht)

theorem mis_zero {ws : List (Nat × Tx)} {s : St} (hpos : ∀ x ∈ ws, 1 ≤ x.1) (h1 : 0 < ws.length) (h : misP ws s = 0) : ws.length ≤ s.k ∧ s.m = false := by
  unfold misP at h
  split at h
  · rename_i hk
    rw [colAt_eq hk] at h
    have := hpos ws[s.k] (List.getElem_mem _)
    omega
  · rename_i hk
    split at h
    · rename_i hm; exact ⟨by omega, hm⟩
    · unfold endP at h
      rw [colAt_eq (show ws.length - 1 < ws.length by omega)] at h
      have := hpos ws[ws.length - 1] (List.getElem_mem _)
      omega
theorem parseW_to (s : ByteArray) (n : Int) (ws : List (Nat × Tx)) (w : World) (hpos : 0 < ws.length) (hlen : ws.length ≤ 1099511627776) (hcol0 : ∀ x ∈ ws, 1 ≤ x.1) (hsz : ∀ j (h : j < ws.length), ws[j].2.length ≤ maxLen) (hcol : ∀ j (h : j < ws.length), ws[j].1 + ws[j].2.length ≤ 4611686018427387904)
    (hsp : ∀ W, Calls Tryz.prog 51 #[.string s] W (SplitTo ws 0 W)) :
    Calls Tryz.prog 26 #[.string s, .int .i64 n] w (ParseTo (parseW ws) n w) := by
  have hru := fun b g cap W h => rule_any b g cap ws W h
  have hF : (ruleP (tx ws)).2.m = false → (ruleP (tx ws)).2.k ≤ (tx ws).length → Formed (tx ws).length (ruleP (tx ws)).1 := formed
  rw [tx_len] at hF
  unfold parseW
  generalize ruleP (tx ws) = P at *
  obtain ⟨⟨kd, nm, l, rn, rm, rf, rt, rb, ra, ri⟩, s'⟩ := P
  simp only at hF ⊢
  by_cases hM : 0 < misP ws s'
  · rw [if_pos hM]
    exact parse_misfit s n ws kd nm l rn rm rf rt rb ra ri s' w hpos hlen hsz hcol hru hM hsp
  · rw [if_neg hM]
    have hM0 : misP ws s' = 0 := by omega
    obtain ⟨hk, hm⟩ := mis_zero hcol0 hpos hM0
    have hwr := fun (hk2 : s'.k ≤ ws.length) W g cap A c h1 h2 h3 => wrong_any ⟨kd, nm, l, rn, rm, rf, rt, rb, ra, ri⟩ ws (hF hm hk2) hlen W g cap A c h1 h2 h3
    by_cases hK : 0 < wrongP ⟨kd, nm, l, rn, rm, rf, rt, rb, ra, ri⟩ ws
    · rw [if_pos hK]
      exact parse_wrong s n ws kd nm l rn rm rf rt rb ra ri s' w hpos hlen hsz hcol hru hM0 _ hwr hK hsp
    · rw [if_neg hK]
      have h0 : wrongP ⟨kd, nm, l, rn, rm, rf, rt, rb, ra, ri⟩ ws = 0 := by omega
      rw [h0] at hwr
      exact parse_ok s n ws kd nm l rn rm rf rt rb ra ri s' w hpos hlen hsz hcol hru hM0 hwr hsp
theorem Parse_any (s : ByteArray) (n : Int) (w : World) (hs : s.size ≤ 1152921504606846976) (hb : badL s.data.toList = 0 → (partL s.data.toList).length ≤ 1099511627776) :
    Calls Tryz.prog 26 #[.string s, .int .i64 n] w (ParseTo (parseL s.data.toList) n w) := by
  have hsp := fun W => Split_any s W (by unfold maxLen; omega) hb
  have hbo := words_bounds s.data.toList
  have hct := words_count s.data.toList
  unfold parseL
  by_cases h0 : badL s.data.toList = 0
  · rw [if_neg (by omega)]
    have hb' := hb h0
    rw [h0] at hsp
    clear hb
    rw [size_list] at hbo
    generalize wordsL s.data.toList = ws at *
    cases ws with
    | nil => rw [if_pos rfl]; exact parse_empty s n w hsp
    | cons a r =>
      rw [if_neg (by simp)]
      refine parseW_to s n (a :: r) w (by simp) (by omega) (fun x hx => (hbo x hx).1) ?_ ?_ hsp
      · intro j h; have := hbo _ (List.getElem_mem h); unfold maxLen; omega
      · intro j h; have := hbo _ (List.getElem_mem h); omega
  · have hpos : 0 < badL s.data.toList := by omega
    rw [if_pos hpos]
    have hw : wordsL s.data.toList = [] := by simp [wordsL, h0]
    rw [hw] at hsp
    exact parse_bad s n _ w hpos hsp
end Go.Proofs.YtahhepmhdcbplaaGreatDoor
