/-
  Package enter: inside, told, union.
-/
import Derived.Test.YtbacdllokgcohaaSh6
namespace Go.Proofs.Ytbacdllokgcohaa
set_option maxRecDepth 100000
open Go.ChangeShapes Go.WideShapes Go.ChangeAt Go.RowKit

/-- the states of a set that are properly under a place -/
def insL (ps : List Int) (s : Nat) (t : Int) (n : Nat) : List Nat := (List.range n).filter fun k : Nat => s.testBit k && (decide ((k : Int) ≠ t) && undB ps k t)
theorem insL_succ (ps : List Int) (s : Nat) (t : Int) (k : Nat) : insL ps s t (k + 1) = if (s.testBit k && (decide ((k : Int) ≠ t) && undB ps k t)) = true then insL ps s t k ++ [k] else insL ps s t k := by
  unfold insL
  rw [List.range_succ, List.filter_append, List.filter_cons, List.filter_nil]
  split
  · rfl
  · rw [List.append_nil]
theorem insL_len (ps : List Int) (s : Nat) (t : Int) (k : Nat) : (insL ps s t k).length ≤ k := by
  have := List.length_filter_le (fun k : Nat => s.testBit k && (decide ((k : Int) ≠ t) && undB ps k t)) (List.range k)
  rw [List.length_range] at this
  exact this
theorem leave_ins (ps : List Int) (n s : Nat) (d : Int) : leaveL ps n s d = (insL ps s d n).reverse := by
  unfold leaveL insL
  rw [List.filter_reverse]
theorem hist_ins (ps : List Int) (n s : Nat) (p : Int) : ((List.range n).filter fun i : Nat => decide ((i : Int) ≠ p) && undB ps i p && s.testBit i) = insL ps s p n := by
  unfold insL
  apply List.filter_congr
  intro i _
  rw [Bool.and_comm]
/-- the set of these states -/
def setN (l : List Nat) : Nat := l.foldl (fun s k => s ||| 2 ^ k) 0
theorem setN_snoc (l : List Nat) (k : Nat) : setN (l ++ [k]) = setN l ||| 2 ^ k := by unfold setN; rw [List.foldl_append]; rfl
theorem setN_bit (j : Nat) : ∀ l : List Nat, (setN l).testBit j = decide (j ∈ l) := by
  have key : ∀ (l : List Nat) (s : Nat), (l.foldl (fun s k => s ||| 2 ^ k) s).testBit j = (s.testBit j || decide (j ∈ l)) := by
    intro l
    induction l with
    | nil => intro s; simp
    | cons a r ih =>
      intro s
      rw [List.foldl_cons, ih, Nat.testBit_or, Nat.testBit_two_pow]
      by_cases e : a = j
      · subst e; simp
      · have e2 : decide (a = j) = false := decide_eq_false e
        rw [e2, Bool.or_false]
        congr 1
        rw [Bool.eq_iff_iff, decide_eq_true_eq, decide_eq_true_eq, List.mem_cons]
        constructor
        · exact .inr
        · rintro (h | h)
          · exact absurd h.symm e
          · exact h
  intro l
  unfold setN
  rw [key]; simp
theorem setN_lt {l : List Nat} {n : Nat} (h : ∀ k ∈ l, k < n) : setN l < 2 ^ n := by
  apply Nat.lt_pow_two_of_testBit
  intro i hi
  rw [setN_bit]
  exact decide_eq_false fun hm => by have := h i hm; omega
/-- a list of states in memory of the call's own -/
def OwnN (w : World) (base : Nat) (v : Value) (l : List Nat) : Prop := w.ownsRow base 3 1 v l.length (icells (l.map fun k : Nat => (k : Int)))
theorem OwnN.ints {w : World} {base : Nat} {v : Value} {l : List Nat} (h : OwnN w base v l) : OwnI w base v (l.map fun k : Nat => (k : Int)) := by
  unfold OwnI; rw [List.length_map]; exact h
theorem OwnN.of {w : World} {base : Nat} {v : Value} {l : List Nat} (h : OwnI w base v (l.map fun k : Nat => (k : Int))) : OwnN w base v l := by
  unfold OwnI at h; rw [List.length_map] at h; exact h
theorem OwnN.nil (w : World) (base : Nat) : OwnN w base (.slice none 0 0) [] := World.ownsRow_nil _ _ _ _
theorem OwnN.snoc {w : World} {base : Nat} {v : Value} {l l' : List Nat} {k : Nat} (e : l' = l ++ [k]) (h : w.ownsRow base 3 1 v (l.length + 1) (icells (l.map fun k : Nat => (k : Int)) ++ [.int .i64 (k : Int)])) : OwnN w base v l' := by
  subst e; unfold OwnN; rw [icells_snoc, List.length_append]; exact h
theorem U32sAt.below {w w' : World} {v : Value} {rs : List Nat} (h : U32sAt w v rs) (hb : Below w.heap.size w w') : U32sAt w' v rs := by
  obtain ⟨A, c, e, hl, hc⟩ := h
  refine ⟨A, c, e, hl, fun k hk => ?_⟩
  obtain ⟨b, off, e2, hlt, hx, hw⟩ := hc k hk
  exact ⟨b, off, e2, Nat.lt_of_lt_of_le hlt hb.size, (hb.cell (p := ⟨b, off + k, none⟩) hlt).trans hx, hw⟩
theorem u32s_form {w : World} {u : Value} {rs : List Nat} (h : U32sAt w u rs) : ∃ A c, u = .slice A rs.length c := let ⟨A, c, e, _⟩ := h; ⟨A, c, e⟩
theorem u32s_cell {w : World} {A : Option Addr} {n c : Nat} {rs : List Nat} (h : U32sAt w (.slice A n c) rs) {k : Nat} (hk : k < rs.length) : ∃ b off, A = some ⟨b, off, none⟩ ∧ b < w.heap.size ∧ w.cell? ⟨b, off + k, none⟩ = some (.int .u32 (rs.getD k 0 : Nat)) ∧ rs.getD k 0 < 4294967296 := by
  obtain ⟨A', c', e, hl, hc⟩ := h
  obtain ⟨b, off, e2, hb, hx, hw⟩ := hc k hk
  injection e with e1 _ _
  subst e1
  have e3 : rs.getD k 0 = rs[k] := by simp [List.getD_eq_getElem?_getD, List.getElem?_eq_getElem hk]
  rw [e3]
  exact ⟨b, off, e2, hb, hx, hw⟩
theorem u32s_lt {w : World} {u : Value} {rs : List Nat} (h : U32sAt w u rs) (k : Nat) : rs.getD k 0 < 4294967296 := by
  by_cases hk : k < rs.length
  · obtain ⟨A, c, rfl⟩ := u32s_form h
    obtain ⟨_, _, _, _, _, h5⟩ := u32s_cell h hk
    exact h5
  · rw [List.getD_eq_getElem?_getD, List.getElem?_eq_none (by omega)]; decide
theorem told_any (v : Value) (rs : List Nat) (k : Nat) (w : World) (hu : U32sAt w v rs) :
    Calls Try.prog 134 #[v, .int .i64 k] w fun e w' => e = .returned (.int .u32 (rs.getD k 0 : Nat)) ∧ w = w' := by
  obtain ⟨A, c, rfl⟩ := u32s_form hu
  by_cases hk : k < rs.length
  · obtain ⟨b, off, rfl, hb, hx, _⟩ := u32s_cell hu hk
    have hki : (k : Int) < rs.length := by omega
    clear hu
    generalize rs.length = m at *
    generalize rs.getD k 0 = x at *
    go_enter Try.func134, Try.ntmps134
    go_wp2
    go_ret
    exact ⟨rfl, rfl⟩
  · have HE : Hid (rs.getD k 0 = 0) := by show _ = _; rw [List.getD_eq_getElem?_getD, List.getElem?_eq_none (by omega)]; rfl
    have hki : ¬ (k : Int) < rs.length := by omega
    clear hu
    generalize rs.length = m at *
    generalize rs.getD k 0 = x at *
    go_enter Try.func134, Try.ntmps134
    go_wp2
    go_ret
    exact ⟨ret_int (by rw [HE.out]; rfl), rfl⟩

section
variable {ks ps : List Int} {A B : Option Addr} {n c d : Nat}
set_option maxHeartbeats 2000000 in
theorem inside_any (s : Nat) (t : Int) (w : World) (h : IntsAt w (.slice A n c) ks ∧ IntsAt w (.slice B n d) ps) (hf : ShF ks ps n) (hn : n ≤ 24) (hs : s < 4294967296) :
    Calls Try.prog 102 #[.agg #[.slice A n c, .slice B n d], .int .u32 s, .int .i64 t] w (KidsTo (insL ps s t n) w) := by
  obtain ⟨i0, hi, hz0, hz1, hz2⟩ := info_parts Try.infoInt
  have x0 := box_0 w 25 (.slice A n c) (.slice B n d)
  have x1 := box_1 w 25 (.slice A n c) (.slice B n d)
  have hz := box_b w (.cells #[.slice A n c, .slice B n d] 25)
  have hlt0 : w.heap.size < (w.alloc (.cells #[.slice A n c, .slice B n d] 25)).heap.size := by simp
  have S1 := Lib.hid (shp_below h hz)
  have HZ := Lib.hid hz
  have HF := Lib.hid hf
  clear h hz hf
  go_enter Try.func102, Try.ntmps102
  go_upto_region 1 with (fail)
  generalize w.alloc (.cells #[.slice A n c, .slice B n d] 25) = w0 at *
  have HA := Lib.hid (fun k W (hk : k < n) => hasE_any s k W hs (by omega))
  have PR := Lib.hid (fun W (hW : Below w0.heap.size w0 W) (k : Nat) (hk : k < n) => properly_any k t W (shp_below S1.out hW) HF.out (by omega) hk)
  go_wp2
  go_loopw [7, 12] (fun v i wr => ∃ k : Nat, k ≤ n ∧ i = .int .i64 k ∧ Hid (OwnN wr w0.heap.size v (insL ps s t k)) ∧ Hid (Below w0.heap.size w0 wr)) (fun _ i _ => n - (intOf i).toNat)
  case atStart => exact ⟨0, Nat.zero_le _, rfl, World.ownsRow_nil _ _ _ _, Below.refl _ _⟩
  case round =>
    obtain ⟨k, hk, rfl, HO, HB⟩ := hrel
    have hbz := HB.out.size
    by_cases hlt : k < n
    · have z0 := (HB.out.cell (p := ⟨w.heap.size, 0, none⟩) hlt0).trans x0
      have z1 := (HB.out.cell (p := ⟨w.heap.size, 1, none⟩) hlt0).trans x1
      have hki : (k : Int) < n := by omega
      have hsn := insL_succ ps s t k
      have hln := insL_len ps s t k
      have HLN := Lib.hid hln
      have HK := Lib.hid (HA.out k wr hlt)
      have PK := Lib.hid (PR.out wr HB.out k hlt)
      obtain ⟨A5, c5, rfl⟩ := own_slice HO.out
      generalize (decide ((k : Int) ≠ t) && undB ps k t) = q at *
      generalize s.testBit k = b at *
      cases b
      · rw [if_neg (by simp)] at hsn
        have HNw : Hid (OwnN wr w0.heap.size (.slice A5 (insL ps s t k).length c5) (insL ps s t (k + 1))) := by show OwnN _ _ _ _; rw [hsn]; exact HO.out
        clear hsn
        go_wp2_with (go_at_call 135; refine HK.out.mono ?_; rintro e w2 ⟨rfl, rfl⟩)
        go_roundw
        case rel => exact ⟨k + 1, by omega, by go_num, HNw, HB⟩
        case measure => simp [intOf]; omega
      · cases q
        · rw [if_neg (by simp)] at hsn
          have HNw : Hid (∀ W, Below wr.heap.size wr W → OwnN W w0.heap.size (.slice A5 (insL ps s t k).length c5) (insL ps s t (k + 1))) := fun W hW => by rw [hsn]; exact own_below HO.out hW hbz
          clear hsn
          go_wp2_with (first
            | (go_at_call 135; refine HK.out.mono ?_; rintro e w2 ⟨rfl, rfl⟩)
            | (go_at_call 106; refine PK.out.mono ?_; rintro e w3 ⟨rfl, hb3⟩))
          go_roundw
          case rel => exact ⟨k + 1, by omega, by go_num, HNw.out _ hb3, below_then HB.out hb3 hbz⟩
          case measure => simp [intOf]; omega
        · rw [if_pos (by simp)] at hsn
          have HS := Lib.hid hsn
          clear hsn
          go_wp2_with (first
            | (go_at_call 135; refine HK.out.mono ?_; rintro e w2 ⟨rfl, rfl⟩)
            | (go_at_call 106; refine PK.out.mono ?_; rintro e w3 ⟨rfl, hb3⟩; have HO3 := Lib.hid (own_below HO.out hb3 hbz); have HB3 := Lib.hid (below_then HB.out hb3 hbz); have hbz3 := HB3.out.size; clear hb3)
            | (at_builtin; go_must (refine wpList_append_own _ rfl (.tmp 24) (.tmp 26) 22 rfl w0.heap.size 3 i0 _ 1 8 Try.underlying22 hi hz0 hz1 hz2 rfl (by decide) _ _ _ rfl (HO3.out.alloc _) ⟨w3.heap.size, 0, none⟩ 1 1 [.int .i64 k] rfl rfl (cells_new _ _ _) (by intro u hu; simp at hu; subst hu; rfl) (by have := HLN.out; unfold maxLen; omega) (by have := HLN.out; omega) (by have := HLN.out; simp; omega) ?_); intro v' w4 hown' hg' _))
          have hg2 : w3.grownBy w4 (Value.slice A5 (insL ps s t k).length c5).ownBlock := (World.grownBy_alloc _ _ _).andThen hg' (fun j e => .inr e)
          have HNw : Hid (OwnN w4 w0.heap.size v' (insL ps s t (k + 1))) := OwnN.snoc HS.out hown'
          have HB4 := Lib.hid (HB3.out.grown hg2 hbz3 (fun j e => (HO3.out.lt j e).1))
          clear hown' hg' hg2
          go_roundw
          case rel => exact ⟨k + 1, by omega, by go_num, HNw, HB4⟩
          case measure => simp [intOf]; omega
    · have e : k = n := by omega
      subst e
      go_wp2
      go_ret
      exact kidsTo_mk rfl (OwnN.ints (own_mono2 HO.out (by omega))) (below_then HZ.out HB.out HZ.out.size)
set_option maxHeartbeats 1000000 in
theorem union_any (l : List Nat) (cap : Nat) (w : World) (h : IntsAt w (.slice A l.length cap) (l.map fun k : Nat => (k : Int))) (hl : ∀ k ∈ l, k < 32) :
    Calls Try.prog 105 #[.slice A l.length cap] w fun e w' => e = .returned (.int .u32 (setN l : Nat)) ∧ w = w' := by
  have HH := Lib.hid h
  have HL := Lib.hid hl
  have hll : l.length ≤ maxLen := by obtain ⟨_, _, _, hl, _⟩ := h; rwa [List.length_map] at hl
  unfold maxLen at hll
  clear h hl
  go_enter Try.func105, Try.ntmps105
  go_wp2
  go_loopw [3, 8] (fun x i wr => ∃ k : Nat, k ≤ l.length ∧ i = .int .i64 k ∧ x = .int .u32 (setN (l.take k) : Nat) ∧ wr = w) (fun _ i _ => l.length - (intOf i).toNat)
  case atStart => exact ⟨0, Nat.zero_le _, rfl, rfl, rfl⟩
  case round =>
    obtain ⟨k, hk, rfl, rfl, rfl⟩ := hrel
    by_cases hlt : k < l.length
    · have hki : (k : Int) < l.length := by omega
      obtain ⟨b, off, rfl, hb, hx, _⟩ := ints_cell HH.out (k := k) (by rw [List.length_map]; exact hlt)
      have eg : (l.map fun k : Nat => (k : Int)).getD k 0 = (l[k] : Nat) := by simp [List.getD_eq_getElem?_getD, hlt]
      rw [eg] at hx
      have hj := HL.out _ (List.getElem_mem hlt)
      have h1 : setN (l.take (k + 1)) = setN (l.take k) ||| 2 ^ l[k] := by
        rw [List.take_succ_eq_append_getElem hlt, setN_snoc]
      have hS : setN (l.take k) < 4294967296 := setN_lt (n := 32) fun j hj => HL.out j (List.mem_of_mem_take hj)
      have h2 := two_lt (k := l[k]) hj
      have hor := u32_or_nat (setN (l.take k)) (2 ^ l[k]) hS h2
      have hsh := two_val (i := l[k]) hj
      have HE := Lib.hid h1
      clear h1 eg
      generalize 2 ^ l[k] = p at *
      generalize l[k] = j at *
      generalize setN (l.take k) = s0 at *
      go_wp2
      go_roundw
      case rel => exact ⟨k + 1, by omega, by go_num, by rw [HE.out], trivial⟩
      case measure => simp [intOf]; omega
    · have e : k = l.length := by omega
      subst e
      rw [List.take_length]
      go_wp2
      go_ret
      exact ⟨rfl, rfl⟩
end
end Go.Proofs.Ytbacdllokgcohaa
