/-
  Package enter: last; a list of states appended to another one, whatever it is.
-/
import Derived.Test.YtbacdllokgcohaaEn2
import Derived.Laws.AppendOwnNone
namespace Go.Proofs.Ytbacdllokgcohaa
set_option maxRecDepth 100000
open Go.ChangeShapes Go.WideShapes Go.ChangeAt Go.RowKit

theorem own_cells {w : World} {base : Nat} {g n c : Nat} {L : List Nat} (h : OwnN w base (.slice (some ⟨g, 0, none⟩) n c) L) : ∀ j u, (icells (L.map fun k : Nat => (k : Int)))[j]? = some u → w.cell? ((⟨g, 0, none⟩ : Addr).add j) = some u := fun j u hu => by
  have h0 : 0 < L.length := by
    have := (List.getElem?_eq_some_iff.1 hu).1
    rw [icells_length, List.length_map] at this
    omega
  obtain ⟨g', cap, e, _, _, _, hc⟩ := own_form h h0
  injection e with e1 _ _
  injection e1 with e1
  rw [e1, Go.WideShapes.add_plain, Nat.zero_add]
  injection e1 with e1
  exact hc j u hu
theorem wpList_append_nn {w : World} {ops : Array Oper} {rest : List Oper} {o : Oper} {a : Act} {Q : Exit → Act → World → Prop} (hgd : o.guard = none) (s x : Operand)
    (ho : o.op = .call { callee := .builtin .append, args := #[s, x], argTypes := #[22, 22] })
    {base base' : Nat} {v u : Value} {L M : List Nat} (hs : a.eval s = v) (hown : OwnN w base v L) (hx : a.eval x = u) (hu : OwnN w base' u M)
    (hlen : L.length + M.length ≤ 1000) (hbase : base ≤ w.heap.size)
    (h : ∀ v' w', OwnN w' base v' (L ++ M) → w.grownBy w' v.ownBlock → wpList Try.prog ops Q rest (a.put o.dst v') w') : wpList Try.prog ops Q (o :: rest) a w := by
  obtain ⟨i0, hi, hz0, hz1, hz2⟩ := info_parts Try.infoInt
  have hic : (icells (M.map fun k : Nat => (k : Int))).length = M.length := by rw [icells_length, List.length_map]
  obtain ⟨A9, c9, rfl⟩ := own_slice hu
  cases A9 with
  | none =>
    have h0 := own_none hu
    have e : M = [] := List.eq_nil_of_length_eq_zero h0.1
    subst e
    obtain rfl : c9 = 0 := h0.2
    refine wpList_append_own_none hgd s x 22 ho base 3 i0 1 Try.underlying22 hi v L.length _ hs hown hx ?_
    refine h v w ?_ ⟨rfl, rfl, rfl, Nat.le_refl _, fun _ _ _ => rfl⟩
    rw [List.append_nil]; exact hown
  | some ad =>
    obtain ⟨g, rfl⟩ := own_some hu
    refine wpList_append_own _ hgd s x 22 ho base 3 i0 _ 1 8 Try.underlying22 hi hz0 hz1 hz2 rfl (by decide) v L.length _ hs hown ⟨g, 0, none⟩ M.length c9 _ hx (by rw [hic, Nat.mul_one]) (own_cells hu) (icells_one _) (by unfold maxLen; omega) (by omega) hbase ?_
    intro v' w' h1 h2 _
    refine h v' w' ?_ h2
    unfold OwnN
    rw [List.length_append, List.map_append]
    unfold icells at *
    rw [List.map_append]
    exact h1
theorem one_own (w : World) (base : Nat) (k : Nat) (hb : base ≤ w.heap.size) : OwnN (w.alloc (.cells #[.int .i64 (k : Int)] 3)) base (.slice (some ⟨w.heap.size, 0, none⟩) 1 1) [k] :=
  World.ownsRow_lit w #[.int .i64 (k : Int)] 1 hb (by unfold maxLen; omega) rfl
theorem nat_ints {w : World} {base c : Nat} {A : Option Addr} {l : List Nat} (h : OwnN w base (.slice A l.length c) l) (hk : ∀ k ∈ l, k < 1000) (hl : l.length ≤ 1000) : IntsAt w (.slice A l.length c) (l.map fun k : Nat => (k : Int)) := by
  have h1 := h.ints
  have e : (l.map fun k : Nat => (k : Int)).length = l.length := List.length_map ..
  rw [← e] at h1 ⊢
  refine ints_of_own h1 (fun x hx => ?_) (by rw [e]; exact hl)
  obtain ⟨k, hm, rfl⟩ := List.mem_map.1 hx
  have := hk k hm
  have e2 : IntKind.i64.wrap (k : Int) = k := by rw [IntKind.wrap_i64]; omega
  simp only [Lit.wf, e2]
  simp
  have e3 : IntKind.i64.max = 9223372036854775807 := by kernel_rfl
  have e4 : IntKind.i64.min = -9223372036854775808 := by kernel_rfl
  omega
theorem nat_cell {w : World} {A : Option Addr} {n c : Nat} {l : List Nat} (h : IntsAt w (.slice A n c) (l.map fun k : Nat => (k : Int))) {j : Nat} (hj : j < l.length) :
    ∃ b off, A = some ⟨b, off, none⟩ ∧ b < w.heap.size ∧ w.cell? ⟨b, off + j, none⟩ = some (.int .i64 (l[j] : Nat)) := by
  obtain ⟨b, off, e, hb, hx, _⟩ := ints_cell h (k := j) (by rw [List.length_map]; exact hj)
  refine ⟨b, off, e, hb, ?_⟩
  rw [hx]; simp [List.getD_eq_getElem?_getD, hj]

section
variable {ks ps : List Int} {A B : Option Addr} {n c d : Nat}
/-- the state that was left last, or the first one -/
def lastL (ks ps : List Int) (n s : Nat) (p : Int) : Int := match (kidsTo ps p n).find? fun k => s.testBit k && hl ks k with
  | some k => k
  | none => iniTo ks ps p n
theorem last_hit {s : Nat} {p : Int} {l : List Nat} (e : kidsTo ps p n = l) {j : Nat} (hj : j < l.length) (h : (s.testBit l[j] && hl ks l[j]) = true) (hn : ∀ i (hi : i < j), (s.testBit l[i] && hl ks l[i]) = false) : lastL ks ps n s p = (l[j] : Nat) := by
  unfold lastL
  have : (kidsTo ps p n).find? (fun k => s.testBit k && hl ks k) = some l[j] := by
    subst e
    rw [List.find?_eq_some_iff_getElem]
    exact ⟨h, j, hj, rfl, fun i hi => by simp [hn i hi]⟩
  rw [this]
theorem last_miss {s : Nat} {p : Int} {l : List Nat} (e : kidsTo ps p n = l) (hn : ∀ i (hi : i < l.length), (s.testBit l[i] && hl ks l[i]) = false) : lastL ks ps n s p = iniTo ks ps p n := by
  unfold lastL
  have : (kidsTo ps p n).find? (fun k => s.testBit k && hl ks k) = none := by
    subst e
    rw [List.find?_eq_none]
    intro k hk
    obtain ⟨i, hi, rfl⟩ := List.getElem_of_mem hk
    rw [hn i hi]; simp
  rw [this]
set_option maxHeartbeats 2000000 in
theorem last_any (p : Nat) (v : Value) (rs : List Nat) (w : World) (h : IntsAt w (.slice A n c) ks ∧ IntsAt w (.slice B n d) ps) (hf : ShF ks ps n) (hn : n ≤ 24) (hu : U32sAt w v rs) :
    Calls Try.prog 94 #[.agg #[.slice A n c, .slice B n d], .int .i64 p, v] w fun e w' => e = .returned (.int .i64 (lastL ks ps n (rs.getD p 0) p)) ∧ Below w.heap.size w w' := by
  obtain ⟨A7, c7, rfl⟩ := u32s_form hu
  have x0 := box_0 w 25 (.slice A n c) (.slice B n d)
  have x1 := box_1 w 25 (.slice A n c) (.slice B n d)
  have hz := box_b w (.cells #[.slice A n c, .slice B n d] 25)
  have hlt0 : w.heap.size < (w.alloc (.cells #[.slice A n c, .slice B n d] 25)).heap.size := by simp
  have S1 := Lib.hid (shp_below h hz)
  have HU := Lib.hid (hu.below hz)
  have HZ := Lib.hid hz
  have HF := Lib.hid hf
  have hs32 := u32s_lt hu p
  have hsz : szN ks ps = n := by unfold szN; rw [hf.kl, hf.pl]; omega
  clear h hz hf hu
  go_enter Try.func94, Try.ntmps94
  go_upto_region 1 with (fail)
  generalize w.alloc (.cells #[.slice A n c, .slice B n d] 25) = w0 at *
  have TO := Lib.hid (told_any _ rs p w0 HU.out)
  have KD := Lib.hid (fun W (hW : Below w0.heap.size w0 W) => Kids_any ks ps A B n c n d W p (shp_below S1.out hW) HF.out.kl.symm HF.out.pl.symm (by omega) (by omega))
  have IN := Lib.hid (fun W (hW : Below w0.heap.size w0 W) => Initial_any ks ps A B n c n d W p (shp_below S1.out hW) HF.out.kl.symm HF.out.pl.symm (by omega) (by omega))
  rw [hsz] at KD IN
  clear hsz
  have HA := Lib.hid (fun k W (hk : k < n) => hasE_any (rs.getD p 0) k W hs32 (by omega))
  have LH := Lib.hid (fun l e j hj h hn => last_hit (ks := ks) (ps := ps) (n := n) (s := rs.getD p 0) (p := p) (l := l) e (j := j) hj h hn)
  have LM := Lib.hid (fun l e hn => last_miss (ks := ks) (ps := ps) (n := n) (s := rs.getD p 0) (p := p) (l := l) e hn)
  generalize hs0 : rs.getD p 0 = s at *
  have HS0 := Lib.hid hs0
  clear hs0
  have hmem : Hid (∀ k ∈ kidsTo ps p n, k < n) := fun k hk => (mem_kidsTo.1 hk).1
  have hlen := kidsTo_len ps p n
  generalize hl0 : kidsTo ps p n = l at *
  have HL0 := Lib.hid hl0
  clear hl0
  go_wp2_with (first
    | (go_at_call 134; refine TO.out.mono ?_; rintro e w1 ⟨rfl, rfl⟩)
    | (go_at_call 88; refine (KD.out _ (Below.refl _ _)).mono ?_; rintro e w2 ⟨v2, rfl, hO, hb2⟩; obtain ⟨A9, c9, rfl⟩ := own_slice hO; rw [List.length_map]; rw [List.length_map] at hO))
  have I2 := Lib.hid (nat_ints (OwnN.of hO) (fun k hk => by have := hmem.out k hk; omega) (by omega))
  have HB2 := Lib.hid hb2
  have hbz2 := hb2.size
  clear hO hb2 TO KD
  go_loopw [17] (fun i wr => ∃ j : Nat, j ≤ l.length ∧ i = .int .i64 j ∧ Hid (∀ i (hi : i < l.length), i < j → (s.testBit l[i] && hl ks l[i]) = false) ∧ wr = w2) (fun i _ => l.length - (intOf i).toNat)
  case atStart => exact ⟨0, Nat.zero_le _, rfl, fun i hi h => by omega, rfl⟩
  case round =>
    obtain ⟨j, hj, rfl, HN, rfl⟩ := hrel
    have z0 := (HB2.out.cell (p := ⟨w.heap.size, 0, none⟩) hlt0).trans x0
    have z1 := (HB2.out.cell (p := ⟨w.heap.size, 1, none⟩) hlt0).trans x1
    by_cases hlt : j < l.length
    · have hji : (j : Int) < l.length := by omega
      obtain ⟨b9, off9, rfl, hb9, hx9⟩ := nat_cell I2.out hlt
      have hk := hmem.out _ (List.getElem_mem hlt)
      obtain ⟨b, off, rfl, hb, hx, _⟩ := ints_cell (shp_below S1.out HB2.out).1 (k := l[j]) (by rw [HF.out.kl]; exact hk)
      have hki : (l[j] : Int) < n := by omega
      have HK := Lib.hid (HA.out l[j] wr hk)
      have hkd := HF.out.kd l[j] hk
      have HH : Hid (hl ks l[j] = (ks.getD l[j] 0 == 1 || ks.getD l[j] 0 == 2)) := rfl
      have HNX : Hid ((s.testBit l[j] && hl ks l[j]) = false → ∀ i (hi : i < l.length), i < j + 1 → (s.testBit l[i] && hl ks l[i]) = false) := fun hh i hi hij => by
        by_cases e : i = j
        · subst e; exact hh
        · exact HN.out i hi (by omega)
      have HHT : Hid ((s.testBit l[j] && hl ks l[j]) = true → lastL ks ps n s p = (l[j] : Nat)) := fun hh => LH.out l rfl j hlt hh (fun i hi => HN.out i (by omega) hi)
      clear HN LH LM
      generalize hs9 : s.testBit l[j] = bt at *
      clear hs9
      generalize hl ks l[j] = hb3 at *
      generalize ks.getD l[j] 0 = z at *
      generalize l[j] = k at *
      have hcases : bt = false ∨ (bt = true ∧ z = 3) ∨ (bt = true ∧ z = 4) ∨ (bt = true ∧ z ≠ 3 ∧ z ≠ 4) := by
        cases bt
        · exact .inl rfl
        · by_cases h3 : z = 3
          · exact .inr (.inl ⟨rfl, h3⟩)
          · by_cases h4 : z = 4
            · exact .inr (.inr (.inl ⟨rfl, h4⟩))
            · exact .inr (.inr (.inr ⟨rfl, h3, h4⟩))
      rcases hcases with rfl | ⟨rfl, rfl⟩ | ⟨rfl, rfl⟩ | ⟨rfl, h3, h4⟩
      · have HX := Lib.hid (HNX.out rfl)
        clear HNX HHT
        go_wp2_with (go_at_call 135; refine HK.out.mono ?_; rintro e w3 ⟨rfl, rfl⟩)
        go_roundw
        case rel => exact ⟨j + 1, by omega, by go_num, HX, trivial⟩
        case measure => simp [intOf]; omega
      · have HX := Lib.hid (HNX.out (by rw [HH.out]; decide))
        clear HNX HHT HH
        go_wp2_with (go_at_call 135; refine HK.out.mono ?_; rintro e w3 ⟨rfl, rfl⟩)
        go_roundw
        case rel => exact ⟨j + 1, by omega, by go_num, HX, trivial⟩
        case measure => simp [intOf]; omega
      · have HX := Lib.hid (HNX.out (by rw [HH.out]; decide))
        clear HNX HHT HH
        go_wp2_with (go_at_call 135; refine HK.out.mono ?_; rintro e w3 ⟨rfl, rfl⟩)
        go_roundw
        case rel => exact ⟨j + 1, by omega, by go_num, HX, trivial⟩
        case measure => simp [intOf]; omega
      · have HX := Lib.hid (HHT.out (by
          rw [HH.out]
          have : z = 1 ∨ z = 2 := by omega
          rcases this with rfl | rfl <;> decide))
        have g3 : (z != 3) = true := by simpa using h3
        have g4 : (z != 4) = true := by simpa using h4
        clear HNX HHT HH
        go_wp2_with (go_at_call 135; refine HK.out.mono ?_; rintro e w3 ⟨rfl, rfl⟩)
        go_ret
        exact ⟨ret_int (by rw [HS0.out]; exact HX.out.symm), below_then HZ.out HB2.out HZ.out.size⟩
    · have HX := Lib.hid (LM.out l rfl (fun i hi => HN.out i hi (by omega)))
      clear HN LH LM
      go_wp2_with (go_at_call 60; refine (IN.out _ HB2.out).mono ?_; rintro e w3 ⟨rfl, hb3⟩)
      go_ret
      exact ⟨ret_int (by rw [HS0.out]; exact HX.out.symm), below_then HZ.out (below_then HB2.out hb3 HB2.out.size) HZ.out.size⟩
end
end Go.Proofs.Ytbacdllokgcohaa
