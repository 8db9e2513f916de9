/-
  Package shape: Initial, Kids, open.
-/
import Derived.Test.YtbacdllokgcohaaOwnSome
import Derived.Maps.Range
namespace Go.Proofs.Ytbacdllokgcohaa
set_option maxRecDepth 100000
open Go.ChangeShapes Go.WideShapes Go.ChangeAt Go.RowKit

theorem Try.infoInt : (Try.prog.info? 3).map (fun i => (i.zero, i.size, i.bytes)) = some (some (.int .i64 0), 1, 8) := by kernel_rfl
theorem own_mono2 {w : World} {base base' e size n : Nat} {v : Value} {xs : List Value} (h : w.ownsRow base e size v n xs) (hle : base' ≤ base) : w.ownsRow base' e size v n xs :=
  ⟨h.1, h.2.elim .inl fun ⟨g, cap, cur, e, hb, r⟩ => .inr ⟨g, cap, cur, e, Nat.le_trans hle hb, r⟩⟩
def icells (l : List Int) : List Value := l.map (Value.int .i64)
/-- a list of integers in memory of the call's own -/
def OwnI (w : World) (base : Nat) (v : Value) (l : List Int) : Prop := w.ownsRow base 3 1 v l.length (icells l)

section
variable (ks ps : List Int) (A B : Option Addr) (n c m d : Nat) (w : World)
set_option maxHeartbeats 1000000 in
theorem Initial_any (a : Int) (h : IntsAt w (.slice A n c) ks ∧ IntsAt w (.slice B m d) ps) (hn : n = ks.length) (hm : m = ps.length) (hn2 : n ≤ 100) (hm2 : m ≤ 100) :
    Calls Try.prog 60 #[.agg #[.slice A n c, .slice B m d], .int .i64 a] w fun e w' => e = .returned (.int .i64 (iniTo ks ps a (szN ks ps))) ∧ Below w.heap.size w w' := by
  have x0 := box_0 w 25 (.slice A n c) (.slice B m d)
  have x1 := box_1 w 25 (.slice A n c) (.slice B m d)
  have hz := box_b w (.cells #[.slice A n c, .slice B m d] 25)
  have S1 := Lib.hid (shp_below h hz)
  have HZ := Lib.hid hz
  have hlt : w.heap.size < (w.alloc (.cells #[.slice A n c, .slice B m d] 25)).heap.size := by simp
  have SZ := Lib.hid (fun W => size_any 25 A B n c m d W (by omega) (by omega))
  have HN : Hid (szN ks ps = min n m) := by show _ = _; rw [hn, hm]; rfl
  have H1 := Lib.hid hn
  have H2 := Lib.hid hm
  clear h hz hn hm
  go_enter Try.func60, Try.ntmps60
  go_wp2_with (go_at_call 97; refine (SZ.out _).mono ?_; rintro e w1 ⟨rfl, hb1⟩)
  have y0 := (hb1.cell (p := ⟨w.heap.size, 0, none⟩) hlt).trans x0
  have y1 := (hb1.cell (p := ⟨w.heap.size, 1, none⟩) hlt).trans x1
  have S2 := Lib.hid (shp_below S1.out hb1)
  have HZ2 := Lib.hid (below_then HZ.out hb1 HZ.out.size)
  have hlt2 : w.heap.size < w1.heap.size := Nat.lt_of_lt_of_le hlt hb1.size
  clear S1 HZ x0 x1 hb1 hlt SZ
  have hqm : min n m ≤ m := Nat.min_le_right _ _
  have hqn : min n m ≤ n := Nat.min_le_left _ _
  generalize min n m = q at *
  go_loopw [5, 8] (fun _ i wr => ∃ k : Nat, k ≤ q ∧ i = .int .i64 k ∧ Hid (Below w1.heap.size w1 wr) ∧ Hid (∀ j, j < k → isKid ks ps a j = false)) (fun _ i _ => q - (intOf i).toNat)
  case atStart => exact ⟨0, Nat.zero_le _, rfl, Below.refl _ _, fun j hj => by omega⟩
  case round =>
    obtain ⟨k, hk, rfl, HB, HI⟩ := hrel
    have z0 := (HB.out.cell (p := ⟨w.heap.size, 0, none⟩) hlt2).trans y0
    have z1 := (HB.out.cell (p := ⟨w.heap.size, 1, none⟩) hlt2).trans y1
    by_cases hlt : k < q
    · have hkm : (k : Int) < m := by omega
      obtain ⟨b, off, rfl, hb, hx, hw⟩ := ints_cell (HB.out |> shp_below S2.out).2 (k := k) (by have := H2.out; omega)
      have HO := Lib.hid (holds_any ks A (some ⟨b, off, none⟩) n c m d k wr (shp_below S2.out HB.out).1 H1.out (by omega) (by omega))
      have HT : Hid (isKid ks ps a k = false → ∀ j, j < k + 1 → isKid ks ps a j = false) := fun hh j hj => by
        by_cases e : j = k
        · subst e; exact hh
        · exact HI.out j (by omega)
      have HH : Hid (isKid ks ps a k = true → iniTo ks ps a q = k) := fun hh => ini_hit hlt hh HI.out
      have HD : Hid (isKid ks ps a k = (ps.getD k 0 == a && hl ks k)) := rfl
      clear HI hw
      generalize ps.getD k 0 = z at *
      generalize hl ks k = hb2 at *
      rcases bor_cases (a := z == a) with g | g
      · cases hb2
        · have HT2 := Lib.hid (HT.out (by rw [HD.out, g]; rfl))
          clear HT HH HD
          go_wp2_with (go_at_call 98; refine HO.out.mono ?_; rintro e w2 ⟨rfl, hb2⟩)
          go_roundw
          case rel => exact ⟨k + 1, by omega, by go_num, below_then HB.out hb2 HB.out.size, HT2⟩
          case measure => simp [intOf]; omega
        · have HE := Lib.hid (HH.out (by rw [HD.out, g]; rfl))
          clear HT HH HD
          go_wp2_with (go_at_call 98; refine HO.out.mono ?_; rintro e w2 ⟨rfl, hb2⟩)
          go_ret
          exact ⟨ret_int (by rw [HN.out, HE.out]), below_then HZ2.out (below_then HB.out hb2 HB.out.size) HZ2.out.size⟩
      · have HT2 := Lib.hid (HT.out (by rw [HD.out, g]; rfl))
        clear HT HH HD HO
        go_wp2
        go_roundw
        case rel => exact ⟨k + 1, by omega, by go_num, HB, HT2⟩
        case measure => simp [intOf]; omega
    · have HE : Hid (iniTo ks ps a q = -1) := ini_miss fun j hj => HI.out j (by omega)
      clear HI
      go_wp2
      go_ret
      exact ⟨ret_int (by rw [HN.out, HE.out]), below_then HZ2.out HB.out HZ2.out.size⟩
def KidsTo (l : List Nat) (w : World) (e : Ending) (w' : World) : Prop := ∃ v, e = .returned v ∧ OwnI w' w.heap.size v (l.map fun k : Nat => (k : Int)) ∧ Below w.heap.size w w'
theorem kidsTo_mk {l l' : List Nat} {w w' : World} {v : Value} (e : l' = l) (h : OwnI w' w.heap.size v (l'.map fun k : Nat => (k : Int))) (hb : Below w.heap.size w w') : KidsTo l w (.returned v) w' := by
  subst e; exact ⟨v, rfl, h, hb⟩
theorem icells_snoc (l : List Nat) (k : Nat) : icells ((l ++ [k]).map fun k : Nat => (k : Int)) = icells (l.map fun k : Nat => (k : Int)) ++ [.int .i64 (k : Int)] := by simp [icells]
set_option maxHeartbeats 1000000 in
theorem Kids_any (a : Int) (h : IntsAt w (.slice A n c) ks ∧ IntsAt w (.slice B m d) ps) (hn : n = ks.length) (hm : m = ps.length) (hn2 : n ≤ 100) (hm2 : m ≤ 100) :
    Calls Try.prog 88 #[.agg #[.slice A n c, .slice B m d], .int .i64 a] w (KidsTo (kidsTo ps a (szN ks ps)) w) := by
  obtain ⟨i0, hi, hz0, hz1, hz2⟩ := info_parts Try.infoInt
  have x0 := box_0 w 25 (.slice A n c) (.slice B m d)
  have x1 := box_1 w 25 (.slice A n c) (.slice B m d)
  have hz := box_b w (.cells #[.slice A n c, .slice B m d] 25)
  have S1 := Lib.hid (shp_below h hz)
  have HZ := Lib.hid hz
  have hlt : w.heap.size < (w.alloc (.cells #[.slice A n c, .slice B m d] 25)).heap.size := by simp
  have SZ := Lib.hid (fun W => size_any 25 A B n c m d W (by omega) (by omega))
  have HN : Hid (szN ks ps = min n m) := by show _ = _; rw [hn, hm]; rfl
  have H1 := Lib.hid hn
  have H2 := Lib.hid hm
  clear h hz hn hm
  go_enter Try.func88, Try.ntmps88
  go_wp2_with (go_at_call 97; refine (SZ.out _).mono ?_; rintro e w1 ⟨rfl, hb1⟩)
  have y0 := (hb1.cell (p := ⟨w.heap.size, 0, none⟩) hlt).trans x0
  have y1 := (hb1.cell (p := ⟨w.heap.size, 1, none⟩) hlt).trans x1
  have S2 := Lib.hid (shp_below S1.out hb1)
  have HZ2 := Lib.hid (below_then HZ.out hb1 HZ.out.size)
  have hlt2 : w.heap.size < w1.heap.size := Nat.lt_of_lt_of_le hlt hb1.size
  clear S1 HZ x0 x1 hb1 hlt SZ
  have hqm : min n m ≤ m := Nat.min_le_right _ _
  have hqn : min n m ≤ n := Nat.min_le_left _ _
  generalize min n m = q at *
  go_loopw [5, 9] (fun v i wr => ∃ k : Nat, k ≤ q ∧ i = .int .i64 k ∧ Hid (OwnI wr w1.heap.size v ((kidsTo ps a k).map fun k : Nat => (k : Int))) ∧ Hid (Below w1.heap.size w1 wr)) (fun _ i _ => q - (intOf i).toNat)
  case atStart => exact ⟨0, Nat.zero_le _, rfl, World.ownsRow_nil _ _ _ _, Below.refl _ _⟩
  case round =>
    obtain ⟨k, hk, rfl, HO, HB⟩ := hrel
    have hbz := HB.out.size
    by_cases hlt : k < q
    · have z1 := (HB.out.cell (p := ⟨w.heap.size, 1, none⟩) hlt2).trans y1
      have hkm : (k : Int) < m := by omega
      obtain ⟨b, off, rfl, hb, hx, hw⟩ := ints_cell (HB.out |> shp_below S2.out).2 (k := k) (by have := H2.out; omega)
      have hsn : kidsTo ps a (k + 1) = if ps.getD k 0 = a then kidsTo ps a k ++ [k] else kidsTo ps a k := rfl
      have hln := kidsTo_len ps a k
      have hlm : ((kidsTo ps a k).map fun k : Nat => (k : Int)).length = (kidsTo ps a k).length := List.length_map ..
      clear hw
      generalize ps.getD k 0 = z at *
      obtain ⟨A5, c5, rfl⟩ := own_slice HO.out
      rcases bor_cases (a := z == a) with g | g
      · have e : z = a := by simpa using g
        rw [if_pos e] at hsn
        have HS := Lib.hid hsn
        clear hsn e
        go_wp2_with (at_builtin; go_must (refine wpList_append_own _ rfl (.tmp 19) (.tmp 21) 22 rfl w1.heap.size 3 i0 _ 1 8 Try.underlying22 hi hz0 hz1 hz2 rfl (by decide) _ _ _ rfl (HO.out.alloc _) ⟨wr.heap.size, 0, none⟩ 1 1 [.int .i64 k] rfl rfl (cells_new _ _ _) (by intro u hu; simp at hu; subst hu; rfl) (by unfold maxLen; omega) (by omega) (by simp; omega) ?_); intro v' w4 hown' hg' _)
        have hg2 : wr.grownBy w4 (Value.slice A5 ((kidsTo ps a k).map fun k : Nat => (k : Int)).length c5).ownBlock := (World.grownBy_alloc _ _ _).andThen hg' (fun j e => .inr e)
        have HNw : Hid (OwnI w4 w1.heap.size v' ((kidsTo ps a (k + 1)).map fun k : Nat => (k : Int))) := by
          show w4.ownsRow _ _ _ _ _ _
          rw [HS.out, icells_snoc, List.length_map, List.length_append, ← List.length_map (f := fun k : Nat => (k : Int))]
          exact hown'
        have HB4 := Lib.hid (HB.out.grown hg2 hbz (fun j e => (HO.out.lt j e).1))
        clear hown' hg' hg2
        go_roundw
        case rel => exact ⟨k + 1, by omega, by go_num, HNw, HB4⟩
        case measure => simp [intOf]; omega
      · have e : ¬ z = a := by simpa using g
        rw [if_neg e] at hsn
        have HNw : Hid (OwnI wr w1.heap.size (.slice A5 ((kidsTo ps a k).map fun k : Nat => (k : Int)).length c5) ((kidsTo ps a (k + 1)).map fun k : Nat => (k : Int))) := by show OwnI _ _ _ _; rw [hsn]; exact HO.out
        clear hsn e
        go_wp2
        go_roundw
        case rel => exact ⟨k + 1, by omega, by go_num, HNw, HB⟩
        case measure => simp [intOf]; omega
    · have HK : Hid (kidsTo ps a k = kidsTo ps a (szN ks ps)) := by show _ = _; rw [HN.out]; congr 1; omega
      go_wp2
      go_ret
      exact kidsTo_mk HK.out (own_mono2 HO.out (by omega)) (below_then HZ2.out HB.out HZ2.out.size)
end
end Go.Proofs.Ytbacdllokgcohaa
