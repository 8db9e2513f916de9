/-
  RuleNames: a rule's words are its fields: the walk.
-/
import Derived.Test.YtlbhgjilgdmedaaDoorNames1
import Derived.Test.YtlbhgjilgdmedaaDoorNames3
namespace Go.Proofs.YtlbhgjilgdmedaaDoor
set_option maxRecDepth 100000
open Go.ChangeShapes Go.WideShapes Go.ChangeAt Go.RowKit

/-- a name of the statement's -/
def nmT (h : UInt8) (n : Int) : Tx := [h, byteOf (97 + within n 9).toNat]
theorem nmT_size (h : UInt8) (n : Int) : (bs (nmT h n)).size = 2 := rfl
theorem listAt_lAt0 {w : World} {A : Option Addr} {c : Nat} {l : List Tx} (h : LAt w A c l) (h0 : ∀ g off, A = some ⟨g, off, none⟩ → off = 0) : ListAt w A c l :=
  ⟨h.1, fun j hj => let ⟨g, off, e, hl, hc⟩ := h.2.2 j hj; ⟨g, by rw [e, h0 g off e], hl, by rw [h0 g off e, Nat.zero_add] at hc; exact hc⟩⟩
theorem keepName1 (h : UInt8) (n : Int) (w : World) (hv : (Lit.int .i64 n).wf = true) :
    Calls Tryd.prog 12 #[.string ⟨#[h]⟩, .int .i64 n, .int .i64 9] w fun e w' => e = .returned (.string (bs (nmT h n))) ∧ Below w.heap.size w w' := by
  have := keepName ⟨#[h]⟩ n w hv (by show (1 : Nat) ≤ 1000; omega)
  rwa [show (⟨#[h]⟩ : ByteArray) = bs [h] from rfl, bs_append] at this
theorem nmT_name (h : UInt8) (n : Int) (hh : nameB h.toNat = true) : nameL (nmT h n) = true := by
  have hb := within_bd n 9 (by omega)
  have e : nameB (byteOf (97 + within n 9).toNat).toNat = true := by
    obtain ⟨m, hm⟩ : ∃ m : Nat, within n 9 = m := ⟨(within n 9).toNat, by omega⟩
    rw [hm] at hb ⊢
    have h2 : (97 + (m : Int)).toNat = 97 + m := by omega
    rw [h2]
    have h3 : (byteOf (97 + m)).toNat = 97 + m := by unfold byteOf; simp; omega
    rw [h3]
    simp [nameB]; omega
  simp [nameL, nmT, allB, hh, e]
theorem nmT_ne {h g : UInt8} (a b : Int) (hg : h ≠ g) : nmT h a ≠ nmT g b := by
  intro e; simp [nmT] at e; exact hg e.1
def DigitOf (m : Nat) (d : Tx) : Prop := ((⟨#[49, 50, 51, 52, 53, 54, 55, 56, 57]⟩ : ByteArray).extract m 9).extract 0 1 = bs d ∧ (bs d).size = 1 ∧ isNum d = true ∧ (valL d : Int) = m + 1 ∧ Lib.decDigits (m + 1) = d
theorem digit_cut (m : Nat) (h : m < 9) : ∃ d, DigitOf m d := by
  refine ⟨[UInt8.ofNat (49 + m)], ?_⟩
  rcases m with _ | _ | _ | _ | _ | _ | _ | _ | _ | m
  all_goals first | omega | exact ⟨by decide +kernel, rfl, by decide +kernel, by decide +kernel, by decide +kernel⟩

theorem namesH (a b c : Int) {m : Nat} {d : Tx} (hm : m < 9) (hd : DigitOf m d) : NamesH (nmT 120 a) (nmT 121 b) (nmT 122 c) d (m + 1) :=
  ⟨nmT_name 120 a (by decide), nmT_name 121 b (by decide), nmT_name 122 c (by decide), nmT_ne a b (by decide), nmT_ne a c (by decide), nmT_ne b c (by decide), hd.2.2.1, hd.2.2.2.1, by omega, by omega⟩
theorem digitH {m : Nat} {d : Tx} (hd : DigitOf m d) : Lib.decDigits ((m : Int) + 1).toNat = d := by
  rw [show ((m : Int) + 1).toNat = m + 1 by omega]; exact hd.2.2.2.2
set_option maxHeartbeats 4000000 in
theorem names_walk (w : World) (a b c n : Int) (ha : (Lit.int .i64 a).wf = true) (hb : (Lit.int .i64 b).wf = true) (hc : (Lit.int .i64 c).wf = true) (hn : (Lit.int .i64 n).wf = true) :
    Calls Tryd.prog 4 #[.int .i64 a, .int .i64 b, .int .i64 c, .int .i64 n] w (TrueOn w) := by
  have hm := within_bd n 9 (by omega)
  have WI := fun W => Within_any n 9 W hn (by omega) (by omega)
  obtain ⟨m, hm'⟩ : ∃ m : Nat, within n 9 = m := ⟨(within n 9).toNat, by omega⟩
  rw [hm'] at WI hm
  clear hm'
  have hm2 : m < 9 := by omega
  clear hm
  have hB := Below.refl w.heap.size w
  have lx := nmT_size 120 a
  have ly := nmT_size 121 b
  have lz := nmT_size 122 c
  obtain ⟨d, hd⟩ := digit_cut m hm2
  have HD := Lib.hid hd
  have ld : (bs d).size = 1 := hd.2.1
  clear hd
  go_enter Tryd.func4, Tryd.ntmps4
  go_upto_region 2 with (go_at_call 12; refine (keepName1 _ _ _ (by assumption)).mono ?_; rintro e w1 ⟨rfl, hb1⟩; have hB := below_then hB hb1 hB.size; clear hb1)
  generalize hX : nmT 120 a = x at *
  generalize hY : nmT 121 b = y at *
  generalize hZ : nmT 122 c = z at *
  have NH := Lib.hid (namesH a b c hm2 HD.out)
  rw [hX, hY, hZ] at NH
  have HX := Lib.hid hX; have HY := Lib.hid hY; have HZ := Lib.hid hZ
  clear hX hY hZ
  go_upto_region 3 with (go_at_call 6; refine (WI _).mono ?_; rintro e w4 ⟨rfl, rfl⟩)
  rw [HD.out.1]
  go_upto_region 5 with (go_at_call 6; refine (WI _).mono ?_; rintro e w4 ⟨rfl, rfl⟩)
  have EN := fun k hk => ents w1 NH.out (digitH HD.out) (w1.heap.size + 1 + 1 + 1 + 1 + 1) rfl k hk
  have e := tabW.eq_1 w1 x y z d (m + 1)
  rw [← e]
  have hB5 : Below w.heap.size w (tabW w1 x y z d (m + 1)) := by
    rw [e]; exact (((((hB.alloc hB.size _).alloc (by have := hB.size; simp; omega) _).alloc (by have := hB.size; simp; omega) _).alloc (by have := hB.size; simp; omega) _).alloc (by have := hB.size; simp; omega) _).alloc (by have := hB.size; simp; omega) _
  clear e
  generalize tabW w1 x y z d (m + 1) = w5 at *
  generalize w1.heap.size + 1 + 1 + 1 + 1 + 1 = tb at *
  clear hB WI
  go_loopw [161] (fun i wr => ∃ k : Nat, k ≤ 11 ∧ i = .int .i64 k ∧ Below w5.heap.size w5 wr) (fun i _ => 11 - (intOf i).toNat)
  case atStart => exact ⟨0, by omega, rfl, Below.refl _ _⟩
  case round =>
    obtain ⟨k, hk, rfl, hbw⟩ := hrel
    by_cases hlt : k < 11
    · obtain ⟨s, r, A, ca, HE⟩ := EN k hlt
      clear EN
      have htb : tb < w5.heap.size := World.block_lt_of_cell? _ _ HE.c0
      have x0 := (hbw.cell (p := ⟨tb, k * 12, none⟩) htb).trans HE.c0
      have x1 := (hbw.cell (p := ⟨tb, k * 12 + 1, none⟩) htb).trans HE.c1
      have x2 := (hbw.cell (p := ⟨tb, k * 12 + 2, none⟩) htb).trans HE.c2
      have x3 := (hbw.cell (p := ⟨tb, k * 12 + 3, none⟩) htb).trans HE.c3
      have x4 := (hbw.cell (p := ⟨tb, k * 12 + 4, none⟩) htb).trans HE.c4
      have x5 := (hbw.cell (p := ⟨tb, k * 12 + 5, none⟩) htb).trans HE.c5
      have x6 := (hbw.cell (p := ⟨tb, k * 12 + 6, none⟩) htb).trans HE.c6
      have x7 := (hbw.cell (p := ⟨tb, k * 12 + 7, none⟩) htb).trans HE.c7
      have x8 := (hbw.cell (p := ⟨tb, k * 12 + 8, none⟩) htb).trans HE.c8
      have x9 := (hbw.cell (p := ⟨tb, k * 12 + 9, none⟩) htb).trans HE.c9
      have x10 := (hbw.cell (p := ⟨tb, k * 12 + 10, none⟩) htb).trans HE.c10
      have x11 := (hbw.cell (p := ⟨tb, k * 12 + 11, none⟩) htb).trans HE.c11
      have HP : Hid (∀ W, Calls Tryd.prog 7 #[.string (bs s), .int .i64 9] W (ParseTo (.ok r) 9 W)) := fun W => by
        have := Parse_any (bs s) 9 W (by rw [size_bs]; have := HE.sz; omega) (fun _ => by have := partL_le (bs s).data.toList; have := HE.sz; rw [list_bs] at *; omega)
        rwa [list_bs, HE.hp] at this
      have HPR := Lib.hid HE.pr
      have hsz : (bs s).size ≤ 200 := HE.sz
      have hls := HE.ls
      have LA := Lib.hid ((listAt_lAt0 HE.la HE.l0).below hbw)
      clear HE
      go_upto_region 7 with fail
      clear x0 x1 x2 x3 x4 x5 x6 x7 x8 x9 x10 x11
      have y0 : (wr.alloc (.cells #[.string (bs s), .int .i64 r.kind, .string (bs r.name), .slice A r.list.length ca, .int .i64 r.n, .int .i64 r.m, .string (bs r.from_), .string (bs r.to_), .string (bs r.by_), .string (bs r.task), .string (bs r.in_), .int .i64 0] 40)).cell? ⟨wr.heap.size, 0, none⟩ = some (.string (bs s)) := new_cell _ _ _ 0
      have y1 : (wr.alloc (.cells #[.string (bs s), .int .i64 r.kind, .string (bs r.name), .slice A r.list.length ca, .int .i64 r.n, .int .i64 r.m, .string (bs r.from_), .string (bs r.to_), .string (bs r.by_), .string (bs r.task), .string (bs r.in_), .int .i64 0] 40)).cell? ⟨wr.heap.size, 1, none⟩ = some (.int .i64 r.kind) := new_cell _ _ _ 1
      have y2 : (wr.alloc (.cells #[.string (bs s), .int .i64 r.kind, .string (bs r.name), .slice A r.list.length ca, .int .i64 r.n, .int .i64 r.m, .string (bs r.from_), .string (bs r.to_), .string (bs r.by_), .string (bs r.task), .string (bs r.in_), .int .i64 0] 40)).cell? ⟨wr.heap.size, 2, none⟩ = some (.string (bs r.name)) := new_cell _ _ _ 2
      have y3 : (wr.alloc (.cells #[.string (bs s), .int .i64 r.kind, .string (bs r.name), .slice A r.list.length ca, .int .i64 r.n, .int .i64 r.m, .string (bs r.from_), .string (bs r.to_), .string (bs r.by_), .string (bs r.task), .string (bs r.in_), .int .i64 0] 40)).cell? ⟨wr.heap.size, 3, none⟩ = some (.slice A r.list.length ca) := new_cell _ _ _ 3
      have y4 : (wr.alloc (.cells #[.string (bs s), .int .i64 r.kind, .string (bs r.name), .slice A r.list.length ca, .int .i64 r.n, .int .i64 r.m, .string (bs r.from_), .string (bs r.to_), .string (bs r.by_), .string (bs r.task), .string (bs r.in_), .int .i64 0] 40)).cell? ⟨wr.heap.size, 4, none⟩ = some (.int .i64 r.n) := new_cell _ _ _ 4
      have y5 : (wr.alloc (.cells #[.string (bs s), .int .i64 r.kind, .string (bs r.name), .slice A r.list.length ca, .int .i64 r.n, .int .i64 r.m, .string (bs r.from_), .string (bs r.to_), .string (bs r.by_), .string (bs r.task), .string (bs r.in_), .int .i64 0] 40)).cell? ⟨wr.heap.size, 5, none⟩ = some (.int .i64 r.m) := new_cell _ _ _ 5
      have y6 : (wr.alloc (.cells #[.string (bs s), .int .i64 r.kind, .string (bs r.name), .slice A r.list.length ca, .int .i64 r.n, .int .i64 r.m, .string (bs r.from_), .string (bs r.to_), .string (bs r.by_), .string (bs r.task), .string (bs r.in_), .int .i64 0] 40)).cell? ⟨wr.heap.size, 6, none⟩ = some (.string (bs r.from_)) := new_cell _ _ _ 6
      have y7 : (wr.alloc (.cells #[.string (bs s), .int .i64 r.kind, .string (bs r.name), .slice A r.list.length ca, .int .i64 r.n, .int .i64 r.m, .string (bs r.from_), .string (bs r.to_), .string (bs r.by_), .string (bs r.task), .string (bs r.in_), .int .i64 0] 40)).cell? ⟨wr.heap.size, 7, none⟩ = some (.string (bs r.to_)) := new_cell _ _ _ 7
      have y8 : (wr.alloc (.cells #[.string (bs s), .int .i64 r.kind, .string (bs r.name), .slice A r.list.length ca, .int .i64 r.n, .int .i64 r.m, .string (bs r.from_), .string (bs r.to_), .string (bs r.by_), .string (bs r.task), .string (bs r.in_), .int .i64 0] 40)).cell? ⟨wr.heap.size, 8, none⟩ = some (.string (bs r.by_)) := new_cell _ _ _ 8
      have y9 : (wr.alloc (.cells #[.string (bs s), .int .i64 r.kind, .string (bs r.name), .slice A r.list.length ca, .int .i64 r.n, .int .i64 r.m, .string (bs r.from_), .string (bs r.to_), .string (bs r.by_), .string (bs r.task), .string (bs r.in_), .int .i64 0] 40)).cell? ⟨wr.heap.size, 9, none⟩ = some (.string (bs r.task)) := new_cell _ _ _ 9
      have y10 : (wr.alloc (.cells #[.string (bs s), .int .i64 r.kind, .string (bs r.name), .slice A r.list.length ca, .int .i64 r.n, .int .i64 r.m, .string (bs r.from_), .string (bs r.to_), .string (bs r.by_), .string (bs r.task), .string (bs r.in_), .int .i64 0] 40)).cell? ⟨wr.heap.size, 10, none⟩ = some (.string (bs r.in_)) := new_cell _ _ _ 10
      have y11 : (wr.alloc (.cells #[.string (bs s), .int .i64 r.kind, .string (bs r.name), .slice A r.list.length ca, .int .i64 r.n, .int .i64 r.m, .string (bs r.from_), .string (bs r.to_), .string (bs r.by_), .string (bs r.task), .string (bs r.in_), .int .i64 0] 40)).cell? ⟨wr.heap.size, 11, none⟩ = some (.int .i64 0) := new_cell _ _ _ 11
      have hvb : wr.heap.size < (wr.alloc (.cells #[.string (bs s), .int .i64 r.kind, .string (bs r.name), .slice A r.list.length ca, .int .i64 r.n, .int .i64 r.m, .string (bs r.from_), .string (bs r.to_), .string (bs r.by_), .string (bs r.task), .string (bs r.in_), .int .i64 0] 40)).heap.size := by simp
      have hbV : Below w5.heap.size w5 (wr.alloc (.cells #[.string (bs s), .int .i64 r.kind, .string (bs r.name), .slice A r.list.length ca, .int .i64 r.n, .int .i64 r.m, .string (bs r.from_), .string (bs r.to_), .string (bs r.by_), .string (bs r.task), .string (bs r.in_), .int .i64 0] 40)) := hbw.alloc hbw.size _
      have LAV := Lib.hid (LA.out.below ((Below.refl wr.heap.size wr).alloc (Nat.le_refl _) (.cells #[.string (bs s), .int .i64 r.kind, .string (bs r.name), .slice A r.list.length ca, .int .i64 r.n, .int .i64 r.m, .string (bs r.from_), .string (bs r.to_), .string (bs r.by_), .string (bs r.task), .string (bs r.in_), .int .i64 0] 40)))
      clear LA hbw
      generalize (wr.alloc (.cells #[.string (bs s), .int .i64 r.kind, .string (bs r.name), .slice A r.list.length ca, .int .i64 r.n, .int .i64 r.m, .string (bs r.from_), .string (bs r.to_), .string (bs r.by_), .string (bs r.task), .string (bs r.in_), .int .i64 0] 40)) = v at *
      generalize wr.heap.size = vb at *
      go_upto_region 8 with (go_at_call 7; refine (HP.out _).mono ?_; rintro e w6 ⟨hb6, L, rfl, ho6⟩; obtain ⟨A6, c6, rfl⟩ := own_slice ho6; dsimp only [ruV])
      have z0 : (w6.alloc (.cells #[.int .i64 r.kind, .string (bs r.name), .slice A6 r.list.length c6, .int .i64 r.n, .int .i64 r.m, .string (bs r.from_), .string (bs r.to_), .string (bs r.by_), .string (bs r.task), .string (bs r.in_), .int .i64 9] 27)).cell? ⟨vb, 0, none⟩ = some (.string (bs s)) := (World.cell?_alloc_lt _ _ _ (Nat.lt_of_lt_of_le hvb hb6.size)).trans ((hb6.cell (p := ⟨vb, 0, none⟩) hvb).trans y0)
      have z1 : (w6.alloc (.cells #[.int .i64 r.kind, .string (bs r.name), .slice A6 r.list.length c6, .int .i64 r.n, .int .i64 r.m, .string (bs r.from_), .string (bs r.to_), .string (bs r.by_), .string (bs r.task), .string (bs r.in_), .int .i64 9] 27)).cell? ⟨vb, 1, none⟩ = some (.int .i64 r.kind) := (World.cell?_alloc_lt _ _ _ (Nat.lt_of_lt_of_le hvb hb6.size)).trans ((hb6.cell (p := ⟨vb, 1, none⟩) hvb).trans y1)
      have z2 : (w6.alloc (.cells #[.int .i64 r.kind, .string (bs r.name), .slice A6 r.list.length c6, .int .i64 r.n, .int .i64 r.m, .string (bs r.from_), .string (bs r.to_), .string (bs r.by_), .string (bs r.task), .string (bs r.in_), .int .i64 9] 27)).cell? ⟨vb, 2, none⟩ = some (.string (bs r.name)) := (World.cell?_alloc_lt _ _ _ (Nat.lt_of_lt_of_le hvb hb6.size)).trans ((hb6.cell (p := ⟨vb, 2, none⟩) hvb).trans y2)
      have z3 : (w6.alloc (.cells #[.int .i64 r.kind, .string (bs r.name), .slice A6 r.list.length c6, .int .i64 r.n, .int .i64 r.m, .string (bs r.from_), .string (bs r.to_), .string (bs r.by_), .string (bs r.task), .string (bs r.in_), .int .i64 9] 27)).cell? ⟨vb, 3, none⟩ = some (.slice A r.list.length ca) := (World.cell?_alloc_lt _ _ _ (Nat.lt_of_lt_of_le hvb hb6.size)).trans ((hb6.cell (p := ⟨vb, 3, none⟩) hvb).trans y3)
      have z4 : (w6.alloc (.cells #[.int .i64 r.kind, .string (bs r.name), .slice A6 r.list.length c6, .int .i64 r.n, .int .i64 r.m, .string (bs r.from_), .string (bs r.to_), .string (bs r.by_), .string (bs r.task), .string (bs r.in_), .int .i64 9] 27)).cell? ⟨vb, 4, none⟩ = some (.int .i64 r.n) := (World.cell?_alloc_lt _ _ _ (Nat.lt_of_lt_of_le hvb hb6.size)).trans ((hb6.cell (p := ⟨vb, 4, none⟩) hvb).trans y4)
      have z5 : (w6.alloc (.cells #[.int .i64 r.kind, .string (bs r.name), .slice A6 r.list.length c6, .int .i64 r.n, .int .i64 r.m, .string (bs r.from_), .string (bs r.to_), .string (bs r.by_), .string (bs r.task), .string (bs r.in_), .int .i64 9] 27)).cell? ⟨vb, 5, none⟩ = some (.int .i64 r.m) := (World.cell?_alloc_lt _ _ _ (Nat.lt_of_lt_of_le hvb hb6.size)).trans ((hb6.cell (p := ⟨vb, 5, none⟩) hvb).trans y5)
      have z6 : (w6.alloc (.cells #[.int .i64 r.kind, .string (bs r.name), .slice A6 r.list.length c6, .int .i64 r.n, .int .i64 r.m, .string (bs r.from_), .string (bs r.to_), .string (bs r.by_), .string (bs r.task), .string (bs r.in_), .int .i64 9] 27)).cell? ⟨vb, 6, none⟩ = some (.string (bs r.from_)) := (World.cell?_alloc_lt _ _ _ (Nat.lt_of_lt_of_le hvb hb6.size)).trans ((hb6.cell (p := ⟨vb, 6, none⟩) hvb).trans y6)
      have z7 : (w6.alloc (.cells #[.int .i64 r.kind, .string (bs r.name), .slice A6 r.list.length c6, .int .i64 r.n, .int .i64 r.m, .string (bs r.from_), .string (bs r.to_), .string (bs r.by_), .string (bs r.task), .string (bs r.in_), .int .i64 9] 27)).cell? ⟨vb, 7, none⟩ = some (.string (bs r.to_)) := (World.cell?_alloc_lt _ _ _ (Nat.lt_of_lt_of_le hvb hb6.size)).trans ((hb6.cell (p := ⟨vb, 7, none⟩) hvb).trans y7)
      have z8 : (w6.alloc (.cells #[.int .i64 r.kind, .string (bs r.name), .slice A6 r.list.length c6, .int .i64 r.n, .int .i64 r.m, .string (bs r.from_), .string (bs r.to_), .string (bs r.by_), .string (bs r.task), .string (bs r.in_), .int .i64 9] 27)).cell? ⟨vb, 8, none⟩ = some (.string (bs r.by_)) := (World.cell?_alloc_lt _ _ _ (Nat.lt_of_lt_of_le hvb hb6.size)).trans ((hb6.cell (p := ⟨vb, 8, none⟩) hvb).trans y8)
      have z9 : (w6.alloc (.cells #[.int .i64 r.kind, .string (bs r.name), .slice A6 r.list.length c6, .int .i64 r.n, .int .i64 r.m, .string (bs r.from_), .string (bs r.to_), .string (bs r.by_), .string (bs r.task), .string (bs r.in_), .int .i64 9] 27)).cell? ⟨vb, 9, none⟩ = some (.string (bs r.task)) := (World.cell?_alloc_lt _ _ _ (Nat.lt_of_lt_of_le hvb hb6.size)).trans ((hb6.cell (p := ⟨vb, 9, none⟩) hvb).trans y9)
      have z10 : (w6.alloc (.cells #[.int .i64 r.kind, .string (bs r.name), .slice A6 r.list.length c6, .int .i64 r.n, .int .i64 r.m, .string (bs r.from_), .string (bs r.to_), .string (bs r.by_), .string (bs r.task), .string (bs r.in_), .int .i64 9] 27)).cell? ⟨vb, 10, none⟩ = some (.string (bs r.in_)) := (World.cell?_alloc_lt _ _ _ (Nat.lt_of_lt_of_le hvb hb6.size)).trans ((hb6.cell (p := ⟨vb, 10, none⟩) hvb).trans y10)
      have z11 : (w6.alloc (.cells #[.int .i64 r.kind, .string (bs r.name), .slice A6 r.list.length c6, .int .i64 r.n, .int .i64 r.m, .string (bs r.from_), .string (bs r.to_), .string (bs r.by_), .string (bs r.task), .string (bs r.in_), .int .i64 9] 27)).cell? ⟨vb, 11, none⟩ = some (.int .i64 0) := (World.cell?_alloc_lt _ _ _ (Nat.lt_of_lt_of_le hvb hb6.size)).trans ((hb6.cell (p := ⟨vb, 11, none⟩) hvb).trans y11)
      have r0 : (w6.alloc (.cells #[.int .i64 r.kind, .string (bs r.name), .slice A6 r.list.length c6, .int .i64 r.n, .int .i64 r.m, .string (bs r.from_), .string (bs r.to_), .string (bs r.by_), .string (bs r.task), .string (bs r.in_), .int .i64 9] 27)).cell? ⟨w6.heap.size, 0, none⟩ = some (.int .i64 r.kind) := new_cell _ _ _ 0
      have r1 : (w6.alloc (.cells #[.int .i64 r.kind, .string (bs r.name), .slice A6 r.list.length c6, .int .i64 r.n, .int .i64 r.m, .string (bs r.from_), .string (bs r.to_), .string (bs r.by_), .string (bs r.task), .string (bs r.in_), .int .i64 9] 27)).cell? ⟨w6.heap.size, 1, none⟩ = some (.string (bs r.name)) := new_cell _ _ _ 1
      have r2 : (w6.alloc (.cells #[.int .i64 r.kind, .string (bs r.name), .slice A6 r.list.length c6, .int .i64 r.n, .int .i64 r.m, .string (bs r.from_), .string (bs r.to_), .string (bs r.by_), .string (bs r.task), .string (bs r.in_), .int .i64 9] 27)).cell? ⟨w6.heap.size, 2, none⟩ = some (.slice A6 r.list.length c6) := new_cell _ _ _ 2
      have r3 : (w6.alloc (.cells #[.int .i64 r.kind, .string (bs r.name), .slice A6 r.list.length c6, .int .i64 r.n, .int .i64 r.m, .string (bs r.from_), .string (bs r.to_), .string (bs r.by_), .string (bs r.task), .string (bs r.in_), .int .i64 9] 27)).cell? ⟨w6.heap.size, 3, none⟩ = some (.int .i64 r.n) := new_cell _ _ _ 3
      have r4 : (w6.alloc (.cells #[.int .i64 r.kind, .string (bs r.name), .slice A6 r.list.length c6, .int .i64 r.n, .int .i64 r.m, .string (bs r.from_), .string (bs r.to_), .string (bs r.by_), .string (bs r.task), .string (bs r.in_), .int .i64 9] 27)).cell? ⟨w6.heap.size, 4, none⟩ = some (.int .i64 r.m) := new_cell _ _ _ 4
      have r5 : (w6.alloc (.cells #[.int .i64 r.kind, .string (bs r.name), .slice A6 r.list.length c6, .int .i64 r.n, .int .i64 r.m, .string (bs r.from_), .string (bs r.to_), .string (bs r.by_), .string (bs r.task), .string (bs r.in_), .int .i64 9] 27)).cell? ⟨w6.heap.size, 5, none⟩ = some (.string (bs r.from_)) := new_cell _ _ _ 5
      have r6 : (w6.alloc (.cells #[.int .i64 r.kind, .string (bs r.name), .slice A6 r.list.length c6, .int .i64 r.n, .int .i64 r.m, .string (bs r.from_), .string (bs r.to_), .string (bs r.by_), .string (bs r.task), .string (bs r.in_), .int .i64 9] 27)).cell? ⟨w6.heap.size, 6, none⟩ = some (.string (bs r.to_)) := new_cell _ _ _ 6
      have r7 : (w6.alloc (.cells #[.int .i64 r.kind, .string (bs r.name), .slice A6 r.list.length c6, .int .i64 r.n, .int .i64 r.m, .string (bs r.from_), .string (bs r.to_), .string (bs r.by_), .string (bs r.task), .string (bs r.in_), .int .i64 9] 27)).cell? ⟨w6.heap.size, 7, none⟩ = some (.string (bs r.by_)) := new_cell _ _ _ 7
      have r8 : (w6.alloc (.cells #[.int .i64 r.kind, .string (bs r.name), .slice A6 r.list.length c6, .int .i64 r.n, .int .i64 r.m, .string (bs r.from_), .string (bs r.to_), .string (bs r.by_), .string (bs r.task), .string (bs r.in_), .int .i64 9] 27)).cell? ⟨w6.heap.size, 8, none⟩ = some (.string (bs r.task)) := new_cell _ _ _ 8
      have r9 : (w6.alloc (.cells #[.int .i64 r.kind, .string (bs r.name), .slice A6 r.list.length c6, .int .i64 r.n, .int .i64 r.m, .string (bs r.from_), .string (bs r.to_), .string (bs r.by_), .string (bs r.task), .string (bs r.in_), .int .i64 9] 27)).cell? ⟨w6.heap.size, 9, none⟩ = some (.string (bs r.in_)) := new_cell _ _ _ 9
      have r10 : (w6.alloc (.cells #[.int .i64 r.kind, .string (bs r.name), .slice A6 r.list.length c6, .int .i64 r.n, .int .i64 r.m, .string (bs r.from_), .string (bs r.to_), .string (bs r.by_), .string (bs r.task), .string (bs r.in_), .int .i64 9] 27)).cell? ⟨w6.heap.size, 10, none⟩ = some (.int .i64 9) := new_cell _ _ _ 10
      have hvb7 : vb < (w6.alloc (.cells #[.int .i64 r.kind, .string (bs r.name), .slice A6 r.list.length c6, .int .i64 r.n, .int .i64 r.m, .string (bs r.from_), .string (bs r.to_), .string (bs r.by_), .string (bs r.task), .string (bs r.in_), .int .i64 9] 27)).heap.size := by have := hb6.size; simp; omega
      have hrb7 : w6.heap.size < (w6.alloc (.cells #[.int .i64 r.kind, .string (bs r.name), .slice A6 r.list.length c6, .int .i64 r.n, .int .i64 r.m, .string (bs r.from_), .string (bs r.to_), .string (bs r.by_), .string (bs r.task), .string (bs r.in_), .int .i64 9] 27)).heap.size := by simp
      have hA7 : Below w6.heap.size w6 (w6.alloc (.cells #[.int .i64 r.kind, .string (bs r.name), .slice A6 r.list.length c6, .int .i64 r.n, .int .i64 r.m, .string (bs r.from_), .string (bs r.to_), .string (bs r.by_), .string (bs r.task), .string (bs r.in_), .int .i64 9] 27)) := (Below.refl _ _).alloc (Nat.le_refl _) _
      have hb7 : Below w5.heap.size w5 (w6.alloc (.cells #[.int .i64 r.kind, .string (bs r.name), .slice A6 r.list.length c6, .int .i64 r.n, .int .i64 r.m, .string (bs r.from_), .string (bs r.to_), .string (bs r.by_), .string (bs r.task), .string (bs r.in_), .int .i64 9] 27)) := (below_then hbV hb6 hbV.size).alloc (by have := hbV.size; have := hb6.size; omega) _
      have LA7 := Lib.hid ((LAV.out.below hb6).below hA7)
      have LB7 := Lib.hid ((listAt_of ho6).below hA7)
      clear y0 y1 y2 y3 y4 y5 y6 y7 y8 y9 y10 y11 ho6 hb6 LAV hbV hvb hA7
      generalize (w6.alloc (.cells #[.int .i64 r.kind, .string (bs r.name), .slice A6 r.list.length c6, .int .i64 r.n, .int .i64 r.m, .string (bs r.from_), .string (bs r.to_), .string (bs r.by_), .string (bs r.task), .string (bs r.in_), .int .i64 9] 27)) = v7 at *
      generalize w6.heap.size = rb at *
      go_upto_region 9 with (go_at_call 13; refine (HPR.out _ hb7).mono ?_; rintro e w8 ⟨rfl, hb8⟩)
      have hvb8 : vb < w8.heap.size := Nat.lt_of_lt_of_le hvb7 hb8.size
      have hrb8 : rb < w8.heap.size := Nat.lt_of_lt_of_le hrb7 hb8.size
      have LA8 := LA7.out.below hb8
      have LB8 := LB7.out.below hb8
      have a0 := (hb8.cell (p := ⟨vb, 0, none⟩) hvb7).trans z0
      have a1 := (hb8.cell (p := ⟨vb, 1, none⟩) hvb7).trans z1
      have a2 := (hb8.cell (p := ⟨vb, 2, none⟩) hvb7).trans z2
      have a3 := (hb8.cell (p := ⟨vb, 3, none⟩) hvb7).trans z3
      have a4 := (hb8.cell (p := ⟨vb, 4, none⟩) hvb7).trans z4
      have a5 := (hb8.cell (p := ⟨vb, 5, none⟩) hvb7).trans z5
      have a6 := (hb8.cell (p := ⟨vb, 6, none⟩) hvb7).trans z6
      have a7 := (hb8.cell (p := ⟨vb, 7, none⟩) hvb7).trans z7
      have a8 := (hb8.cell (p := ⟨vb, 8, none⟩) hvb7).trans z8
      have a9 := (hb8.cell (p := ⟨vb, 9, none⟩) hvb7).trans z9
      have a10 := (hb8.cell (p := ⟨vb, 10, none⟩) hvb7).trans z10
      have a11 := (hb8.cell (p := ⟨vb, 11, none⟩) hvb7).trans z11
      have b0 := (hb8.cell (p := ⟨rb, 0, none⟩) hrb7).trans r0
      have b1 := (hb8.cell (p := ⟨rb, 1, none⟩) hrb7).trans r1
      have b2 := (hb8.cell (p := ⟨rb, 2, none⟩) hrb7).trans r2
      have b3 := (hb8.cell (p := ⟨rb, 3, none⟩) hrb7).trans r3
      have b4 := (hb8.cell (p := ⟨rb, 4, none⟩) hrb7).trans r4
      have b5 := (hb8.cell (p := ⟨rb, 5, none⟩) hrb7).trans r5
      have b6 := (hb8.cell (p := ⟨rb, 6, none⟩) hrb7).trans r6
      have b7 := (hb8.cell (p := ⟨rb, 7, none⟩) hrb7).trans r7
      have b8 := (hb8.cell (p := ⟨rb, 8, none⟩) hrb7).trans r8
      have b9 := (hb8.cell (p := ⟨rb, 9, none⟩) hrb7).trans r9
      have b10 := (hb8.cell (p := ⟨rb, 10, none⟩) hrb7).trans r10
      have hbq := below_then hb7 hb8 hb7.size
      clear z0 z1 z2 z3 z4 z5 z6 z7 z8 z9 z10 z11 r0 r1 r2 r3 r4 r5 r6 r7 r8 r9 r10 LA7 LB7 hb7 hb8 hvb7 hrb7
      have KR := Lib.hid (keepRule r A6 A c6 ca 9 0 w8 (by omega) LB8 LA8)
      dsimp only [ruV] at KR
      clear LA8 LB8
      have e1 : ((bs s).toList != (bs s).toList) = false := by simp
      have e2 : ((bs s).toList == (bs s).toList) = true := by simp
      go_upto_region 11 with (go_at_call 8; refine KR.out.mono ?_; rintro e w9 ⟨rfl, hb9⟩; have f0 := (hb9.cell (p := ⟨vb, 0, none⟩) hvb8).trans a0; have f10 := (hb9.cell (p := ⟨rb, 10, none⟩) hrb8).trans b10)
      have hbr := below_then hbq hb9 hbq.size
      clear KR e1 e2 f0 f10 a0 a1 a2 a3 a4 a5 a6 a7 a8 a9 a10 a11 b0 b1 b2 b3 b4 b5 b6 b7 b8 b9 b10 HP HPR
      go_wp2
      go_roundw
      case rel => exact ⟨k + 1, by omega, by go_num, hbr⟩
      case measure => simp [intOf]; omega
    · have hk11 : k = 11 := by omega
      subst hk11
      clear EN NH HX HY HZ HD
      go_wp2_with (go_at_call 9; refine (wakes02 _).mono ?_; rintro e w9 ⟨rfl, hb9⟩)
      go_ret
      exact ⟨rfl, below_then (below_then hB5 hbw hB5.size) hb9 (by have := hB5.size; have := hbw.size; omega)⟩
end Go.Proofs.YtlbhgjilgdmedaaDoor
