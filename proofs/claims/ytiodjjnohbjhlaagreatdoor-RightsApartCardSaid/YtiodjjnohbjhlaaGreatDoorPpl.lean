/-
  Down and Up of sets, plainly: no program in it.
-/
import Derived.Test.YtiodjjnohbjhlaaGreatDoorDT0
import Derived.Test.YtiodjjnohbjhlaaGreatDoorRtI
import Derived.Test.YtiodjjnohbjhlaaGreatDoorOwn
import Derived.Test.YtiodjjnohbjhlaaGreatDoorErrs
import Derived.Deep.RegionWith
import Derived.Deep.DeepCutAuto
import Derived.Test.YtiodjjnohbjhlaaGreatDoorPrint2
import Derived.Test.YtiodjjnohbjhlaaGreatDoorRs
namespace Go.Proofs.YtiodjjnohbjhlaaGreatDoor
set_option maxRecDepth 100000

section
variable {bl : List Nat} {N : Nat}
theorem and_some {a b : Nat} : a &&& b ≠ 0 ↔ ∃ i, a.testBit i = true ∧ b.testBit i = true := by
  constructor
  · intro h
    refine Classical.byContradiction fun hn => h (and_zero.2 fun i => ?_)
    cases h1 : a.testBit i
    · rfl
    · cases h2 : b.testBit i
      · rfl
      · exact absurd ⟨i, h1, h2⟩ hn
  · rintro ⟨i, h1, h2⟩ h
    have := and_zero.1 h i
    rw [h1, h2] at this; cases this
theorem upper_bit (s i : Nat) : (upperTo bl s N).testBit i = true ↔ i < N ∧ ∃ k, rel bl i k = true ∧ s.testBit k = true := by
  rw [upperTo_bit, Bool.and_eq_true, decide_eq_true_eq, decide_eq_true_eq, and_some]
  rfl
theorem bit_ext {a b : Nat} (h : ∀ j, a.testBit j = true ↔ b.testBit j = true) : a = b := Nat.eq_of_testBit_eq fun j => Bool.eq_iff_iff.2 (h j)
variable (hb : ∀ i j, rel bl i j = true → i < N ∧ j < N) (hr : ∀ i, i < N → rel bl i i = true) (ht : ∀ i k j, rel bl i k = true → rel bl k j = true → rel bl i j = true)
include hr ht in
theorem upper_upper (s : Nat) : upperTo bl (upperTo bl s N) N = upperTo bl s N := bit_ext fun i => by
  rw [upper_bit, upper_bit]
  constructor
  · rintro ⟨h1, k, h2, h3⟩
    obtain ⟨_, m, h4, h5⟩ := (upper_bit s k).1 h3
    exact ⟨h1, m, ht i k m h2 h4, h5⟩
  · rintro ⟨h1, k, h2, h3⟩
    exact ⟨h1, i, hr i h1, (upper_bit s i).2 ⟨h1, k, h2, h3⟩⟩
theorem upper_lt (hN : N ≤ 24) (s : Nat) : upperTo bl s N < 16777216 := upperTo_lo bl s N hN
end
end Go.Proofs.YtiodjjnohbjhlaaGreatDoor
/-
  Rights that hold together: who is above whom, whose duties are apart: plain.
-/
namespace Go.Proofs.YtiodjjnohbjhlaaGreatDoor
set_option maxRecDepth 100000

theorem rtL_facts {l : List (Ru × Nat)} {ns : List Tx} {ps : List Pr} {r : Rt} (h : rtL l = .ok (ns, ps, r)) :
    ns.Nodup ∧ ns.length ≤ 24 ∧ (∀ p ∈ ps, inN ns p = true) ∧ rtTake ns l {} = .ok r ∧ ∃ u, rtDuty (rtBl ns ps) ns.length r (l.filter (kindIn [2])) = .ok u := by
  unfold rtL at h
  split at h
  · cases h
  rename_i ns' ps' hh
  split at h
  · cases h
  rename_i r' ht
  split at h
  · cases h
  rename_i u hd
  injection h with h
  simp only [Prod.mk.injEq] at h
  obtain ⟨rfl, rfl, rfl⟩ := h
  unfold rtHier at hh
  split at hh
  · cases hh
  rename_i n2 hn
  split at hh
  · cases hh
  rename_i p2 hp
  split at hh
  · cases hh
  injection hh with hh
  simp only [Prod.mk.injEq] at hh
  obtain ⟨rfl, rfl⟩ := hh
  obtain ⟨f1, f2, _, f4, _⟩ := rtNames_facts hn List.nodup_nil (by simp)
  exact ⟨f1, f2, rtPairs_facts hp f4 (fun p hp => by cases hp), ht, u, hd⟩
theorem rtDuty_facts {bl : List Nat} {n : Nat} {r : Rt} : ∀ {l : List (Ru × Nat)} {u : Unit}, rtDuty bl n r l = .ok u → ∀ x ∈ l, ¬ 0 ≤ fstI (downTo bl (rtHas r.users x.1.name) n) r.stat
  | x :: l, u, h, y, hy => by
    by_cases hc : 0 ≤ fstI (downTo bl (rtHas r.users x.1.name) n) r.stat
    · rw [rtDuty_bad hc] at h; cases h
    · rw [rtDuty_next hc] at h
      rcases List.mem_cons.1 hy with rfl | hy
      · exact hc
      · exact rtDuty_facts h y hy
theorem rtTake_users {ns : List Tx} : ∀ {l : List (Ru × Nat)} {r0 r : Rt}, rtTake ns l r0 = .ok r → ∀ y ∈ r.users.map (·.1), y ∈ r0.users.map (·.1) ∨ ∃ x ∈ l, x.1.kind = 2 ∧ x.1.name = y
  | [], r0, r, h, y, hy => by
    rw [rtTake] at h
    injection h with h
    subst h
    exact .inl hy
  | x :: l, r0, r, h, y, hy => by
    by_cases he : rtE ns r0 x.1 = 0
    · rw [rtTake_next he] at h
      rcases rtTake_users h y hy with h9 | ⟨z, hz, h1, h2⟩
      · rcases kinds27 x.1.kind with hk | hk | hk | hk | hk | hk | hk
        · rw [(rtE2 (names := ns) (r := r0) hk).2] at h9
          simp only [List.map_append, List.map_cons, List.map_nil, List.mem_append, List.mem_singleton] at h9
          rcases h9 with h9 | h9
          · exact .inl h9
          · exact .inr ⟨x, List.mem_cons_self, hk, h9.symm⟩
        · rw [(rtE3 (names := ns) (r := r0) hk).2] at h9; exact .inl h9
        · rw [(rtE4 (names := ns) (r := r0) hk).2] at h9; exact .inl h9
        · rw [(rtE5 (names := ns) (r := r0) hk).2] at h9; exact .inl h9
        · rw [(rtE6 (names := ns) (r := r0) hk).2] at h9; exact .inl h9
        · rw [(rtE7 (names := ns) (r := r0) hk).2] at h9; exact .inl h9
        · rw [(rtE0 (names := ns) (r := r0) hk).2] at h9; exact .inl h9
      · exact .inr ⟨z, List.mem_cons_of_mem _ hz, h1, h2⟩
    · rw [rtTake_bad he] at h; cases h
theorem rtL_apart {l : List (Ru × Nat)} {ns : List Tx} {ps : List Pr} {r : Rt} (h : rtL l = .ok (ns, ps, r)) {y : Tx} (hy : y ∈ r.users.map (·.1)) : decide (fstI (downTo (rtBl ns ps) (rtHas r.users y) ns.length) r.stat < 0) = true := by
  obtain ⟨_, _, _, ht, u, hd⟩ := rtL_facts h
  rcases rtTake_users ht y hy with h9 | ⟨x, hx, h1, h2⟩
  · cases h9
  · have := rtDuty_facts hd x (List.mem_filter.2 ⟨hx, by simp [kindIn, h1]⟩)
    rw [h2] at this
    rw [decide_eq_true_eq]; omega
theorem rtBl_rel {ns : List Tx} {ps : List Pr} (hn : ns.length ≤ 24) (hp : ∀ p ∈ ps, inN ns p = true) (i j : Nat) : rel (rtBl ns ps) i j = (way (prel ns ps) ns.length i j || (decide (i < ns.length) && (i == j))) := by
  unfold rtBl
  rw [selfTo_rel _ _ (by rw [folL_length]; exact Nat.le_refl _), fol_way hn hp]
theorem rtBl_laws {ns : List Tx} {ps : List Pr} (hn : ns.length ≤ 24) (hp : ∀ p ∈ ps, inN ns p = true) :
    (∀ i j, rel (rtBl ns ps) i j = true → i < ns.length ∧ j < ns.length) ∧ (∀ i, i < ns.length → rel (rtBl ns ps) i i = true) ∧ (∀ i k j, rel (rtBl ns ps) i k = true → rel (rtBl ns ps) k j = true → rel (rtBl ns ps) i j = true) := by
  have hb : ∀ i j, rel (rtBl ns ps) i j = true → i < ns.length ∧ j < ns.length := fun i j h => by
    rw [rtBl_rel hn hp] at h
    simp only [Bool.or_eq_true, Bool.and_eq_true, decide_eq_true_eq, beq_iff_eq] at h
    rcases h with h | ⟨h, rfl⟩
    · exact way_bound (prel_lt hp) _ h
    · exact ⟨h, h⟩
  refine ⟨hb, fun i hi => ?_, fun i k j h1 h2 => ?_⟩
  · rw [rtBl_rel hn hp]; simp [hi]
  · have hk := (hb _ _ h1).2
    rw [rtBl_rel hn hp] at h1 h2 ⊢
    simp only [Bool.or_eq_true, Bool.and_eq_true, decide_eq_true_eq, beq_iff_eq] at h1 h2 ⊢
    rcases h1 with h1 | ⟨h1, rfl⟩
    · rcases h2 with h2 | ⟨h2, rfl⟩
      · exact .inl (way_trans _ hk h1 h2)
      · exact .inl h1
    · exact h2
theorem rtL_up {l : List (Ru × Nat)} {ns : List Tx} {ps : List Pr} {r : Rt} (h : rtL l = .ok (ns, ps, r)) (s : Nat) : upperTo (rtBl ns ps) (upperTo (rtBl ns ps) s ns.length) ns.length = upperTo (rtBl ns ps) s ns.length := by
  obtain ⟨_, hn, hp, _⟩ := rtL_facts h
  obtain ⟨hb, hr, ht⟩ := rtBl_laws hn hp
  first | exact upper_upper hb hr ht s | exact upper_upper hr ht s | exact upper_upper hb ht s
end Go.Proofs.YtiodjjnohbjhlaaGreatDoor
/-
  The maker of a plan's texts: the number that is next; a name. Of texts only how much they hold, and how many lines end in them.
-/
namespace Go.Proofs.YtiodjjnohbjhlaaGreatDoor
set_option maxRecDepth 100000
open Go.ChangeShapes Go.WideShapes Go.ChangeAt Go.RowKit

/-- how many lines end in a text -/
def nl (t : ByteArray) : Nat := t.data.toList.count 10
theorem nl_app (a b : ByteArray) : nl (a ++ b) = nl a + nl b := by simp [nl, ByteArray.data_append]
theorem nl_lit (l : Array UInt8) : nl ⟨l⟩ = l.toList.count 10 := rfl
theorem sz_lit (l : Array UInt8) : (⟨l⟩ : ByteArray).size = l.size := rfl

/-- where a maker stands: its plan's numbers came in; so many were taken -/
def Mk (W0 : World) (v : Value) (b k : Nat) (w : World) : Prop := Below W0.heap.size W0 w ∧ W0.heap.size ≤ b ∧ w.heap[b]? = some (.cells #[v, .int .i64 k] 73 (0, 0))
def NTo (W0 : World) (v : Value) (b k : Nat) (of : Int) (w : World) (e : Ending) (w' : World) : Prop := ∃ r : Nat, e = .returned (.int .i64 r) ∧ (r : Int) < of ∧ Mk W0 v b (k + 1) w' ∧ w.grownBy w' (some b)
theorem nTo_mk {W0 : World} {v : Value} {b k : Nat} {of x : Int} {w w' : World} (h0 : 0 ≤ x) (h1 : x < of) (h2 : Mk W0 v b (k + 1) w') (h3 : w.grownBy w' (some b)) : NTo W0 v b k of w (.returned (.int .i64 x)) w' :=
  ⟨x.toNat, by rw [Int.toNat_of_nonneg h0], by rw [Int.toNat_of_nonneg h0]; exact h1, h2, h3⟩
theorem mk_step {W0 : World} {v : Value} {b k : Nat} {w : World} (h : Mk W0 v b k w) : Mk W0 v b (k + 1) (w.setCell ⟨b, 1, none⟩ (.int .i64 ((k : Int) + 1))) := by
  obtain ⟨h1, h2, h3⟩ := h
  exact ⟨h1.grown (grown_setCell _ _ _ _) h1.size (fun j hj => by cases hj; exact h2), h2, by simpa using heap_set (j := 1) h3 (.int .i64 ((k : Int) + 1))⟩
theorem Mk.drewN {W0 : World} {v : Value} {b k : Nat} {w : World} (h : Mk W0 v b k w) (n : Nat) : Mk W0 v b k (w.drewN n) := ⟨below_drewN h.1 n, h.2.1, h.2.2⟩
theorem grown_drew' {w w' : World} {r : Option Nat} (n : Nat) (h : (w.drewN n).grownBy w' r) : w.grownBy w' r := ⟨h.os, h.tape, h.output, h.size, h.block⟩
theorem Mk.below {W0 : World} {v : Value} {b k : Nat} {w w' : World} (h : Mk W0 v b k w) (hb : Below w.heap.size w w') : Mk W0 v b k w' :=
  ⟨below_then h.1 hb h.1.size, h.2.1, (hb.block _ (Array.getElem?_eq_some_iff.1 h.2.2).1).trans h.2.2⟩
theorem StrAt.drewN {w : World} {t : Nat} {l : List Tx} (h : StrAt w t l) (n : Nat) : StrAt (w.drewN n) t l := h
theorem Mk.alloc {W0 : World} {v : Value} {b k : Nat} {w : World} (h : Mk W0 v b k w) (O : Obj) : Mk W0 v b k (w.alloc O) :=
  ⟨h.1.alloc h.1.size _, h.2.1, (heap_alloc_old _ _ (Array.getElem?_eq_some_iff.1 h.2.2).1).trans h.2.2⟩
set_option maxHeartbeats 2000000 in
theorem n_any (W0 : World) (v : Value) (zs : List Int) (hz : IntsAt W0 v zs) (b k : Nat) (of : Int) (w : World) (h : Mk W0 v b k w) (hk : k ≤ 1000000) (h1 : 1 ≤ of) (h2 : of ≤ 1000) :
    Calls Tryz.prog 67 #[.pointer (some ⟨b, 0, none⟩), .int .i64 of] w (NTo W0 v b k of w) := by
  obtain ⟨A, cap, rfl, hm, hx⟩ := hz
  have q0 : w.cell? ⟨b, 0, none⟩ = some (.slice A zs.length cap) := by rw [cell_of_row _ _ _ _ _ _ h.2.2]; rfl
  have q1 : w.cell? ⟨b, 1, none⟩ = some (.int .i64 k) := by rw [cell_of_row _ _ _ _ _ _ h.2.2]; rfl
  have f1 : w.frozen? ⟨b, 1, none⟩ = false := by simp [World.frozen?, h.2.2]
  have HS := fun n => Lib.hid (mk_step (h.drewN n))
  have ek : IntKind.i64.wrap ((k : Int) + 1) = (k : Int) + 1 := by rw [IntKind.wrap_i64]; omega
  by_cases hlt : k < zs.length
  · obtain ⟨g, off, rfl, hgl, hc, hwf⟩ := hx k hlt
    have hc' : w.cell? ⟨g, off + k, none⟩ = some (.int .i64 zs[k]) := (h.1.cell (p := ⟨g, off + k, none⟩) hgl).trans hc
    have hw := fun W => Within_any zs[k] of W hwf h1 (by omega)
    have hb := within_bd zs[k] of h1
    have HW := Lib.hid hw
    clear hw hx hc h hwf
    generalize zs[k] = x at *
    generalize zs.length = l at *
    go_enter Tryz.func67, Tryz.ntmps67
    go_wp2
    go_quiet (fail)
    go_wp2
    go_quiet (fail)
    go_wp2_with (go_at_call 18; refine (HW.out _).mono ?_; rintro e w1 ⟨rfl, rfl⟩)
    go_ret
    exact nTo_mk hb.1 hb.2 (HS _).out (grown_drew' _ (grown_setCell _ _ _ _))
  · have hw := fun W => Within_any 0 of W (by decide) h1 (by omega)
    have hb := within_bd 0 of h1
    have HW := Lib.hid hw
    clear hw hx h
    generalize zs.length = l at *
    go_enter Tryz.func67, Tryz.ntmps67
    go_wp2
    go_quiet (fail)
    go_wp2_with (go_at_call 18; refine (HW.out _).mono ?_; rintro e w1 ⟨rfl, rfl⟩)
    go_ret
    exact nTo_mk hb.1 hb.2 (HS _).out (grown_drew' _ (grown_setCell _ _ _ _))
/-- a text of some size without an end of a line -/
def NmTo (n : Nat) (w : World) (e : Ending) (w' : World) : Prop := ∃ t : ByteArray, e = .returned (.string t) ∧ t.size = n ∧ nl t = 0 ∧ w = w'
theorem abc_at (m : Nat) (h : m < 12) : (ByteArray.mk #[97, 98, 99, 100, 101, 102, 103, 104, 105, 106, 107, 108]).extract m 12 = bs ([97, 98, 99, 100, 101, 102, 103, 104, 105, 106, 107, 108].drop m) := by
  rw [extract_bs]
  have : ∀ m, m < 12 → List.take (12 - m) (List.drop m (ByteArray.mk #[97, 98, 99, 100, 101, 102, 103, 104, 105, 106, 107, 108]).data.toList) = List.drop m [97, 98, 99, 100, 101, 102, 103, 104, 105, 106, 107, 108] := by decide
  rw [this m h]
theorem abc_nl : ∀ m, m < 12 → ∀ l ∈ [([97, 98, 99, 100, 101, 102, 103, 104, 105, 106, 107, 108] : List UInt8).drop m], (l.take 1).length = 1 ∧ (l.take 1).count 10 = 0 := by decide
/-- the letter of a number -/
def abc (n : Nat) : ByteArray := bs ((([97, 98, 99, 100, 101, 102, 103, 104, 105, 106, 107, 108] : List UInt8).drop (n % 12)).take 1)
theorem abc_sz (n : Nat) : (abc n).size = 1 := (abc_nl (n % 12) (Nat.mod_lt _ (by omega)) _ (List.mem_singleton.2 rfl)).1
theorem abc_no (n : Nat) : nl (abc n) = 0 := (abc_nl (n % 12) (Nat.mod_lt _ (by omega)) _ (List.mem_singleton.2 rfl)).2
theorem nmv_any (h : ByteArray) (hs : h.size = 1) (n : Nat) (hn : n ≤ 1000000) (w : World) : Calls Tryz.prog 68 #[.string h, .int .i64 n] w fun e w' => e = .returned (.string (h ++ abc n)) ∧ w = w' := by
  have hm : (n : Int).tmod 12 = ((n % 12 : Nat) : Int) := by rw [Int.tmod_eq_emod_of_nonneg (by omega)]; omega
  have hlt : n % 12 < 12 := Nat.mod_lt _ (by omega)
  unfold abc
  generalize n % 12 = m at *
  have hab := abc_at m hlt
  have hsz : (bs ([97, 98, 99, 100, 101, 102, 103, 104, 105, 106, 107, 108].drop m)).size = 12 - m := by rw [size_bs]; simp
  have hmi : (m : Int) ≤ 12 := by omega
  go_enter Tryz.func68, Tryz.ntmps68
  go_wp2
  go_ret
  have hx : ∀ l : List UInt8, (bs l).extract 0 1 = bs (l.take 1) := fun l => by rw [extract_bs]; rfl
  rw [hx]
  exact ⟨rfl, rfl⟩
theorem nm_any (h : ByteArray) (hs : h.size = 1) (h0 : nl h = 0) (n : Nat) (hn : n ≤ 1000000) (w : World) : Calls Tryz.prog 68 #[.string h, .int .i64 n] w (NmTo 2 w) :=
  (nmv_any h hs n hn w).mono fun _ _ ⟨he, hw⟩ => ⟨_, he, by rw [ByteArray.size_append, hs, abc_sz], by rw [nl_app, h0, abc_no], hw⟩
end Go.Proofs.YtiodjjnohbjhlaaGreatDoor
/-
  The maker's people: some text of some lines.
-/
namespace Go.Proofs.YtiodjjnohbjhlaaGreatDoor
set_option maxRecDepth 100000
open Go.ChangeShapes Go.WideShapes Go.ChangeAt Go.RowKit

/-- some text, of so many bytes and lines at most; the maker went on -/
def TxTo (W0 : World) (v : Value) (b L R K : Nat) (_w : World) (e : Ending) (w' : World) : Prop := ∃ (t : ByteArray) (k : Nat), e = .returned (.string t) ∧ t.size ≤ L ∧ nl t ≤ R ∧ k ≤ K ∧ Mk W0 v b k w' ∧ Below W0.heap.size W0 w'
theorem txTo_mk {W0 : World} {v : Value} {b L R K : Nat} {w w' : World} {t : ByteArray} {k : Nat} (h1 : t.size ≤ L) (h2 : nl t ≤ R) (h3 : k ≤ K) (h4 : Mk W0 v b k w') : TxTo W0 v b L R K w (.returned (.string t)) w' := ⟨t, k, rfl, h1, h2, h3, h4, h4.1⟩
theorem nl_digs (n : Nat) : nl (bs (digs n)) = 0 := by
  have key : ∀ m, m < 10 → ([dgt m] : List UInt8).count 10 = 0 := by decide
  have : ∀ n, (digs n).count 10 = 0 := by
    intro n
    induction n using Nat.strongRecOn with
    | ind n ih =>
      rw [digs]
      split
      · exact key n (by omega)
      · rw [List.count_append, ih (n / 10) (by omega), key (n % 10) (by omega)]
  exact this n
def duT : List Tx := [[115, 115, 100], [100, 115, 100]]
theorem du_facts (j : Nat) (h : j < duT.length) : (bs duT[j]).size = 3 ∧ nl (bs duT[j]) = 0 := by
  obtain rfl | rfl : j = 0 ∨ j = 1 := by simp [duT] at h; omega
  · exact ⟨rfl, rfl⟩
  · exact ⟨rfl, rfl⟩
set_option maxHeartbeats 8000000 in
theorem people_any (W0 : World) (v : Value) (zs : List Int) (hz : IntsAt W0 v zs) (b : Nat) (w : World) (h : Mk W0 v b 0 w) :
    Calls Tryz.prog 33 #[.pointer (some ⟨b, 0, none⟩)] w (TxTo W0 v b 900 40 400 w) := by
  have NA := fun (k : Nat) (of : Int) (w : World) (h : Mk W0 v b k w) (hk : k ≤ 1000000) (h1 : 1 ≤ of) (h2 : of ≤ 1000) => n_any W0 v zs hz b k of w h hk h1 h2
  have NH := Lib.hid NA
  have HR := Lib.hid (fun (n : Nat) (hn : n ≤ 1000000) w => nm_any ⟨#[114]⟩ rfl (by decide) n hn w)
  have HU := Lib.hid (fun (n : Nat) (hn : n ≤ 1000000) w => nm_any ⟨#[117]⟩ rfl (by decide) n hn w)
  have HPN := Lib.hid (fun (n : Nat) (hn : n ≤ 1000000) w => nm_any ⟨#[112]⟩ rfl (by decide) n hn w)
  have HV := Lib.hid (fun (n : Nat) (hn : n ≤ 1000000) w => (nmv_any ⟨#[114]⟩ rfl n hn w).mono fun _ _ h => And.intro h.1 h.2.symm)
  have DG := Lib.hid (fun (n : Nat) (hn : n ≤ 1000000) (w : World) => (show Calls Tryz.prog 69 #[.int .i64 (1 + (n : Int))] w (StrNew (digs (1 + n)) w) from Digits_any (1 + n) w (by omega)))
  clear NA hz
  go_enter Tryz.func33, Tryz.ntmps33
  go_upto_region 4 with (go_at_call 67; refine (NH.out 0 4 _ h (by omega) (by omega) (by omega)).mono ?_; rintro e w1 ⟨r, rfl, hr, h1, -⟩)
  obtain ⟨q, hq⟩ : ∃ q : Nat, (2 : Int) + r = q := ⟨2 + r, by omega⟩
  have hq2 : 2 ≤ q ∧ q ≤ 5 := by omega
  try rw [hq]
  clear h hq hr
  go_loopw [3, 5] (fun s i wr => ∃ (j : Nat) (t : ByteArray) (k : Nat), j ≤ q ∧ i = .int .i64 j ∧ s = .string t ∧ t.size ≤ 30 * j ∧ Hid (nl t ≤ j) ∧ k ≤ 1 + 10 * j ∧ Mk W0 v b k wr) (fun _ i _ => q - (intOf i).toNat)
  case atStart => exact ⟨0, ⟨#[]⟩, 1, by omega, rfl, rfl, by decide, Nat.zero_le _, by omega, h1⟩
  case round =>
    obtain ⟨j, t, k, hj, rfl, rfl, hts, HTN, hk, hM⟩ := hrel
    clear h1
    by_cases hlt : j < q
    · go_upto_region 9 with (go_at_call 68; refine (HR.out j (by omega) _).mono ?_; rintro e w2 ⟨c, rfl, hc, hcn, rfl⟩)
      have HCN := Lib.hid hcn
      clear hcn
      go_loopw [6, 7] (fun s i wx => ∃ (j2 : Nat) (t2 : ByteArray) (k2 : Nat), j2 ≤ q ∧ i = .int .i64 j2 ∧ s = .string t2 ∧ t2.size ≤ 3 * j2 ∧ Hid (nl t2 = 0) ∧ k2 ≤ k + j2 ∧ Mk W0 v b k2 wx) (fun _ i _ => q - (intOf i).toNat)
      case atStart => exact ⟨j + 1, ⟨#[]⟩, k, by omega, by go_num, rfl, by simp [sz_lit], rfl, by omega, hM⟩
      case round =>
        obtain ⟨j2, t2, k2, hj2, rfl, rfl, ht2, HT2, hk2, hM2⟩ := hrel
        clear hM
        by_cases hl2 : j2 < q
        · go_wp2_with (first
            | (go_at_call 67; refine (NH.out k2 3 _ hM2 (by omega) (by omega) (by omega)).mono ?_; rintro e w3 ⟨r3, rfl, hr3, hM3, -⟩)
            | (go_at_call 68; refine (HR.out j2 (by omega) _).mono ?_; rintro e w2 ⟨c2, rfl, hc2, hcn2, rfl⟩))
          · go_roundw
            case rel => exact ⟨j2 + 1, _, k2 + 1, by omega, by go_num, rfl, by simp [ByteArray.size_append, sz_lit]; omega, by show _ = _; simp [nl_app, nl_lit, HT2.out, hcn2], by omega, hM3⟩
            case measure => simp [intOf]; omega
          · go_roundw
            case rel => exact ⟨j2 + 1, _, k2 + 1, by omega, by go_num, rfl, by omega, HT2, by omega, hM3⟩
            case measure => simp [intOf]; omega
        · go_wp2_with (go_at_call 67; refine (NH.out k2 40 _ hM2 (by omega) (by omega) (by omega)).mono ?_; rintro e w3 ⟨r3, rfl, hr3, hM3, -⟩)
          all_goals
            go_roundw
            case rel => exact ⟨j + 1, _, k2 + 1, by omega, by go_num, rfl, by simp [ByteArray.size_append, sz_lit]; omega, by show _ ≤ _; have := HTN.out; simp [nl_app, nl_lit, HT2.out, HCN.out]; omega, by omega, hM3⟩
            case measure => simp [intOf]; omega
    · have hjq : j = q := by omega
      clear hj hlt
      go_upto_region 20 with (go_at_call 67; refine (NH.out k 3 _ hM (by omega) (by omega) (by omega)).mono ?_; rintro e w9 ⟨r3, rfl, hr3, hM3, -⟩)
      obtain ⟨u, hu⟩ : ∃ u : Nat, (2 : Int) + r3 = u := ⟨2 + r3, by omega⟩
      have hu4 : u ≤ 4 := by omega
      try rw [hu]
      clear hu hr3 hM
      go_loopw [3, 9] (fun s i wr => ∃ (j3 : Nat) (t3 : ByteArray) (k3 : Nat), j3 ≤ u ∧ i = .int .i64 j3 ∧ s = .string t3 ∧ t3.size ≤ 150 + 25 * j3 ∧ Hid (nl t3 ≤ 5 + j3) ∧ k3 ≤ 52 + 10 * j3 ∧ Mk W0 v b k3 wr) (fun _ i _ => u - (intOf i).toNat)
      case atStart => exact ⟨0, t, k + 1, by omega, rfl, rfl, by omega, by show _ ≤ _; have := HTN.out; omega, by omega, hM3⟩
      case round =>
        clear hM3 hts HTN hk
        obtain ⟨j3, t3, k3, hj3, rfl, rfl, ht3, HT3, hk3, hM⟩ := hrel
        by_cases hlt : j3 < u
        · go_upto_region 24 with (go_at_call 68; refine (HU.out j3 (by omega) _).mono ?_; rintro e w9 ⟨c, rfl, hzc, hnc, rfl⟩)
          have HCN : Hid (nl c = 0) := hnc
          clear hnc
          go_loopw [3, 10] (fun s i wr => ∃ (j4 : Nat) (t4 : ByteArray) (k4 : Nat), j4 ≤ q ∧ i = .int .i64 j4 ∧ s = .string t4 ∧ t4.size ≤ 157 + 25 * j3 + 3 * j4 ∧ Hid (nl t4 ≤ 5 + j3) ∧ k4 ≤ 52 + 10 * j3 + 2 * j4 ∧ Mk W0 v b k4 wr) (fun _ i _ => q - (intOf i).toNat)
          case atStart => exact ⟨0, _, k3, by omega, rfl, rfl, by simp [ByteArray.size_append, sz_lit]; omega, by show _ ≤ _; have := HT3.out; simp [nl_app, nl_lit, HCN.out]; omega, by omega, hM⟩
          case round =>
            clear ht3 HT3 hk3 hM
            obtain ⟨j4, t4, k4, hj4, rfl, rfl, ht4, HT4, hk4, hM4⟩ := hrel
            by_cases hl4 : j4 < q
            · have tok1 : True := trivial
              have hq0 : ((q : Int) == 0) = false := by simp; omega
              have hq1 : ¬ (q : Int) = 0 := by omega
              have hrm : (j3 : Int).tmod q = ((j3 % q : Nat) : Int) := by rw [Int.tmod_eq_emod_of_nonneg (by omega)]; omega
              generalize j3 % q = m at hrm
              rcases bor_cases (a := ((j4 : Int) == (m : Int))) with gm | gm
              all_goals
                go_wp2_with (first
                  | (have _t := tok1; go_at_call 67; refine (NH.out k4 3 _ hM4 (by omega) (by omega) (by omega)).mono ?_; rintro e w9 ⟨r5, rfl, hr5, hM5, -⟩; clear tok1 _t; rcases bor_cases (a := ((r5 : Int) == 0)) with g5 | g5)
                  | (go_at_call 67; refine (NH.out (k4 + 1) 4 _ hM5 (by omega) (by omega) (by omega)).mono ?_; rintro e w9 ⟨r6, rfl, hr6, hM6, -⟩; rcases bor_cases (a := decide ((0 : Int) < r6)) with g6 | g6)
                  | (go_at_call 68; refine (HR.out j4 (by omega) _).mono ?_; rintro e w9 ⟨c4, rfl, hzc4, hnc4, rfl⟩))
                all_goals
                  go_roundw
                  case rel => first
                    | exact ⟨j4 + 1, _, _, by omega, by go_num, rfl, (by first | omega | (simp [ByteArray.size_append, sz_lit]; omega)), (by show _ ≤ _; have := HT4.out; first | omega | (simp [nl_app, nl_lit, hnc4]; omega)), by omega, hM6⟩
                    | exact ⟨j4 + 1, _, _, by omega, by go_num, rfl, (by first | omega | (simp [ByteArray.size_append, sz_lit]; omega)), (by show _ ≤ _; have := HT4.out; first | omega | (simp [nl_app, nl_lit, hnc4]; omega)), by omega, hM5⟩
                  case measure => simp [intOf]; omega
            · go_wp2
              go_roundw
              case rel => exact ⟨j3 + 1, _, k4, by omega, by go_num, rfl, by simp [ByteArray.size_append, sz_lit]; omega, by show _ ≤ _; have := HT4.out; simp [nl_app, nl_lit]; omega, by omega, hM4⟩
              case measure => simp [intOf]; omega
        · have hju : j3 = u := by omega
          clear hj3 hlt
          go_upto_region 30 with fail
          go_loopw [3, 11] (fun s i wr => ∃ (j5 : Nat) (t5 : ByteArray) (k5 : Nat), j5 ≤ 3 ∧ i = .int .i64 j5 ∧ s = .string t5 ∧ t5.size ≤ 250 + 25 * j5 ∧ Hid (nl t5 ≤ 9 + j5) ∧ k5 ≤ 92 + 10 * j5 ∧ Mk W0 v b k5 wr) (fun _ i _ => 3 - (intOf i).toNat)
          case atStart => exact ⟨0, t3, k3, by omega, rfl, rfl, by omega, by show _ ≤ _; have := HT3.out; omega, by omega, hM⟩
          case round =>
            clear ht3 HT3 hk3 hM hju
            obtain ⟨j5, t5, k5, hj5, rfl, rfl, ht5, HT5, hk5, hM⟩ := hrel
            by_cases hlt : j5 < 3
            · go_upto_region 34 with (go_at_call 68; refine (HPN.out j5 (by omega) _).mono ?_; rintro e w9 ⟨c, rfl, hzc, hnc, rfl⟩)
              have HCN : Hid (nl c = 0) := hnc
              clear hnc
              go_loopw [3, 12] (fun s i wr => ∃ (j4 : Nat) (t4 : ByteArray) (k4 : Nat), j4 ≤ q ∧ i = .int .i64 j4 ∧ s = .string t4 ∧ t4.size ≤ 257 + 25 * j5 + 3 * j4 ∧ Hid (nl t4 ≤ 9 + j5) ∧ k4 ≤ 92 + 10 * j5 + 2 * j4 ∧ Mk W0 v b k4 wr) (fun _ i _ => q - (intOf i).toNat)
              case atStart => exact ⟨0, _, k5, by omega, rfl, rfl, by simp [ByteArray.size_append, sz_lit]; omega, by show _ ≤ _; have := HT5.out; simp [nl_app, nl_lit, HCN.out]; omega, by omega, hM⟩
              case round =>
                clear ht5 HT5 hk5 hM
                obtain ⟨j4, t4, k4, hj4, rfl, rfl, ht4, HT4, hk4, hM4⟩ := hrel
                by_cases hl4 : j4 < q
                · have tok1 : True := trivial
                  have hq0 : ((q : Int) == 0) = false := by simp; omega
                  have hq1 : ¬ (q : Int) = 0 := by omega
                  have hrm : ((j5 : Int) + q - 1).tmod q = (((j5 + q - 1) % q : Nat) : Int) := by rw [show (j5 : Int) + q - 1 = ((j5 + q - 1 : Nat) : Int) by omega]; exact (Int.ofNat_tmod _ _).symm
                  generalize (j5 + q - 1) % q = m at hrm
                  rcases bor_cases (a := ((j4 : Int) == (m : Int))) with gm | gm
                  all_goals
                    go_wp2_with (first
                      | (have _t := tok1; go_at_call 67; refine (NH.out k4 3 _ hM4 (by omega) (by omega) (by omega)).mono ?_; rintro e w9 ⟨r5, rfl, hr5, hM5, hhM5g⟩; clear tok1 _t; rcases bor_cases (a := ((r5 : Int) == 0)) with g5 | g5)
                      | (go_at_call 67; refine (NH.out (k4 + 1) 3 _ hM5 (by omega) (by omega) (by omega)).mono ?_; rintro e w9 ⟨r6, rfl, hr6, hM6, hhM6g⟩; rcases bor_cases (a := decide ((0 : Int) < r6)) with g6 | g6)
                      | (go_at_call 68; refine (HR.out j4 (by omega) _).mono ?_; rintro e w9 ⟨c4, rfl, hzc4, hnc4, rfl⟩))
                    all_goals
                      go_roundw
                      case rel => first
                        | exact ⟨j4 + 1, _, _, by omega, by go_num, rfl, (by first | omega | (simp [ByteArray.size_append, sz_lit]; omega)), (by show _ ≤ _; have := HT4.out; first | omega | (simp [nl_app, nl_lit, hnc4]; omega)), by omega, hM6⟩
                        | exact ⟨j4 + 1, _, _, by omega, by go_num, rfl, (by first | omega | (simp [ByteArray.size_append, sz_lit]; omega)), (by show _ ≤ _; have := HT4.out; first | omega | (simp [nl_app, nl_lit, hnc4]; omega)), by omega, hM5⟩
                      case measure => simp [intOf]; omega
                · go_wp2
                  go_roundw
                  case rel => exact ⟨j5 + 1, _, k4, by omega, by go_num, rfl, by simp [ByteArray.size_append, sz_lit]; omega, by show _ ≤ _; have := HT4.out; simp [nl_app, nl_lit]; omega, by omega, hM4⟩
                  case measure => simp [intOf]; omega
            · go_upto_region 40 with fail
              clear hlt
              have hS0 : StrAt (wr.alloc (.cells #[.string ⟨#[115, 115, 100]⟩, .string ⟨#[100, 115, 100]⟩] 9)) wr.heap.size duT := strAt_alloc wr duT _
              have hM0 := hM.alloc (.cells #[.string ⟨#[115, 115, 100]⟩, .string ⟨#[100, 115, 100]⟩] 9)
              have hgb : some wr.heap.size ≠ some b := by have := (Array.getElem?_eq_some_iff.1 hM.2.2).1; simp; omega
              generalize hwg : wr.heap.size = g at *
              generalize hwa : wr.alloc (.cells #[.string ⟨#[115, 115, 100]⟩, .string ⟨#[100, 115, 100]⟩] 9) = wa at *
              clear hwa hwg hM
              go_loopw [3, 139] (fun s i wx => ∃ (j7 : Nat) (t7 : ByteArray) (k7 : Nat), j7 ≤ 2 ∧ i = .int .i64 j7 ∧ s = .string t7 ∧ t7.size ≤ 325 + 20 * j7 ∧ Hid (nl t7 ≤ 12 + j7) ∧ k7 ≤ 122 + 3 * j7 ∧ Mk W0 v b k7 wx ∧ Hid (StrAt wx g duT)) (fun _ i _ => 2 - (intOf i).toNat)
              case atStart => exact ⟨0, t5, k5, by omega, rfl, rfl, by omega, by show _ ≤ _; have := HT5.out; omega, by omega, hM0, hS0⟩
              case round =>
                clear ht5 HT5 hk5 hM0 hS0 hj5
                obtain ⟨j7, t7, k7, hj7, rfl, rfl, ht7, HT7, hk7, hM7, HS⟩ := hrel
                by_cases hl7 : j7 < 2
                · have hx := HS.out j7 hl7
                  obtain ⟨hw1, hw2⟩ := du_facts j7 hl7
                  generalize bs duT[j7] = wd at *
                  have HWN := Lib.hid hw2
                  clear hw2
                  have hq0 : ((q : Int) == 0) = false := by simp; omega
                  have hq1 : ¬ (q : Int) = 0 := by omega
                  rcases bor_cases (a := decide ((2 : Int) < q)) with gq | gq
                  · have tok1 : True := trivial
                    go_upto_if 149 with (go_at_call 67; refine (NH.out k7 3 _ hM7 (by omega) (by omega) (by omega)).mono ?_; rintro e w9 ⟨r7, rfl, hr7, hM8, hhM8g⟩; rcases bor_cases (a := ((r7 : Int) == 0)) with g7 | g7)
                    · have tok2 : True := trivial
                      go_upto_region 44 with (go_at_call 67; refine (NH.out (k7 + 1) q _ hM8 (by omega) (by omega) (by omega)).mono ?_; rintro e w9 ⟨r8, rfl, hr8, hM9, hhM9g⟩)
                      have e1 : ((r8 : Int) + 1).tmod q = (((r8 + 1) % q : Nat) : Int) := by rw [show (r8 : Int) + 1 = ((r8 + 1 : Nat) : Int) by omega]; exact (Int.ofNat_tmod _ _).symm
                      have e2 : ((r8 : Int) + 2).tmod q = (((r8 + 2) % q : Nat) : Int) := by rw [show (r8 : Int) + 2 = ((r8 + 2 : Nat) : Int) by omega]; exact (Int.ofNat_tmod _ _).symm
                      have l1 : (r8 + 1) % q < q := Nat.mod_lt _ (by omega)
                      have l2 : (r8 + 2) % q < q := Nat.mod_lt _ (by omega)
                      generalize (r8 + 1) % q = m1 at e1 l1
                      generalize (r8 + 2) % q = m2 at e2 l2
                      have w1 : IntKind.i64.wrap ((r8 : Int) + 1) = (r8 : Int) + 1 := by rw [IntKind.wrap_i64]; omega
                      have a1 := abc_sz r8
                      have a2 := abc_sz m1
                      go_quiet (first
                        | (go_at_call_of 68 (Value.int .i64 (r8 : Int)); exact Calls.quiet_of_same (HV.out r8 (by omega) _))
                        | (go_at_call_of 68 (Value.int .i64 (m1 : Int)); exact Calls.quiet_of_same (HV.out m1 (by omega) _)))
                      have hM9' := hM9.drewN nq
                      go_wp2_with (first
                        | (go_at_call 67; refine (NH.out (k7 + 2) 3 _ hM9' (by omega) (by omega) (by omega)).mono ?_; rintro e w9 ⟨r10, rfl, hr10, hM10, hhM10g⟩; rcases bor_cases (a := ((r10 : Int) == 0)) with g10 | g10)
                        | (go_at_call 68; refine (HR.out m2 (by omega) _).mono ?_; rintro e w9 ⟨c10, rfl, hzc10, hnc10, rfl⟩))
                      all_goals
                        go_roundw
                        case rel => exact ⟨j7 + 1, _, k7 + 3, by omega, by go_num, rfl, by simp [ByteArray.size_append, sz_lit, abc_sz]; omega, (by show _ ≤ _; have := HT7.out; first | (simp [nl_app, nl_lit, abc_no, HWN.out, hnc10]; omega) | (simp [nl_app, nl_lit, abc_no, HWN.out]; omega)), by omega, hM10, StrAt.kept (StrAt.drewN (StrAt.kept (StrAt.kept HS.out hhM8g hgb) hhM9g hgb) nq) hhM10g hgb⟩
                        case measure => simp [intOf]; omega
                    · go_wp2
                      go_roundw
                      case rel => exact ⟨j7 + 1, _, k7 + 1, by omega, by go_num, rfl, by omega, by show _ ≤ _; have := HT7.out; omega, by omega, hM8, StrAt.kept HS.out hhM8g hgb⟩
                      case measure => simp [intOf]; omega
                  · go_wp2
                    go_roundw
                    case rel => exact ⟨j7 + 1, _, k7, by omega, by go_num, rfl, by omega, by show _ ≤ _; have := HT7.out; omega, by omega, hM7, HS⟩
                    case measure => simp [intOf]; omega
                · go_upto_if 183 with (go_at_call 67; refine (NH.out k7 2 _ hM7 (by omega) (by omega) (by omega)).mono ?_; rintro e w9 ⟨r7, rfl, hr7, hM8, hhM8g⟩)
                  clear hl7 HS hM7
                  go_cut [3] (fun s wx => wx = w9 ∧ ∃ t : ByteArray, s = .string t ∧ t.size ≤ 381 ∧ Hid (nl t ≤ 15))
                  case first =>
                    go_wp2
                    all_goals
                      go_meet
                      exact ⟨rfl, _, rfl, by first | omega | (simp [ByteArray.size_append, sz_lit]; omega), by show _ ≤ _; have := HT7.out; first | omega | (simp [nl_app, nl_lit]; omega)⟩
                  case rest =>
                    obtain ⟨rfl, t8, rfl, ht8, HT8⟩ := hcut
                    clear ht7 HT7
                    go_upto_if 188 with (go_at_call 67; refine (NH.out (k7 + 1) 4 _ hM8 (by omega) (by omega) (by omega)).mono ?_; rintro e w9 ⟨r8, rfl, hr8, hM9, hhM9g⟩)
                    clear hM8
                    go_cut [3] (fun s wx => wx = w9 ∧ ∃ t : ByteArray, s = .string t ∧ t.size ≤ 397 ∧ Hid (nl t ≤ 16))
                    case first =>
                      go_wp2
                      all_goals
                        go_meet
                        exact ⟨rfl, _, rfl, by first | omega | (simp [ByteArray.size_append, sz_lit]; omega), by show _ ≤ _; have := HT8.out; first | omega | (simp [nl_app, nl_lit]; omega)⟩
                    case rest =>
                      obtain ⟨rfl, t9, rfl, ht9, HT9⟩ := hcut
                      clear ht8 HT8
                      go_upto_region 54 with fail
                      go_loopw [3, 16] (fun s i wx => ∃ (jl : Nat) (t : ByteArray) (kl : Nat), jl ≤ q ∧ i = .int .i64 jl ∧ s = .string t ∧ t.size ≤ 397 + 70 * jl ∧ Hid (nl t ≤ 16 + jl) ∧ kl ≤ 130 + 3 * jl ∧ Mk W0 v b kl wx) (fun _ i _ => q - (intOf i).toNat)
                      case atStart => exact ⟨0, t9, k7 + 2, by omega, rfl, rfl, by omega, by show _ ≤ _; have := HT9.out; omega, by omega, hM9⟩
                      case round =>
                        clear ht9 HT9 hM9 hk7 hj7
                        obtain ⟨jl, t, kl, hjl, rfl, rfl, ht, HT, hkl, hM⟩ := hrel
                        by_cases hll : jl < q
                        · have tok1 : True := trivial
                          have tok2 : True := trivial
                          have tok3 : True := trivial
                          go_wp2_with (first
                            | (have _t := tok1; go_at_call 67; refine (NH.out kl 2 _ hM (by omega) (by omega) (by omega)).mono ?_; rintro e w9 ⟨ra, rfl, hra, hMa, hhMag⟩; clear tok1 _t)
                            | (have _t := tok2; go_at_call 67; refine (NH.out (kl + 1) 3 _ hMa (by omega) (by omega) (by omega)).mono ?_; rintro e w9 ⟨rb, rfl, hrb, hMb, hhMbg⟩; clear tok2 _t)
                            | (go_at_call 67; refine (NH.out (kl + 2) 40 _ hMc (by omega) (by omega) (by omega)).mono ?_; rintro e w9 ⟨rc, rfl, hrc, hMd, hhMdg⟩)
                            | (go_at_call 68; refine (HR.out jl (by omega) _).mono ?_; rintro e w9 ⟨cl, rfl, hzcl, hncl, rfl⟩)
                            | (have _t := tok3; go_at_call 69; refine (DG.out rb (by omega) _).mono ?_; rintro e w9 ⟨rfl, hbd⟩; have hMc := hMb.below hbd; have dl1 : (bs (digs (1 + rb))).size ≤ 1 + rb + 1 := digs_le (1 + rb); clear tok3 _t)
                            | (go_at_call 69; refine (DG.out rc (by omega) _).mono ?_; rintro e w9 ⟨rfl, hbd2⟩; have hMe := hMd.below hbd2; have dl2 : (bs (digs (1 + rc))).size ≤ 1 + rc + 1 := digs_le (1 + rc)))
                          · go_roundw
                            case rel => exact ⟨jl + 1, _, kl + 3, by omega, by go_num, rfl, by simp [ByteArray.size_append, sz_lit]; omega, by show _ ≤ _; have := HT.out; simp [nl_app, nl_lit, hncl, nl_digs]; omega, by omega, hMe⟩
                            case measure => simp [intOf]; omega
                          · go_roundw
                            case rel => exact ⟨jl + 1, _, kl + 1, by omega, by go_num, rfl, by omega, by show _ ≤ _; have := HT.out; omega, by omega, hMa⟩
                            case measure => simp [intOf]; omega
                        · go_wp2
                          go_ret
                          exact txTo_mk (by omega) (by have := HT.out; omega) (by omega) hM
end Go.Proofs.YtiodjjnohbjhlaaGreatDoor
/-
  The text of a plan's people.
-/
namespace Go.Proofs.YtiodjjnohbjhlaaGreatDoor
set_option maxRecDepth 100000
open Go.ChangeShapes Go.WideShapes Go.ChangeAt Go.RowKit

theorem ints_slice {w : World} {v : Value} {zs : List Int} (h : IntsAt w v zs) : ∃ A n cap, v = .slice A n cap := by
  obtain ⟨A, cap, h1, _⟩ := h
  exact ⟨A, _, cap, h1⟩
/-- a text that ends as a line -/
def EndOut (L R : Nat) (w : World) (e : Ending) (w' : World) : Prop := ∃ t : ByteArray, e = .returned (.string (t ++ ⟨#[10]⟩)) ∧ t.size ≤ L ∧ nl t ≤ R ∧ Below w.heap.size w w'
set_option maxHeartbeats 2000000 in
theorem peopleTx_any (v : Value) (zs : List Int) (w : World) (hz : IntsAt w v zs) : Calls Tryz.prog 9 #[.agg #[v]] w (EndOut 1000 50 w) := by
  have hM : Mk w v (w.heap.size + 1) 0 ((w.alloc (.cells #[v] 24)).alloc (.cells #[v, .int .i64 0] 73)) :=
    ⟨((Below.refl _ _).alloc (Nat.le_refl _) _).alloc (by simp) _, by omega, alloc_at (by simp) _⟩
  have HP := Lib.hid (people_any w v zs hz (w.heap.size + 1))
  obtain ⟨A, n, cap, rfl⟩ := ints_slice hz
  clear hz
  go_enter Tryz.func9, Tryz.ntmps9
  go_wp2_with (go_at_call 33; refine (HP.out _ hM).mono ?_; rintro e w1 ⟨t, k, rfl, ht, hn, hk, hM1, hb1⟩; have HN := Lib.hid hn; clear hn)
  go_ret
  have e : t ++ ⟨#[115, 116, 97, 116, 101, 32, 115, 97, 32, 112, 108, 97, 105, 110, 10]⟩ = (t ++ ⟨#[115, 116, 97, 116, 101, 32, 115, 97, 32, 112, 108, 97, 105, 110]⟩) ++ ⟨#[10]⟩ := by
    rw [ByteArray.append_assoc]; rfl
  rw [e]
  exact ⟨_, rfl, by simp [ByteArray.size_append, sz_lit]; omega, by have h1 := HN.out; simp [nl_app, nl_lit]; omega, hb1⟩
end Go.Proofs.YtiodjjnohbjhlaaGreatDoor
