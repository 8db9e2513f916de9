/-
  The maker of a plan's texts: the number that is next; a name. Of texts only how much they hold, and how many lines end in them.
-/
import Derived.Test.YtahhepmhdcbplaaGreatDoorWithin
import Derived.Test.YtahhepmhdcbplaaGreatDoorOwn
import Derived.Test.YtahhepmhdcbplaaGreatDoorRd4
namespace Go.Proofs.YtahhepmhdcbplaaGreatDoor
set_option maxRecDepth 100000
open Go.ChangeShapes Go.WideShapes Go.ChangeAt Go.RowKit

theorem wp_end {P : Program} {s : Code} {Q : Exit → Act → World → Prop} {a : Act} {w : World} (h : ∀ K : Act → World → Prop, (K = fun a w => Q .normal a w) → s.wp P (Exit.then K Q) a w) : s.wp P Q a w :=
  wp_mono (h _ rfl) (fun e a w hq => by cases e <;> exact hq)
/-- how many lines end in a text -/
def nl (t : ByteArray) : Nat := t.data.toList.count 10
theorem nl_app (a b : ByteArray) : nl (a ++ b) = nl a + nl b := by simp [nl, ByteArray.data_append]
theorem nl_lit (l : Array UInt8) : nl ⟨l⟩ = l.toList.count 10 := rfl
theorem sz_lit (l : Array UInt8) : (⟨l⟩ : ByteArray).size = l.size := rfl

/-- where a maker stands: its plan's numbers came in; so many were taken -/
def Mk (W0 : World) (v : Value) (b k : Nat) (w : World) : Prop := Below W0.heap.size W0 w ∧ W0.heap.size ≤ b ∧ w.heap[b]? = some (.cells #[v, .int .i64 k] 74 (0, 0))
def NTo (W0 : World) (v : Value) (b k : Nat) (of : Int) (w : World) (e : Ending) (w' : World) : Prop := ∃ r : Nat, e = .returned (.int .i64 r) ∧ (r : Int) < of ∧ Mk W0 v b (k + 1) w' ∧ w.grownBy w' (some b)
theorem nTo_mk {W0 : World} {v : Value} {b k : Nat} {of x : Int} {w w' : World} (h0 : 0 ≤ x) (h1 : x < of) (h2 : Mk W0 v b (k + 1) w') (h3 : w.grownBy w' (some b)) : NTo W0 v b k of w (.returned (.int .i64 x)) w' :=
  ⟨x.toNat, by rw [Int.toNat_of_nonneg h0], by rw [Int.toNat_of_nonneg h0]; exact h1, h2, h3⟩
theorem mk_step {W0 : World} {v : Value} {b k : Nat} {w : World} (h : Mk W0 v b k w) : Mk W0 v b (k + 1) (w.setCell ⟨b, 1, none⟩ (.int .i64 ((k : Int) + 1))) := by
  obtain ⟨h1, h2, h3⟩ := h
  exact ⟨h1.grown (grown_setCell _ _ _ _) h1.size (fun j hj => by cases hj; exact h2), h2, by simpa using heap_set (j := 1) h3 (.int .i64 ((k : Int) + 1))⟩
theorem Mk.drewN {W0 : World} {v : Value} {b k : Nat} {w : World} (h : Mk W0 v b k w) (n : Nat) : Mk W0 v b k (w.drewN n) := ⟨below_drewN h.1 n, h.2.1, h.2.2⟩
theorem grown_drew' {w w' : World} {r : Option Nat} (n : Nat) (h : (w.drewN n).grownBy w' r) : w.grownBy w' r := ⟨h.os, h.tape, h.output, h.size, h.block⟩
theorem Mk.below {W0 : World} {v : Value} {b k : Nat} {w w' : World} (h : Mk W0 v b k w) (hb : Below w.heap.size w w') : Mk W0 v b k w' :=
  ⟨below_then h.1 hb h.1.size, h.2.1, (hb.block _ (Array.getElem?_eq_some_iff.1 h.2.2).1).trans h.2.2⟩
theorem StrAt.drewN {w : World} {t : Nat} {l : List Tx} (h : StrAt w t l) (n : Nat) : StrAt (w.drewN n) t l := h
theorem Mk.alloc {W0 : World} {v : Value} {b k : Nat} {w : World} (h : Mk W0 v b k w) (O : Obj) : Mk W0 v b k (w.alloc O) :=
  ⟨h.1.alloc h.1.size _, h.2.1, (heap_alloc_old _ _ (Array.getElem?_eq_some_iff.1 h.2.2).1).trans h.2.2⟩
set_option maxHeartbeats 2000000 in
theorem n_any (W0 : World) (v : Value) (zs : List Int) (hz : IntsAt W0 v zs) (b k : Nat) (of : Int) (w : World) (h : Mk W0 v b k w) (hk : k ≤ 1000000) (h1 : 1 ≤ of) (h2 : of ≤ 1000) :
    Calls Tryz.prog 74 #[.pointer (some ⟨b, 0, none⟩), .int .i64 of] w (NTo W0 v b k of w) := by
  obtain ⟨A, cap, rfl, hm, hx⟩ := hz
  have q0 : w.cell? ⟨b, 0, none⟩ = some (.slice A zs.length cap) := by rw [cell_of_row _ _ _ _ _ _ h.2.2]; rfl
  have q1 : w.cell? ⟨b, 1, none⟩ = some (.int .i64 k) := by rw [cell_of_row _ _ _ _ _ _ h.2.2]; rfl
  have f1 : w.frozen? ⟨b, 1, none⟩ = false := by simp [World.frozen?, h.2.2]
  have HS := fun n => Lib.hid (mk_step (h.drewN n))
  have ek : IntKind.i64.wrap ((k : Int) + 1) = (k : Int) + 1 := by rw [IntKind.wrap_i64]; omega
  by_cases hlt : k < zs.length
  · obtain ⟨g, off, rfl, hgl, hc, hwf⟩ := hx k hlt
    have hc' : w.cell? ⟨g, off + k, none⟩ = some (.int .i64 zs[k]) := (h.1.cell (p := ⟨g, off + k, none⟩) hgl).trans hc
    have hw := fun W => Within_any zs[k] of W hwf h1 (by omega)
    have hb := within_bd zs[k] of h1
    have HW := Lib.hid hw
    clear hw hx hc h hwf
    generalize zs[k] = x at *
    generalize zs.length = l at *
    go_enter Tryz.func74, Tryz.ntmps74
    go_wp2
    go_quiet (fail)
    go_wp2
    go_quiet (fail)
    go_wp2_with (go_at_call 16; refine (HW.out _).mono ?_; rintro e w1 ⟨rfl, rfl⟩)
    go_ret
    exact nTo_mk hb.1 hb.2 (HS _).out (grown_drew' _ (grown_setCell _ _ _ _))
  · have hw := fun W => Within_any 0 of W (by decide) h1 (by omega)
    have hb := within_bd 0 of h1
    have HW := Lib.hid hw
    clear hw hx h
    generalize zs.length = l at *
    go_enter Tryz.func74, Tryz.ntmps74
    go_wp2
    go_quiet (fail)
    go_wp2_with (go_at_call 16; refine (HW.out _).mono ?_; rintro e w1 ⟨rfl, rfl⟩)
    go_ret
    exact nTo_mk hb.1 hb.2 (HS _).out (grown_drew' _ (grown_setCell _ _ _ _))
/-- a text of some size without an end of a line -/
def NmTo (n : Nat) (w : World) (e : Ending) (w' : World) : Prop := ∃ t : ByteArray, e = .returned (.string t) ∧ t.size = n ∧ nl t = 0 ∧ w = w'
theorem abc_at (m : Nat) (h : m < 12) : (ByteArray.mk #[97, 98, 99, 100, 101, 102, 103, 104, 105, 106, 107, 108]).extract m 12 = bs ([97, 98, 99, 100, 101, 102, 103, 104, 105, 106, 107, 108].drop m) := by
  rw [extract_bs]
  have : ∀ m, m < 12 → List.take (12 - m) (List.drop m (ByteArray.mk #[97, 98, 99, 100, 101, 102, 103, 104, 105, 106, 107, 108]).data.toList) = List.drop m [97, 98, 99, 100, 101, 102, 103, 104, 105, 106, 107, 108] := by decide
  rw [this m h]
theorem abc_nl : ∀ m, m < 12 → ∀ l ∈ [([97, 98, 99, 100, 101, 102, 103, 104, 105, 106, 107, 108] : List UInt8).drop m], (l.take 1).length = 1 ∧ (l.take 1).count 10 = 0 := by decide
/-- the letter of a number -/
def abc (n : Nat) : ByteArray := bs ((([97, 98, 99, 100, 101, 102, 103, 104, 105, 106, 107, 108] : List UInt8).drop (n % 12)).take 1)
theorem abc_sz (n : Nat) : (abc n).size = 1 := (abc_nl (n % 12) (Nat.mod_lt _ (by omega)) _ (List.mem_singleton.2 rfl)).1
theorem abc_no (n : Nat) : nl (abc n) = 0 := (abc_nl (n % 12) (Nat.mod_lt _ (by omega)) _ (List.mem_singleton.2 rfl)).2
theorem nmv_any (h : ByteArray) (hs : h.size = 1) (n : Nat) (hn : n ≤ 1000000) (w : World) : Calls Tryz.prog 75 #[.string h, .int .i64 n] w fun e w' => e = .returned (.string (h ++ abc n)) ∧ w = w' := by
  have hm : (n : Int).tmod 12 = ((n % 12 : Nat) : Int) := by rw [Int.tmod_eq_emod_of_nonneg (by omega)]; omega
  have hlt : n % 12 < 12 := Nat.mod_lt _ (by omega)
  unfold abc
  generalize n % 12 = m at *
  have hab := abc_at m hlt
  have hsz : (bs ([97, 98, 99, 100, 101, 102, 103, 104, 105, 106, 107, 108].drop m)).size = 12 - m := by rw [size_bs]; simp
  have hmi : (m : Int) ≤ 12 := by omega
  go_enter Tryz.func75, Tryz.ntmps75
  go_wp2
  go_ret
  have hx : ∀ l : List UInt8, (bs l).extract 0 1 = bs (l.take 1) := fun l => by rw [extract_bs]; rfl
  rw [hx]
  exact ⟨rfl, rfl⟩
theorem nm_any (h : ByteArray) (hs : h.size = 1) (h0 : nl h = 0) (n : Nat) (hn : n ≤ 1000000) (w : World) : Calls Tryz.prog 75 #[.string h, .int .i64 n] w (NmTo 2 w) :=
  (nmv_any h hs n hn w).mono fun _ _ ⟨he, hw⟩ => ⟨_, he, by rw [ByteArray.size_append, hs, abc_sz], by rw [nl_app, h0, abc_no], hw⟩
end Go.Proofs.YtahhepmhdcbplaaGreatDoor
