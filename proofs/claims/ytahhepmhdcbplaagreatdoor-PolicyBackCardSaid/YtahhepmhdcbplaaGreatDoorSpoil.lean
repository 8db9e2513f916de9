/-
  The text of a plan, spoilt at a place: some text, little longer.
-/
import Derived.Test.YtahhepmhdcbplaaGreatDoorPlay1
import Derived.Test.YtahhepmhdcbplaaGreatDoorWithin
import Derived.WalkSpells
import Derived.Deep.DeepCutAuto
import Derived.Laws.DeepStrings4
namespace Go.Proofs.YtahhepmhdcbplaaGreatDoor
set_option maxRecDepth 100000
open Go.ChangeShapes Go.WideShapes Go.ChangeAt Go.RowKit

def spoilL : List ByteArray := [⟨#[32]⟩, ⟨#[10]⟩, ⟨#[35]⟩, ⟨#[114, 97]⟩, ⟨#[32, 114, 97]⟩, ⟨#[62]⟩, ⟨#[48]⟩, ⟨#[49]⟩, ⟨#[9]⟩, ⟨#[127]⟩, ⟨#[114, 111, 108, 101, 32]⟩, ⟨#[117, 115, 101, 114, 32, 117, 97, 10]⟩, ⟨#[115, 116, 97, 116, 101, 32, 115, 97, 32, 112, 108, 97, 105, 110, 10]⟩, ⟨#[98, 121, 32]⟩, ⟨#[116, 97, 115, 107, 32]⟩, ⟨#[32, 105, 110, 32, 115, 97]⟩, ⟨#[120]⟩, ⟨#[45]⟩, ⟨#[195, 169]⟩]
theorem spoil_sz : ∀ x ∈ spoilL, x.size ≤ 15 := by
  intro x hx
  simp only [spoilL, List.mem_cons, List.mem_nil_iff, or_false] at hx
  rcases hx with rfl | rfl | rfl | rfl | rfl | rfl | rfl | rfl | rfl | rfl | rfl | rfl | rfl | rfl | rfl | rfl | rfl | rfl | rfl <;> decide
def SpoilTo (n : Nat) (w : World) (e : Ending) (w' : World) : Prop := ∃ t : ByteArray, e = .returned (.string t) ∧ t.size ≤ n ∧ Below w.heap.size w w'
set_option maxHeartbeats 4000000 in
theorem Spoil_any (s : ByteArray) (a b : Int) (w : World) (hs : s.size ≤ 100000) (ha : (Lit.int .i64 a).wf = true) (hb : (Lit.int .i64 b).wf = true) :
    Calls Tryz.prog 20 #[.string s, .int .i64 a, .int .i64 b] w (SpoilTo (s.size + 15) w) := by
  have hwb := fun W => Within_any b ((s.size : Int) + 1) W hb (by omega) (by omega)
  have hwa := fun W => Within_any a 25 W ha (by omega) (by omega)
  have h1 := within_bd b ((s.size : Int) + 1) (by omega)
  have h2 := within_bd a 25 (by omega)
  obtain ⟨kn, hkn⟩ : ∃ kn : Nat, within b ((s.size : Int) + 1) = kn := ⟨(within b ((s.size : Int) + 1)).toNat, by omega⟩
  obtain ⟨wn, hwn⟩ : ∃ wn : Nat, within a 25 = wn := ⟨(within a 25).toNat, by omega⟩
  rw [hkn] at hwb h1
  rw [hwn] at hwa h2
  have HWB := Lib.hid hwb
  have HWA := Lib.hid hwa
  have hks : (kn : Int) ≤ s.size := by omega
  clear hwb hwa hkn hwn
  have HB1 : Below w.heap.size w (w.alloc (.cells #[.string ⟨#[32]⟩, .string ⟨#[10]⟩, .string ⟨#[35]⟩, .string ⟨#[114, 97]⟩, .string ⟨#[32, 114, 97]⟩, .string ⟨#[62]⟩, .string ⟨#[48]⟩, .string ⟨#[49]⟩, .string ⟨#[9]⟩, .string ⟨#[127]⟩, .string ⟨#[114, 111, 108, 101, 32]⟩, .string ⟨#[117, 115, 101, 114, 32, 117, 97, 10]⟩, .string ⟨#[115, 116, 97, 116, 101, 32, 115, 97, 32, 112, 108, 97, 105, 110, 10]⟩, .string ⟨#[98, 121, 32]⟩, .string ⟨#[116, 97, 115, 107, 32]⟩, .string ⟨#[32, 105, 110, 32, 115, 97]⟩, .string ⟨#[120]⟩, .string ⟨#[45]⟩, .string ⟨#[195, 169]⟩] 9)) := (Below.refl _ _).alloc (Nat.le_refl _) _
  have hc : ∀ j (hj : j < spoilL.length), (w.alloc (.cells #[.string ⟨#[32]⟩, .string ⟨#[10]⟩, .string ⟨#[35]⟩, .string ⟨#[114, 97]⟩, .string ⟨#[32, 114, 97]⟩, .string ⟨#[62]⟩, .string ⟨#[48]⟩, .string ⟨#[49]⟩, .string ⟨#[9]⟩, .string ⟨#[127]⟩, .string ⟨#[114, 111, 108, 101, 32]⟩, .string ⟨#[117, 115, 101, 114, 32, 117, 97, 10]⟩, .string ⟨#[115, 116, 97, 116, 101, 32, 115, 97, 32, 112, 108, 97, 105, 110, 10]⟩, .string ⟨#[98, 121, 32]⟩, .string ⟨#[116, 97, 115, 107, 32]⟩, .string ⟨#[32, 105, 110, 32, 115, 97]⟩, .string ⟨#[120]⟩, .string ⟨#[45]⟩, .string ⟨#[195, 169]⟩] 9)).cell? ⟨w.heap.size, j, none⟩ = some (.string spoilL[j]) := fun j hj => by
    have e : (#[.string ⟨#[32]⟩, .string ⟨#[10]⟩, .string ⟨#[35]⟩, .string ⟨#[114, 97]⟩, .string ⟨#[32, 114, 97]⟩, .string ⟨#[62]⟩, .string ⟨#[48]⟩, .string ⟨#[49]⟩, .string ⟨#[9]⟩, .string ⟨#[127]⟩, .string ⟨#[114, 111, 108, 101, 32]⟩, .string ⟨#[117, 115, 101, 114, 32, 117, 97, 10]⟩, .string ⟨#[115, 116, 97, 116, 101, 32, 115, 97, 32, 112, 108, 97, 105, 110, 10]⟩, .string ⟨#[98, 121, 32]⟩, .string ⟨#[116, 97, 115, 107, 32]⟩, .string ⟨#[32, 105, 110, 32, 115, 97]⟩, .string ⟨#[120]⟩, .string ⟨#[45]⟩, .string ⟨#[195, 169]⟩] : Array Value) = (spoilL.map Value.string).toArray := rfl
    rw [e, cell_of_row _ _ _ _ _ _ (heap_alloc_new w _)]
    simp [hj]
  have HCC := Lib.hid hc
  clear hc
  go_enter Tryz.func20, Tryz.ntmps20
  go_upto_region 3 with (go_at_call 16; refine (HWB.out _).mono ?_; rintro e w2 ⟨rfl, rfl⟩)
  generalize hw1 : w.alloc (.cells #[.string ⟨#[32]⟩, .string ⟨#[10]⟩, .string ⟨#[35]⟩, .string ⟨#[114, 97]⟩, .string ⟨#[32, 114, 97]⟩, .string ⟨#[62]⟩, .string ⟨#[48]⟩, .string ⟨#[49]⟩, .string ⟨#[9]⟩, .string ⟨#[127]⟩, .string ⟨#[114, 111, 108, 101, 32]⟩, .string ⟨#[117, 115, 101, 114, 32, 117, 97, 10]⟩, .string ⟨#[115, 116, 97, 116, 101, 32, 115, 97, 32, 112, 108, 97, 105, 110, 10]⟩, .string ⟨#[98, 121, 32]⟩, .string ⟨#[116, 97, 115, 107, 32]⟩, .string ⟨#[32, 105, 110, 32, 115, 97]⟩, .string ⟨#[120]⟩, .string ⟨#[45]⟩, .string ⟨#[195, 169]⟩] 9) = w1 at *
  clear hw1 HWB
  go_upto_region 4 with (go_at_call 16; refine (HWA.out _).mono ?_; rintro e w2 ⟨rfl, rfl⟩)
  clear HWA
  by_cases h19 : wn < 19
  · have hx := HCC.out wn h19
    have hxs := spoil_sz _ (List.getElem_mem (show wn < spoilL.length from h19))
    have h19i : (wn : Int) < 19 := by omega
    generalize spoilL[wn] = x at *
    have z1 : (s.extract 0 kn).size = kn := by rw [ByteArray.size_extract]; omega
    have z2 : (s.extract kn s.size).size = s.size - kn := by rw [ByteArray.size_extract]; omega
    go_wp2
    go_quiet (fail)
    go_wp2
    go_ret
    exact ⟨_, rfl, by simp only [ByteArray.size_append, z1, z2]; omega, below_drewN HB1 _⟩
  · have h19i : decide ((wn : Int) < 19) = false := by simp; omega
    by_cases h23 : wn < 23
    · have h23i : decide ((wn : Int) < 23) = true := by simp; omega
      by_cases hkl : kn < s.size
      · have hkli : decide (kn < s.size) = true := by simp; omega
        have ek : IntKind.i64.wrap ((kn : Int) + 1) = ((kn + 1 : Nat) : Int) := by rw [IntKind.wrap_i64]; omega
        have hk1 : ((kn + 1 : Nat) : Int) ≤ s.size := by omega
        have z1 : (s.extract 0 kn).size = kn := by rw [ByteArray.size_extract]; omega
        have z2 : (s.extract (kn + 1) s.size).size = s.size - (kn + 1) := by rw [ByteArray.size_extract]; omega
        go_wp2
        go_quiet (fail)
        go_wp2
        go_ret
        exact ⟨_, rfl, by simp only [ByteArray.size_append, z1, z2]; omega, below_drewN HB1 _⟩
      · have hkli : decide (kn < s.size) = false := by simp; omega
        go_wp2
        go_ret
        exact ⟨_, rfl, by omega, HB1⟩
    · have h23i : decide ((wn : Int) < 23) = false := by simp; omega
      go_wp2
      go_ret
      exact ⟨_, rfl, by omega, HB1⟩
end Go.Proofs.YtahhepmhdcbplaaGreatDoor
