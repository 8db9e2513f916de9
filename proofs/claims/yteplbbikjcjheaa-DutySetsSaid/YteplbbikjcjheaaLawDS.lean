/-
  DutySets: the walk.
-/
import Derived.Test.YteplbbikjcjheaaDuty3
namespace Go.Proofs.Yteplbbikjcjheaa
set_option maxRecDepth 100000
open Go.ChangeShapes Go.WideShapes Go.ChangeAt Go.RowKit

theorem ownS_slice {w : World} {base : Nat} {v : Value} {l : List (Int × Nat)} (h : OwnS w base v l) : ∃ A c, v = .slice A l.length c := own_slice h
theorem ownR_slice {w : World} {base : Nat} {v : Value} {l : List (Int × Nat)} (h : OwnR w base v l) : ∃ A c, v = .slice A l.length c := own_slice h
theorem stL_lt {zs : List Int} {rs : List Nat} (h : ∀ k (hk : k < rs.length), rs[k] < 4294967296) : ∀ p ∈ stL zs rs, p.2 < 4294967296 := fun p hp => by
  unfold stL stTo at hp
  obtain ⟨i, hi, rfl⟩ := List.mem_map.1 hp
  have := List.mem_range.1 hi
  have hr : i < rs.length := by unfold stN at this; omega
  simp only [List.getD_eq_getElem?_getD, List.getElem?_eq_getElem hr, Option.getD_some]
  exact h i hr
theorem u32s_lt {w : World} {u : Value} {rs : List Nat} (h : U32sAt w u rs) : ∀ k (hk : k < rs.length), rs[k] < 4294967296 := fun k hk => by
  obtain ⟨A, c, _, _, hc⟩ := h
  obtain ⟨_, _, _, _, _, hlt⟩ := hc k hk
  exact hlt
set_option maxHeartbeats 1000000 in
theorem sets_walk (w : World) (s : Nat) (hs : s < 4294967296) (v : Value) (zs : List Int) (hz : IntsAt w v zs) (u : Value) (rs : List Nat) (hr : U32sAt w u rs) :
    Calls Try.prog 5 #[.int .u32 s, v, u] w (TrueOn w) := by
  have ST := Lib.hid (Sets_any v u zs rs w hz hr)
  have hlt := stL_lt (zs := zs) (u32s_lt hr)
  have hlen := stL_len zs rs
  clear hz hr
  generalize stL zs rs = l at *
  have CA := Lib.hid (fun W => Count_any s W hs)
  have CR := Lib.hid (fun W => RCount_any s W hs)
  go_enter Try.func5, Try.ntmps5
  go_upto_region 2 with (go_at_call 28; refine ST.out.mono ?_; rintro e w1 ⟨v1, v2, rfl, o1, o2, hb1⟩)
  obtain ⟨A, c, rfl⟩ := ownS_slice o1
  obtain ⟨B, d, rfl⟩ := ownR_slice o2
  have S1 := Lib.hid (stAt_of o1 hlt)
  have R1 := Lib.hid (stAt_of o2 hlt)
  have HB1 := Lib.hid hb1
  clear o1 o2 hb1 ST
  have RF := Lib.hid (RFirst_any s l B d w1 hs R1.out (by omega))
  go_upto_region 3 with (go_at_call 29; refine RF.out.mono ?_; rintro e w2 ⟨rfl, n, rfl⟩)
  have HB2 : Hid (Below w1.heap.size w1 (w1.drewN n)) := below_drewN (Below.refl _ _) n
  generalize w1.drewN n = w2 at *
  clear RF R1
  have FA := Lib.hid (fun W (hW : Below w1.heap.size w1 W) => First_any s l A c W hs (S1.out.below hW) (by omega))
  have AA := Lib.hid (fun W (hW : Below w1.heap.size w1 W) => Apart_any s l A c W hs (S1.out.below hW) (by omega))
  clear S1 hlt
  have hbb : ∀ b : Bool, (b == b) = true := fun b => by simp
  generalize hf : fstI s l = f at *
  clear hf
  have hff : (f == f) = true := by simp
  have hnn : ((cnt s : Int) == (cnt s : Int)) = true := by simp
  generalize hd : decide (f < 0) = b at *
  have hbb := hbb b
  go_wp2_with (first
    | (go_at_call 30; refine (CA.out _).mono ?_; rintro e w3 ⟨rfl, m, rfl⟩; have h3 := below_drewN HB2.out m)
    | (go_at_call 31; refine (CR.out _).mono ?_; rintro e w4 ⟨rfl, rfl⟩)
    | (go_at_call 32; refine (FA.out _ h3).mono ?_; rintro e w5 ⟨rfl, hb5⟩; have h5 := below_then h3 hb5 h3.size)
    | (go_at_call 33; refine (AA.out _ h5).mono ?_; rintro e w6 ⟨rfl, hb6⟩; have h6 := below_then h5 hb6 h5.size)
    | (go_at_call 34; refine (wakes05 _).mono ?_; rintro e w7 ⟨rfl, hb7⟩; have h7 := below_then h6 hb7 h6.size))
  go_ret
  exact ⟨rfl, below_then HB1.out h7 HB1.out.size⟩
end Go.Proofs.Yteplbbikjcjheaa
