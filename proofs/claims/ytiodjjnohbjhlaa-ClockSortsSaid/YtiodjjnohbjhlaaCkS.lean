/-
  The document's Sort of Dues: by insertion.
-/
import Derived.Test.YtiodjjnohbjhlaaCkR
import Derived.Test.YtiodjjnohbjhlaaCkD
import Derived.Deep.RegionHeld3
import Derived.Deep.RegionLawGrows
import Derived.Deep.AppendLies
import Derived.Deep.Upon
import Derived.BigQuiet
namespace Go.Proofs.Ytiodjjnohbjhlaa
set_option maxRecDepth 100000
open Go.ChangeShapes Go.WideShapes Go.ChangeAt Go.RowKit

theorem Try.infoDueR : (Try.prog.info? 34).map (fun i => (i.zero, i.size, i.bytes)) = some (some (.agg #[.int .i64 0, .string ⟨#[]⟩, .int .i64 0]), 3, 32) := by kernel_rfl
theorem srt_pair : ∀ {l : List DueT}, SrtD l → ∀ i j (hi : i < l.length) (hj : j < l.length), i < j → ¬ ltD l[j] l[i]
  | x :: r, h, 0, j + 1, _, hj, _ => h.1 _ (List.getElem_mem (by simpa using hj))
  | x :: r, h, i + 1, j + 1, hi, hj, hij => srt_pair h.2 i j (by simpa using hi) (by simpa using hj) (by omega)
theorem ltD_asym {x y : DueT} (h : ltD x y) : ¬ ltD y x := fun h2 => ltD_irrefl x (ltD_trans h h2)
theorem nlt_trans {x y z : DueT} (h1 : ¬ ltD y x) (h2 : ¬ ltD z y) : ¬ ltD z x := fun h => by
  rcases ltD_tri x y with a | a | a
  · exact h2 (ltD_trans h a)
  · subst a; exact h2 h
  · exact h1 a
/-- one more, where it belongs -/
theorem ins_srt {out : List DueT} (hs : SrtD out) {x : DueT} {j : Nat} (hj : j ≤ out.length) (h1 : ∀ i (h : i < out.length), j ≤ i → ltB x out[i] = true) (h2 : j = 0 ∨ ∃ h : j - 1 < out.length, ltB x out[j - 1] = false) :
    SrtD (out.take j ++ x :: out.drop j) := by
  refine srt_of_sorted fun a b ha hb hab => ?_
  have hlen : (out.take j).length = j := by rw [List.length_take]; omega
  have hget : ∀ a (ha : a < (out.take j ++ x :: out.drop j).length), (a < j → ∃ h : a < out.length, (out.take j ++ x :: out.drop j)[a] = out[a]) ∧ (a = j → (out.take j ++ x :: out.drop j)[a] = x) ∧ (j < a → ∃ h : a - 1 < out.length, (out.take j ++ x :: out.drop j)[a] = out[a - 1]) := fun a ha => by
    have hl2 : (out.take j ++ x :: out.drop j).length = out.length + 1 := by simp; omega
    refine ⟨fun h => ⟨by omega, ?_⟩, fun h => ?_, fun h => ⟨by omega, ?_⟩⟩
    · rw [List.getElem_append_left (by omega), List.getElem_take]
    · subst h
      rw [List.getElem_append_right (by omega)]
      simp [hlen]
    · rw [List.getElem_append_right (by omega)]
      have e : a - (out.take j).length = (a - 1 - j) + 1 := by omega
      simp only [e, List.getElem_cons_succ, List.getElem_drop]
      congr 1
      omega
  obtain ⟨a1, a2, a3⟩ := hget a ha
  obtain ⟨b1, b2, b3⟩ := hget b hb
  have hlx : ∀ i (h : i < out.length), i < j → ¬ ltD x out[i] := fun i h hij => by
    rcases h2 with h2 | ⟨h9, h2⟩
    · omega
    · rw [ltB_false] at h2
      rcases (by omega : i = j - 1 ∨ i < j - 1) with e | e
      · subst e; exact h2
      · exact nlt_trans (srt_pair hs i (j - 1) h h9 e) h2
  rcases (by omega : b < j ∨ b = j ∨ j < b) with h | h | h
  · obtain ⟨c1, e1⟩ := a1 (by omega); obtain ⟨c2, e2⟩ := b1 h
    rw [e1, e2]; exact srt_pair hs a b c1 c2 hab
  · obtain ⟨c1, e1⟩ := a1 (by omega)
    rw [e1, b2 h]; exact hlx a c1 (by omega)
  · obtain ⟨c2, e2⟩ := b3 h
    rw [e2]
    rcases (by omega : a < j ∨ a = j ∨ j < a) with g | g | g
    · obtain ⟨c1, e1⟩ := a1 g
      rw [e1]; exact srt_pair hs a (b - 1) c1 c2 (by omega)
    · rw [a2 g]; exact ltD_asym ((ltB_iff _ _).1 (h1 (b - 1) c2 (by omega)))
    · obtain ⟨c1, e1⟩ := a3 g
      rw [e1]; exact srt_pair hs (a - 1) (b - 1) c1 c2 (by omega)
theorem ins_is {l : List DueT} {k j : Nat} (hk : k < l.length) (hj : j ≤ (srtD (l.take k)).length) (h1 : ∀ i (h : i < (srtD (l.take k)).length), j ≤ i → ltB l[k] (srtD (l.take k))[i] = true) (h2 : j = 0 ∨ ∃ h : j - 1 < (srtD (l.take k)).length, ltB l[k] (srtD (l.take k))[j - 1] = false) :
    (srtD (l.take k)).take j ++ l[k] :: (srtD (l.take k)).drop j = srtD (l.take (k + 1)) := by
  refine srtD_of ?_ (ins_srt (srtD_srt _) hj h1 h2)
  rw [List.take_succ_eq_append_getElem hk]
  have p1 : ((srtD (l.take k)).take j ++ l[k] :: (srtD (l.take k)).drop j).Perm (l[k] :: srtD (l.take k)) := by
    have := List.perm_middle (a := l[k]) (l₁ := (srtD (l.take k)).take j) (l₂ := (srtD (l.take k)).drop j)
    rwa [List.take_append_drop] at this
  have p2 : (l[k] :: srtD (l.take k)).Perm (l[k] :: l.take k) := List.Perm.cons _ (srtD_perm _)
  exact p1.trans (p2.trans (List.perm_append_singleton _ _).symm)
theorem dat_ownE {w : World} {base g c e : Nat} {l : List DueT} (h : w.ownsRow base e 3 (.slice (some ⟨g, 0, none⟩) l.length c) l.length (dcells l)) (hl : 0 < l.length) : DAt w g l := by
  obtain ⟨g', c', e', _, hlt, _, hc⟩ := own_form h hl
  injection e' with e1
  injection e1 with e1
  injection e1 with e1
  subst e1
  refine ⟨hlt, fun k hk => ⟨hc _ _ ?_, hc _ _ ?_, hc _ _ ?_⟩⟩
  · exact dcells_at l k 0 hk (by omega)
  · exact dcells_at l k 1 hk (by omega)
  · exact dcells_at l k 2 hk (by omega)
end Go.Proofs.Ytiodjjnohbjhlaa
