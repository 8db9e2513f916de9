/-
  The document's order, plainly: as many rounds as there are names, each of which lets every set take in those of its names: what is reached is what Warshall reaches.
-/
import Derived.Test.YteplbbikjcjheaaO0
namespace Go.Proofs.Yteplbbikjcjheaa
set_option maxRecDepth 100000

/-- the set of i takes in those of the names below k -/
def rowTo (i : Nat) (cur : List Nat) : Nat → List Nat
  | 0 => cur
  | k + 1 => put1 k i (rowTo i cur k)
/-- the names below i, each in its turn -/
def rndTo (cur : List Nat) : Nat → List Nat
  | 0 => cur
  | i + 1 => rowTo i (rndTo cur i) cur.length
/-- rounds -/
def refTo (bl : List Nat) : Nat → List Nat
  | 0 => bl
  | t + 1 => rndTo (refTo bl t) bl.length
theorem rowTo_length (i : Nat) (cur : List Nat) : ∀ k, (rowTo i cur k).length = cur.length
  | 0 => rfl
  | k + 1 => by rw [rowTo, put1_length, rowTo_length i cur k]
theorem rndTo_length (cur : List Nat) : ∀ i, (rndTo cur i).length = cur.length
  | 0 => rfl
  | i + 1 => by rw [rndTo, rowTo_length, rndTo_length cur i]
theorem refTo_length (bl : List Nat) : ∀ t, (refTo bl t).length = bl.length
  | 0 => rfl
  | t + 1 => by rw [refTo, rndTo_length, refTo_length bl t]
theorem rowTo_lo {i : Nat} {cur : List Nat} (h : Lo cur) (hi : i < cur.length) : ∀ k, Lo (rowTo i cur k)
  | 0 => h
  | k + 1 => put1_lo (rowTo_lo h hi k) (by rw [rowTo_length]; exact hi)
theorem rndTo_lo {cur : List Nat} (h : Lo cur) : ∀ i, i ≤ cur.length → Lo (rndTo cur i)
  | 0, _ => h
  | i + 1, hi => rowTo_lo (rndTo_lo h i (by omega)) (by rw [rndTo_length]; omega) _
theorem refTo_lo {bl : List Nat} (h : Lo bl) : ∀ t, Lo (refTo bl t)
  | 0 => h
  | t + 1 => rndTo_lo (refTo_lo h t) _ (by rw [refTo_length]; exact Nat.le_refl _)
theorem put1_grows {m k : Nat} {cur : List Nat} (hk : k < cur.length) {i j : Nat} (h : rel cur i j = true) : rel (put1 m k cur) i j = true := by
  rw [put1_rel hk]; split
  · rename_i e; subst e; rw [h]; rfl
  · exact h
theorem rowTo_grows {i : Nat} {cur : List Nat} (hi : i < cur.length) {a b : Nat} (h : rel cur a b = true) : ∀ k, rel (rowTo i cur k) a b = true
  | 0 => h
  | k + 1 => put1_grows (by rw [rowTo_length]; exact hi) (rowTo_grows hi h k)
theorem rndTo_grows {cur : List Nat} {a b : Nat} (h : rel cur a b = true) : ∀ i, i ≤ cur.length → rel (rndTo cur i) a b = true
  | 0, _ => h
  | i + 1, hi => rowTo_grows (by rw [rndTo_length]; omega) (rndTo_grows h i (by omega)) _
/-- a way of two within one set's turn -/
theorem rowTo_two {i k j : Nat} {cur : List Nat} (hi : i < cur.length) (h1 : rel cur i k = true) (h2 : rel cur k j = true) : ∀ n, k < n → rel (rowTo i cur n) i j = true
  | 0, h => absurd h (by omega)
  | n + 1, h => by
    rw [rowTo]
    by_cases e : k = n
    · subst e
      rw [put1_rel (by rw [rowTo_length]; exact hi), if_pos rfl, rowTo_grows hi h1 k, rowTo_grows hi h2 k]
      simp
    · exact put1_grows (by rw [rowTo_length]; exact hi) (rowTo_two hi h1 h2 n (by omega))
theorem rndTo_two {i k j : Nat} {cur : List Nat} (h1 : rel cur i k = true) (h2 : rel cur k j = true) (hk : k < cur.length) : ∀ n, i < n → n ≤ cur.length → rel (rndTo cur n) i j = true
  | 0, h, _ => absurd h (by omega)
  | n + 1, h, hn => by
    rw [rndTo]
    by_cases e : i = n
    · subst e
      exact rowTo_two (by rw [rndTo_length]; omega) (rndTo_grows h1 i (by omega)) (rndTo_grows h2 i (by omega)) _ hk
    · exact rowTo_grows (by rw [rndTo_length]; omega) (rndTo_two h1 h2 hk n (by omega) (by omega)) _
/-- nothing but ways -/
theorem put1_sound {T : Rel} {m k : Nat} {cur : List Nat} (hk : k < cur.length) (ht : ∀ j, T k m = true → T m j = true → T k j = true) (h : ∀ i j, rel cur i j = true → T i j = true) (i j : Nat) (hr : rel (put1 m k cur) i j = true) : T i j = true := by
  rw [put1_rel hk] at hr
  split at hr
  · rename_i e
    subst e
    rw [Bool.or_eq_true, Bool.and_eq_true] at hr
    rcases hr with hr | ⟨h1, h2⟩
    · exact h _ _ hr
    · exact ht j (h _ _ h1) (h _ _ h2)
  · exact h _ _ hr
theorem rowTo_sound {T : Rel} {i : Nat} {cur : List Nat} (hi : i < cur.length) (ht : ∀ a m j, m < cur.length → T a m = true → T m j = true → T a j = true) (h : ∀ i j, rel cur i j = true → T i j = true) : ∀ k, k ≤ cur.length → ∀ a b, rel (rowTo i cur k) a b = true → T a b = true
  | 0, _ => h
  | k + 1, hk => put1_sound (by rw [rowTo_length]; exact hi) (fun j => ht i k j (by omega)) (rowTo_sound hi ht h k (by omega))
theorem rndTo_sound {T : Rel} {cur : List Nat} (ht : ∀ a m j, m < cur.length → T a m = true → T m j = true → T a j = true) (h : ∀ i j, rel cur i j = true → T i j = true) : ∀ i, i ≤ cur.length → ∀ a b, rel (rndTo cur i) a b = true → T a b = true
  | 0, _ => h
  | i + 1, hi => rowTo_sound (by rw [rndTo_length]; omega) (by rw [rndTo_length]; exact ht) (rndTo_sound ht h i (by omega)) _ (by rw [rndTo_length]; exact Nat.le_refl _)
theorem refTo_sound {bl : List Nat} : ∀ t a b, rel (refTo bl t) a b = true → way (rel bl) bl.length a b = true
  | 0, _, _, h => way_base h
  | t + 1, a, b, h => rndTo_sound (cur := refTo bl t) (T := way (rel bl) bl.length) (by rw [refTo_length]; exact fun a m j hm h1 h2 => way_trans _ hm h1 h2) (fun a b h => refTo_sound t a b h) _ (by rw [refTo_length]; exact Nat.le_refl _) a b h
theorem refTo_ways {bl : List Nat} : ∀ t, t ≤ bl.length → ∀ a b, way (rel bl) t a b = true → rel (refTo bl t) a b = true
  | 0, _, _, _, h => h
  | t + 1, ht, a, b, h => by
    have hg : ∀ {a b}, rel (refTo bl t) a b = true → rel (refTo bl (t + 1)) a b = true := fun h => rndTo_grows h _ (by rw [refTo_length]; exact Nat.le_refl _)
    rcases way_succ.1 h with h | ⟨h1, h2⟩
    · exact hg (refTo_ways t (by omega) a b h)
    · have r1 := refTo_ways t (by omega) a t h1
      have r2 := refTo_ways t (by omega) t b h2
      have ha : a < bl.length := by
        refine Classical.byContradiction fun hn => ?_
        rw [rel_out (by rw [refTo_length]; omega)] at r1; cases r1
      exact rndTo_two r1 r2 (by rw [refTo_length]; omega) _ ha (by rw [refTo_length]; exact Nat.le_refl _)
/-- the document's sets are Warshall's -/
theorem refTo_rel (bl : List Nat) (a b : Nat) : rel (refTo bl bl.length) a b = way (rel bl) bl.length a b :=
  Bool.eq_iff_iff.2 ⟨refTo_sound _ a b, refTo_ways _ (Nat.le_refl _) a b⟩
theorem rel_ext {a b : List Nat} (hl : a.length = b.length) (h : ∀ i j, rel a i j = rel b i j) : a = b := by
  apply List.ext_getElem hl
  intro i h1 h2
  apply Nat.eq_of_testBit_eq
  intro j
  have := h i j
  unfold rel at this
  simpa [List.getD_eq_getElem?_getD, h1, h2] using this
theorem refTo_fol (bl : List Nat) : refTo bl bl.length = folTo bl bl.length :=
  rel_ext (by rw [refTo_length, folTo_length]) fun i j => by rw [refTo_rel, folTo_rel]
end Go.Proofs.Yteplbbikjcjheaa
