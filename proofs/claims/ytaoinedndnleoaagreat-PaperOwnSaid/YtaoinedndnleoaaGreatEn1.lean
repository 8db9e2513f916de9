import Derived.Test.YtaoinedndnleoaaGreatEnt3
import Derived.Test.YtaoinedndnleoaaGreatOwnSome
import Derived.Test.YtaoinedndnleoaaGreatSh1b
import Derived.Test.YtaoinedndnleoaaGreatCh3
namespace Go.Proofs.YtaoinedndnleoaaGreat
set_option maxRecDepth 100000
def Ahd (ps : List Int) (d : Int) : List Nat → List Nat → Prop
 | _, [] => True
 | seen, k :: r => (ps.getD k 0 = d ∨ ∃ q : Nat, q ∈ seen ∧ ps.getD k 0 = q) ∧ Ahd ps d (k :: seen) r
section
variable {ks ps : List Int} {n : Nat}
theorem Ahd.mono {d d' : Int} : ∀ {l s s' : List Nat}, Ahd ps d s l → (∀ q, q ∈ s → q ∈ s') → (d = d' ∨ ∃ q : Nat, q ∈ s' ∧ d = q) → Ahd ps d' s' l
 | [], _, _, _, _, _ => trivial
 | k :: r, s, s', h, hs, hd => by
  refine ⟨?_, h.2.mono (fun q hq => ?_) (hd.imp id fun ⟨q, h1, h2⟩ => ⟨q, List.mem_cons_of_mem _ h1, h2⟩)⟩
  ·rcases h.1 with e | ⟨q, hq, e⟩
   ·rcases hd with rfl | ⟨q, hq, e'⟩
    ·exact .inl e
    ·exact .inr ⟨q, hq, e.trans e'⟩
   ·exact .inr ⟨q, hs q hq, e⟩
  ·rcases List.mem_cons.1 hq with rfl | hq
   ·exact List.mem_cons_self
   ·exact List.mem_cons_of_mem _ (hs q hq)
theorem Ahd.app {d : Int} : ∀ {l s r : List Nat}, Ahd ps d s l → Ahd ps d s r → Ahd ps d s (l ++ r)
 | [], _, _, _, hr => hr
 | _ :: _, _, _, hl, hr => ⟨hl.1, hl.2.app (hr.mono (fun _ hq => List.mem_cons_of_mem _ hq) (.inl rfl))⟩
theorem Ahd.flat {d : Int} {s : List Nat} {f : Nat → List Nat} : ∀ {l : List Nat}, (∀ x, x ∈ l → Ahd ps d s (f x)) → Ahd ps d s (l.flatMap f)
 | [], _ => trivial
 | a :: r, h => by
  rw [List.flatMap_cons]
  exact (h a List.mem_cons_self).app (Ahd.flat fun x hx => h x (List.mem_cons_of_mem _ hx))
theorem Ahd.head {x : Nat} {l : List Nat} (h : Ahd ps x [] l) : Ahd ps (ps.getD x 0) [] (x :: l) :=
 ⟨.inl rfl, h.mono (fun _ hq => nomatch hq) (.inr ⟨x, List.mem_cons_self, rfl⟩)⟩
theorem Ahd.at {d : Int} : ∀ {l s : List Nat}, Ahd ps d s l → ∀ (i k : Nat), l[i]? = some k → ps.getD k 0 = d ∨ ∃ q : Nat, (q ∈ s ∨ q ∈ l.take i) ∧ ps.getD k 0 = q
 | [], _, _, _, _, h => by simp at h
 | a :: r, s, h, 0, k, e => by
  have : a = k := by simpa using e
  subst this
  rcases h.1 with e1 | ⟨q, hq, e1⟩
  ·exact .inl e1
  ·exact .inr ⟨q, .inl hq, e1⟩
 | a :: r, s, h, i + 1, k, e => by
  rcases h.2.at i k (by simpa using e) with e1 | ⟨q, hq, e1⟩
  ·exact .inl e1
  ·refine .inr ⟨q, ?_, e1⟩
   rw [List.take_succ_cons, List.mem_cons]
   rcases hq with hq | hq
   ·rcases List.mem_cons.1 hq with rfl | hq
    ·exact .inr (.inl rfl)
    ·exact .inl hq
   ·exact .inr (.inr hq)
theorem flat_nodup {f : Nat → List Nat} : ∀ {l : List Nat}, l.Nodup → (∀ x, x ∈ l → (f x).Nodup) → (∀ x y k, x ∈ l → y ∈ l → k ∈ f x → k ∈ f y → x = y) → (l.flatMap f).Nodup
 | [], _, _, _ => List.nodup_nil
 | a :: r, hn, hf, hd => by
  rw [List.flatMap_cons, List.nodup_append]
  rw [List.nodup_cons] at hn
  refine ⟨hf a List.mem_cons_self, flat_nodup hn.2 (fun x hx => hf x (List.mem_cons_of_mem _ hx)) (fun x y k hx hy => hd x y k (List.mem_cons_of_mem _ hx) (List.mem_cons_of_mem _ hy)), ?_⟩
  intro k hk k' hk' e
  subst e
  obtain ⟨y, hy, hky⟩ := List.mem_flatMap.1 hk'
  have := hd a y k List.mem_cons_self (List.mem_cons_of_mem _ hy) hk hky
  subst this
  exact hn.1 hy
theorem inS_und (h : ShF ks ps n) {x k : Nat} (hx : x < n) (hh : hl ks x = true) (hk : k ∈ inS ks ps n x) : k < n ∧ hl ks k = true ∧ Und ps k x := (inS_LC h hx hh).un k hk
theorem inS_list (h : ShF ks ps n) : ∀ (m x : Nat), n - x ≤ m → x < n → hl ks x = true → (inS ks ps n x).Nodup ∧ Ahd ps (ps.getD x 0) [] (inS ks ps n x)
 | 0, x, hm, hx, _ => by omega
 | m + 1, x, hm, hx, hh => by
  have hp : ∀ k, k < n → ps.getD k 0 < k := fun k hk => (h.pa k hk).2
  have hkid : ∀ j, j ∈ openL ks ps n x → j < n ∧ x < j ∧ ps.getD j 0 = x ∧ (inS ks ps n j).Nodup ∧ Ahd ps x [] (inS ks ps n j) ∧ ∀ k, k ∈ inS ks ps n j → Und ps k j ∧ k < n ∧ x < k := fun j hj => by
   obtain ⟨h1, h2⟩ := mem_openL.1 hj
   have h3 := h.lt h1 (kid_par h2).1
   have ih := inS_list h m j (by omega) h1 (kid_hl h2)
   rw [(kid_par h2).1] at ih
   refine ⟨h1, h3, (kid_par h2).1, ih.1, ih.2, fun k hk => ?_⟩
   have h4 := inS_und h h1 (kid_hl h2) hk
   have := und_le h h4.2.2 h4.1
   exact ⟨h4.2.2, h4.1, by omega⟩
  rw [inS_eq hp hx]
  split
  ·constructor
   ·rw [List.nodup_cons]
    constructor
    ·intro hm'
     obtain ⟨j, hj, hk⟩ := List.mem_flatMap.1 hm'
     have := ((hkid j hj).2.2.2.2.2 x hk).2.2
     omega
    ·refine flat_nodup (openL_nodup _) (fun j hj => (hkid j hj).2.2.2.1) fun i j k hi hj hki hkj => ?_
     have h1 := (hkid i hi).2.2.2.2.2 k hki
     have h2 := (hkid j hj).2.2.2.2.2 k hkj
     exact und_kids h h1.2.1 h1.1 h2.1 (by rw [(hkid i hi).2.2.1, (hkid j hj).2.2.1])
   ·exact (Ahd.flat fun j hj => (hkid j hj).2.2.2.2.1).head
  ·cases hhd : (openL ks ps n x).head? with
   | none => exact ⟨by simp, Ahd.head (ps := ps) (x := x) (l := []) trivial⟩
   | some j =>
    have hj := hkid j (List.mem_of_head? hhd)
    refine ⟨?_, hj.2.2.2.2.1.head⟩
    rw [List.nodup_cons]
    refine ⟨fun hk => ?_, hj.2.2.2.1⟩
    have := (hj.2.2.2.2.2 x hk).2.2
    omega
theorem inS_nodup (h : ShF ks ps n) {x : Nat} (hx : x < n) (hh : hl ks x = true) : (inS ks ps n x).Nodup := (inS_list h n x (by omega) hx hh).1
theorem inS_ahd (h : ShF ks ps n) {x : Nat} (hx : x < n) (hh : hl ks x = true) : Ahd ps (ps.getD x 0) [] (inS ks ps n x) := (inS_list h n x (by omega) hx hh).2
theorem ahd_up (d : Int) : ∀ (l s : List Nat), l.Pairwise (· < ·) → (∀ k, k ∈ l → ps.getD k 0 = d ∨ ∃ q : Nat, q < k ∧ (q ∈ s ∨ q ∈ l) ∧ ps.getD k 0 = q) → Ahd ps d s l
 | [], _, _, _ => trivial
 | a :: r, s, hw, hk => by
  rw [List.pairwise_cons] at hw
  refine ⟨?_, ahd_up d r (a :: s) hw.2 fun k hkr => ?_⟩
  ·refine (hk a List.mem_cons_self).imp id ?_
   rintro ⟨q, h1, h2, e⟩
   rcases h2 with h2 | h2
   ·exact ⟨q, h2, e⟩
   ·rcases List.mem_cons.1 h2 with rfl | h2
    ·omega
    ·have := hw.1 q h2; omega
  ·refine (hk k (List.mem_cons_of_mem _ hkr)).imp id ?_
   rintro ⟨q, h1, h2, e⟩
   refine ⟨q, h1, ?_, e⟩
   rcases h2 with h2 | h2
   ·exact .inl (List.mem_cons_of_mem _ h2)
   ·rcases List.mem_cons.1 h2 with rfl | h2
    ·exact .inl List.mem_cons_self
    ·exact .inr h2
theorem range_up : ∀ n : Nat, (List.range n).Pairwise (· < ·)
 | 0 => by simp
 | n + 1 => by
  rw [List.range_succ, List.pairwise_append]
  refine ⟨range_up n, by simp, fun a ha b hb => ?_⟩
  rw [List.mem_singleton] at hb
  have := List.mem_range.1 ha
  omega
theorem intoH_list (h : ShF ks ps n) {past : Nat → Nat} (hp : PastOk ks ps n past) {x q : Nat} (hx : x < n) (hh : hl ks x = false) (e : ps.getD x 0 = q) : (intoH ks ps n past x).Nodup ∧ Ahd ps q [] (intoH ks ps n past x) := by
 obtain ⟨j, hj, hkj, hlc⟩ := intoH_hist h hp hx hh e
 obtain ⟨q', e', hq, h1, hi, hki⟩ := hist h hx hh
 have : q' = q := by omega
 subst this
 unfold intoH at hlc ⊢
 rw [hh, if_neg (by simp), e, Int.toNat_natCast] at hlc ⊢
 have hini := inS_list h n _ (by omega) hi (kid_hl hki)
 rw [(kid_par hki).1] at hini
 by_cases h3 : ks.getD x 0 = 3
 ·rw [if_pos h3] at hlc ⊢
  cases hf : (kidsTo ps q' n).find? fun k => (past q').testBit k with
  | none => exact hini
  | some k =>
   have hk := mem_kidsTo.1 (List.mem_of_find?_eq_some hf)
   rw [hf] at hlc
   have hme := (inS_LC (x := k) h hk.1)
   cases hhk : hl ks k
   ·exfalso
    have : k ∈ inS ks ps n k := by unfold inS; cases n - k <;> simp [intoF]
    have := (hlc.un k this).2.1
    rw [hhk] at this; cases this
   ·have hs := inS_list h n k (by omega) hk.1 hhk
    rw [hk.2] at hs
    exact hs
 ·rw [if_neg h3] at hlc ⊢
  split
  ·exact hini
  ·rename_i hne
   rw [if_neg hne] at hlc
   refine ⟨List.Pairwise.filter _ List.nodup_range, ahd_up _ _ _ (List.Pairwise.filter _ (range_up n)) fun k hk => ?_⟩
   by_cases ekj : k = j
   ·subst ekj; exact .inl (kid_par hkj).1
   ·obtain ⟨r, er, hr⟩ := hlc.pr k hk ekj
    exact .inr ⟨r, h.lt (hlc.un k hk).1 er, .inr hr, er⟩
theorem wayF_self {past : Nat → Nat} {f t : Nat} : wayF ks ps n past f t t = intoH ks ps n past t := by cases f <;> simp [wayF]
theorem kids_nodup (a : Int) (n : Nat) : (kidsTo ps a n).Nodup := by
 induction n with
 | zero => exact List.nodup_nil
 | succ n ih =>
  unfold kidsTo
  split
  ·rw [List.nodup_append]
   refine ⟨ih, by simp, fun k hk m hm e => ?_⟩
   have := (mem_kidsTo.1 hk).1
   rw [List.mem_singleton] at hm
   omega
  ·exact ih
theorem wayF_list (h : ShF ks ps n) {past : Nat → Nat} (hp : PastOk ks ps n past) {t : Nat} (ht : t < n) : ∀ (f a : Nat), n - a ≤ f → a < n → Und ps t a → (wayF ks ps n past f a t).Nodup ∧ Ahd ps (ps.getD a 0) [] (wayF ks ps n past f a t) ∧ ∀ k, k ∈ wayF ks ps n past f a t → k < n ∧ Und ps k a ∨ hl ks a = false
 | 0, a, hf, ha, _ => by omega
 | f + 1, a, hf, ha, hu => by
  by_cases e : a = t
  ·subst e
   rw [wayF_self]
   cases hh : hl ks a
   ·obtain ⟨q, eq, _⟩ := h.hi a ha hh
    have := intoH_list h hp ha hh eq
    rw [eq]
    exact ⟨this.1, this.2, fun _ _ => .inr rfl⟩
   ·rw [intoH_hl hh]
    exact ⟨inS_nodup h ha hh, inS_ahd h ha hh, fun k hk => .inl ⟨(inS_und h ha hh hk).1, (inS_und h ha hh hk).2.2⟩⟩
  ·unfold wayF
   rw [if_neg e]
   obtain ⟨k, hfind, hk, ek, huk, hone⟩ := lead h ht hu (fun e' => e e'.symm)
   rw [hfind]
   have hak := h.lt hk ek
   have ih := wayF_list h hp ht f k (by omega) hk huk
   rw [ek] at ih
   have hha := h.up k a hk ek
   have hlc := wayF_LC h hp ht (f + 1) a (by omega) ha hha hu
   unfold wayF at hlc
   rw [if_neg e, hfind] at hlc
   have hin : ∀ i, i ∈ wayF ks ps n past f k t → i < n ∧ a < i ∧ Und ps i a := fun i hi => by
    have h1 := hlc.un i (List.mem_cons_of_mem _ (List.mem_append_left _ hi))
    have h2 := und_le h h1.2.2 h1.1
    refine ⟨h1.1, ?_, h1.2.2⟩
    rcases ih.2.2 i hi with h3 | h3
    ·have := und_le h h3.2 h3.1; omega
    ·obtain ⟨q, eq, _⟩ := h.hi k hk h3
     have hqa : q = a := by omega
     subst hqa
     have hkt : k = t := by
      refine Classical.byContradiction fun hne => ?_
      obtain ⟨j, hj, ej, _⟩ := und_down h ht huk (fun e' => hne e'.symm)
      have := h.up j k hj ej
      rw [this] at h3; cases h3
     subst hkt
     rw [wayF_self] at hi
     obtain ⟨j, hj, hkj, hl2⟩ := intoH_hist h hp hk h3 eq
     have h4 := hl2.un i hi
     have h5 := und_le h h4.2.2 h4.1
     have := h.lt hj (kid_par hkj).1
     omega
   by_cases h2 : ks.getD a 0 = 2
   ·rw [if_pos h2] at hlc ⊢
    have hoth : ∀ j, j ∈ (kidsTo ps a n).filter (fun k : Nat => !undB ps t k) → j < n ∧ a < j ∧ ps.getD j 0 = a ∧ hl ks j = true ∧ j ≠ k := fun j hj => by
     rw [List.mem_filter] at hj
     obtain ⟨hj1, hj2⟩ := hj
     have hjm := mem_kidsTo.1 hj1
     have ejk : j ≠ k := fun e' => by
      subst e'
      rw [(undB_iff h ht).2 huk] at hj2; cases hj2
     refine ⟨hjm.1, h.lt hjm.1 hjm.2, hjm.2, ?_, ejk⟩
     cases e' : hl ks j
     ·obtain ⟨q, eq, h1, _⟩ := h.hi j hjm.1 e'
      have : q = a := by omega
      subst this
      omega
     ·rfl
    have hhk : hl ks k = true := by
     cases e' : hl ks k
     ·obtain ⟨q, eq, h1, _⟩ := h.hi k hk e'
      have : q = a := by omega
      subst this
      omega
     ·rfl
    refine ⟨?_, ?_, fun i hi => .inl ⟨(hlc.un i hi).1, (hlc.un i hi).2.2⟩⟩
    ·rw [List.nodup_cons]
     constructor
     ·intro hm
      rcases List.mem_append.1 hm with hm | hm
      ·have := (hin a hm).2.1; omega
      ·obtain ⟨j, hj, hs⟩ := List.mem_flatMap.1 hm
       have h1 := hoth j hj
       have h3 := inS_und h h1.1 h1.2.2.2.1 hs
       have := und_le h h3.2.2 h3.1
       omega
     ·rw [List.nodup_append]
      refine ⟨ih.1, flat_nodup (List.Pairwise.filter _ (kids_nodup _ _)) (fun j hj => inS_nodup h (hoth j hj).1 (hoth j hj).2.2.2.1) (fun x y i hx hy hix hiy => ?_), ?_⟩
      ·have h1 := hoth x hx
       have h3 := hoth y hy
       have h4 := inS_und h h1.1 h1.2.2.2.1 hix
       have h5 := inS_und h h3.1 h3.2.2.2.1 hiy
       exact und_kids h h4.1 h4.2.2 h5.2.2 (by rw [h1.2.2.1, h3.2.2.1])
      ·intro i hi i' hi' ei
       subst ei
       obtain ⟨j, hj, hs⟩ := List.mem_flatMap.1 hi'
       have h1 := hoth j hj
       have h4 := inS_und h h1.1 h1.2.2.2.1 hs
       rcases ih.2.2 i hi with h5 | h5
       ·exact h1.2.2.2.2 (und_kids h h4.1 h4.2.2 h5.2 (by rw [h1.2.2.1, ek]))
       ·rw [hhk] at h5; cases h5
    ·refine (ih.2.1.app (Ahd.flat fun j hj => ?_)).head
     have h1 := hoth j hj
     have := inS_ahd h h1.1 h1.2.2.2.1
     rw [h1.2.2.1] at this
     exact this
   ·rw [if_neg h2, List.append_nil] at hlc ⊢
    refine ⟨?_, ih.2.1.head, fun i hi => .inl ⟨(hlc.un i hi).1, (hlc.un i hi).2.2⟩⟩
    rw [List.nodup_cons]
    refine ⟨fun hm => ?_, ih.1⟩
    have := (hin a hm).2.1
    omega
theorem topF_spec (h : ShF ks ps n) {d : Int} : ∀ (f k : Nat), k < n → k ≤ f → Und ps k d → (k : Int) ≠ d → topF ps f k d < n ∧ ps.getD (topF ps f k d) 0 = d ∧ Und ps k (topF ps f k d)
 | 0, k, hk, hf, hu, hne => by
  have := h.pa k hk
  refine ⟨hk, ?_, .self k⟩
  show ps.getD k 0 = d
  cases hu with
  | self => exact absurd rfl hne
  | top => omega
  | up _ q _ e _ => omega
 | f + 1, k, hk, hf, hu, hne => by
  unfold topF
  by_cases e : ps.getD k 0 = d
  ·rw [if_pos e]; exact ⟨hk, e, .self k⟩
  ·rw [if_neg e]
   have hpk := h.pa k hk
   have key : ∃ q : Nat, ps.getD k 0 = q ∧ Und ps q d := by
    cases hu with
    | self => exact absurd rfl hne
    | top => exact ⟨(ps.getD k 0).toNat, by omega, .top _⟩
    | up _ q _ e' h' => exact ⟨q, e', h'⟩
   obtain ⟨q, eq, hq⟩ := key
   have hlt := h.lt hk eq
   rw [eq, Int.toNat_natCast]
   obtain ⟨h1, h2, h3⟩ := topF_spec h f q (by omega) (by omega) hq (by omega)
   exact ⟨h1, h2, .up k q _ eq h3⟩
theorem enterL_LC (h : ShF ks ps n) {past : Nat → Nat} (hp : PastOk ks ps n past) {t : Nat} {d : Int} (ht : t < n) (hu : Und ps t d) (hne : (t : Int) ≠ d) :
  (∃ j, j < n ∧ isKid ks ps d j = true ∧ LC ks ps n (fun k => k ∈ enterL ks ps n past d t) j) ∧ (enterL ks ps n past d t).Nodup ∧ Ahd ps d [] (enterL ks ps n past d t) := by
 obtain ⟨h1, h2, h3⟩ := topF_spec h t t ht (Nat.le_refl _) hu hne
 unfold enterL
 generalize topF ps t t d = a at h1 h2 h3 ⊢
 have hl' := wayF_list h hp ht (n - a) a (Nat.le_refl _) h1 h3
 rw [h2] at hl'
 refine ⟨?_, hl'.1, hl'.2.1⟩
 cases hh : hl ks a
 ·have hat : a = t := by
   refine Classical.byContradiction fun hne' => ?_
   obtain ⟨j, hj, ej, _⟩ := und_down h ht h3 (fun e' => hne' e'.symm)
   have := h.up j a hj ej
   rw [this] at hh; cases hh
  subst hat
  rw [wayF_self]
  obtain ⟨q, eq, _⟩ := h.hi a h1 hh
  have := intoH_hist h hp h1 hh eq
  rw [← h2, eq]
  exact this
 ·exact ⟨a, h1, by unfold isKid; rw [h2, hh]; simp, wayF_LC h hp ht (n - a) a (Nat.le_refl _) h1 hh h3⟩
end
section
variable (ks ps : List Int) (n : Nat)
def leaveL (s : Nat) (d : Int) : List Nat := (List.range n).reverse.filter fun k : Nat => s.testBit k && (decide ((k : Int) ≠ d) && undB ps k d)
def domF (t : Nat) : Nat → Nat → Int
 | 0, _ => -1
 | f + 1, k => if ps.getD k 0 < 0 then -1 else if ks.getD (ps.getD k 0).toNat 0 = 1 ∧ (ps.getD k 0).toNat ≠ t ∧ undB ps t (ps.getD k 0) = true then ps.getD k 0 else domF t f (ps.getD k 0).toNat
def domL (k t : Nat) : Int := domF ks ps t n k
variable {ks ps n}
theorem mem_leaveL (h : ShF ks ps n) {s : Nat} {d : Int} {k : Nat} : k ∈ leaveL ps n s d ↔ k < n ∧ s.testBit k = true ∧ (k : Int) ≠ d ∧ Und ps k d := by
 unfold leaveL
 rw [List.mem_filter, List.mem_reverse, List.mem_range, Bool.and_eq_true, Bool.and_eq_true, decide_eq_true_eq]
 constructor
 ·rintro ⟨h1, h2, h3, h4⟩; exact ⟨h1, h2, h3, (undB_iff h h1).1 h4⟩
 ·rintro ⟨h1, h2, h3, h4⟩; exact ⟨h1, h2, h3, (undB_iff h h1).2 h4⟩
theorem leaveL_down (s : Nat) (d : Int) : (leaveL ps n s d).Pairwise (· > ·) := by
 unfold leaveL
 refine List.Pairwise.filter _ ?_
 rw [List.pairwise_reverse]
 exact range_up n
theorem leaveL_nodup (s : Nat) (d : Int) : (leaveL ps n s d).Nodup := (leaveL_down (ps := ps) (n := n) s d).imp fun h => by omega
theorem Conf.congr {S T : Nat → Prop} (h : Conf ks ps n S) (e : ∀ k, S k ↔ T k) : Conf ks ps n T := by
 have : S = T := funext fun k => propext (e k)
 rw [← this]; exact h
theorem trans_conf (h : ShF ks ps n) {C : Nat → Prop} {d : Int} {L : List Nat} {j : Nat} (hC : Conf ks ps n C) (hd : d = -1 ∨ ∃ q : Nat, d = q ∧ C q ∧ ks.getD q 0 ≠ 2) (hj : j < n) (hk : isKid ks ps d j = true) (hS : LC ks ps n (fun k => k ∈ L) j) :
  Conf ks ps n fun k => (C k ∧ ¬ ((k : Int) ≠ d ∧ Und ps k d)) ∨ k ∈ L := by
 rcases hd with rfl | ⟨q, rfl, hq, h2⟩
 ·refine (Conf.ofTop h hj hk hS).congr fun k => ?_
  constructor
  ·exact .inr
  ·rintro (⟨_, h1⟩ | h1)
   ·exact absurd ⟨by omega, .top k⟩ h1
   ·exact h1
 ·refine (hC.swap h hq h2 hj hk hS).congr fun k => ?_
  have : (k ≠ q ∧ Und ps k q) ↔ ((k : Int) ≠ q ∧ Und ps k q) := by
   constructor
   ·rintro ⟨h1, h3⟩; exact ⟨by omega, h3⟩
   ·rintro ⟨h1, h3⟩; exact ⟨by omega, h3⟩
  rw [this]
theorem trans_prop (h : ShF ks ps n) (hn : n ≤ 32) {s r : Nat} {d : Int} {L : List Nat} {j : Nat} (hs : prop ks ps s = true) (hd : d = -1 ∨ ∃ q : Nat, d = q ∧ q < n ∧ s.testBit q = true ∧ ks.getD q 0 ≠ 2) (hj : j < n) (hk : isKid ks ps d j = true) (hS : LC ks ps n (fun k => k ∈ L) j)
  (hr : ∀ k, r.testBit k = (s.testBit k && !decide (k ∈ leaveL ps n s d) || decide (k ∈ L))) : prop ks ps r = true := by
 obtain ⟨hlt, hC⟩ := (prop_conf h hn s).1 hs
 rw [prop_conf h hn]
 have hb : ∀ k, n ≤ k → r.testBit k = false := fun k hk' => by
  rw [hr, Nat.testBit_lt_two_pow (Nat.lt_of_lt_of_le hlt (Nat.pow_le_pow_right (by omega) hk'))]
  have : ¬ k ∈ L := fun hm => by
   have := (hS.un k hm).1; omega
  simp [this]
 refine ⟨Nat.lt_pow_two_of_testBit r hb, ?_⟩
 refine (trans_conf h hC (hd.imp id fun ⟨q, e, h1, h2, h3⟩ => ⟨q, e, ⟨h1, h2⟩, h3⟩) hj hk hS).congr fun k => ?_
 rw [hr, Bool.or_eq_true, Bool.and_eq_true, decide_eq_true_eq, Bool.not_eq_true', decide_eq_false_iff_not, mem_leaveL h]
 constructor
 ·rintro (⟨⟨h1, h2⟩, h3⟩ | h1)
  ·exact ⟨h1, .inl ⟨h2, fun h4 => h3 h4.2.2⟩⟩
  ·exact ⟨(hS.un k h1).1, .inr h1⟩
 ·rintro ⟨h1, ⟨h2, h3⟩ | h2⟩
  ·exact .inl ⟨⟨h1, h2⟩, fun h4 => h3 ⟨h1, h2, h4⟩⟩
  ·exact .inr h2
theorem enterL_und (h : ShF ks ps n) {d : Int} {L : List Nat} {j : Nat} (hj : j < n) (hk : isKid ks ps d j = true) (hS : LC ks ps n (fun k => k ∈ L) j) {k : Nat} (hm : k ∈ L) : k < n ∧ (k : Int) ≠ d ∧ Und ps k d := by
 obtain ⟨h1, _, h3⟩ := hS.un k hm
 have h4 := und_le h h3 h1
 have h5 := h.pa j hj
 have ej := (kid_par hk).1
 refine ⟨h1, by omega, ?_⟩
 by_cases e : d = -1
 ·subst e; exact .top k
 ·obtain ⟨q, rfl⟩ : ∃ q : Nat, d = q := ⟨d.toNat, by omega⟩
  exact und_trans h3 (und_kid ej)
theorem und_upper {C : Nat → Prop} (hC : Conf ks ps n C) {k a : Nat} (hk : C k) (hu : Und ps k a) : C a := by
 generalize ha : (a : Int) = b at hu
 induction hu with
 | self k =>
  have : a = k := by omega
  subst this; exact hk
 | top k => omega
 | up k r b e _ ih =>
  obtain ⟨hkn, _, hp⟩ := hC.un k hk
  rcases hp with hp | ⟨r', e', hr⟩
  ·omega
  ·have : r' = r := by omega
   subst this
   exact ih hr ha
theorem domF_spec (h : ShF ks ps n) {t : Nat} (ht : t < n) : ∀ (f k : Nat), k < n → domF ks ps t f k = -1 ∨ ∃ q : Nat, domF ks ps t f k = q ∧ ks.getD q 0 = 1 ∧ q ≠ t ∧ Und ps t q ∧ Und ps k q ∧ k ≠ q
 | 0, _, _ => .inl rfl
 | f + 1, k, hk => by
  unfold domF
  split
  ·exact .inl rfl
  ·rename_i h0
   obtain ⟨q, eq⟩ : ∃ q : Nat, ps.getD k 0 = q := ⟨(ps.getD k 0).toNat, by omega⟩
   have hlt := h.lt hk eq
   rw [eq, Int.toNat_natCast]
   split
   ·rename_i h1
    exact .inr ⟨q, rfl, h1.1, h1.2.1, (undB_iff h ht).1 h1.2.2, und_kid eq, by omega⟩
   ·rcases domF_spec h ht f q (by omega) with e | ⟨r, e, h1, h2, h3, h4, h5⟩
    ·exact .inl e
    ·have := und_le h h4 (by omega)
     exact .inr ⟨r, e, h1, h2, h3, .up k q r eq h4, by omega⟩
theorem domL_spec (h : ShF ks ps n) {k t : Nat} (hk : k < n) (ht : t < n) : (domL ks ps n k t = -1 ∨ ∃ q : Nat, domL ks ps n k t = q ∧ q < n ∧ ks.getD q 0 = 1) ∧ Und ps t (domL ks ps n k t) ∧ (t : Int) ≠ domL ks ps n k t ∧ Und ps k (domL ks ps n k t) ∧ (k : Int) ≠ domL ks ps n k t := by
 rcases domF_spec h ht n k hk with e | ⟨q, e, h1, h2, h3, h4, h5⟩
 ·unfold domL
  rw [e]
  exact ⟨.inl rfl, .top t, by omega, .top k, by omega⟩
 ·unfold domL
  rw [e]
  have := und_le h h4 hk
  exact ⟨.inr ⟨q, rfl, by omega, h1⟩, h3, by omega, h4, by omega⟩
theorem PastOk.of (h : ShF ks ps n) (hn : n ≤ 32) {past : Nat → Nat} (hp : ∀ q, q < n → (∀ k, k < n → (past q).testBit k = false) ∨ ∃ c, prop ks ps c = true ∧ ∀ k, k < n → (past q).testBit k = (c.testBit q && (c.testBit k && (decide (k ≠ q) && undB ps k q)))) : PastOk ks ps n past := by
 intro q hq h1
 rcases hp q hq with h2 | ⟨c, hc, hb⟩
 ·exact .inl h2
 ·obtain ⟨_, hC⟩ := (prop_conf h hn c).1 hc
  cases eq : c.testBit q
  ·left
   intro k hk
   rw [hb k hk, eq, Bool.false_and]
  ·rcases hC.part h ⟨hq, eq⟩ (by omega) with hno | ⟨j, hj, hkj, hlc⟩
   ·left
    intro k hk
    rw [hb k hk, eq, Bool.true_and]
    cases e : c.testBit k && (decide (k ≠ q) && undB ps k q)
    ·rfl
    ·rw [Bool.and_eq_true, Bool.and_eq_true, decide_eq_true_eq, undB_iff h hk] at e
     exact absurd ⟨⟨hk, e.1⟩, e.2⟩ (hno k)
   ·right
    refine ⟨j, hj, hkj, hlc.congr fun k => ?_⟩
    constructor
    ·rintro ⟨⟨hk, h2⟩, h3, h4⟩
     refine ⟨hk, ?_⟩
     rw [hb k hk, eq, h2, (undB_iff h hk).2 h4]
     simp [h3]
    ·rintro ⟨hk, h2⟩
     rw [hb k hk, eq, Bool.true_and, Bool.and_eq_true, Bool.and_eq_true, decide_eq_true_eq, undB_iff h hk] at h2
     exact ⟨⟨hk, h2.1⟩, h2.2⟩
theorem trans_all (h : ShF ks ps n) (hn : n ≤ 32) {past : Nat → Nat} (hp : PastOk ks ps n past) {s k t r : Nat} (hk : k < n) (ht : t < n) (hs : prop ks ps s = true) (hks : s.testBit k = true)
  (hr : ∀ i, r.testBit i = (s.testBit i && !decide (i ∈ leaveL ps n s (domL ks ps n k t)) || decide (i ∈ enterL ks ps n past (domL ks ps n k t) t))) : prop ks ps r = true := by
 obtain ⟨h1, h2, h3, h4, h5⟩ := domL_spec h hk ht
 obtain ⟨⟨j, hj, hkj, hlc⟩, _⟩ := enterL_LC h hp ht h2 h3
 refine trans_prop h hn hs ?_ hj hkj hlc hr
 refine h1.imp id fun ⟨q, e, hq, hpl⟩ => ⟨q, e, hq, ?_, by omega⟩
 rw [e] at h4
 exact (und_upper ((prop_conf h hn s).1 hs).2 ⟨hk, hks⟩ h4).2
end
section
variable {ks ps : List Int} {n : Nat}
theorem head_filter (p : Nat → Bool) : ∀ l : List Nat, (l.filter p).head? = l.find? p
 | [] => rfl
 | a :: r => by
  rw [List.filter_cons, List.find?_cons]
  cases p a
  ·exact head_filter p r
  ·rfl
theorem ini_iniN {a : Int} (h : ∃ j, j < n ∧ isKid ks ps a j = true) : iniTo ks ps a n = iniN ks ps n a := by
 obtain ⟨h1, h2⟩ := iniN_kid h
 unfold iniTo
 rw [← head_filter]
 show (match (openL ks ps n a).head? with | some k => (k : Int) | none => -1) = _
 unfold iniN
 cases e : openL ks ps n a with
 | nil =>
  obtain ⟨j, hj, hk⟩ := h
  have := mem_openL.2 ⟨hj, hk⟩
  rw [e] at this; cases this
 | cons b r => rfl
end
section
variable {ks ps : List Int} {n : Nat}
def upB (ps : List Int) (a t : Int) : Bool := if 0 ≤ a then undB ps a.toNat t else decide (t = -1)
theorem undB_self (ps : List Int) (k : Nat) : undB ps k k = true := by unfold undB; cases k <;> simp [undF]
theorem undB_top (ps : List Int) (k : Nat) : undB ps k (-1) = true := by unfold undB; cases k <;> simp [undF]
theorem und_bd {k : Nat} {t : Int} (hu : Und ps k t) : -1 ≤ t := by
 induction hu with
 | self k => omega
 | top k => omega
 | up k q a e _ ih => exact ih
theorem upB_step (h : ShF ks ps n) {k : Nat} (hk : k < n) {t : Int} (hne : (k : Int) ≠ t) : upB ps (ps.getD k 0) t = undB ps k t := by
 unfold upB
 have hp := h.pa k hk
 split
 ·rename_i h0
  have hq : (ps.getD k 0).toNat < n := by omega
  rw [Bool.eq_iff_iff, undB_iff h hq, undB_iff h hk]
  constructor
  ·intro hu
   exact .up k _ t (by omega) hu
  ·intro hu
   by_cases ht : t = -1
   ·subst ht; exact .top _
   ·have := und_bd hu
    obtain ⟨q, e, hq⟩ := und_step hu hne (by omega)
    rw [e, Int.toNat_natCast]; exact hq
 ·rename_i h0
  rw [Bool.eq_iff_iff, undB_iff h hk, decide_eq_true_eq]
  constructor
  ·intro e; subst e; exact .top k
  ·intro hu
   cases hu with
   | self => exact absurd rfl hne
   | top => rfl
   | up _ q _ e _ => omega
theorem upB_end {a t : Int} (ha : -1 ≤ a) (h : a < 0 ∨ a = t) : upB ps a t = decide (a = t) := by
 unfold upB
 by_cases h0 : 0 ≤ a
 ·have e : a = t := by omega
  rw [if_pos h0, decide_eq_true e]
  have : undB ps a.toNat a = true := by
   have := undB_self ps a.toNat
   rwa [Int.toNat_of_nonneg h0] at this
  rw [← e]; exact this
 ·have e : a = -1 := by omega
  subst e
  rw [if_neg (by omega), Bool.eq_iff_iff, decide_eq_true_eq, decide_eq_true_eq]
  omega
def domU (ks ps : List Int) (t : Nat) (a : Int) : Int := if 0 ≤ a then (if ks.getD a.toNat 0 = 1 ∧ a.toNat ≠ t ∧ undB ps t a = true then a else domF ks ps t a.toNat a.toNat) else -1
theorem domF_stab (h : ShF ks ps n) (t : Nat) : ∀ f f' k : Nat, k ≤ f → k ≤ f' → k < n → domF ks ps t f k = domF ks ps t f' k
 | 0, 0, k, _, _, _ => rfl
 | 0, f' + 1, k, h1, _, hk => by
  have := h.pa k hk
  have hz : k = 0 := by omega
  subst hz
  unfold domF
  rw [if_pos (by omega)]
 | f + 1, 0, k, _, h1, hk => by
  have := h.pa k hk
  have hz : k = 0 := by omega
  subst hz
  unfold domF
  rw [if_pos (by omega)]
 | f + 1, f' + 1, k, h1, h2, hk => by
  have := h.pa k hk
  unfold domF
  split
  ·rfl
  ·split
   ·rfl
   ·exact domF_stab h t f f' _ (by omega) (by omega) (by omega)
theorem domU_step (h : ShF ks ps n) (t : Nat) {k : Nat} (hk : k < n) {f : Nat} (hf : k ≤ f) : domU ks ps t (ps.getD k 0) = domF ks ps t f k := by
 have hp := h.pa k hk
 rw [domF_stab h t f (k + 1) k hf (by omega) hk]
 unfold domU
 rw [domF]
 by_cases h0 : ps.getD k 0 < 0
 ·rw [if_neg (by omega), if_pos h0]
 ·rw [if_pos (by omega), if_neg h0]
  split
  ·rfl
  ·exact domF_stab h t _ _ _ (Nat.le_refl _) (by omega) (by omega)
theorem domU_dom (h : ShF ks ps n) (t : Nat) {k : Nat} (hk : k < n) : domU ks ps t (ps.getD k 0) = domL ks ps n k t := domU_step h t hk (by omega)
theorem domU_hit {t : Nat} {a : Int} (h0 : 0 ≤ a) (hc : ks.getD a.toNat 0 = 1 ∧ a.toNat ≠ t ∧ undB ps t a = true) : domU ks ps t a = a := by
 unfold domU; rw [if_pos h0, if_pos hc]
theorem domU_miss (h : ShF ks ps n) {t : Nat} {k : Nat} (hk : k < n) (hc : ¬ (ks.getD k 0 = 1 ∧ k ≠ t ∧ undB ps t k = true)) : domU ks ps t (ps.getD k 0) = domU ks ps t k := by
 rw [domU_step h t hk (Nat.le_refl k)]
 conv => rhs; unfold domU
 rw [if_pos (by omega), Int.toNat_natCast, if_neg hc]
theorem ShF.val (h : ShF ks ps n) (h0 : 0 < n) (hn : n ≤ 24) : valB ks ps = true := by
 have hsz : szN ks ps = n := by unfold szN; rw [h.kl, h.pl]; omega
 unfold valB
 rw [h.kl, h.pl, Bool.and_eq_true, Bool.and_eq_true, Bool.and_eq_true, Bool.and_eq_true]
 refine ⟨⟨⟨⟨by simp, decide_eq_true (by omega)⟩, decide_eq_true hn⟩, ?_⟩, ?_⟩
 ·rw [List.all_eq_true]
  intro k hk
  have hk := List.mem_range.1 hk
  have h1 := h.kd k hk
  have h2 := h.pa k hk
  unfold fitS
  have e1 : decide (ks.getD k 0 < 1) = false := decide_eq_false (by omega)
  have e2 : decide (4 < ks.getD k 0) = false := decide_eq_false (by omega)
  have e3 : decide (ps.getD k 0 < -1) = false := decide_eq_false (by omega)
  have e4 : decide ((k : Int) ≤ ps.getD k 0) = false := decide_eq_false (by omega)
  rw [e1, e2, e3, e4]
  cases hh : hl ks k
  ·obtain ⟨q, e, hq, _⟩ := h.hi k hk hh
   rw [e, Int.toNat_natCast, hq]; simp
  ·by_cases h0 : ps.getD k 0 < 0
   ·rw [decide_eq_true h0]; simp
   ·have := h.up k (ps.getD k 0).toNat hk (by omega)
    rw [this]; simp
 ·rw [List.all_eq_true]
  intro i hi
  have hi := List.mem_range.1 hi
  unfold iniB
  rw [hsz, Bool.not_eq_true', Bool.and_eq_false_iff]
  by_cases hz : 0 < (kidsTo ps ((i : Int) - 1) n).length
  ·right
   obtain ⟨k, hk⟩ := List.exists_mem_of_length_pos hz
   obtain ⟨hkn, e⟩ := mem_kidsTo.1 hk
   have hex : ∃ j, j < n ∧ isKid ks ps ((i : Int) - 1) j = true := by
    cases hh : hl ks k
    ·obtain ⟨q, e2, _, j, hj, hkj⟩ := h.hi k hkn hh
     have : (i : Int) - 1 = q := by omega
     rw [this]; exact ⟨j, hj, hkj⟩
    ·refine ⟨k, hkn, ?_⟩
     unfold isKid
     rw [e, hh]; simp
   rw [ini_iniN hex]
   exact decide_eq_false (by omega)
  ·left; exact decide_eq_false hz
end
end Go.Proofs.YtaoinedndnleoaaGreat
namespace Go.Proofs.YtaoinedndnleoaaGreat
set_option maxRecDepth 100000
open Go.ChangeShapes Go.WideShapes Go.ChangeAt Go.RowKit
section
variable {ks ps : List Int} {A B : Option Addr} {n c d : Nat}
theorem there_any (k : Nat) (w : World) (hn : n ≤ 100) (hk : k < n) :
  Calls Tryz.prog 82 #[.agg #[.slice A n c, .slice B n d], .int .i64 k] w fun e w' => e = .returned (.bool true) ∧ Below w.heap.size w w' := by
 have x0 := box_0 w 27 (.slice A n c) (.slice B n d)
 have x1 := box_1 w 27 (.slice A n c) (.slice B n d)
 have HZ := Lib.hid (box_b w (.cells #[.slice A n c, .slice B n d] 27))
 have SZ := fun W => size_any 27 A B n c n d W (by omega) (by omega)
 rw [Nat.min_self] at SZ
 have SZ := Lib.hid SZ
 have hki : (k : Int) < n := by omega
 go_enter Tryz.func82, Tryz.ntmps82
 go_wp2_with (go_at_call 53; refine (SZ.out _).mono ?_; rintro e w1 ⟨rfl, hb1⟩)
 go_ret
 exact ⟨rfl, below_then HZ.out hb1 HZ.out.size⟩
set_option maxHeartbeats 1000000 in
theorem Under_any (k : Nat) (t : Int) (w : World) (h : IntsAt w (.slice A n c) ks ∧ IntsAt w (.slice B n d) ps) (hf : ShF ks ps n) (hn : n ≤ 100) (hk : k < n) :
  Calls Tryz.prog 101 #[.agg #[.slice A n c, .slice B n d], .int .i64 k, .int .i64 t] w fun e w' => e = .returned (.bool (undB ps k t)) ∧ Below w.heap.size w w' := by
 have x0 := box_0 w 27 (.slice A n c) (.slice B n d)
 have x1 := box_1 w 27 (.slice A n c) (.slice B n d)
 have hz := box_b w (.cells #[.slice A n c, .slice B n d] 27)
 have hlt : w.heap.size < (w.alloc (.cells #[.slice A n c, .slice B n d] 27)).heap.size := by simp
 have S1 := Lib.hid (shp_below h hz)
 have HZ := Lib.hid hz
 have HF := Lib.hid hf
 clear h hz hf
 go_enter Tryz.func101, Tryz.ntmps101
 go_upto_region 1 with (fail)
 generalize w.alloc (.cells #[.slice A n c, .slice B n d] 27) = w0 at *
 have TH := Lib.hid (fun W => there_any (A := A) (B := B) (c := c) (d := d) k W hn hk)
 have PA := Lib.hid (fun W (hW : Below w0.heap.size w0 W) (q : Nat) (hq : q < n) => parent_any ps A B n c n d q W (shp_below S1.out hW).2 HF.out.pl.symm hq (by omega))
 go_wp2_with (go_at_call 82; refine (TH.out _).mono ?_; rintro e w1 ⟨rfl, hb1⟩)
 have HB1 := Lib.hid hb1
 clear hb1
 go_loopw [1] (fun i wr => ∃ a : Int, i = .int .i64 a ∧ Hid (-1 ≤ a ∧ a < n ∧ upB ps a t = undB ps k t) ∧ Hid (Below w0.heap.size w0 wr)) (fun i _ => (intOf i + 1).toNat)
 case atStart => exact ⟨k, rfl, ⟨by omega, by omega, by unfold upB; rw [if_pos (by omega), Int.toNat_natCast]⟩, HB1.out⟩
 case round =>
  obtain ⟨a, rfl, HA, HB⟩ := hrel
  have z0 := (HB.out.cell (p := ⟨w.heap.size, 0, none⟩) hlt).trans x0
  have z1 := (HB.out.cell (p := ⟨w.heap.size, 1, none⟩) hlt).trans x1
  by_cases h0 : 0 ≤ a
  ·by_cases hat : a = t
   ·have HE : Hid (undB ps k t = true) := by show _ = _; rw [← HA.out.2.2, upB_end HA.out.1 (.inr hat), decide_eq_true hat]
    have g1 : (a != t) = false := by simp [hat]
    have g2 : (a == t) = true := by simp [hat]
    clear HA
    go_wp2
    go_ret
    exact ⟨ret_bool HE.out.symm, below_then HZ.out HB.out HZ.out.size⟩
   ·obtain ⟨q, rfl⟩ : ∃ q : Nat, a = q := ⟨a.toNat, by omega⟩
    have hq : q < n := by have := HA.out.2.1; omega
    have PQ := Lib.hid (PA.out _ HB.out q hq)
    have hpq := HF.out.pa q hq
    have epar : par ps q = ps.getD q 0 := by unfold par; omega
    rw [epar] at PQ
    have HS : Hid (upB ps (ps.getD q 0) t = undB ps k t) := by
     show _ = _
     rw [upB_step HF.out hq hat, ← HA.out.2.2]
     unfold upB; rw [if_pos h0, Int.toNat_natCast]
    have HP := Lib.hid hpq
    have g1 : ((q : Int) != t) = true := by simpa using hat
    clear HA hpq epar
    generalize ps.getD q 0 = p at *
    go_wp2_with (go_at_call 83; refine PQ.out.mono ?_; rintro e w2 ⟨rfl, hb2⟩)
    go_roundw
    case rel => exact ⟨p, rfl, ⟨HP.out.1, by have := HP.out.2; omega, HS.out⟩, below_then HB.out hb2 HB.out.size⟩
    case measure => have := HP.out; simp [intOf]; omega
  ·have HE : Hid (undB ps k t = (a == t)) := by
    show _ = _
    rw [← HA.out.2.2, upB_end HA.out.1 (.inl (by omega))]
    rfl
   clear HA
   generalize hg : (a == t) = g at *
   have HG := Lib.hid hg
   clear hg
   go_wp2
   go_ret
   exact ⟨ret_bool (by rw [HE.out, HG.out]), below_then HZ.out HB.out HZ.out.size⟩
theorem properly_any (k : Nat) (t : Int) (w : World) (h : IntsAt w (.slice A n c) ks ∧ IntsAt w (.slice B n d) ps) (hf : ShF ks ps n) (hn : n ≤ 100) (hk : k < n) :
  Calls Tryz.prog 108 #[.agg #[.slice A n c, .slice B n d], .int .i64 k, .int .i64 t] w fun e w' => e = .returned (.bool (decide ((k : Int) ≠ t) && undB ps k t)) ∧ Below w.heap.size w w' := by
 have x0 := box_0 w 27 (.slice A n c) (.slice B n d)
 have x1 := box_1 w 27 (.slice A n c) (.slice B n d)
 have hz := box_b w (.cells #[.slice A n c, .slice B n d] 27)
 have UN := Lib.hid (Under_any k t _ (shp_below h hz) hf hn hk)
 have HZ := Lib.hid hz
 clear h hz hf
 by_cases hkt : (k : Int) = t
 ·have g1 : ((k : Int) != t) = false := by simp [hkt]
  have HE : Hid ((decide ((k : Int) ≠ t) && undB ps k t) = false) := by show _ = _; rw [decide_eq_false (fun h => h hkt), Bool.false_and]
  go_enter Tryz.func108, Tryz.ntmps108
  go_wp2
  go_ret
  exact ⟨ret_bool HE.out.symm, HZ.out⟩
 ·have g1 : ((k : Int) != t) = true := by simpa using hkt
  have HE : Hid ((decide ((k : Int) ≠ t) && undB ps k t) = undB ps k t) := by show _ = _; rw [decide_eq_true hkt, Bool.true_and]
  go_enter Tryz.func108, Tryz.ntmps108
  go_wp2_with (go_at_call 101; refine UN.out.mono ?_; rintro e w1 ⟨rfl, hb1⟩)
  go_ret
  exact ⟨ret_bool HE.out.symm, below_then HZ.out hb1 HZ.out.size⟩
theorem hasE_any (s k : Nat) (w : World) (hs : s < 4294967296) (hk : k < 32) :
  Calls Tryz.prog 132 #[.int .u32 s, .int .i64 k] w fun e w' => e = .returned (.bool (s.testBit k)) ∧ w = w' := by
 have HV := Lib.hid (has_shr s k hs hk)
 go_enter Tryz.func132, Tryz.ntmps132
 go_wp2
 go_ret
 exact ⟨ret_bool HV.out, rfl⟩
end
end Go.Proofs.YtaoinedndnleoaaGreat
