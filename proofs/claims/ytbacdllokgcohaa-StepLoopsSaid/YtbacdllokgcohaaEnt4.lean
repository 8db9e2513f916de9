/-
  What a transition enters: a part of a configuration, each state once, a parent ahead of its states: plain, no program in it.
-/
import Derived.Test.YtbacdllokgcohaaEnt3
namespace Go.Proofs.Ytbacdllokgcohaa
set_option maxRecDepth 100000

/-- each state's parent has come ahead of it, or is the one from which it goes down -/
def Ahd (ps : List Int) (d : Int) : List Nat → List Nat → Prop
  | _, [] => True
  | seen, k :: r => (ps.getD k 0 = d ∨ ∃ q : Nat, q ∈ seen ∧ ps.getD k 0 = q) ∧ Ahd ps d (k :: seen) r
section
variable {ks ps : List Int} {n : Nat}
theorem Ahd.mono {d d' : Int} : ∀ {l s s' : List Nat}, Ahd ps d s l → (∀ q, q ∈ s → q ∈ s') → (d = d' ∨ ∃ q : Nat, q ∈ s' ∧ d = q) → Ahd ps d' s' l
  | [], _, _, _, _, _ => trivial
  | k :: r, s, s', h, hs, hd => by
    refine ⟨?_, h.2.mono (fun q hq => ?_) (hd.imp id fun ⟨q, h1, h2⟩ => ⟨q, List.mem_cons_of_mem _ h1, h2⟩)⟩
    · rcases h.1 with e | ⟨q, hq, e⟩
      · rcases hd with rfl | ⟨q, hq, e'⟩
        · exact .inl e
        · exact .inr ⟨q, hq, e.trans e'⟩
      · exact .inr ⟨q, hs q hq, e⟩
    · rcases List.mem_cons.1 hq with rfl | hq
      · exact List.mem_cons_self
      · exact List.mem_cons_of_mem _ (hs q hq)
theorem Ahd.app {d : Int} : ∀ {l s r : List Nat}, Ahd ps d s l → Ahd ps d s r → Ahd ps d s (l ++ r)
  | [], _, _, _, hr => hr
  | _ :: _, _, _, hl, hr => ⟨hl.1, hl.2.app (hr.mono (fun _ hq => List.mem_cons_of_mem _ hq) (.inl rfl))⟩
theorem Ahd.flat {d : Int} {s : List Nat} {f : Nat → List Nat} : ∀ {l : List Nat}, (∀ x, x ∈ l → Ahd ps d s (f x)) → Ahd ps d s (l.flatMap f)
  | [], _ => trivial
  | a :: r, h => by
    rw [List.flatMap_cons]
    exact (h a List.mem_cons_self).app (Ahd.flat fun x hx => h x (List.mem_cons_of_mem _ hx))
/-- a state, and behind it what is its own -/
theorem Ahd.head {x : Nat} {l : List Nat} (h : Ahd ps x [] l) : Ahd ps (ps.getD x 0) [] (x :: l) :=
  ⟨.inl rfl, h.mono (fun _ hq => nomatch hq) (.inr ⟨x, List.mem_cons_self, rfl⟩)⟩
/-- what it says of each place -/
theorem Ahd.at {d : Int} : ∀ {l s : List Nat}, Ahd ps d s l → ∀ (i k : Nat), l[i]? = some k → ps.getD k 0 = d ∨ ∃ q : Nat, (q ∈ s ∨ q ∈ l.take i) ∧ ps.getD k 0 = q
  | [], _, _, _, _, h => by simp at h
  | a :: r, s, h, 0, k, e => by
    have : a = k := by simpa using e
    subst this
    rcases h.1 with e1 | ⟨q, hq, e1⟩
    · exact .inl e1
    · exact .inr ⟨q, .inl hq, e1⟩
  | a :: r, s, h, i + 1, k, e => by
    rcases h.2.at i k (by simpa using e) with e1 | ⟨q, hq, e1⟩
    · exact .inl e1
    · refine .inr ⟨q, ?_, e1⟩
      rw [List.take_succ_cons, List.mem_cons]
      rcases hq with hq | hq
      · rcases List.mem_cons.1 hq with rfl | hq
        · exact .inr (.inl rfl)
        · exact .inl hq
      · exact .inr (.inr hq)
theorem flat_nodup {f : Nat → List Nat} : ∀ {l : List Nat}, l.Nodup → (∀ x, x ∈ l → (f x).Nodup) → (∀ x y k, x ∈ l → y ∈ l → k ∈ f x → k ∈ f y → x = y) → (l.flatMap f).Nodup
  | [], _, _, _ => List.nodup_nil
  | a :: r, hn, hf, hd => by
    rw [List.flatMap_cons, List.nodup_append]
    rw [List.nodup_cons] at hn
    refine ⟨hf a List.mem_cons_self, flat_nodup hn.2 (fun x hx => hf x (List.mem_cons_of_mem _ hx)) (fun x y k hx hy => hd x y k (List.mem_cons_of_mem _ hx) (List.mem_cons_of_mem _ hy)), ?_⟩
    intro k hk k' hk' e
    subst e
    obtain ⟨y, hy, hky⟩ := List.mem_flatMap.1 hk'
    have := hd a y k List.mem_cons_self (List.mem_cons_of_mem _ hy) hk hky
    subst this
    exact hn.1 hy
theorem inS_und (h : ShF ks ps n) {x k : Nat} (hx : x < n) (hh : hl ks x = true) (hk : k ∈ inS ks ps n x) : k < n ∧ hl ks k = true ∧ Und ps k x := (inS_LC h hx hh).un k hk
/-- each once, parents ahead -/
theorem inS_list (h : ShF ks ps n) : ∀ (m x : Nat), n - x ≤ m → x < n → hl ks x = true → (inS ks ps n x).Nodup ∧ Ahd ps (ps.getD x 0) [] (inS ks ps n x)
  | 0, x, hm, hx, _ => by omega
  | m + 1, x, hm, hx, hh => by
    have hp : ∀ k, k < n → ps.getD k 0 < k := fun k hk => (h.pa k hk).2
    have hkid : ∀ j, j ∈ openL ks ps n x → j < n ∧ x < j ∧ ps.getD j 0 = x ∧ (inS ks ps n j).Nodup ∧ Ahd ps x [] (inS ks ps n j) ∧ ∀ k, k ∈ inS ks ps n j → Und ps k j ∧ k < n ∧ x < k := fun j hj => by
      obtain ⟨h1, h2⟩ := mem_openL.1 hj
      have h3 := h.lt h1 (kid_par h2).1
      have ih := inS_list h m j (by omega) h1 (kid_hl h2)
      rw [(kid_par h2).1] at ih
      refine ⟨h1, h3, (kid_par h2).1, ih.1, ih.2, fun k hk => ?_⟩
      have h4 := inS_und h h1 (kid_hl h2) hk
      have := und_le h h4.2.2 h4.1
      exact ⟨h4.2.2, h4.1, by omega⟩
    rw [inS_eq hp hx]
    split
    · constructor
      · rw [List.nodup_cons]
        constructor
        · intro hm'
          obtain ⟨j, hj, hk⟩ := List.mem_flatMap.1 hm'
          have := ((hkid j hj).2.2.2.2.2 x hk).2.2
          omega
        · refine flat_nodup (openL_nodup _) (fun j hj => (hkid j hj).2.2.2.1) fun i j k hi hj hki hkj => ?_
          have h1 := (hkid i hi).2.2.2.2.2 k hki
          have h2 := (hkid j hj).2.2.2.2.2 k hkj
          exact und_kids h h1.2.1 h1.1 h2.1 (by rw [(hkid i hi).2.2.1, (hkid j hj).2.2.1])
      · exact (Ahd.flat fun j hj => (hkid j hj).2.2.2.2.1).head
    · cases hhd : (openL ks ps n x).head? with
      | none => exact ⟨by simp, Ahd.head (ps := ps) (x := x) (l := []) trivial⟩
      | some j =>
        have hj := hkid j (List.mem_of_head? hhd)
        refine ⟨?_, hj.2.2.2.2.1.head⟩
        rw [List.nodup_cons]
        refine ⟨fun hk => ?_, hj.2.2.2.1⟩
        have := (hj.2.2.2.2.2 x hk).2.2
        omega
theorem inS_nodup (h : ShF ks ps n) {x : Nat} (hx : x < n) (hh : hl ks x = true) : (inS ks ps n x).Nodup := (inS_list h n x (by omega) hx hh).1
theorem inS_ahd (h : ShF ks ps n) {x : Nat} (hx : x < n) (hh : hl ks x = true) : Ahd ps (ps.getD x 0) [] (inS ks ps n x) := (inS_list h n x (by omega) hx hh).2
/-- numbers that grow, with all parents -/
theorem ahd_up (d : Int) : ∀ (l s : List Nat), l.Pairwise (· < ·) → (∀ k, k ∈ l → ps.getD k 0 = d ∨ ∃ q : Nat, q < k ∧ (q ∈ s ∨ q ∈ l) ∧ ps.getD k 0 = q) → Ahd ps d s l
  | [], _, _, _ => trivial
  | a :: r, s, hw, hk => by
    rw [List.pairwise_cons] at hw
    refine ⟨?_, ahd_up d r (a :: s) hw.2 fun k hkr => ?_⟩
    · refine (hk a List.mem_cons_self).imp id ?_
      rintro ⟨q, h1, h2, e⟩
      rcases h2 with h2 | h2
      · exact ⟨q, h2, e⟩
      · rcases List.mem_cons.1 h2 with rfl | h2
        · omega
        · have := hw.1 q h2; omega
    · refine (hk k (List.mem_cons_of_mem _ hkr)).imp id ?_
      rintro ⟨q, h1, h2, e⟩
      refine ⟨q, h1, ?_, e⟩
      rcases h2 with h2 | h2
      · exact .inl (List.mem_cons_of_mem _ h2)
      · rcases List.mem_cons.1 h2 with rfl | h2
        · exact .inl List.mem_cons_self
        · exact .inr h2
theorem range_up : ∀ n : Nat, (List.range n).Pairwise (· < ·)
  | 0 => by simp
  | n + 1 => by
    rw [List.range_succ, List.pairwise_append]
    refine ⟨range_up n, by simp, fun a ha b hb => ?_⟩
    rw [List.mem_singleton] at hb
    have := List.mem_range.1 ha
    omega
theorem intoH_list (h : ShF ks ps n) {past : Nat → Nat} (hp : PastOk ks ps n past) {x q : Nat} (hx : x < n) (hh : hl ks x = false) (e : ps.getD x 0 = q) : (intoH ks ps n past x).Nodup ∧ Ahd ps q [] (intoH ks ps n past x) := by
  obtain ⟨j, hj, hkj, hlc⟩ := intoH_hist h hp hx hh e
  obtain ⟨q', e', hq, h1, hi, hki⟩ := hist h hx hh
  have : q' = q := by omega
  subst this
  unfold intoH at hlc ⊢
  rw [hh, if_neg (by simp), e, Int.toNat_natCast] at hlc ⊢
  have hini := inS_list h n _ (by omega) hi (kid_hl hki)
  rw [(kid_par hki).1] at hini
  by_cases h3 : ks.getD x 0 = 3
  · rw [if_pos h3] at hlc ⊢
    cases hf : (kidsTo ps q' n).find? fun k => (past q').testBit k with
    | none => exact hini
    | some k =>
      have hk := mem_kidsTo.1 (List.mem_of_find?_eq_some hf)
      rw [hf] at hlc
      have hme := (inS_LC (x := k) h hk.1)
      cases hhk : hl ks k
      · exfalso
        have : k ∈ inS ks ps n k := by unfold inS; cases n - k <;> simp [intoF]
        have := (hlc.un k this).2.1
        rw [hhk] at this; cases this
      · have hs := inS_list h n k (by omega) hk.1 hhk
        rw [hk.2] at hs
        exact hs
  · rw [if_neg h3] at hlc ⊢
    split
    · exact hini
    · rename_i hne
      rw [if_neg hne] at hlc
      refine ⟨List.Pairwise.filter _ List.nodup_range, ahd_up _ _ _ (List.Pairwise.filter _ (range_up n)) fun k hk => ?_⟩
      by_cases ekj : k = j
      · subst ekj; exact .inl (kid_par hkj).1
      · obtain ⟨r, er, hr⟩ := hlc.pr k hk ekj
        exact .inr ⟨r, h.lt (hlc.un k hk).1 er, .inr hr, er⟩
theorem wayF_self {past : Nat → Nat} {f t : Nat} : wayF ks ps n past f t t = intoH ks ps n past t := by cases f <;> simp [wayF]
theorem kids_nodup (a : Int) (n : Nat) : (kidsTo ps a n).Nodup := by
  induction n with
  | zero => exact List.nodup_nil
  | succ n ih =>
    unfold kidsTo
    split
    · rw [List.nodup_append]
      refine ⟨ih, by simp, fun k hk m hm e => ?_⟩
      have := (mem_kidsTo.1 hk).1
      rw [List.mem_singleton] at hm
      omega
    · exact ih
theorem wayF_list (h : ShF ks ps n) {past : Nat → Nat} (hp : PastOk ks ps n past) {t : Nat} (ht : t < n) : ∀ (f a : Nat), n - a ≤ f → a < n → Und ps t a → (wayF ks ps n past f a t).Nodup ∧ Ahd ps (ps.getD a 0) [] (wayF ks ps n past f a t) ∧ ∀ k, k ∈ wayF ks ps n past f a t → k < n ∧ Und ps k a ∨ hl ks a = false
  | 0, a, hf, ha, _ => by omega
  | f + 1, a, hf, ha, hu => by
    by_cases e : a = t
    · subst e
      rw [wayF_self]
      cases hh : hl ks a
      · obtain ⟨q, eq, _⟩ := h.hi a ha hh
        have := intoH_list h hp ha hh eq
        rw [eq]
        exact ⟨this.1, this.2, fun _ _ => .inr rfl⟩
      · rw [intoH_hl hh]
        exact ⟨inS_nodup h ha hh, inS_ahd h ha hh, fun k hk => .inl ⟨(inS_und h ha hh hk).1, (inS_und h ha hh hk).2.2⟩⟩
    · unfold wayF
      rw [if_neg e]
      obtain ⟨k, hfind, hk, ek, huk, hone⟩ := lead h ht hu (fun e' => e e'.symm)
      rw [hfind]
      have hak := h.lt hk ek
      have ih := wayF_list h hp ht f k (by omega) hk huk
      rw [ek] at ih
      have hha := h.up k a hk ek
      have hlc := wayF_LC h hp ht (f + 1) a (by omega) ha hha hu
      unfold wayF at hlc
      rw [if_neg e, hfind] at hlc
      have hin : ∀ i, i ∈ wayF ks ps n past f k t → i < n ∧ a < i ∧ Und ps i a := fun i hi => by
        have h1 := hlc.un i (List.mem_cons_of_mem _ (List.mem_append_left _ hi))
        have h2 := und_le h h1.2.2 h1.1
        refine ⟨h1.1, ?_, h1.2.2⟩
        rcases ih.2.2 i hi with h3 | h3
        · have := und_le h h3.2 h3.1; omega
        · obtain ⟨q, eq, _⟩ := h.hi k hk h3
          have hqa : q = a := by omega
          subst hqa
          have hkt : k = t := by
            refine Classical.byContradiction fun hne => ?_
            obtain ⟨j, hj, ej, _⟩ := und_down h ht huk (fun e' => hne e'.symm)
            have := h.up j k hj ej
            rw [this] at h3; cases h3
          subst hkt
          rw [wayF_self] at hi
          obtain ⟨j, hj, hkj, hl2⟩ := intoH_hist h hp hk h3 eq
          have h4 := hl2.un i hi
          have h5 := und_le h h4.2.2 h4.1
          have := h.lt hj (kid_par hkj).1
          omega
      by_cases h2 : ks.getD a 0 = 2
      · rw [if_pos h2] at hlc ⊢
        have hoth : ∀ j, j ∈ (kidsTo ps a n).filter (fun k : Nat => !undB ps t k) → j < n ∧ a < j ∧ ps.getD j 0 = a ∧ hl ks j = true ∧ j ≠ k := fun j hj => by
          rw [List.mem_filter] at hj
          obtain ⟨hj1, hj2⟩ := hj
          have hjm := mem_kidsTo.1 hj1
          have ejk : j ≠ k := fun e' => by
            subst e'
            rw [(undB_iff h ht).2 huk] at hj2; cases hj2
          refine ⟨hjm.1, h.lt hjm.1 hjm.2, hjm.2, ?_, ejk⟩
          cases e' : hl ks j
          · obtain ⟨q, eq, h1, _⟩ := h.hi j hjm.1 e'
            have : q = a := by omega
            subst this
            omega
          · rfl
        have hhk : hl ks k = true := by
          cases e' : hl ks k
          · obtain ⟨q, eq, h1, _⟩ := h.hi k hk e'
            have : q = a := by omega
            subst this
            omega
          · rfl
        refine ⟨?_, ?_, fun i hi => .inl ⟨(hlc.un i hi).1, (hlc.un i hi).2.2⟩⟩
        · rw [List.nodup_cons]
          constructor
          · intro hm
            rcases List.mem_append.1 hm with hm | hm
            · have := (hin a hm).2.1; omega
            · obtain ⟨j, hj, hs⟩ := List.mem_flatMap.1 hm
              have h1 := hoth j hj
              have h3 := inS_und h h1.1 h1.2.2.2.1 hs
              have := und_le h h3.2.2 h3.1
              omega
          · rw [List.nodup_append]
            refine ⟨ih.1, flat_nodup (List.Pairwise.filter _ (kids_nodup _ _)) (fun j hj => inS_nodup h (hoth j hj).1 (hoth j hj).2.2.2.1) (fun x y i hx hy hix hiy => ?_), ?_⟩
            · have h1 := hoth x hx
              have h3 := hoth y hy
              have h4 := inS_und h h1.1 h1.2.2.2.1 hix
              have h5 := inS_und h h3.1 h3.2.2.2.1 hiy
              exact und_kids h h4.1 h4.2.2 h5.2.2 (by rw [h1.2.2.1, h3.2.2.1])
            · intro i hi i' hi' ei
              subst ei
              obtain ⟨j, hj, hs⟩ := List.mem_flatMap.1 hi'
              have h1 := hoth j hj
              have h4 := inS_und h h1.1 h1.2.2.2.1 hs
              rcases ih.2.2 i hi with h5 | h5
              · exact h1.2.2.2.2 (und_kids h h4.1 h4.2.2 h5.2 (by rw [h1.2.2.1, ek]))
              · rw [hhk] at h5; cases h5
        · refine (ih.2.1.app (Ahd.flat fun j hj => ?_)).head
          have h1 := hoth j hj
          have := inS_ahd h h1.1 h1.2.2.2.1
          rw [h1.2.2.1] at this
          exact this
      · rw [if_neg h2, List.append_nil] at hlc ⊢
        refine ⟨?_, ih.2.1.head, fun i hi => .inl ⟨(hlc.un i hi).1, (hlc.un i hi).2.2⟩⟩
        rw [List.nodup_cons]
        refine ⟨fun hm => ?_, ih.1⟩
        have := (hin a hm).2.1
        omega
theorem topF_spec (h : ShF ks ps n) {d : Int} : ∀ (f k : Nat), k < n → k ≤ f → Und ps k d → (k : Int) ≠ d → topF ps f k d < n ∧ ps.getD (topF ps f k d) 0 = d ∧ Und ps k (topF ps f k d)
  | 0, k, hk, hf, hu, hne => by
    have := h.pa k hk
    refine ⟨hk, ?_, .self k⟩
    show ps.getD k 0 = d
    cases hu with
    | self => exact absurd rfl hne
    | top => omega
    | up _ q _ e _ => omega
  | f + 1, k, hk, hf, hu, hne => by
    unfold topF
    by_cases e : ps.getD k 0 = d
    · rw [if_pos e]; exact ⟨hk, e, .self k⟩
    · rw [if_neg e]
      have hpk := h.pa k hk
      have key : ∃ q : Nat, ps.getD k 0 = q ∧ Und ps q d := by
        cases hu with
        | self => exact absurd rfl hne
        | top => exact ⟨(ps.getD k 0).toNat, by omega, .top _⟩
        | up _ q _ e' h' => exact ⟨q, e', h'⟩
      obtain ⟨q, eq, hq⟩ := key
      have hlt := h.lt hk eq
      rw [eq, Int.toNat_natCast]
      obtain ⟨h1, h2, h3⟩ := topF_spec h f q (by omega) (by omega) hq (by omega)
      exact ⟨h1, h2, .up k q _ eq h3⟩
/-- what a transition enters, below a state or the top: a part, each state once, parents ahead -/
theorem enterL_LC (h : ShF ks ps n) {past : Nat → Nat} (hp : PastOk ks ps n past) {t : Nat} {d : Int} (ht : t < n) (hu : Und ps t d) (hne : (t : Int) ≠ d) :
    (∃ j, j < n ∧ isKid ks ps d j = true ∧ LC ks ps n (fun k => k ∈ enterL ks ps n past d t) j) ∧ (enterL ks ps n past d t).Nodup ∧ Ahd ps d [] (enterL ks ps n past d t) := by
  obtain ⟨h1, h2, h3⟩ := topF_spec h t t ht (Nat.le_refl _) hu hne
  unfold enterL
  generalize topF ps t t d = a at h1 h2 h3 ⊢
  have hl' := wayF_list h hp ht (n - a) a (Nat.le_refl _) h1 h3
  rw [h2] at hl'
  refine ⟨?_, hl'.1, hl'.2.1⟩
  cases hh : hl ks a
  · have hat : a = t := by
      refine Classical.byContradiction fun hne' => ?_
      obtain ⟨j, hj, ej, _⟩ := und_down h ht h3 (fun e' => hne' e'.symm)
      have := h.up j a hj ej
      rw [this] at hh; cases hh
    subst hat
    rw [wayF_self]
    obtain ⟨q, eq, _⟩ := h.hi a h1 hh
    have := intoH_hist h hp h1 hh eq
    rw [← h2, eq]
    exact this
  · exact ⟨a, h1, by unfold isKid; rw [h2, hh]; simp, wayF_LC h hp ht (n - a) a (Nat.le_refl _) h1 hh h3⟩
end
end Go.Proofs.Ytbacdllokgcohaa
