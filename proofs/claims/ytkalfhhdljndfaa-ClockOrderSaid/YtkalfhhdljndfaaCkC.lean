/-
  A map that counts Dues: how it is looked up, bumped, ranged over.
-/
import Derived.Test.YtkalfhhdljndfaaLawKN
import Derived.WideKeyEntry
import Derived.Maps.RangeWalk
import Derived.Maps.Own
import Derived.Maps.OwnSet
import Derived.Maps.Views
import Derived.DeepKeys4
namespace Go.Proofs.Ytkalfhhdljndfaa
set_option maxRecDepth 100000
open Go.ChangeShapes Go.WideShapes Go.ChangeAt Go.RowKit Go.Deep
open Go.ChangeMaps (setBlock heap_setBlock_same heap_setBlock_other)
open Go.Maps (Keyed)
theorem dueWide : (match Try.prog.underlying 27 with | some (.array _ _) | some (.struct _) => true | _ => false) = true := by kernel_rfl
theorem dueLaw : WideMaps.KeyLaw Try.prog 27 := deep_law_laid (by kernel_rfl) (m := 3) (by omega) (of_decide_eq_true (by kernel_rfl)) (by kernel_rfl) dueWide
theorem mapU : Try.prog.underlying 28 = some (.map 27 3) := by kernel_rfl
theorem intU : Try.prog.underlying 3 = some (.int .i64) := by kernel_rfl
theorem zeroI (w : World) : (zeroValue 3).run Try.prog w = .ok (.int .i64 0) w := by kernel_rfl

/-- a Due's value -/
def dueW (d : DueT) : Value := .agg #[.int .i64 d.1, .string (bs d.2.1), .int .i64 d.2.2]
/-- what it reads as, as a key -/
noncomputable def klD (d : DueT) : Lit := (keyOf Try.prog 27 (dueW d)).getD (.bool false)
/-- a Due that may be a key -/
def KeyD (d : DueT) : Prop := keyOf Try.prog 27 (dueW d) = some (klD d)
theorem keyLits_int {P : Program} (d : Nat) {t : TypeId} {q : IntKind} {n : Int} (hu : P.underlying t = some (.int q)) (hw : (Lit.int q n).wf = true) : P.keyLits (d + 1) t [.int q n] = some [.int q n] := by
  unfold Program.keyLits; rw [hu]; simp [hw]
theorem keyLits_str {P : Program} (d : Nat) {t : TypeId} {s : ByteArray} (hu : P.underlying t = some .string) (hs : s.size ≤ maxLen) : P.keyLits (d + 1) t [.string s] = some [.string s.data.toList] := by
  unfold Program.keyLits; rw [hu]; simp [hs]
theorem keyLits_st {P : Program} (d : Nat) {t : TypeId} {fs : Array Field} {cs : List Value} (hu : P.underlying t = some (.struct fs)) (hc : cs.length = P.cellsOf t) (hn : fs.all (·.name != "_") = true) :
    P.keyLits (d + 1) t cs = (fs.toList.mapM fun f => P.keyLits d f.type ((cs.drop f.offset).take (P.cellsOf f.type))).map List.flatten := by
  conv => lhs; unfold Program.keyLits
  rw [hu]; simp only [hc, hn, and_self, if_true]
theorem keyD_of (d : DueT) (h1 : (Lit.int .i64 d.1).wf = true) (h2 : d.2.1.length ≤ maxLen) (h3 : (Lit.int .i64 d.2.2).wf = true) : KeyD d := by
  have e : ∃ l, keyOf Try.prog 27 (dueW d) = some l := by
    obtain ⟨t, s, n⟩ := d
    have hk : Try.prog.keyType 27 = true := by kernel_rfl
    have hc : Try.prog.cellsOf 27 = 3 := by kernel_rfl
    have hci : Try.prog.cellsOf 3 = 1 := by kernel_rfl
    have hcs : Try.prog.cellsOf 9 = 1 := by kernel_rfl
    have hty : Try.prog.types.size = 83 := by kernel_rfl
    have hus : Try.prog.underlying 9 = some .string := by kernel_rfl
    have hl : s.length ≤ maxLen := h2
    unfold keyOf
    rw [Try.underlying27]
    have hf : (dueW (t, s, n)).formed Try.prog 27 = true := by simp [dueW, Value.formed, Try.underlying27, hc]
    rw [hty]
    simp only [hk, hf, Bool.and_self, if_true]
    obtain ⟨D, hD⟩ : ∃ D : Nat, 83 = D + 1 := ⟨_, rfl⟩
    rw [hD, keyLits_st _ Try.underlying27 (by rw [hc]; rfl) (by first | decide | simp)]
    have e1 := keyLits_int (P := Try.prog) D intU h1
    have e2 := keyLits_str (P := Try.prog) D (s := bs s) hus (show s.toArray.size ≤ maxLen by rw [List.size_toArray]; exact hl)
    have e3 := keyLits_int (P := Try.prog) D intU h3
    simp only at e1 e3
    simp [dueW, Value.cells, List.mapM_cons, hci, hcs, e1, e2, e3]
  obtain ⟨l, e⟩ := e
  unfold KeyD klD
  rw [e]; rfl

/-- An entry made, and stored into: by the laws of a key, whatever is stored. -/
theorem entry_run {H : Type} {P : Program} {w : World} {t k e : TypeId} {R : Value → Option (DataW H × List MemPlace)} {b : Nat} {es : Array MapEntry} {clock : Nat} (K : WideMaps.KeyLaw P k) (ht : P.underlying t = some (.map k e)) {z : Value} (hz : ∀ u : World, (zeroValue e).run P u = .ok z u) (hb : w.heap[b]? = some (.map es clock)) (F : WideElems.Fit P k R es clock)
    {key : Value} {kl : Lit} (hkey : keyOf P k key = some kl) :
    ∃ (v0 : Value) (st : Nat) (es1 : Array MapEntry) (clock1 : Nat), (Instr.mapEntry t (.map (some b)) key).run P w = .ok (.tuple #[v0, goInt st]) (setBlock w b (.map es1 clock1)) ∧
      (v0 = z ∨ ∃ e0 ∈ es.toList, v0 = e0.val) ∧ (Instr.lookup t (.map (some b)) key false).run P w = .ok v0 w ∧
      (Instr.mapUpdate t (.map (some b)) key v0).run P w = .ok () (setBlock w b (.map es1 clock1)) ∧
      ∀ (w2 : World) (val : Value), w2.heap[b]? = some (.map es1 clock1) → ∃ es' clock', (Instr.entryStore t (.map (some b)) (goInt st) val).run P w2 = .ok () (setBlock w2 b (.map es' clock')) ∧
        (Instr.mapUpdate t (.map (some b)) key val).run P w = .ok () (setBlock w b (.map es' clock')) := by
  obtain ⟨v0, st, es1, clock1, h1, h2, h3⟩ := WideElems.entry_then_store (R := R) K ht hz hb F hkey
  rcases K.find w hkey es.toList F.keys with ⟨g1, g2⟩ | ⟨j, e0, g1, g2, g3⟩
  · have hm : (Instr.mapEntry t (.map (some b)) key).run P w = .ok (.tuple #[z, goInt clock]) (setBlock w b (.map (es.push ⟨key, z, clock⟩) (clock + 1))) := by
      simp [Instr.mapEntry, run_underlying ht, MapKept.run_getObj_map hb, K.check w false hkey, g1, hz, MapKept.run_setObj_map _ hb, Result.andThen, setBlock]
    have hu : (Instr.mapUpdate t (.map (some b)) key z).run P w = .ok () (setBlock w b (.map (es.push ⟨key, z, clock⟩) (clock + 1))) := by
      simp [Instr.mapUpdate, run_underlying ht, MapKept.run_getObj_map hb, K.check w false hkey, g1, MapKept.run_setObj_map _ hb, Result.andThen, setBlock]
    have hl : (Instr.lookup t (.map (some b)) key false).run P w = .ok z w := by
      simp [Instr.lookup, run_underlying ht, MapKept.run_getObj_map hb, K.check w _ hkey, g1, hz, Result.andThen]
    have he := h1.symm.trans hm
    injection he with he1 he2
    have hv : v0 = z := by simp at he1; exact he1.1
    subst hv
    exact ⟨v0, st, es1, clock1, h1, Or.inl rfl, hl, by rw [hu, he2], h3⟩
  · have hj : es[j]? = some e0 := by simpa using g2
    have hm : (Instr.mapEntry t (.map (some b)) key).run P w = .ok (.tuple #[e0.val, goInt e0.born]) (setBlock w b (.map (es.modify j fun x => { x with key := key }) clock)) := by
      simp [Instr.mapEntry, run_underlying ht, MapKept.run_getObj_map hb, K.check w false hkey, g1, hj, g3, K.stays w hkey, MapKept.run_setObj_map _ hb, Result.andThen, setBlock]
    have hu : (Instr.mapUpdate t (.map (some b)) key e0.val).run P w = .ok () (setBlock w b (.map (es.modify j fun x => { x with key := key, val := e0.val }) clock)) := by
      simp [Instr.mapUpdate, run_underlying ht, MapKept.run_getObj_map hb, K.check w false hkey, g1, hj, g3, K.stays w hkey, MapKept.run_setObj_map _ hb, Result.andThen, setBlock]
    have hl : (Instr.lookup t (.map (some b)) key false).run P w = .ok e0.val w := by
      simp [Instr.lookup, run_underlying ht, MapKept.run_getObj_map hb, K.check w _ hkey, g1, Result.andThen]
    have hs : (es.modify j fun x => { x with key := key, val := e0.val }) = (es.modify j fun x => { x with key := key }) := by
      apply Array.ext_getElem?
      intro i
      rw [Array.getElem?_modify, Array.getElem?_modify]
      by_cases hij : j = i
      · subst hij
        simp [hj]
      · simp [hij]
    have he := h1.symm.trans hm
    injection he with he1 he2
    have hv : v0 = e0.val := by simp at he1; exact he1.1
    subst hv
    exact ⟨_, st, es1, clock1, h1, Or.inr ⟨e0, List.mem_of_getElem? g2, rfl⟩, hl, by rw [hu, hs, he2], h3⟩

/-- Block b of w is a map of at most n entries that counts F. -/
def CM (w : World) (b n : Nat) (F : Lit → Int) : Prop := ∃ D : DataW Unit, w.ownsMap Try.prog 27 (plainElem Try.prog 3) b n D ∧ ∀ kl, D.atKey kl (.lit (.int .i64 0)) = .lit (.int .i64 (F kl))
noncomputable def upd (F : Lit → Int) (k : Lit) (c : Int) : Lit → Int := fun l => @ite _ (l = k) (Classical.propDecidable _) c (F l)
theorem CM.made (w : World) : CM (w.alloc (.map #[] 0)) w.heap.size 0 (fun _ => 0) := ⟨.map [], World.ownsMap_made w _ _ _, fun _ => rfl⟩
theorem CM.kept {w w' : World} {b n : Nat} {F : Lit → Int} (h : CM w b n F) (hg : w.grownBy w' none) : CM w' b n F := let ⟨D, h1, h2⟩ := h; ⟨D, h1.kept hg (by simp), h2⟩
theorem CM.drew {w : World} {b n : Nat} {F : Lit → Int} (h : CM w b n F) : CM w.drew b n F := h
theorem CM.lt {w : World} {b n : Nat} {F : Lit → Int} (h : CM w b n F) : b < w.heap.size := let ⟨_, h1, _⟩ := h; h1.lt
theorem CM.ext {w : World} {b n : Nat} {F G : Lit → Int} (h : CM w b n F) (e : F = G) : CM w b n G := e ▸ h
theorem bump {w : World} {b n : Nat} {F : Lit → Int} (h : CM w b n F) (hn : n < maxLen) {d : DueT} (hk : KeyD d) {c' : Int} (hw : (Lit.int .i64 c').wf = true) :
    (Instr.lookup 28 (.map (some b)) (dueW d) false).run Try.prog w = .ok (.int .i64 (F (klD d))) w ∧
    ∃ (v0 : Value) (st : Nat) (w1 w2 : World), (Instr.mapEntry 28 (.map (some b)) (dueW d)).run Try.prog w = .ok (.tuple #[v0, goInt st]) w1 ∧
      (Instr.lookup 28 (.map (some b)) (dueW d) false).run Try.prog w1 = .ok (.int .i64 (F (klD d))) w1 ∧
      (Instr.entryStore 28 (.map (some b)) (goInt st) (.int .i64 c')).run Try.prog w1 = .ok () w2 ∧
      CM w2 b (n + 1) (upd F (klD d) c') ∧ w.grownBy w1 (some b) ∧ w.grownBy w2 (some b) := by
  obtain ⟨D, ho, hat⟩ := h
  have K := Keyed.of_law dueLaw
  obtain ⟨es, clock, hb, Fi, hs, hD⟩ := id ho
  obtain ⟨c, hrun, hc, hwc⟩ := ho.lookup_int K mapU intU (zeroI w) hk
  have ec : c = F (klD d) := by rw [hat] at hc; injection hc with hc; injection hc with _ hc; exact hc.symm
  obtain ⟨v0, st, es1, clock1, m1, _, m3, m4, m5⟩ := entry_run dueLaw mapU zeroI hb Fi hk
  have ev : v0 = .int .i64 c := by have := m3.symm.trans hrun; injection this
  subst ev
  obtain ⟨wa, ua, oa, ga⟩ := ho.update K mapU hn hk (plainElem_int intU hwc)
  have ea : wa = setBlock w b (.map es1 clock1) := by have := ua.symm.trans m4; injection this
  subst ea
  obtain ⟨c2, hrun2, hc2, _⟩ := oa.lookup_int K mapU intU (zeroI _) hk
  have ec2 : c2 = c := by rw [Go.Maps.atKey_put_same ho.isMap (K.key hk)] at hc2; injection hc2 with hc2; injection hc2 with _ hc2; exact hc2.symm
  obtain ⟨es', clock', s1, s2⟩ := m5 _ (.int .i64 c') (heap_setBlock_same hb _)
  obtain ⟨wb, ub, ob, gb⟩ := ho.update K mapU hn hk (plainElem_int intU hw)
  have eb : wb = setBlock w b (.map es' clock') := by have := ub.symm.trans s2; injection this
  subst eb
  have e2 : setBlock (setBlock w b (.map es1 clock1)) b (.map es' clock') = setBlock w b (.map es' clock') := by simp [setBlock]
  subst ec ec2
  refine ⟨hrun, _, st, _, _, m1, hrun2, s1, ?_, ga, ?_⟩
  · rw [e2]
    refine ⟨_, ob, fun kl => ?_⟩
    unfold upd
    by_cases he : kl = klD d
    · subst he
      rw [Go.Maps.atKey_put_same ho.isMap (K.key hk)]; simp
    · rw [Go.Maps.atKey_put_other he, hat]; simp [he]
  · rw [e2]; exact gb

/-! ### counting -/
noncomputable def oneD (d : DueT) (l : Lit) : Int := @ite _ (l = klD d) (Classical.propDecidable _) 1 0
noncomputable def cF : List DueT → Lit → Int
  | [], _ => 0
  | d :: r, l => cF r l + oneD d l
theorem oneD_bd (d : DueT) (l : Lit) : 0 ≤ oneD d l ∧ oneD d l ≤ 1 := by
  unfold oneD; by_cases h : l = klD d <;> simp [h]
theorem cF_bd (l : Lit) : ∀ xs : List DueT, 0 ≤ cF xs l ∧ cF xs l ≤ xs.length
  | [] => by simp [cF]
  | d :: r => by have := cF_bd l r; have := oneD_bd d l; simp only [cF, List.length_cons]; omega
theorem cF_app (l : Lit) (d : DueT) : ∀ xs : List DueT, cF (xs ++ [d]) l = cF xs l + oneD d l
  | [] => by simp [cF]
  | e :: r => by have := cF_app l d r; simp only [List.cons_append, cF]; omega
theorem cF_perm (l : Lit) {xs ys : List DueT} (h : xs.Perm ys) : cF xs l = cF ys l := by
  induction h with
  | nil => rfl
  | cons d _ ih => simp only [cF, ih]
  | swap a b r => simp only [cF]; omega
  | trans _ _ h1 h2 => exact h1.trans h2
theorem cF_take (l : Lit) (xs : List DueT) (k : Nat) (h : k < xs.length) : cF (xs.take (k + 1)) l = cF (xs.take k) l + oneD xs[k] l := by
  rw [List.take_succ_eq_append_getElem h, cF_app]
/-- what the map counts behind k rounds of the first list, j of the second -/
noncomputable def cD (xs ys : List DueT) (k j : Nat) (l : Lit) : Int := cF (xs.take k) l - cF (ys.take j) l
theorem cD_zero (xs ys : List DueT) : cD xs ys 0 0 = fun _ => 0 := by funext l; simp [cD, cF]
theorem cD_up (xs ys : List DueT) (k j : Nat) (h : k < xs.length) : upd (cD xs ys k j) (klD xs[k]) (cD xs ys k j (klD xs[k]) + 1) = cD xs ys (k + 1) j := by
  funext l
  unfold upd cD
  rw [cF_take l xs k h]
  by_cases he : l = klD xs[k]
  · subst he; simp [oneD]; omega
  · simp [oneD, he]
theorem cD_down (xs ys : List DueT) (k j : Nat) (h : j < ys.length) : upd (cD xs ys k j) (klD ys[j]) (cD xs ys k j (klD ys[j]) - 1) = cD xs ys k (j + 1) := by
  funext l
  unfold upd cD
  rw [cF_take l ys j h]
  by_cases he : l = klD ys[j]
  · subst he; simp [oneD]; omega
  · simp [oneD, he]
theorem cD_bd (xs ys : List DueT) (k j : Nat) (l : Lit) (h1 : xs.length ≤ 12) (h2 : ys.length ≤ 12) : -12 ≤ cD xs ys k j l ∧ cD xs ys k j l ≤ 12 := by
  unfold cD
  have h3 := cF_bd l (xs.take k)
  have h4 := cF_bd l (ys.take j)
  rw [List.length_take] at h3 h4
  omega
theorem cD_end {xs ys : List DueT} (h : ys.Perm xs) : cD xs ys xs.length xs.length = fun _ => 0 := by
  funext l
  unfold cD
  rw [List.take_length, ← h.length_eq, List.take_length, cF_perm l h]
  omega

/-! ### the map, ranged over: all counts none -/
def RM (w : World) (b r cnt : Nat) : Prop := ∃ (D : DataW Unit) (n : Nat) (left : Lit → Bool), w.ranges Try.prog 27 (plainElem Try.prog 3) b r n D left cnt ∧ ∀ kl, D.atKey kl (.lit (.int .i64 0)) = .lit (.int .i64 0)
theorem RM.left {w : World} {b r cnt : Nat} (h : RM w b r cnt) : w.rangeLeft b r = cnt := let ⟨_, _, _, h1, _⟩ := h; h1.left_eq
theorem RM.drew {w : World} {b r cnt : Nat} (h : RM w b r cnt) : RM w.drew b r cnt := h
theorem range_zero {w : World} {b n : Nat} (h : CM w b n (fun _ => 0)) : ∃ w' cnt, (Instr.range 28 (.map (some b))).run Try.prog w = .ok (.pointer (some ⟨w.heap.size, 0, none⟩)) w' ∧ RM w' b w.heap.size cnt ∧ w.grownBy w' none := by
  obtain ⟨D, h1, h2⟩ := h
  obtain ⟨w', r1, r2, r3, _⟩ := h1.range (Keyed.of_law dueLaw) mapU
  exact ⟨w', _, r1, ⟨D, n, _, r2, h2⟩, r3⟩
theorem next_zero {w : World} {b r cnt : Nat} (h : RM w b r cnt) (ty : TypeId) :
    (Instr.next (.pointer (some ⟨r, 0, none⟩)) false ty).run Try.prog w = .ok (.tuple #[.bool false]) w ∨
    ∃ key w' cnt', (Instr.next (.pointer (some ⟨r, 0, none⟩)) false ty).run Try.prog w = .ok (.tuple #[.bool true, key, .int .i64 0]) w' ∧ RM w' b r cnt' ∧ cnt' < cnt ∧ w.grownBy w' (some r) ∧
      (Instr.entry (.pointer (some ⟨r, 0, none⟩))).run Try.prog w' = .ok (.tuple #[key, .int .i64 0]) w' := by
  obtain ⟨D, n, left, h1, h2⟩ := h
  rcases h1.next (Keyed.of_law dueLaw) ty with ⟨_, _, hr⟩ | ⟨key, v, kl, y, w', cnt', hk, hl, hv, hat, hr, hrg, hlt, hgr, hsz, hen⟩
  · exact Or.inl hr
  · obtain ⟨a, rfl, rfl, _⟩ := plainElem_int_inv intU hv
    have e := (hat (.lit (.int .i64 0))).symm.trans (h2 kl)
    obtain rfl : a = 0 := by injection e with e; injection e with _ e
    exact Or.inr ⟨key, w', cnt', hr, ⟨D, n, _, hrg, h2⟩, hlt, hgr, hen⟩

/-! ### Dues, sorted -/
theorem srt_two : ∀ {l : List DueT}, SrtD l → ∀ i j (hi : i < l.length) (hj : j < l.length), i < j → ¬ ltD l[j] l[i]
  | x :: r, h, 0, j + 1, _, hj, _ => h.1 _ (List.getElem_mem (by simpa using hj))
  | x :: r, h, i + 1, j + 1, hi, hj, hij => srt_two h.2 i j (by simpa using hi) (by simpa using hj) (by omega)
theorem keyD_dues (l : List DueT) : ∀ d ∈ duesL false l, KeyD d := by
  intro d hd
  unfold duesL at hd
  obtain ⟨x, _, rfl⟩ := List.mem_map.1 hd
  have b1 := within_bd x.1 4 (by omega)
  have b3 := within_bd x.2.2 4 (by omega)
  refine keyD_of _ ?_ ?_ ?_
  · simp only [dueC, Bool.false_eq_true, if_false]; exact WalkArith.wf_i64 (by omega)
  · simp only [dueC, Bool.false_eq_true, if_false]; rw [List.length_take]; unfold maxLen; omega
  · simp only [dueC, Bool.false_eq_true, if_false]; exact WalkArith.wf_i64 (by omega)
theorem dat_on {W W' : World} {g : Nat} {l : List DueT} (h : DAt W g l) (hb : Below W.heap.size W W') : DAt W' g l :=
  ⟨Nat.lt_of_lt_of_le h.1 hb.size, fun k hk => ⟨(hb.cell (p := ⟨g, k * 3, none⟩) h.1).trans (h.2 k hk).1, (hb.cell (p := ⟨g, k * 3 + 1, none⟩) h.1).trans (h.2 k hk).2.1, (hb.cell (p := ⟨g, k * 3 + 2, none⟩) h.1).trans (h.2 k hk).2.2⟩⟩
/-- a list of Dues, none of them anywhere -/
def LAtD (W : World) (A : Option Addr) (L : List DueT) : Prop := 0 < L.length → ∃ g, A = some ⟨g, 0, none⟩ ∧ DAt W g L
theorem LAtD.below {W W' : World} {A : Option Addr} {L : List DueT} (h : LAtD W A L) (hb : Below W.heap.size W W') : LAtD W' A L := fun h0 => let ⟨g, e, hd⟩ := h h0; ⟨g, e, dat_on hd hb⟩
theorem Sort_at (A : Option Addr) (c : Nat) (L : List DueT) (w : World) (h : LAtD w A L) (hm : L.length ≤ 1000) :
    Calls Try.prog 5 #[.slice A L.length c] w fun e w' => (∃ A' c', e = .returned (.slice A' L.length c') ∧ LAtD w' A' (srtD L)) ∧ Below w.heap.size w w' := by
  by_cases h0 : 0 < L.length
  · obtain ⟨g, rfl, hd⟩ := h h0
    exact (Sort_any g c L w h0 hm hd).mono fun e w' ⟨g', c', he, _, hd, hb⟩ => ⟨⟨_, c', he, fun _ => ⟨g', rfl, hd⟩⟩, hb⟩
  · have e0 : L.length = 0 := by omega
    rw [e0]
    exact (Sort_zero A c w).mono fun e w' ⟨⟨A', c', he⟩, hb⟩ => ⟨⟨A', c', he, fun h9 => absurd ((srtD_perm L).length_eq ▸ h9) h0⟩, hb⟩
theorem own_list {base : Nat} {L : List DueT} {v : Value} {w : World} (h : w.ownsRow base 27 3 v L.length (dcells L)) : ∃ A c, v = .slice A L.length c ∧ LAtD w A L := by
  by_cases h0 : 0 < L.length
  · obtain ⟨g, c, rfl, _⟩ := own_form h h0
    exact ⟨_, c, rfl, fun _ => ⟨g, rfl, dat_own h h0⟩⟩
  · obtain ⟨A, c, rfl⟩ := own_slice h
    exact ⟨A, c, rfl, fun h9 => absurd h9 h0⟩
end Go.Proofs.Ytkalfhhdljndfaa
