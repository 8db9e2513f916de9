/-
  StepLoops: as many transitions by themselves as may be, one behind the other, and no more: the walk.
-/
import Derived.Test.YtbacdllokgcohaaCA
import Derived.Test.YtbacdllokgcohaaShB
import Derived.Test.YtbacdllokgcohaaWk9
import Derived.Test.YtbacdllokgcohaaRuleSt
import Derived.Test.YtbacdllokgcohaaKO
import Derived.Deep.RegionHeld3
namespace Go.Proofs.Ytbacdllokgcohaa
set_option maxRecDepth 100000
open Go.ChangeShapes Go.WideShapes Go.ChangeAt Go.RowKit

def lpT (i : Nat) : Tr := ⟨10, i, (i : Int) + 1, [], [], [], 0⟩
def lpN (i : Nat) : Tx := [115, byteOf (97 + i)]
def lpC (k m : Nat) : Ch := ⟨(List.range k).map lpN, List.replicate k 1, List.replicate k (-1), (List.range m).map lpT⟩
def lpB (n : Nat) : Tr := ⟨10, n, 0, [], [], [], 0⟩
def lopC (n : Nat) (round : Bool) : Ch := if round = true then { lpC (n + 1) n with trans := (lpC (n + 1) n).trans ++ [lpB n] } else lpC (n + 1) n
theorem lpC_state (k m : Nat) : ({ lpC k m with names := (lpC k m).names ++ [lpN k], kinds := (lpC k m).kinds ++ [1], parents := (lpC k m).parents ++ [-1] } : Ch) = lpC (k + 1) m := by
  simp [lpC, List.range_succ, List.replicate_succ']
theorem lpC_trans (k m : Nat) : ({ lpC k m with trans := (lpC k m).trans ++ [lpT m] } : Ch) = lpC k (m + 1) := by
  simp [lpC, List.range_succ]
theorem lop_nl (n : Nat) (r : Bool) : (lopC n r).names.length = n + 1 := by cases r <;> simp [lopC, lpC]
theorem lop_kl (n : Nat) (r : Bool) : (lopC n r).kinds.length = n + 1 := by cases r <;> simp [lopC, lpC]
theorem lop_pl (n : Nat) (r : Bool) : (lopC n r).parents.length = n + 1 := by cases r <;> simp [lopC, lpC]
theorem lop_tl (n : Nat) (r : Bool) : (lopC n r).trans.length ≤ n + 1 := by cases r <;> simp [lopC, lpC]
theorem lop_ft (n : Nat) (r : Bool) : ∀ t ∈ (lopC n r).trans, ∃ f g : Nat, t.from_ = f ∧ f < n + 1 ∧ t.to_ = g ∧ g < n + 1 := by
  have h0 : ∀ t ∈ (lpC (n + 1) n).trans, ∃ f g : Nat, t.from_ = f ∧ f < n + 1 ∧ t.to_ = g ∧ g < n + 1 := fun t ht => by
    obtain ⟨i, hi, rfl⟩ := List.mem_map.1 ht
    have := List.mem_range.1 hi
    exact ⟨i, i + 1, rfl, by omega, by show (i : Int) + 1 = ((i + 1 : Nat) : Int); omega, by omega⟩
  cases r
  · exact h0
  · intro t ht
    rcases List.mem_append.1 (show t ∈ (lpC (n + 1) n).trans ++ [lpB n] from ht) with h | h
    · exact h0 t h
    · obtain rfl := List.mem_singleton.1 h
      exact ⟨n, 0, rfl, by omega, rfl, by omega⟩
theorem lop_few (n : Nat) (r : Bool) (hn : n ≤ 18) (s : Nat) : (enL (lopC n r) s 10 []).length ≤ 19 := by
  have h1 := enK_len (lopC n r) s 10 [] (lopC n r).trans.length
  have h2 := lop_tl n r
  unfold enL
  omega
def lopOk (n : Nat) (r : Bool) : Bool := match runC (lopC n r) (n + 1) 0 16 (begC (lopC n r) (n + 1) 0) [] with
  | none => r || decide (16 < n)
  | some (y, out) => !r && decide (n ≤ 16) && y.set == 2 ^ n && out.length == n
theorem lop_all (n : Nat) (r : Bool) (h1 : 14 ≤ n) (h2 : n ≤ 18) : shfB (lopC n r).kinds (lopC n r).parents (n + 1) = true ∧ validB (lopC n r) = true ∧ lopOk n r = true := by
  rcases (by omega : n = 14 ∨ n = 15 ∨ n = 16 ∨ n = 17 ∨ n = 18) with rfl | rfl | rfl | rfl | rfl <;> cases r <;> decide +kernel
theorem lop_told {n : Nat} {r : Bool} (h1 : 14 ≤ n) (h2 : n ≤ 18) : (runC (lopC n r) (n + 1) 0 16 (begC (lopC n r) (n + 1) 0) [] = none ∧ (r = true ∨ 16 < n)) ∨ ∃ y out, runC (lopC n r) (n + 1) 0 16 (begC (lopC n r) (n + 1) 0) [] = some (y, out) ∧ r = false ∧ n ≤ 16 ∧ y.set = 2 ^ n ∧ out.length = n := by
  have h := (lop_all n r h1 h2).2.2
  unfold lopOk at h
  generalize runC (lopC n r) (n + 1) 0 16 (begC (lopC n r) (n + 1) 0) [] = o at *
  rcases o with _ | ⟨y, out⟩
  · have h : (r || decide (16 < n)) = true := h
    rw [Bool.or_eq_true, decide_eq_true_eq] at h
    exact .inl ⟨rfl, h⟩
  · have h : (!r && decide (n ≤ 16) && y.set == 2 ^ n && out.length == n) = true := h
    rw [Bool.and_eq_true, Bool.and_eq_true, Bool.and_eq_true, decide_eq_true_eq, beq_iff_eq, beq_iff_eq, Bool.not_eq_true'] at h
    exact .inr ⟨y, out, rfl, h.1.1.1, h.1.1.2, h.1.2, h.2⟩
theorem Try.infoStrA : (Try.prog.info? 9).map (fun i => (i.zero, i.size, i.bytes)) = some (some (.string ⟨#[]⟩), 1, 16) := by kernel_rfl
theorem keepNameS (k : Nat) (w : World) (hk : k < 24) :
    Calls Try.prog 16 #[.string ⟨#[115]⟩, .int .i64 k, .int .i64 24] w fun e w' => e = .returned (.string (bs (lpN k))) ∧ Below w.heap.size w w' := by
  have hm : within (k : Int) 24 = k := by unfold within; rw [if_neg (by omega)]; exact Int.emod_eq_of_lt (by omega) (by omega)
  have WA := fun W => Within_any (k : Int) 24 W (wf_any (by omega) (by omega)) (by omega) (by omega)
  rw [hm] at WA
  have WA := Lib.hid WA
  clear hm
  have hw : (97 + (k : Int)) % 256 = 97 + k := by omega
  have cv := fun W b cap => conv_one W b cap (97 + (k : Int)) (by omega) (by omega)
  have e1 : (97 + (k : Int)).toNat = 97 + k := by omega
  rw [e1] at cv
  have HS : Hid ((⟨#[115]⟩ : ByteArray) ++ bs [byteOf (97 + k)] = bs (lpN k)) := by
    show _ = _
    rw [show (⟨#[115]⟩ : ByteArray) = bs [115] from rfl, bs_append]; rfl
  have hz : (bs [byteOf (97 + k)]).size = 1 := rfl
  generalize bs (lpN k) = N9 at *
  generalize bs [byteOf (97 + k)] = T at *
  go_enter Try.func16, Try.ntmps16
  go_wp2_with (go_at_call 13; refine (WA.out _).mono ?_; rintro e w' ⟨rfl, rfl⟩)
  go_ret
  exact ⟨ret_str HS.out, (Below.refl _ _).alloc (Nat.le_refl _) _⟩
theorem CA.two {w0 W W1 W2 : World} {b : Nat} {c : Ch} {vN vK vP vT vK' vP' : Value} {x y : Int} (R : CA w0 W b c vN vK vP vT) (hg : W.grownBy W1 vK.ownBlock) (oK : OwnI W1 w0.heap.size vK' (c.kinds ++ [x])) (hK : ∀ g, vK'.ownBlock = some g → vK.ownBlock = some g ∨ W.heap.size ≤ g)
    (hg2 : W1.grownBy W2 vP.ownBlock) (oP : OwnI W2 w0.heap.size vP' (c.parents ++ [y])) (hP : ∀ g, vP'.ownBlock = some g → vP.ownBlock = some g ∨ W1.heap.size ≤ g) :
    CA w0 ((W2.setCell ⟨b, 1, none⟩ vK').setCell ⟨b, 2, none⟩ vP') b { c with kinds := c.kinds ++ [x], parents := c.parents ++ [y] } vN vK' vP' vT := by
  have r1 := R.row1 hg (own_row_ne R.oK R.row (by decide))
  have oP1 : OwnI W1 w0.heap.size vP c.parents := World.ownsRow.kept R.oP hg (ap_cases fun g e1 e2 => R.ap g e2 e1)
  have hnP := own_row_ne oP1 r1 (by decide)
  have r2 := (hg2.block b (Array.getElem?_eq_some_iff.1 r1).1 (fun e => hnP e.symm)).trans r1
  have hapK : ∀ g, vK'.ownBlock = some g → vP.ownBlock = some g → False := fun g e1 e2 => by
    rcases hK g e1 with h | h
    · exact R.ap g h e2
    · have := (World.ownsRow.lt R.oP g e2).2; omega
  have oK2 : OwnI W2 w0.heap.size vK' (c.kinds ++ [x]) := World.ownsRow.kept oK hg2 (ap_cases hapK)
  have oN1 := World.ownsRow.kept R.oN hg (rows_unlike R.oN R.oK (by decide))
  have oN2 := World.ownsRow.kept oN1 hg2 (rows_unlike oN1 oP1 (by decide))
  have oT1 := World.ownsRow.kept R.oT hg (rows_unlike R.oT R.oK (by decide))
  have oT2 := World.ownsRow.kept oT1 hg2 (rows_unlike oT1 oP1 (by decide))
  have r3 := heap_set (j := 1) r2 vK'
  have be1 := R.be.grown hg R.be.size (fun g e => (World.ownsRow.lt R.oK g e).1)
  have be2 := be1.grown hg2 be1.size (fun g e => (World.ownsRow.lt oP1 g e).1)
  refine ⟨heap_set (j := 2) r3 vP', R.lo, put2 (put2 oN2 r2 (by decide) _ _) r3 (by decide) _ _, put2 (put2 oK2 r2 (by decide) _ _) r3 (by decide) _ _, put2 (put2 oP r2 (by decide) _ _) r3 (by decide) _ _, ?_, put2 (put2 oT2 r2 (by decide) _ _) r3 (by decide) _ _, ?_⟩
  · intro g e1 e2
    rcases hP g e2 with h | h
    · exact hapK g e1 h
    · have := (World.ownsRow.lt oK g e1).2; omega
  · exact (be2.grown (grown_setCell _ _ _ _) be2.size (fun g e => by cases e; exact R.lo)).grown (grown_setCell _ _ _ _) (by simpa [World.setCell] using be2.size) (fun g e => by cases e; exact R.lo)
theorem cells_new2A (w : World) (l : List Value) (e : TypeId) (o : Obj) : ∀ j u, l[j]? = some u → ((w.alloc (.cells l.toArray e)).alloc o).cell? ((⟨w.heap.size, 0, none⟩ : Addr).add j) = some u := by
  intro j u hu
  have hadd : (⟨w.heap.size, 0, none⟩ : Addr).add j = ⟨w.heap.size, j, none⟩ := by unfold Addr.add; split <;> simp_all
  rw [World.cell?_alloc_lt _ _ _ (by rw [hadd]; simp)]
  exact cells_new w l e j u hu
theorem cells_new1A (w : World) (o : Obj) (l : List Value) (e : TypeId) : ∀ j u, l[j]? = some u → ((w.alloc o).alloc (.cells l.toArray e)).cell? ((⟨w.heap.size + 1, 0, none⟩ : Addr).add j) = some u := by
  intro j u hu
  have h := cells_new (w.alloc o) l e j u hu
  rwa [show (w.alloc o).heap.size = w.heap.size + 1 by simp] at h
theorem news_farA {W w1 : World} {row : Option Nat} {K : Nat} {l : List Value} (hg : W.grownBy w1 row) (hn : ∀ j u, l[j]? = some u → W.cell? ((⟨K, 0, none⟩ : Addr).add j) = some u) (hK : ∀ k, row = some k → k ≠ K) :
    ∀ j u, l[j]? = some u → w1.cell? ((⟨K, 0, none⟩ : Addr).add j) = some u := by
  intro j u hu
  refine hg.cell (hn j u hu) (fun e => hK K ?_ rfl)
  have hadd : ((⟨K, 0, none⟩ : Addr).add j).block = K := by unfold Addr.add; split <;> rfl
  rw [hadd] at e; exact e.symm
theorem gr1A {w X : World} {o : Obj} {row : Option Nat} (h : (w.alloc o).grownBy X row) : w.grownBy X row := (World.grownBy_alloc w o row).andThen h (fun j e => .inr e)
theorem gr2A {w X : World} {o o' : Obj} {row : Option Nat} (h : ((w.alloc o).alloc o').grownBy X row) : w.grownBy X row := (World.grownBy_alloc w o row).andThen (gr1A h) (fun j e => .inr e)
theorem liesA2 {w : World} {v : Value} {g1 n cp H : Nat} (h : v.ownBlock = some g1 ∨ g1 = H) (hH : w.heap.size ≤ H) : ∀ g, (Value.slice (some ⟨g1, 0, none⟩) n cp).ownBlock = some g → v.ownBlock = some g ∨ w.heap.size ≤ g := fun g e => by
  have e1 : g1 = g := by simpa [Value.ownBlock] using e
  subst e1
  rcases h with h | h
  · exact .inl h
  · right; omega
set_option maxHeartbeats 8000000 in
theorem loops_walk (w : World) (a : Int) (ha : (Lit.int .i64 a).wf = true) (round : Bool) :
    Calls Try.prog 5 #[.int .i64 a, .bool round] w (TrueOn w) := by
  have WA := fun W => Within_any a 5 W ha (by omega) (by omega)
  have h1 := within_bd a 5 (by omega)
  obtain ⟨N, hN⟩ : ∃ N : Nat, within a 5 = (N : Int) - 14 := ⟨(14 + within a 5).toNat, by omega⟩
  rw [hN] at WA h1
  have WA := Lib.hid WA
  have hN1 : 14 ≤ N := by omega
  have hN2 : N ≤ 18 := by omega
  have eN : IntKind.i64.wrap (14 + ((N : Int) - 14)) = N := by rw [IntKind.wrap_i64]; omega
  obtain ⟨i0, ti, tz0, tz1, tz2⟩ := info_parts Try.infoTran
  obtain ⟨i1, si, sz0, sz1, sz2⟩ := info_parts Try.infoStrA
  obtain ⟨i2, ii, iz0, iz1, iz2⟩ := info_parts Try.infoInt
  clear h1 hN ha
  go_enter Try.func5, Try.ntmps5
  go_upto_region 4 with (go_at_call 13; refine (WA.out _).mono ?_; rintro e w1 ⟨rfl, rfl⟩)
  go_loopw [6] (fun i wr => ∃ k : Nat, k ≤ N + 1 ∧ i = .int .i64 k ∧ Hid (∃ vN vK vP vT, CA w wr w.heap.size (lpC k (min k N)) vN vK vP vT)) (fun i _ => N + 1 - (intOf i).toNat)
  case atStart =>
    refine ⟨0, by omega, rfl, .slice none 0 0, .slice none 0 0, .slice none 0 0, .slice none 0 0, ?_⟩
    rw [show min 0 N = 0 by omega]
    exact ⟨heap_alloc_new _ _, Nat.le_refl _, World.ownsRow_nil _ _ _ _, World.ownsRow_nil _ _ _ _, World.ownsRow_nil _ _ _ _, fun g e1 e2 => (by cases e1), World.ownsRow_nil _ _ _ _, box_b _ _⟩
  case round =>
    clear WA eN
    obtain ⟨k, hk, rfl, HC⟩ := hrel
    obtain ⟨vN, vK, vP, vT, RB⟩ := HC.out
    clear HC
    by_cases hlt : k ≤ N
    · rw [Nat.min_eq_left hlt] at RB
      have hki : (k : Int) ≤ N := by omega
      have hnl : (lpC k k).names.length = k := by simp [lpC]
      have hkl : (lpC k k).kinds.length = k := by simp [lpC]
      have hpl : (lpC k k).parents.length = k := by simp [lpC]
      have htl : (lpC k k).trans.length = k := by simp [lpC]
      obtain ⟨AN, cN, rfl⟩ := own_slice RB.oN
      obtain ⟨AK, cK, rfl⟩ := own_slice RB.oK
      obtain ⟨AP, cP, rfl⟩ := own_slice RB.oP
      obtain ⟨AT, cT, rfl⟩ := own_slice RB.oT
      rw [hnl, hkl, hpl, htl] at RB
      have oN0 : wr.ownsRow w.heap.size 9 1 (.slice AN k cN) k (scells (lpC k k).names) := by have := RB.oN; unfold OwnL at this; rwa [hnl] at this
      have NM := Lib.hid (fun W => keepNameS k W (by omega))
      have HNL := Lib.hid hnl
      have q0 := RB.q0
      have hbl := RB.lt
      have hsz := RB.be.size
      have hone := Lib.hid (sc_oneA (lpN k))
      clear hnl hkl hpl htl
      go_upto_region 6 with fail
      go_cut [25] (fun _ wx => Hid (∃ v9, CA w wx w.heap.size { lpC k k with names := (lpC k k).names ++ [lpN k] } v9 (.slice AK k cK) (.slice AP k cP) (.slice AT k cT)))
      case first =>
        go_region_law (first
          | (go_simp; go_at_call 16; refine (NM.out _).mono ?_; rintro e w4 ⟨rfl, hb4'⟩; have hb4 : Below wr.heap.size wr w4 := (by first | exact hb4' | exact below_then (below_drew (Below.refl _ _)) hb4' (Nat.le_refl _)); have RB4 := RB.below hb4; have q4 := RB4.q0; have y4 : ∀ O, (w4.alloc O).cell? ⟨w.heap.size, 0, none⟩ = some (.slice AN k cN) := fun O => (World.cell?_alloc_lt _ _ _ RB4.lt).trans q4; have o4 := own_below oN0 hb4 hsz; have hs4 := RB4.be.size)
          | (refine step_append_lies _ rfl (.tmp 20) (.tmp 23) 23 rfl w.heap.size 9 i1 _ 1 16 Try.underlying23 si sz0 sz1 sz2 rfl (by decide) (.slice AN k cN) k (scells (lpC k k).names) (by simp [Act.eval]) (World.ownsRow.alloc o4 _) ⟨w4.heap.size, 0, none⟩ 1 1 (scells [lpN k]) (by simp [Act.eval]) rfl (cells_new w4 (scells [lpN k]) 9) hone.out (by decide) (by unfold maxLen; omega) (by omega) (Nat.le_trans hs4 (box_b w4 _).size) _ rfl ?_; intro g1 cp1 X1 hown1 hg1 hat1 hlt1
             have hg9 : w4.grownBy X1 (Value.ownBlock (.slice AN k cN)) := (by first | exact grown_newA hg1 | exact grown_new1A hg1)
             have hne9 := own_row_ne o4 RB4.row (by decide)
             have hr9 := RB4.row1 hg9 hne9
             have z1 : X1.frozen? ⟨w.heap.size, 0, none⟩ = false := by simp [World.frozen?, hr9]
             have z2 := cell_of_row X1 w.heap.size 0 _ _ _ hr9
             have RB5 := RB4.names hg9 (x := lpN k) (v' := .slice (some ⟨g1, 0, none⟩) (k + 1) cp1) (ownL_snocA (by rw [HNL.out]; exact hown1))))
        all_goals
          go_wp2_with fail
          go_meet
          exact ⟨_, RB5⟩
      case rest =>
      obtain ⟨v1, RB1⟩ := hcut.out
      rename_i K4 hK4
      refine hK4 _ _ ?_
      clear hK4 RB hcut q0 hbl hsz hone NM oN0
      obtain ⟨w5, rfl⟩ : ∃ x : World, x = wc := ⟨_, rfl⟩
      have hkl : (lpC k k).kinds.length = k := by simp [lpC]
      have hpl : (lpC k k).parents.length = k := by simp [lpC]
      have q1 := RB1.q1; have q2 := RB1.q2
      have hbl := RB1.lt
      have hB5 := RB1.be
      have hs5 := hB5.size
      have oK0 : w5.ownsRow w.heap.size 3 1 (.slice AK k cK) k (icells (lpC k k).kinds) := by have := RB1.oK; unfold OwnI at this; rwa [show ({ lpC k k with names := (lpC k k).names ++ [lpN k] } : Ch).kinds.length = k from hkl] at this
      have oP0 : w5.ownsRow w.heap.size 3 1 (.slice AP k cP) k (icells (lpC k k).parents) := by have := RB1.oP; unfold OwnI at this; rwa [show ({ lpC k k with names := (lpC k k).names ++ [lpN k] } : Ch).parents.length = k from hpl] at this
      have y1 : ∀ O, (w5.alloc O).cell? ⟨w.heap.size, 1, none⟩ = some (.slice AK k cK) := fun O => (World.cell?_alloc_lt _ _ _ hbl).trans q1
      have y2 : ∀ O, (w5.alloc O).cell? ⟨w.heap.size, 2, none⟩ = some (.slice AP k cP) := fun O => (World.cell?_alloc_lt _ _ _ hbl).trans q2
      have yy1 : ∀ O O', ((w5.alloc O).alloc O').cell? ⟨w.heap.size, 1, none⟩ = some (.slice AK k cK) := fun O O' => (World.cell?_alloc_lt _ _ _ (Nat.lt_of_lt_of_le hbl (box_b w5 O).size)).trans (y1 O)
      have yy2 : ∀ O O', ((w5.alloc O).alloc O').cell? ⟨w.heap.size, 2, none⟩ = some (.slice AP k cP) := fun O O' => (World.cell?_alloc_lt _ _ _ (Nat.lt_of_lt_of_le hbl (box_b w5 O).size)).trans (y2 O)
      have HKL := Lib.hid hkl
      have HPL := Lib.hid hpl
      have hKn : ∀ g, w5.heap.size ≤ g → (Value.slice AK k cK).ownBlock ≠ some g := fun g hg e => by have := (World.ownsRow.lt oK0 g e).2; omega
      have HKN := Lib.hid hKn
      clear hkl hpl hKn
      go_upto_region 7 with fail
      go_cut [37] (fun _ wx => Hid (∃ v8 v9, CA w wx w.heap.size { lpC k k with names := (lpC k k).names ++ [lpN k], kinds := (lpC k k).kinds ++ [1], parents := (lpC k k).parents ++ [-1] } v1 v8 v9 (.slice AT k cT)))
      case first =>
        go_region_law (first
          | (refine step_append_lies _ rfl (.tmp 28) (.tmp 29) 22 rfl w.heap.size 3 i2 _ 1 8 Try.underlying22 ii iz0 iz1 iz2 rfl (by decide) (.slice AK k cK) k (icells (lpC k k).kinds) (by simp [Act.eval]) (by first | exact World.ownsRow.alloc (World.ownsRow.alloc oK0 _) _ | exact World.ownsRow.alloc oK0 _) _ 1 1 (icells [1]) rfl rfl (by first | exact cells_new _ _ _ | exact cells_new2A _ _ _ _ | exact cells_new1A _ _ _ _) (ic_oneA _) (by decide) (by unfold maxLen; omega) (by omega) (by first | exact ((hB5.alloc hs5 _).alloc (hB5.alloc hs5 _).size _).size | exact (hB5.alloc hs5 _).size) _ rfl ?_; intro g1 cp1 X1 hown1 hg1 hat1 hlt1
             have hgW : w5.grownBy X1 (Value.ownBlock (.slice AK k cK)) := (by first | exact gr2A ⟨hg1.os, hg1.tape, hg1.output, hg1.size, hg1.block⟩ | exact gr1A ⟨hg1.os, hg1.tape, hg1.output, hg1.size, hg1.block⟩)
             have hlK := liesA2 (w := w5) (n := k + 1) (cp := cp1) hat1 (by first | exact ((Below.refl w5.heap.size w5).alloc (Nat.le_refl _) _).size | exact (((Below.refl w5.heap.size w5).alloc (Nat.le_refl _) _).alloc (box_b w5 _).size _).size)
             have hne9 := own_row_ne RB1.oK RB1.row (by decide)
             have hr9 := RB1.row1 hgW hne9
             have p2 : X1.cell? ⟨w.heap.size, 2, none⟩ = some (.slice AP k cP) := cell_of_row X1 w.heap.size 2 _ _ _ hr9
             have hb9 : w.heap.size < X1.heap.size := Nat.lt_of_lt_of_le hbl hgW.size
             have pp2 : ∀ O, (X1.alloc O).cell? ⟨w.heap.size, 2, none⟩ = some (.slice AP k cP) := fun O => (World.cell?_alloc_lt _ _ _ hb9).trans p2
             have oP1 : X1.ownsRow w.heap.size 3 1 (.slice AP k cP) k (icells (lpC k k).parents) := World.ownsRow.kept oP0 hgW (ap_cases fun g e1 e2 => RB1.ap g e2 e1)
             have hs1 : w.heap.size ≤ X1.heap.size := Nat.le_trans hs5 hgW.size
             first
               | have nb : ∀ j u, (icells [-1])[j]? = some u → X1.cell? ((⟨w5.heap.size, 0, none⟩ : Addr).add j) = some u := news_farA ⟨hg1.os, hg1.tape, hg1.output, hg1.size, hg1.block⟩ (cells_new2A w5 (icells [-1]) 3 _) (fun g e1 e2 => HKN.out g (by omega) e1)
               | have nb : ∀ j u, (icells [-1])[j]? = some u → X1.cell? ((⟨w5.heap.size + 1, 0, none⟩ : Addr).add j) = some u := news_farA ⟨hg1.os, hg1.tape, hg1.output, hg1.size, hg1.block⟩ (cells_new1A w5 _ (icells [-1]) 3) (fun g e1 e2 => HKN.out g (by omega) e1)
               | skip)
          | (refine step_append_lies _ rfl (.tmp 33) (.tmp 34) 22 rfl w.heap.size 3 i2 _ 1 8 Try.underlying22 ii iz0 iz1 iz2 rfl (by decide) (.slice AP k cP) k (icells (lpC k k).parents) (by first | rfl | (simp [Act.eval]; done) | (simp [Act.eval, Act.put]; done)) (by first | exact oP1 | exact World.ownsRow.alloc oP1 _) _ 1 1 (icells [-1]) rfl rfl (by first | exact nb | exact cells_new _ _ _) (ic_oneA _) (by decide) (by unfold maxLen; omega) (by omega) (by first | exact hs1 | exact Nat.le_trans hs1 (box_b _ _).size) _ rfl ?_; intro g2 cp2 X2 hown2 hg2 hat2 hlt2
             have hgX : X1.grownBy X2 (Value.ownBlock (.slice AP k cP)) := (by first | exact ⟨hg2.os, hg2.tape, hg2.output, hg2.size, hg2.block⟩ | exact gr1A ⟨hg2.os, hg2.tape, hg2.output, hg2.size, hg2.block⟩)
             have hlP := liesA2 (w := X1) (n := k + 1) (cp := cp2) hat2 (by first | exact Nat.le_refl _ | exact (box_b X1 _).size)
             have hneP := own_row_ne oP1 hr9 (by decide)
             have hr2 := (hgX.block w.heap.size hb9 (fun e => hneP e.symm)).trans hr9
             have z1 : X2.frozen? ⟨w.heap.size, 1, none⟩ = false := by simp [World.frozen?, hr2]
             have z2 : X2.frozen? ⟨w.heap.size, 2, none⟩ = false := by simp [World.frozen?, hr2]
             have z3 := cell_of_row X2 w.heap.size 1 _ _ _ hr2
             have z4 := cell_of_row X2 w.heap.size 2 _ _ _ hr2
             have RB5 := CA.two RB1 (x := 1) (y := -1) (vK' := .slice (some ⟨g1, 0, none⟩) (k + 1) cp1) (vP' := .slice (some ⟨g2, 0, none⟩) (k + 1) cp2) hgW (ownI_snocA (by rw [show ({ lpC k k with names := (lpC k k).names ++ [lpN k] } : Ch).kinds.length = k from HKL.out]; exact hown1)) hlK hgX (ownI_snocA (by rw [show ({ lpC k k with names := (lpC k k).names ++ [lpN k] } : Ch).parents.length = k from HPL.out]; exact hown2)) hlP))
        all_goals
          go_wp2_with fail
          go_meet
          exact ⟨_, _, RB5⟩
      case rest =>
      obtain ⟨v8, v9, RB2'⟩ := hcut.out
      rename_i K5 hK5
      refine hK5 _ _ ?_
      clear hK5 RB1 hcut q1 q2 hbl hB5 hs5 oK0 oP0 y1 y2 yy1 yy2 HKL HPL HKN
      obtain ⟨w7, rfl⟩ : ∃ x : World, x = wc := ⟨_, rfl⟩
      have RB2 : CA w w7 w.heap.size (lpC (k + 1) k) v1 v8 v9 (.slice AT k cT) := by rw [← lpC_state]; exact RB2'
      have htl : (lpC (k + 1) k).trans.length = k := by simp [lpC]
      have q3 := RB2.q3
      have ek : IntKind.i64.wrap ((k : Int) + 1) = k + 1 := by rw [IntKind.wrap_i64]; omega
      clear RB2'
      by_cases hkn : k < N
      · have hkn' : (k : Int) < N := by omega
        have t1 : (w7.alloc (.cells #[.int .i64 10, .int .i64 k, .int .i64 ((k : Int) + 1), .string (bs []), .string (bs []), .string (bs []), .int .i64 0] 32)).ownsRow w.heap.size 32 7 (.slice AT k cT) k (tcells (lpC (k + 1) k).trans) := by
          have := World.ownsRow.alloc RB2.oT (.cells #[.int .i64 10, .int .i64 k, .int .i64 ((k : Int) + 1), .string (bs []), .string (bs []), .string (bs []), .int .i64 0] 32)
          rwa [htl] at this
        have t3 : ∀ j u, (tcells [lpT k])[j]? = some u → (w7.alloc (.cells #[.int .i64 10, .int .i64 k, .int .i64 ((k : Int) + 1), .string (bs []), .string (bs []), .string (bs []), .int .i64 0] 32)).cell? ((⟨w7.heap.size, 0, none⟩ : Addr).add j) = some u := cells_new w7 (tcells [lpT k]) 32
        have t4 : w.heap.size ≤ (w7.alloc (.cells #[.int .i64 10, .int .i64 k, .int .i64 ((k : Int) + 1), .string (bs []), .string (bs []), .string (bs []), .int .i64 0] 32)).heap.size := Nat.le_trans RB2.be.size (box_b w7 _).size
        have HTL := Lib.hid htl
        clear htl
        go_wp2_with (at_builtin; go_must (refine wpList_append_lies _ rfl (.tmp 44) (.tmp 49) 26 rfl w.heap.size 32 i0 _ 7 80 Try.underlying26 ti tz0 tz1 tz2 rfl (by decide) (.slice AT k cT) k (tcells (lpC (k + 1) k).trans) rfl t1 ⟨w7.heap.size, 0, none⟩ 1 1 (tcells [lpT k]) rfl rfl t3 (t_oneA _) (by decide) (by unfold maxLen; omega) (by omega) t4 _ rfl ?_; intro g1 cp1 X1 hown1 hg1 hat1 hlt1; have hg9 : w7.grownBy X1 (Value.ownBlock (.slice AT k cT)) := grown_new1A hg1; have hne9 := own_row_ne RB2.oT RB2.row (by decide); have hr9 := RB2.row1 hg9 hne9; have z1 : X1.frozen? ⟨w.heap.size, 3, none⟩ = false := (by simp [World.frozen?, hr9]); have z2 := cell_of_row X1 w.heap.size 3 _ _ _ hr9))
        have RB3 := RB2.trans hg9 (x := lpT k) (v' := .slice (some ⟨g1, 0, none⟩) (k + 1) cp1) (ownT_snocA (by rw [HTL.out]; exact hown1))
        rw [lpC_trans] at RB3
        have HC6 := Lib.hid RB3
        go_roundw
        case rel => exact ⟨k + 1, by omega, by go_num, _, _, _, _, by rw [show min (k + 1) N = k + 1 by omega]; exact HC6.out⟩
        case measure => simp [intOf]; omega
      · have hkn' : ¬ (k : Int) < N := by omega
        have HC6 := Lib.hid RB2
        go_wp2
        go_roundw
        case rel => exact ⟨k + 1, by omega, by go_num, _, _, _, _, by rw [show min (k + 1) N = k by omega]; exact HC6.out⟩
        case measure => simp [intOf]; omega
    · have ek : k = N + 1 := by omega
      subst ek
      rw [show min (N + 1) N = N by omega] at RB
      have htl : (lpC (N + 1) N).trans.length = N := by simp [lpC]
      obtain ⟨AT, cT, rfl⟩ := own_slice RB.oT
      rw [htl] at RB
      have q3 := RB.q3
      go_upto_if 52 with fail
      go_cut [59] (fun _ wx => Hid (∃ v0 v1 v2 v3, CA w wx w.heap.size (lopC N round) v0 v1 v2 v3))
      case first =>
        cases round
        · go_wp2
          go_meet
          exact ⟨_, _, _, _, RB⟩
        · have t1 : (wr.alloc (.cells #[.int .i64 10, .int .i64 N, .int .i64 0, .string (bs []), .string (bs []), .string (bs []), .int .i64 0] 32)).ownsRow w.heap.size 32 7 (.slice AT N cT) N (tcells (lpC (N + 1) N).trans) := by
            have := World.ownsRow.alloc RB.oT (.cells #[.int .i64 10, .int .i64 N, .int .i64 0, .string (bs []), .string (bs []), .string (bs []), .int .i64 0] 32)
            rwa [htl] at this
          have t3 : ∀ j u, (tcells [lpB N])[j]? = some u → (wr.alloc (.cells #[.int .i64 10, .int .i64 N, .int .i64 0, .string (bs []), .string (bs []), .string (bs []), .int .i64 0] 32)).cell? ((⟨wr.heap.size, 0, none⟩ : Addr).add j) = some u := cells_new wr (tcells [lpB N]) 32
          have t4 : w.heap.size ≤ (wr.alloc (.cells #[.int .i64 10, .int .i64 N, .int .i64 0, .string (bs []), .string (bs []), .string (bs []), .int .i64 0] 32)).heap.size := Nat.le_trans RB.be.size (box_b wr _).size
          have HTL := Lib.hid htl
          clear htl
          go_wp2_with (at_builtin; go_must (refine wpList_append_lies _ rfl (.tmp 54) (.tmp 57) 26 rfl w.heap.size 32 i0 _ 7 80 Try.underlying26 ti tz0 tz1 tz2 rfl (by decide) (.slice AT N cT) N (tcells (lpC (N + 1) N).trans) rfl t1 ⟨wr.heap.size, 0, none⟩ 1 1 (tcells [lpB N]) rfl rfl t3 (t_oneA _) (by decide) (by unfold maxLen; omega) (by omega) t4 _ rfl ?_; intro g1 cp1 X1 hown1 hg1 hat1 hlt1; have hg9 : wr.grownBy X1 (Value.ownBlock (.slice AT N cT)) := grown_new1A hg1; have hne9 := own_row_ne RB.oT RB.row (by decide); have hr9 := RB.row1 hg9 hne9; have z1 : X1.frozen? ⟨w.heap.size, 3, none⟩ = false := (by simp [World.frozen?, hr9]); have z2 := cell_of_row X1 w.heap.size 3 _ _ _ hr9))
          have RB3 := RB.trans hg9 (x := lpB N) (v' := .slice (some ⟨g1, 0, none⟩) (N + 1) cp1) (ownT_snocA (by rw [HTL.out]; exact hown1))
          go_meet
          exact ⟨_, _, _, _, RB3⟩
      case rest =>
      obtain ⟨v0, v1, v2, v3, RC⟩ := hcut.out
      rename_i K6 hK6
      refine hK6 _ _ ?_
      clear hK6 hcut RB q3 htl
      obtain ⟨wd, rfl⟩ : ∃ x : World, x = wc := ⟨_, rfl⟩
      have hall := lop_all N round hN1 hN2
      have hnl := lop_nl N round
      have hkl := lop_kl N round
      have hpl := lop_pl N round
      have htl := lop_tl N round
      have hft := lop_ft N round
      have hfew := lop_few N round hN2
      have htold := lop_told (r := round) hN1 hN2
      generalize lopC N round = c at *
      obtain ⟨AN, cN, rfl⟩ := own_slice RC.oN
      obtain ⟨AK, cK, rfl⟩ := own_slice RC.oK
      obtain ⟨AP, cP, rfl⟩ := own_slice RC.oP
      obtain ⟨AT', cT', rfl⟩ := own_slice RC.oT
      have hsh := shf_of hall.1
      have hok1 : okI c.kinds := fun z hz => by
        obtain ⟨j, hj, rfl⟩ := List.mem_iff_getElem.1 hz
        have := hsh.kd j (by omega)
        rw [List.getD_eq_getElem?_getD, List.getElem?_eq_getElem hj] at this
        have h9 : 1 ≤ c.kinds[j] ∧ c.kinds[j] ≤ 4 := this
        exact wf_any (by omega) (by omega)
      have hok2 : okI c.parents := fun z hz => by
        obtain ⟨j, hj, rfl⟩ := List.mem_iff_getElem.1 hz
        have := hsh.pa j (by omega)
        rw [List.getD_eq_getElem?_getD, List.getElem?_eq_getElem hj] at this
        have h9 : -1 ≤ c.parents[j] ∧ c.parents[j] < j := this
        exact wf_any (by omega) (by omega)
      have hW : ChW wd c (N + 1) AK AP AT' cK cP cT' := by
        have h1 := ints_of_own RC.oK hok1 (by omega)
        have h2 := ints_of_own RC.oP hok2 (by omega)
        rw [hkl] at h1
        rw [hpl] at h2
        exact ⟨⟨h1, h2⟩, tAt_of RC.oT, own_cap RC.oT, by omega, hsh, by omega, by omega, hft⟩
      have BG := begin_any c (N + 1) AN AK AP AT' cN cK cP cT' 0 (Plc c.kinds c.parents (N + 1)) wd hW (listAt_of RC.oN) hall.2.1 (by omega) (by decide) (runInv_plc hsh (by omega) (by decide) hft hfew) (Plc.beg hsh (by omega) (by decide))
      have q0 := RC.q0; have q1 := RC.q1; have q2 := RC.q2; have q3 := RC.q3
      rw [hkl] at q1
      rw [hpl] at q2
      have HB := Lib.hid RC.be
      clear RC hW hok1 hok2 hall hft hfew hnl hkl hpl htl hsh
      rcases htold with ⟨hrun, hwhy⟩ | ⟨y, out, hrun, rfl, hN16, hys, hol⟩
      · rw [hrun] at BG
        have BG2 : Hid (Calls _ _ _ _ _) := BG.mono (fun e w' (h : RunTo (N + 1) none wd e w') => (show Below wd.heap.size wd w' ∧ e = .returned (.tuple #[.agg #[.int .u32 0, .slice none 0 0, .slice none 0 0], .slice none 0 0, .iface 51 (.int .i64 10)]) from h))
        clear BG hrun
        go_upto_region 13 with (go_at_call 11; refine BG2.out.mono ?_; rintro e w2 ⟨hb2, rfl⟩; have HB2 := Lib.hid hb2; clear hb2)
        have hbx := box_b w2 (.cells #[.int .u32 0, .slice none 0 0, .slice none 0 0] 36)
        have RX := heap_alloc_new w2 (.cells #[.int .u32 0, .slice none 0 0, .slice none 0 0] 36)
        have hb0 := below_then HB.out HB2.out HB.out.size
        have HB3 := Lib.hid (below_then hb0 hbx hb0.size)
        clear hbx hb0 HB2 HB BG2 q0 q1 q2 q3
        generalize w2.heap.size = gx at *
        generalize w2.alloc (.cells #[.int .u32 0, .slice none 0 0, .slice none 0 0] 36) = w3 at *
        have x0 := cell_of_row _ _ 0 _ _ _ RX
        have KI := Lib.hid (ko.keepIsO 10 10 w3 (by omega) (by omega))
        have WK := Lib.hid (wakes09 w3)
        clear RX
        cases round
        · have hgt : (16 : Int) < N := by
            rcases hwhy with h | h
            · cases h
            · omega
          clear hwhy
          go_wp2_with (first
            | (go_at_call 17; refine KI.out.mono ?_; rintro e w4 ⟨rfl, rfl⟩)
            | (go_at_call 15; refine WK.out.mono ?_; rintro e w5 ⟨rfl, hb5⟩))
          go_ret
          exact ⟨rfl, below_then HB3.out hb5 HB3.out.size⟩
        · clear hwhy
          go_wp2_with (first
            | (go_at_call 17; refine KI.out.mono ?_; rintro e w4 ⟨rfl, rfl⟩)
            | (go_at_call 15; refine WK.out.mono ?_; rintro e w5 ⟨rfl, hb5⟩))
          go_ret
          exact ⟨rfl, below_then HB3.out hb5 HB3.out.size⟩
      · rw [hrun] at BG
        have hsh := two_val (i := N) (by omega)
        obtain ⟨pw, hpw⟩ : ∃ pw : Nat, 2 ^ N = pw := ⟨_, rfl⟩
        rw [hpw] at hys hsh
        clear hpw
        have BG2 : Hid (Calls _ _ _ _ _) := BG.mono (fun e w' (h : RunTo (N + 1) (some (y, out)) wd e w') => (show Below wd.heap.size wd w' ∧ ∃ (g3 gS : Nat) (A : Option Addr) (cO : Nat), e = .returned (.tuple #[.agg #[.int .u32 (pw : Int), .slice (some ⟨g3, 0, none⟩) (N + 1) (N + 1), .slice (some ⟨gS, 0, none⟩) (N + 1) (N + 1)], .slice A N cO, .nilIface]) from by
          obtain ⟨hb, g3, gS, v, rfl, h3, hR, hO⟩ := h
          obtain ⟨A, cO, rfl⟩ := own_slice hO
          refine ⟨hb, g3, gS, A, cO, ?_⟩
          rw [List.length_map, hol, ← hys]))
        clear BG hrun hys hol
        go_upto_region 13 with (go_at_call 11; refine BG2.out.mono ?_; rintro e w2 ⟨hb2, g3, gS, A, cO, rfl⟩; have HB2 := Lib.hid hb2; clear hb2)
        have hbx := box_b w2 (.cells #[.int .u32 (pw : Int), .slice (some ⟨g3, 0, none⟩) (N + 1) (N + 1), .slice (some ⟨gS, 0, none⟩) (N + 1) (N + 1)] 36)
        have RX := heap_alloc_new w2 (.cells #[.int .u32 (pw : Int), .slice (some ⟨g3, 0, none⟩) (N + 1) (N + 1), .slice (some ⟨gS, 0, none⟩) (N + 1) (N + 1)] 36)
        have hb0 := below_then HB.out HB2.out HB.out.size
        have HB3 := Lib.hid (below_then hb0 hbx hb0.size)
        clear hbx hb0 HB2 HB BG2 q0 q1 q2 q3
        generalize w2.heap.size = gx at *
        generalize w2.alloc (.cells #[.int .u32 (pw : Int), .slice (some ⟨g3, 0, none⟩) (N + 1) (N + 1), .slice (some ⟨gS, 0, none⟩) (N + 1) (N + 1)] 36) = w3 at *
        have x0 := cell_of_row _ _ 0 _ _ _ RX
        have WK := Lib.hid (wakes09 w3)
        have hng : ¬ (16 : Int) < N := by omega
        have hn0 : (0 : Int) ≤ N := by omega
        have hn32 : (N : Int) < 32 := by omega
        have hnw : (N : Int) % 18446744073709551616 = N := by omega
        clear RX
        go_wp2_with (go_at_call 15; refine WK.out.mono ?_; rintro e w5 ⟨rfl, hb5⟩)
        go_ret
        exact ⟨rfl, below_then HB3.out hb5 HB3.out.size⟩
end Go.Proofs.Ytbacdllokgcohaa
