/-
  Names that go round, and with one pair less: what New answers; Below's length; an append of a slice that may be empty.
-/
import Derived.Test.YteplbbikjcjheaaCirc0
import Derived.Test.YteplbbikjcjheaaLim1
import Derived.Test.YteplbbikjcjheaaBelow
import Derived.Test.YteplbbikjcjheaaCopyP
namespace Go.Proofs.Yteplbbikjcjheaa
set_option maxRecDepth 100000
open Go.ChangeShapes Go.WideShapes Go.ChangeAt Go.RowKit

theorem new_round {N : Nat} (h1 : 1 ≤ N) (hN : N ≤ 24) : newP (nmL N) ((circL N).map pnm) = .bad 6 := by
  have hin := in_nm (circL_ok (N := N))
  have hps := psL_all (nmL N) (by rw [nmL_length]; omega) ((circL N).map pnm) (List.all_eq_true.1 hin)
  have hfl := folL_length (nmL N) ((circL N).map pnm)
  have hrel : ∀ i j, rel (folL (nmL N) ((circL N).map pnm)) i j = way (relL (circL N)) N i j := by
    intro i j
    unfold folL
    rw [folTo_rel, nmL_length]
    congr 1
    funext a b
    rw [hps.2.2, prel_nm (by omega) circL_ok]
  refine new_circle (by rw [nmL_length]; omega) (nmL_nodup (by omega)) hin (circ_any (k := 0) (by rw [hfl, nmL_length]; omega) ?_)
  rw [hrel]; exact circ_way (by omega)
theorem cut_no {N k : Nat} (hk : k < N) : ∀ i, i < N → way (fun a b => (cutL N k).any fun p => p.1 == a && p.2 == b) N i i = false := fun i _ => by
  cases h : way (fun a b => (cutL N k).any fun p => p.1 == a && p.2 == b) N i i
  · rfl
  · exact absurd (cut_up hk N h) (Nat.lt_irrefl _)
theorem ab_cut {N k i j : Nat} (hk : k < N) (hi : i < N) (hj : j < N) : ab N (cutL N k) i j = decide (rk N k i ≤ rk N k j) := cut_ab hk hi hj
theorem cutL_ok {N k : Nat} : ∀ p ∈ cutL N k, p.1 < N ∧ p.2 < N := fun p hp => circL_ok p (cutL_sub hp)
theorem below_all {names : List Nm} {bl : List Nat} {a : Nat} : ∀ n, (∀ j, j < n → rel bl a j = true) → (belowTo names bl a n).length = n
  | 0, _ => rfl
  | n + 1, h => by
    rw [belowTo, if_pos (h n (by omega)), List.length_append, below_all n fun j hj => h j (by omega)]; rfl
theorem below_one {names : List Nm} {bl : List Nat} {a k : Nat} : ∀ n, (∀ j, j < n → rel bl a j = decide (j = k)) → (belowTo names bl a n).length = if k < n then 1 else 0
  | 0, _ => rfl
  | n + 1, h => by
    have ih := below_one (names := names) n fun j hj => h j (by omega)
    have hn := h n (by omega)
    rw [belowTo]
    by_cases e : n = k
    · rw [hn, decide_eq_true e, if_pos rfl, List.length_append, ih, if_neg (by omega), if_pos (by omega)]; rfl
    · rw [hn, decide_eq_false e, if_neg (by decide), ih]
      by_cases h2 : k < n
      · rw [if_pos h2, if_pos (by omega)]
      · rw [if_neg h2, if_neg (by omega)]
theorem Below_len {w : World} {g N : Nat} {R : Nat → Nat → Bool} (h : OrdR w g N R) (a m : Nat) (ha : a < N) (hm : ∀ bl, (∀ j, j < N → rel bl a j = R a j) → (belowTo (nmL N) bl a N).length = m) :
    Calls Try.prog 22 #[.pointer (some ⟨g, 0, none⟩), .string (bs (nmN a))] w fun e w' => ∃ A c, e = .returned (.slice A m c) ∧ Below w.heap.size w w' := by
  obtain ⟨hN, bl, ho, hr, _⟩ := h
  have hl := hm bl fun j hj => hr a j ha hj
  refine (Below_any g (nmL N) bl w (nmN a) ho).mono ?_
  rintro e w' ⟨v, rfl, hv, hb⟩
  have hL : belowL (nmL N) bl (nmN a) = belowTo (nmL N) bl a N := by
    unfold belowL
    rw [if_pos (nmL_mem ha), nmL_idx (by omega) ha, nmL_length]
  rw [hL] at hv
  obtain ⟨A, c, e⟩ := own_slice hv
  rw [hl] at e
  exact ⟨A, c, by rw [e], hb⟩
theorem step_app0 {Pg : Program} {w : World} {ops : Array Oper} {o : Oper} {a : Act} {K : Act → World → Prop} {Q : Exit → Act → World → Prop} {E : Prop} (hgd : o.guard = none) (s x : Operand) (t : TypeId)
    (ho : o.op = .call { callee := .builtin .append, args := #[s, x], argTypes := #[t, t] })
    (base : Nat) (e : TypeId) (i : TypeInfo) (z : Value) (size bytes : Nat) (ht : Pg.underlying t = some (.slice e)) (hi : Pg.info? e = some i) (hz : i.zero = some z)
    (hsize : i.size = size) (hby : i.bytes = bytes) (hzs : z.cells.size = size) (hsz : 0 < size)
    (v : Value) (n : Nat) (xs : List Value) (hs : a.eval s = v) (hown : w.ownsRow base e size v n xs)
    (ad : Addr) (m c : Nat) (news : List Value) (hx : a.eval x = .slice (some ad) m c) (hl : news.length = m * size) (hnews : ∀ j u, news[j]? = some u → w.cell? (ad.add j) = some u) (h1 : ∀ u ∈ news, u.oneCell' = true)
    (h63 : n + m ≤ maxLen) (hbytes : (n + m) * bytes ≤ 140737488355328) (w0 : World) (hw0 : base = w0.heap.size) (hb : Below base w0 w)
    (h : ∀ A cap w', w'.ownsRow base e size (.slice A (n + m) cap) (n + m) (xs ++ news) → Below base w0 w' → K (a.put o.dst (.slice A (n + m) cap)) w') :
    if Region.wanted o (yielded ops a.tmps) = true then Oper.wp Pg o a w K Q else E := by
  have hbase : base ≤ w.heap.size := by rw [hw0]; exact hb.size
  have hw : Region.wanted o (yielded ops a.tmps) = true := by simp [Region.wanted, hgd]
  rw [if_pos hw]
  refine wp_append_own w s x t ho base e i z size bytes ht hi hz hsize hby hzs hsz v n xs hs hown ad m c news hx hl hnews h1 h63 hbytes hbase fun v' w' h2 h3 _ => ?_
  obtain ⟨A, cap, rfl⟩ := own_slice h2
  exact h A cap w' h2 (hb.grown h3 hbase fun j e => (hown.lt j e).1)
end Go.Proofs.Yteplbbikjcjheaa
