import Derived.Test.YtaoinedndnleoaaGreatSm0
import Derived.Test.YtaoinedndnleoaaGreatArgI
import Derived.Test.YtaoinedndnleoaaGreatOwnSome
import Derived.Laws.RangeAny
import Derived.LaidEql
import Derived.Lib.IfaceEq
import Derived.Stop.Asserts
import Derived.RowKitTokens
import Derived.Test.YtaoinedndnleoaaGreatEn9
import Derived.Test.YtaoinedndnleoaaGreatEn8
namespace Go.Proofs.YtaoinedndnleoaaGreat
set_option maxRecDepth 100000
open Go.ChangeShapes Go.WideShapes Go.ChangeAt Go.RowKit
theorem wp_end {P : Program} {s : Code} {Q : Exit → Act → World → Prop} {a : Act} {w : World} (h : ∀ K : Act → World → Prop, (K = fun a w => Q .normal a w) → s.wp P (Exit.then K Q) a w) : s.wp P Q a w :=
 wp_mono (h _ rfl) (fun e a w hq => by cases e <;> exact hq)
def nl (t : ByteArray) : Nat := t.data.toList.count 10
theorem nl_app (a b : ByteArray) : nl (a ++ b) = nl a + nl b := by simp [nl, ByteArray.data_append]
theorem nl_lit (l : Array UInt8) : nl ⟨l⟩ = l.toList.count 10 := rfl
theorem sz_lit (l : Array UInt8) : (⟨l⟩ : ByteArray).size = l.size := rfl
def Mk (W0 : World) (v : Value) (b k : Nat) (w : World) : Prop := Below W0.heap.size W0 w ∧ W0.heap.size ≤ b ∧ w.heap[b]? = some (.cells #[v, .int .i64 k] 128 (0, 0))
def NTo (W0 : World) (v : Value) (b k : Nat) (of : Int) (w : World) (e : Ending) (w' : World) : Prop := ∃ r : Nat, e = .returned (.int .i64 r) ∧ (r : Int) < of ∧ Mk W0 v b (k + 1) w' ∧ w.grownBy w' (some b)
theorem nTo_mk {W0 : World} {v : Value} {b k : Nat} {of x : Int} {w w' : World} (h0 : 0 ≤ x) (h1 : x < of) (h2 : Mk W0 v b (k + 1) w') (h3 : w.grownBy w' (some b)) : NTo W0 v b k of w (.returned (.int .i64 x)) w' :=
 ⟨x.toNat, by rw [Int.toNat_of_nonneg h0], by rw [Int.toNat_of_nonneg h0]; exact h1, h2, h3⟩
theorem mk_step {W0 : World} {v : Value} {b k : Nat} {w : World} (h : Mk W0 v b k w) : Mk W0 v b (k + 1) (w.setCell ⟨b, 1, none⟩ (.int .i64 ((k : Int) + 1))) := by
 obtain ⟨h1, h2, h3⟩ := h
 exact ⟨h1.grown (grown_setCell _ _ _ _) h1.size (fun j hj => by cases hj; exact h2), h2, by simpa using heap_set (j := 1) h3 (.int .i64 ((k : Int) + 1))⟩
theorem Mk.drewN {W0 : World} {v : Value} {b k : Nat} {w : World} (h : Mk W0 v b k w) (n : Nat) : Mk W0 v b k (w.drewN n) := ⟨below_drewN h.1 n, h.2.1, h.2.2⟩
theorem grown_drew' {w w' : World} {r : Option Nat} (n : Nat) (h : (w.drewN n).grownBy w' r) : w.grownBy w' r := ⟨h.os, h.tape, h.output, h.size, h.block⟩
theorem Mk.below {W0 : World} {v : Value} {b k : Nat} {w w' : World} (h : Mk W0 v b k w) (hb : Below w.heap.size w w') : Mk W0 v b k w' :=
 ⟨below_then h.1 hb h.1.size, h.2.1, (hb.block _ (Array.getElem?_eq_some_iff.1 h.2.2).1).trans h.2.2⟩
theorem StrAt.drewN {w : World} {t : Nat} {l : List Tx} (h : StrAt w t l) (n : Nat) : StrAt (w.drewN n) t l := h
theorem Mk.alloc {W0 : World} {v : Value} {b k : Nat} {w : World} (h : Mk W0 v b k w) (O : Obj) : Mk W0 v b k (w.alloc O) :=
 ⟨h.1.alloc h.1.size _, h.2.1, (heap_alloc_old _ _ (Array.getElem?_eq_some_iff.1 h.2.2).1).trans h.2.2⟩
set_option maxHeartbeats 2000000 in
theorem n_any (W0 : World) (v : Value) (zs : List Int) (hz : IntsAt W0 v zs) (b k : Nat) (of : Int) (w : World) (h : Mk W0 v b k w) (hk : k ≤ 1000000) (h1 : 1 ≤ of) (h2 : of ≤ 1000) :
  Calls Tryz.prog 94 #[.pointer (some ⟨b, 0, none⟩), .int .i64 of] w (NTo W0 v b k of w) := by
 obtain ⟨A, cap, rfl, hm, hx⟩ := hz
 have q0 : w.cell? ⟨b, 0, none⟩ = some (.slice A zs.length cap) := by rw [cell_of_row _ _ _ _ _ _ h.2.2]; rfl
 have q1 : w.cell? ⟨b, 1, none⟩ = some (.int .i64 k) := by rw [cell_of_row _ _ _ _ _ _ h.2.2]; rfl
 have f1 : w.frozen? ⟨b, 1, none⟩ = false := by simp [World.frozen?, h.2.2]
 have HS := fun n => Lib.hid (mk_step (h.drewN n))
 have ek : IntKind.i64.wrap ((k : Int) + 1) = (k : Int) + 1 := by rw [IntKind.wrap_i64]; omega
 by_cases hlt : k < zs.length
 ·obtain ⟨g, off, rfl, hgl, hc, hwf⟩ := hx k hlt
  have hc' : w.cell? ⟨g, off + k, none⟩ = some (.int .i64 zs[k]) := (h.1.cell (p := ⟨g, off + k, none⟩) hgl).trans hc
  have hw := fun W => Within_any zs[k] of W hwf h1 (by omega)
  have hb := within_bd zs[k] of h1
  have HW := Lib.hid hw
  clear hw hx hc h hwf
  generalize zs[k] = x at *
  generalize zs.length = l at *
  go_enter Tryz.func94, Tryz.ntmps94
  go_wp2
  go_quiet (fail)
  go_wp2
  go_quiet (fail)
  go_wp2_with (go_at_call 11; refine (HW.out _).mono ?_; rintro e w1 ⟨rfl, rfl⟩)
  go_ret
  exact nTo_mk hb.1 hb.2 (HS _).out (grown_drew' _ (grown_setCell _ _ _ _))
 ·have hw := fun W => Within_any 0 of W (by decide) h1 (by omega)
  have hb := within_bd 0 of h1
  have HW := Lib.hid hw
  clear hw hx h
  generalize zs.length = l at *
  go_enter Tryz.func94, Tryz.ntmps94
  go_wp2
  go_quiet (fail)
  go_wp2_with (go_at_call 11; refine (HW.out _).mono ?_; rintro e w1 ⟨rfl, rfl⟩)
  go_ret
  exact nTo_mk hb.1 hb.2 (HS _).out (grown_drew' _ (grown_setCell _ _ _ _))
def NmTo (n : Nat) (w : World) (e : Ending) (w' : World) : Prop := ∃ t : ByteArray, e = .returned (.string t) ∧ t.size = n ∧ nl t = 0 ∧ w = w'
theorem abc_at (m : Nat) (h : m < 12) : (ByteArray.mk #[97, 98, 99, 100, 101, 102, 103, 104, 105, 106, 107, 108]).extract m 12 = bs ([97, 98, 99, 100, 101, 102, 103, 104, 105, 106, 107, 108].drop m) := by
 rw [extract_bs]
 have : ∀ m, m < 12 → List.take (12 - m) (List.drop m (ByteArray.mk #[97, 98, 99, 100, 101, 102, 103, 104, 105, 106, 107, 108]).data.toList) = List.drop m [97, 98, 99, 100, 101, 102, 103, 104, 105, 106, 107, 108] := by decide
 rw [this m h]
theorem abc_nl : ∀ m, m < 12 → ∀ l ∈ [([97, 98, 99, 100, 101, 102, 103, 104, 105, 106, 107, 108] : List UInt8).drop m], (l.take 1).length = 1 ∧ (l.take 1).count 10 = 0 := by decide
def abc (n : Nat) : ByteArray := bs ((([97, 98, 99, 100, 101, 102, 103, 104, 105, 106, 107, 108] : List UInt8).drop (n % 12)).take 1)
theorem abc_sz (n : Nat) : (abc n).size = 1 := (abc_nl (n % 12) (Nat.mod_lt _ (by omega)) _ (List.mem_singleton.2 rfl)).1
theorem abc_no (n : Nat) : nl (abc n) = 0 := (abc_nl (n % 12) (Nat.mod_lt _ (by omega)) _ (List.mem_singleton.2 rfl)).2
theorem nmv_any (h : ByteArray) (hs : h.size = 1) (n : Nat) (hn : n ≤ 1000000) (w : World) : Calls Tryz.prog 95 #[.string h, .int .i64 n] w fun e w' => e = .returned (.string (h ++ abc n)) ∧ w = w' := by
 have hm : (n : Int).tmod 12 = ((n % 12 : Nat) : Int) := by rw [Int.tmod_eq_emod_of_nonneg (by omega)]; omega
 have hlt : n % 12 < 12 := Nat.mod_lt _ (by omega)
 unfold abc
 generalize n % 12 = m at *
 have hab := abc_at m hlt
 have hsz : (bs ([97, 98, 99, 100, 101, 102, 103, 104, 105, 106, 107, 108].drop m)).size = 12 - m := by rw [size_bs]; simp
 have hmi : (m : Int) ≤ 12 := by omega
 go_enter Tryz.func95, Tryz.ntmps95
 go_wp2
 go_ret
 have hx : ∀ l : List UInt8, (bs l).extract 0 1 = bs (l.take 1) := fun l => by rw [extract_bs]; rfl
 rw [hx]
 exact ⟨rfl, rfl⟩
theorem nm_any (h : ByteArray) (hs : h.size = 1) (h0 : nl h = 0) (n : Nat) (hn : n ≤ 1000000) (w : World) : Calls Tryz.prog 95 #[.string h, .int .i64 n] w (NmTo 2 w) :=
 (nmv_any h hs n hn w).mono fun _ _ ⟨he, hw⟩ => ⟨_, he, by rw [ByteArray.size_append, hs, abc_sz], by rw [nl_app, h0, abc_no], hw⟩
theorem lines_count : ∀ l : List UInt8, (linesL l).length = l.count 10 + 1
 | [] => rfl
 | c :: r => by
  have ih := lines_count r
  by_cases hc : c = 10
  ·subst hc; rw [lines_end]; simp [ih]
  ·obtain ⟨a, t, h⟩ := lines_ne r
   rw [h] at ih
   rw [lines_cons hc h, List.count_cons_of_ne hc, ← ih]; rfl
end Go.Proofs.YtaoinedndnleoaaGreat
namespace Go.Proofs.YtaoinedndnleoaaGreat.ko
set_option maxRecDepth 100000
open Go.RowKit Go.Extern.Stop Go.Stop Go.Extern
theorem Tryz.compErrno : (Tryz.prog.info? 50).map (·.comparable) = some true := by kernel_rfl
theorem Tryz.typeOfErrno (v : Value) (w : World) : (ReflectliteType.typeOf #[.iface 50 v]).run Tryz.prog w = .ok (.iface 173 (.agg #[.pointer (some ⟨0, 50, none⟩)])) w := by kernel_rfl
theorem Tryz.comparableErrno (w : World) : ((ReflectliteType.method fun t => do Rtype.noPackHeld "Comparable" t; (fun a => Value.bool a.comparable) <$> typeInfo t) #[.agg #[.pointer (some ⟨0, 50, none⟩)]]).run Tryz.prog w = .ok (.bool true) w := by kernel_rfl
theorem Tryz.methodComparable (v : Value) (w : World) : (Go.method 338 173 v "Comparable").run Tryz.prog w = .ok (171, v) w := by kernel_rfl
theorem Tryz.noIsNum (v : Value) (xT : TypeId) (w : World) : (Instr.typeAssert (.iface 50 v) xT 175 true).run Tryz.prog w = .ok (.tuple #[.nilIface, .bool false]) w := run_typeAssert_lacksB Tryz.underlying175 (by kernel_rfl) (by kernel_rfl) v xT w
theorem Tryz.noUnwrapsNum (v : Value) (xT : TypeId) (w : World) : (Instr.typeAssert (.iface 50 v) xT 180 true).run Tryz.prog w = .ok (.tuple #[.nilIface, .bool false]) w := run_typeAssert_lacksB Tryz.underlying180 (by kernel_rfl) (by kernel_rfl) v xT w
theorem Tryz.noUnwrapNum (v : Value) (xT : TypeId) (w : World) : (Instr.typeAssert (.iface 50 v) xT 178 true).run Tryz.prog w = .ok (.tuple #[.nilIface, .bool false]) w := run_typeAssert_lacksB Tryz.underlying178 (by kernel_rfl) (by kernel_rfl) v xT w
set_option maxHeartbeats 1000000 in
theorem IsO_any (c n : Int) (w : World) :
  Calls Tryz.prog 40 #[.iface 50 (.int .i64 c), .iface 50 (.int .i64 n)] w fun e w' => e = .returned (.bool (c == n)) ∧ w = w' := by
 have hT := @run_callFunc_extern Tryz.prog 75 _ ReflectliteType.typeOf Tryz.func75 (by kernel_rfl) (by kernel_rfl) (by kernel_rfl) (by kernel_rfl)
 have hC := @run_callFunc_extern Tryz.prog 171 _ (ReflectliteType.method fun t => do Rtype.noPackHeld "Comparable" t; pure (.bool (← typeInfo t).comparable)) Tryz.func171 (by kernel_rfl) (by kernel_rfl) (by kernel_rfl) (by kernel_rfl)
 have tT := Tryz.typeOfErrno
 have cT := Tryz.comparableErrno
 have mR := Tryz.methodComparable
 have n1 := Tryz.noIsNum
 have n2 := Tryz.noUnwrapNum
 have n3 := Tryz.noUnwrapsNum
 have heq := Lib.run_eql_iface_int (P := Tryz.prog) w (k := .i64) c n Tryz.underlying46 Tryz.compErrno Tryz.underlying50
 by_cases h : c = n
 ·subst h
  simp only [beq_self_eq_true] at heq ⊢
  go_enter Tryz.func40, Tryz.ntmps40
  go_wp2
  refine wp_loop_rounds 1 ?_
  rw [rounds_succ]
  go_wp2
  go_ret
  exact ⟨rfl, rfl⟩
 ·have hb : (c == n) = false := by simpa using h
  rw [hb] at heq ⊢
  go_enter Tryz.func40, Tryz.ntmps40
  go_wp2
  refine wp_loop_rounds 1 ?_
  rw [rounds_succ]
  go_wp2
  go_ret
  exact ⟨rfl, rfl⟩
end Go.Proofs.YtaoinedndnleoaaGreat.ko
namespace Go.Proofs.YtaoinedndnleoaaGreat.ko
set_option maxRecDepth 100000
open Go.ChangeShapes Go.WideShapes Go.ChangeAt Go.RowKit
theorem keepIsO (c n : Int) (w : World) (hn : 1 ≤ n) (hn2 : n ≤ 14) :
  Calls Tryz.prog 13 #[.iface 50 (.int .i64 c), .int .i64 n] w fun e w' => e = .returned (.bool (c == n)) ∧ w = w' := by
 have h0 : (n == 0) = false := by simp; omega
 by_cases hcn : c = n
 ·subst hcn
  have h1 := IsO_any c c w
  simp only [beq_self_eq_true] at h1 ⊢
  have h2 := fun m (_ : ¬ c = m) => IsO_any c m w
  have H2 := Lib.hid h2
  have H1 := Lib.hid h1
  clear h1 h2
  go_enter Tryz.func13, Tryz.ntmps13
  go_wp2_with (go_at_call 40; refine H1.out.mono ?_; rintro e w1 ⟨rfl, rfl⟩)
  go_loop [5] (fun i => ∃ k : Nat, 1 ≤ k ∧ k ≤ 15 ∧ i = .int .i64 k) (fun i => 15 - (intOf i).toNat)
  case atStart => exact ⟨1, by omega, by omega, rfl⟩
  case round =>
   obtain ⟨k, hk1, hk2, rfl⟩ := hrel
   by_cases hk : k ≤ 14
   ·by_cases hkc : (k : Int) = c
    ·have g1 : ((k : Int) != c) = false := by simp [hkc]
     have HK := Lib.hid hkc
     clear hkc
     go_wp2
     go_round
     case rel => exact ⟨k + 1, by omega, by omega, by go_num⟩
     case measure => simp [intOf]; omega
    ·have g1 : ((k : Int) != c) = true := by simp [hkc]
     have hf : (c == (k : Int)) = false := by simp; omega
     have H3 := H2.out k (by omega)
     rw [hf] at H3
     clear hf
     go_wp2_with (go_at_call 40; refine H3.mono ?_; rintro e w1 ⟨rfl, rfl⟩)
     go_round
     case rel => exact ⟨k + 1, by omega, by omega, by go_num⟩
     case measure => simp [intOf]; omega
   ·go_wp2
    go_ret
    exact ⟨rfl, rfl⟩
 ·have hf : (c == n) = false := by simpa using hcn
  have H1 := IsO_any c n w
  rw [hf] at H1 ⊢
  go_enter Tryz.func13, Tryz.ntmps13
  go_wp2_with (go_at_call 40; refine H1.mono ?_; rintro e w1 ⟨rfl, rfl⟩)
  go_ret
  exact ⟨rfl, rfl⟩
end Go.Proofs.YtaoinedndnleoaaGreat.ko
namespace Go.Proofs.YtaoinedndnleoaaGreat
set_option maxRecDepth 100000
open Go.ChangeShapes Go.WideShapes Go.ChangeAt Go.RowKit
structure Cf where
 set : Nat
 past : List Nat
 since : List Int
deriving DecidableEq
def ent1 (now : Int) (x : Cf) (k : Nat) : Cf := ⟨x.set ||| 2 ^ k, x.past, x.since.set k now⟩
def entC (now : Int) (x : Cf) (l : List Nat) : Cf := l.foldl (ent1 now) x
def lef1 (x : Cf) (k : Nat) : Cf := ⟨adn x.set (2 ^ k), x.past, x.since.set k 0⟩
def lefC (x : Cf) (l : List Nat) : Cf := l.foldl lef1 x
def movC (ks ps : List Int) (n : Nat) (x : Cf) (f t : Nat) (now : Int) : Cf :=
 entC now (lefC ⟨x.set, rememL ks ps n x.set x.past (leaveL ps n x.set (domL ks ps n f t)), x.since⟩ (leaveL ps n x.set (domL ks ps n f t)))
  (enterL ks ps n (pfun (rememL ks ps n x.set x.past (leaveL ps n x.set (domL ks ps n f t)))) (domL ks ps n f t) t)
theorem entC_snoc (now : Int) (x : Cf) (l : List Nat) (k : Nat) : entC now x (l ++ [k]) = ent1 now (entC now x l) k := by unfold entC; rw [List.foldl_append]; rfl
theorem lefC_snoc (x : Cf) (l : List Nat) (k : Nat) : lefC x (l ++ [k]) = lef1 (lefC x l) k := by unfold lefC; rw [List.foldl_append]; rfl
structure CfOk (n : Nat) (x : Cf) : Prop where
 lp : x.past.length = n
 ls : x.since.length = n
 st : x.set < 2 ^ n
 pl : ∀ p ∈ x.past, p < 2 ^ n
 si : ∀ z ∈ x.since, (Lit.int .i64 z).wf = true
theorem or_lt2 {n a k : Nat} (ha : a < 2 ^ n) (hk : k < n) : a ||| 2 ^ k < 2 ^ n := Nat.or_lt_two_pow ha (Nat.pow_lt_pow_right (by omega) hk)
theorem adn_lt2 {n a b : Nat} (ha : a < 2 ^ n) : adn a b < 2 ^ n := Nat.lt_of_le_of_lt Nat.and_le_left ha
theorem wf_set {l : List Int} (h : ∀ z ∈ l, (Lit.int .i64 z).wf = true) {v : Int} (hv : (Lit.int .i64 v).wf = true) (k : Nat) : ∀ z ∈ l.set k v, (Lit.int .i64 z).wf = true := fun z hz => by
 rcases List.mem_or_eq_of_mem_set hz with h1 | h1
 ·exact h z h1
 ·rw [h1]; exact hv
theorem CfOk.ent1 {n : Nat} {x : Cf} (h : CfOk n x) {now : Int} (hw : (Lit.int .i64 now).wf = true) {k : Nat} (hk : k < n) : CfOk n (ent1 now x k) := ⟨h.lp, by simp [Go.Proofs.YtaoinedndnleoaaGreat.ent1, h.ls], or_lt2 h.st hk, h.pl, wf_set h.si hw k⟩
theorem CfOk.lef1 {n : Nat} {x : Cf} (h : CfOk n x) {k : Nat} : CfOk n (lef1 x k) := ⟨h.lp, by simp [Go.Proofs.YtaoinedndnleoaaGreat.lef1, h.ls], adn_lt2 h.st, h.pl, wf_set h.si (by decide) k⟩
theorem CfOk.entC {n : Nat} {now : Int} (hw : (Lit.int .i64 now).wf = true) : ∀ {l : List Nat} {x : Cf}, CfOk n x → (∀ k ∈ l, k < n) → CfOk n (entC now x l)
 | [], _, h, _ => h
 | k :: l, x, h, hl => CfOk.entC hw (l := l) (x := Go.Proofs.YtaoinedndnleoaaGreat.ent1 now x k) (h.ent1 hw (hl k List.mem_cons_self)) fun j hj => hl j (List.mem_cons_of_mem _ hj)
theorem CfOk.lefC {n : Nat} : ∀ {l : List Nat} {x : Cf}, CfOk n x → CfOk n (lefC x l)
 | [], _, h => h
 | _ :: l, _, h => CfOk.lefC (l := l) h.lef1
structure CfR (base : Nat) (W : World) (n : Nat) (x : Cf) (vP : Value) (gS : Nat) : Prop where
 ok : CfOk n x
 uP : U32sAt W vP x.past
 lo : base ≤ gS
 rS : W.heap[gS]? = some (.cells (icells x.since).toArray 3 (0, 0))
abbrev cfV (x : Cf) (vP : Value) (gS n : Nat) : Value := .agg #[.int .u32 (x.set : Nat), vP, .slice (some ⟨gS, 0, none⟩) n n]
theorem CfR.below {base : Nat} {W W' : World} {n : Nat} {x : Cf} {vP : Value} {gS : Nat} (h : CfR base W n x vP gS) (hb : Below W.heap.size W W') : CfR base W' n x vP gS :=
 ⟨h.ok, h.uP.below hb, h.lo, (hb.block _ (Array.getElem?_eq_some_iff.1 h.rS).1).trans h.rS⟩
theorem CfR.base {base base' : Nat} {W : World} {n : Nat} {x : Cf} {vP : Value} {gS : Nat} (h : CfR base W n x vP gS) (hb : base' ≤ base) : CfR base' W n x vP gS := ⟨h.ok, h.uP, Nat.le_trans hb h.lo, h.rS⟩
theorem CfR.ints {base : Nat} {W : World} {n : Nat} {x : Cf} {vP : Value} {gS : Nat} (h : CfR base W n x vP gS) (hn : n ≤ 1000) : IntsAt W (.slice (some ⟨gS, 0, none⟩) n n) x.since := by
 have hl := h.ok.ls
 refine ⟨some ⟨gS, 0, none⟩, n, by rw [hl], by unfold maxLen; omega, fun k hk => ⟨gS, 0, rfl, (Array.getElem?_eq_some_iff.1 h.rS).1, ?_, h.ok.si _ (List.getElem_mem hk)⟩⟩
 rw [cell_of_row _ _ _ _ _ _ h.rS, Nat.zero_add]
 simp [icells, hk]
abbrev chV (AN AK AP AT : Option Addr) (nN cN nK cK nP cP nT cT : Nat) : Value := .agg #[.slice AN nN cN, .slice AK nK cK, .slice AP nP cP, .slice AT nT cT]
theorem in_any (AN AK AP AT : Option Addr) (nN cN n cK nP cP nT cT : Nat) (s k : Nat) (vP vS : Value) (w : World) (hs : s < 4294967296) (hk : k < n) (hn : n ≤ 24) :
  Calls Tryz.prog 38 #[chV AN AK AP AT nN cN n cK nP cP nT cT, .agg #[.int .u32 s, vP, vS], .int .i64 k] w fun e w' => e = .returned (.bool (s.testBit k)) ∧ Below w.heap.size w w' := by
 have HV := Lib.hid (has_shr s k hs (by omega))
 have h1 : (0 : Int) ≤ k := by omega
 have h2 : (k : Int) < n := by omega
 have hz := below_then (box_b w (.cells #[.slice AN nN cN, .slice AK n cK, .slice AP nP cP, .slice AT nT cT] 30)) (box_b _ (.cells #[.int .u32 s, vP, vS] 40)) (box_b w (.cells #[.slice AN nN cN, .slice AK n cK, .slice AP nP cP, .slice AT nT cT] 30)).size
 have HZ := Lib.hid hz
 clear hz
 go_enter Tryz.func38, Tryz.ntmps38
 go_wp2
 go_ret
 exact ⟨ret_bool HV.out, HZ.out⟩
theorem mk_int (n : Nat) (hn : n ≤ 1000) (W : World) : (Instr.makeSlice 22 (.int .i64 n) (.int .i64 n)).run Tryz.prog W = .ok (.slice (some ⟨W.heap.size, 0, none⟩) n n) (W.alloc (.cells (Array.replicate n (Value.int .i64 0)) 3)) := by
 obtain ⟨i0, hi, hz0, hz1, hz2⟩ := info_parts Tryz.infoInt
 have h := run_make (P := Tryz.prog) W 22 3 i0 _ Tryz.underlying22 hi hz0 .i64 .i64 (n : Int) (n : Int) (by omega) (Int.le_refl _) (by rw [hz2]; omega) (by omega)
 rw [h, Int.toNat_natCast, hz1, Nat.mul_one]
 congr 3
 apply Array.ext
 ·simp [madeCells]
 ·intro j h1 h2
  simp [madeCells, Value.cells, Nat.mod_one]
def padI (n : Nat) (zs : List Int) : List Int := zs ++ List.replicate (n - zs.length) 0
theorem padL_self {n : Nat} {rs : List Nat} (h : rs.length = n) : padL n rs = rs := by unfold padL; rw [h, Nat.sub_self]; simp
theorem padI_self {n : Nat} {zs : List Int} (h : zs.length = n) : padI n zs = zs := by unfold padI; rw [h, Nat.sub_self]; simp
theorem ints_src {W : World} {A : Option Addr} {c : Nat} {zs : List Int} (h : IntsAt W (.slice A zs.length c) zs) (hp : 0 < (icells zs).length) : ∃ ad, A = some ad ∧ ∀ j u, (icells zs)[j]? = some u → W.cell? (ad.add j) = some u := by
 have hl : (icells zs).length = zs.length := by simp [icells]
 rw [hl] at hp
 obtain ⟨b, off, e, hb, hx, _⟩ := ints_cell h (k := 0) hp
 refine ⟨⟨b, off, none⟩, e, fun j u hu => ?_⟩
 have hj : j < zs.length := by have := (List.getElem?_eq_some_iff.1 hu).1; omega
 obtain ⟨b', off', e', _, hx', _⟩ := ints_cell h (k := j) hj
 rw [e] at e'
 injection e' with e'
 injection e' with e1 e2
 subst e1; subst e2
 rw [Go.WideShapes.add_plain, hx', ← hu, icells_at zs j hj]
 simp [List.getD_eq_getElem?_getD, hj]
theorem u32s_src {W : World} {A : Option Addr} {c : Nat} {rs : List Nat} (h : U32sAt W (.slice A rs.length c) rs) (hp : 0 < (ucl rs).length) : ∃ ad, A = some ad ∧ ∀ j u, (ucl rs)[j]? = some u → W.cell? (ad.add j) = some u := by
 rw [ucl_len] at hp
 obtain ⟨b, off, e, hb, hx, _⟩ := u32s_cell h (k := 0) hp
 refine ⟨⟨b, off, none⟩, e, fun j u hu => ?_⟩
 have hj : j < rs.length := by
  have := (List.getElem?_eq_some_iff.1 hu).1
  rw [ucl_len] at this
  exact this
 obtain ⟨b', off', e', _, hx', _⟩ := u32s_cell h (k := j) hj
 rw [e] at e'
 injection e' with e'
 injection e' with e1 e2
 subst e1; subst e2
 rw [Go.WideShapes.add_plain, hx', ← hu, ucl_at rs j hj]
 simp [List.getD_eq_getElem?_getD, hj]
theorem wpList_copy_g {P : Program} {w : World} {ops : Array Oper} {rest : List Oper} {o : Oper} {a : Act} {Q : Exit → Act → World → Prop} (hgd : o.guard = none) (d s : Operand) (dT sT : TypeId)
  (ho : o.op = .call { callee := .builtin .copy, args := #[d, s], argTypes := #[dT, sT] }) (elem : TypeId) (hu : P.underlying dT = some (.slice elem)) (hsz : (P.info? elem).map (·.size) = some 1)
  (dp sp : Option Addr) (dLen dCap sLen sCap : Nat) (hd : a.eval d = .slice dp dLen dCap) (hs : a.eval s = .slice sp sLen sCap)
  (g : Nat) (cur : List Value) (t : TypeId) (hg : w.heap[g]? = some (.cells cur.toArray t (0, 0))) (cs : List Value) (hn : cs.length = Nat.min sLen dLen)
  (hpos : 0 < cs.length → dp = some ⟨g, 0, none⟩ ∧ ∃ ad, sp = some ad ∧ ∀ j v, cs[j]? = some v → w.cell? (ad.add j) = some v)
  (hfit : cs.length ≤ cur.length) (h1 : ∀ v ∈ cs, v.oneCell' = true)
  (h : ∀ w', Hid (w'.heap[g]? = some (.cells (cs ++ cur.drop cs.length).toArray t (0, 0))) → Hid (w.grownBy w' (some g)) → wpList P ops Q rest (a.put o.dst (goInt cs.length)) w') :
  wpList P ops Q (o :: rest) a w := by
 by_cases h0 : cs.length = 0
 ·obtain rfl : cs = [] := List.eq_nil_of_length_eq_zero h0
  refine wpList_copy_nothing hgd d s dT sT ho elem hu hsz dp sp dLen dCap sLen sCap hd hs (by simpa using hn.symm) ?_
  exact h w (show _ = _ by simpa using hg) ⟨rfl, rfl, rfl, Nat.le_refl _, fun _ _ _ => rfl⟩
 ·obtain ⟨rfl, ad, rfl, hsrc⟩ := hpos (by omega)
  refine wpList_copy_own hgd d s dT sT ho elem hu hsz g 0 dLen dCap ad sLen sCap hd hs cur.toArray t hg cs hn hsrc (by simpa using hfit) h1 ?_
  exact h _ (show _ = _ by simpa using setRow_heap w g _ _ t _ hg) ⟨rfl, rfl, rfl, by simp [World.setRow], fun k _ hne => setRow_other w g k _ (by simpa using hne)⟩
def OwnTo (n s : Nat) (rs : List Nat) (zs : List Int) (w : World) (e : Ending) (w' : World) : Prop := Below w.heap.size w w' ∧ ∃ gP gS, e = .returned (.agg #[.int .u32 s, .slice (some ⟨gP, 0, none⟩) n n, .slice (some ⟨gS, 0, none⟩) n n]) ∧ (w.heap.size ≤ gP ∧ w.heap.size ≤ gS) ∧
 w'.heap[gP]? = some (.cells (ucl rs).toArray 37 (0, 0)) ∧ w'.heap[gS]? = some (.cells (icells zs).toArray 3 (0, 0))
theorem rows3 (w : World) (o1 o2 o3 : Obj) : ((((w.alloc o1).alloc o2).alloc o3).drew).heap[w.heap.size]? = some o1 ∧ ((((w.alloc o1).alloc o2).alloc o3).drew).heap[w.heap.size + 1]? = some o2 ∧ ((((w.alloc o1).alloc o2).alloc o3).drew).heap[w.heap.size + 1 + 1]? = some o3 ∧ Below w.heap.size w (((w.alloc o1).alloc o2).alloc o3).drew := by
 have s1 : (w.alloc o1).heap.size = w.heap.size + 1 := by simp
 have s2 : ((w.alloc o1).alloc o2).heap.size = w.heap.size + 1 + 1 := by simp
 refine ⟨?_, ?_, ?_, below_drew ((((Below.refl _ _).alloc (Nat.le_refl _) _).alloc (by simp) _).alloc (by simp; omega) _)⟩
 ·exact (heap_alloc_old _ o3 (by omega)).trans ((heap_alloc_old _ o2 (by omega)).trans (heap_alloc_new w o1))
 ·have h := (heap_alloc_old _ o3 (by omega)).trans (heap_alloc_new (w.alloc o1) o2)
  rwa [s1] at h
 ·have h := heap_alloc_new ((w.alloc o1).alloc o2) o3
  rwa [s2] at h
structure OwnW (w0 W : World) (n s gP gS gy : Nat) : Prop where
 rP : W.heap[gP]? = some (.cells (Array.replicate n (Value.int .u32 0)) 37 (0, 0))
 rS : W.heap[gS]? = some (.cells (Array.replicate n (Value.int .i64 0)) 3 (0, 0))
 rY : W.heap[gy]? = some (.cells #[.int .u32 s, .slice (some ⟨gP, 0, none⟩) n n, .slice (some ⟨gS, 0, none⟩) n n] 40 (0, 0))
 lo : w0.heap.size ≤ gP ∧ w0.heap.size ≤ gS ∧ w0.heap.size ≤ gy
 be : Below w0.heap.size w0 W
theorem rows_ne {W : World} {g g' : Nat} {cs cs' : Array Value} {t t' : TypeId} (h : W.heap[g]? = some (.cells cs t (0, 0))) (h' : W.heap[g']? = some (.cells cs' t' (0, 0))) (hne : t ≠ t') : g ≠ g' := fun e => by
 subst e
 rw [h] at h'
 simp only [Option.some.injEq, Obj.cells.injEq] at h'
 exact hne h'.2.1
theorem fzc_of {W : World} {t : Nat} {cs : Array Value} {ty : TypeId} (R : W.heap[t]? = some (.cells cs ty (0, 0))) (j : Nat) : W.frozen? ⟨t, j, none⟩ = false := by simp [World.frozen?, R]
set_option maxHeartbeats 4000000 in
theorem own_any (AN AK AP AT : Option Addr) (nN cN n cK nP cP nT cT : Nat) (s : Nat) (A7 A8 : Option Addr) (c7 c8 : Nat) (rs : List Nat) (zs : List Int) (w : World) (hn : n ≤ 24) (hU : U32sAt w (.slice A7 rs.length c7) rs) (hI : IntsAt w (.slice A8 zs.length c8) zs) (h1 : rs.length ≤ n) (h2 : zs.length ≤ n) :
  Calls Tryz.prog 52 #[chV AN AK AP AT nN cN n cK nP cP nT cT, .agg #[.int .u32 s, .slice A7 rs.length c7, .slice A8 zs.length c8]] w (OwnTo n s (padL n rs) (padI n zs) w) := by
 obtain ⟨r0, r1, r2, hb01⟩ := rows3 w (.cells #[.slice AN nN cN, .slice AK n cK, .slice AP nP cP, .slice AT nT cT] 30) (.cells #[.int .u32 s, .slice A7 rs.length c7, .slice A8 zs.length c8] 40) (.cells #[.int .u32 0, .slice none 0 0, .slice none 0 0] 40)
 have R0 : (((w.alloc (.cells #[.slice AN nN cN, .slice AK n cK, .slice AP nP cP, .slice AT nT cT] 30)).alloc (.cells #[.int .u32 s, .slice A7 rs.length c7, .slice A8 zs.length c8] 40)).alloc (.cells #[.int .u32 0, .slice none 0 0, .slice none 0 0] 40)).heap[w.heap.size]? = _ := r0
 have R1 : (((w.alloc (.cells #[.slice AN nN cN, .slice AK n cK, .slice AP nP cP, .slice AT nT cT] 30)).alloc (.cells #[.int .u32 s, .slice A7 rs.length c7, .slice A8 zs.length c8] 40)).alloc (.cells #[.int .u32 0, .slice none 0 0, .slice none 0 0] 40)).heap[w.heap.size + 1]? = _ := r1
 have R2 : (((w.alloc (.cells #[.slice AN nN cN, .slice AK n cK, .slice AP nP cP, .slice AT nT cT] 30)).alloc (.cells #[.int .u32 s, .slice A7 rs.length c7, .slice A8 zs.length c8] 40)).alloc (.cells #[.int .u32 0, .slice none 0 0, .slice none 0 0] 40)).heap[w.heap.size + 2]? = _ := r2
 have HB01 : Hid (Below w.heap.size w (((w.alloc (.cells #[.slice AN nN cN, .slice AK n cK, .slice AP nP cP, .slice AT nT cT] 30)).alloc (.cells #[.int .u32 s, .slice A7 rs.length c7, .slice A8 zs.length c8] 40)).alloc (.cells #[.int .u32 0, .slice none 0 0, .slice none 0 0] 40))) := ((((Below.refl _ _).alloc (Nat.le_refl _) _).alloc (by simp) _).alloc (by simp; omega) _)
 clear r0 r1 r2 hb01
 go_enter Tryz.func52, Tryz.ntmps52
 go_upto_region 1 with fail
 generalize ((w.alloc (.cells #[.slice AN nN cN, .slice AK n cK, .slice AP nP cP, .slice AT nT cT] 30)).alloc (.cells #[.int .u32 s, .slice A7 rs.length c7, .slice A8 zs.length c8] 40)).alloc (.cells #[.int .u32 0, .slice none 0 0, .slice none 0 0] 40) = w0 at *
 have HU := Lib.hid (hU.below HB01.out)
 have HI := Lib.hid (hI.below HB01.out)
 have hlt2 : w.heap.size + 2 < w0.heap.size := (Array.getElem?_eq_some_iff.1 R2).1
 have hlt0 : w.heap.size < w0.heap.size := by omega
 have hlt1 : w.heap.size + 1 < w0.heap.size := by omega
 clear hU hI
 have hmU : ∀ W, (Instr.makeSlice 38 (.int .i64 n) (.int .i64 n)).run Tryz.prog W = .ok (.slice (some ⟨W.heap.size, 0, none⟩) n n) (W.alloc (.cells (Array.replicate n (Value.int .u32 0)) 37)) := mk_u32 n (by omega)
 have hmI : ∀ W, (Instr.makeSlice 22 (.int .i64 n) (.int .i64 n)).run Tryz.prog W = .ok (.slice (some ⟨W.heap.size, 0, none⟩) n n) (W.alloc (.cells (Array.replicate n (Value.int .i64 0)) 3)) := mk_int n (by omega)
 have q1 := cell_of_row _ _ 1 _ _ _ R0
 have p0 := cell_of_row _ _ 0 _ _ _ R1
 go_cut [5] (fun p wx => ∃ gP gS gy, p = .pointer (some ⟨gy, 0, none⟩) ∧ OwnW w0 wx n s gP gS gy)
 case first =>
  go_region
  all_goals
   go_wp2_with fail
   go_meet
   first
    | exact ⟨_, _, _, rfl, (rows3 _ _ _ _).1, (rows3 _ _ _ _).2.1, (rows3 _ _ _ _).2.2.1, ⟨by omega, by omega, by omega⟩, (rows3 _ _ _ _).2.2.2⟩
    | exact ⟨_, _, _, rfl, (rows3 _ _ _ _).1, (rows3 _ _ _ _).2.2.1, (rows3 _ _ _ _).2.1, ⟨by omega, by omega, by omega⟩, (rows3 _ _ _ _).2.2.2⟩
    | exact ⟨_, _, _, rfl, (rows3 _ _ _ _).2.1, (rows3 _ _ _ _).1, (rows3 _ _ _ _).2.2.1, ⟨by omega, by omega, by omega⟩, (rows3 _ _ _ _).2.2.2⟩
    | exact ⟨_, _, _, rfl, (rows3 _ _ _ _).2.2.1, (rows3 _ _ _ _).1, (rows3 _ _ _ _).2.1, ⟨by omega, by omega, by omega⟩, (rows3 _ _ _ _).2.2.2⟩
    | exact ⟨_, _, _, rfl, (rows3 _ _ _ _).2.1, (rows3 _ _ _ _).2.2.1, (rows3 _ _ _ _).1, ⟨by omega, by omega, by omega⟩, (rows3 _ _ _ _).2.2.2⟩
    | exact ⟨_, _, _, rfl, (rows3 _ _ _ _).2.2.1, (rows3 _ _ _ _).2.1, (rows3 _ _ _ _).1, ⟨by omega, by omega, by omega⟩, (rows3 _ _ _ _).2.2.2⟩
 case rest =>
  obtain ⟨gP, gS, gy, rfl, HW⟩ := hcut
  have hPS := rows_ne HW.rP HW.rS (by decide)
  have hPY := rows_ne HW.rP HW.rY (by decide)
  have hSY := rows_ne HW.rS HW.rY (by decide)
  have hlo := HW.lo
  have R1c := (HW.be.block _ hlt1).trans R1
  have R2c := (HW.be.block _ hlt2).trans R2
  have hbe := HW.be.size
  have HUc := HU.out.below HW.be
  have HIc := HI.out.below HW.be
  have HBc := Lib.hid (below_then HB01.out HW.be HB01.out.size)
  have y1 := cell_of_row _ _ 1 _ _ _ HW.rY
  have y2 := cell_of_row _ _ 2 _ _ _ HW.rY
  have x1 := cell_of_row _ _ 1 _ _ _ R1c
  have x2 := cell_of_row _ _ 2 _ _ _ R1c
  have hsz1 : (Tryz.prog.info? 37).map (·.size) = some 1 := by kernel_rfl
  have hsz2 : (Tryz.prog.info? 3).map (·.size) = some 1 := by kernel_rfl
  have rP : wc.heap[gP]? = some (.cells (List.replicate n (Value.int .u32 0)).toArray 37 (0, 0)) := by rw [List.toArray_replicate]; exact HW.rP
  have rS : wc.heap[gS]? = some (.cells (List.replicate n (Value.int .i64 0)).toArray 3 (0, 0)) := by rw [List.toArray_replicate]; exact HW.rS
  have rY := HW.rY
  have hmn1 : (ucl rs).length = Nat.min rs.length n := by rw [ucl_len]; exact (Nat.min_eq_left h1).symm
  have hmn2 : (icells zs).length = Nat.min zs.length n := by rw [show (icells zs).length = zs.length by simp [icells]]; exact (Nat.min_eq_left h2).symm
  have HS1 := Lib.hid (u32s_src HUc)
  have HS2 := Lib.hid (fun X (hX : IntsAt X (.slice A8 zs.length c8) zs) => ints_src hX)
  have hgPl := (Array.getElem?_eq_some_iff.1 rP).1
  have hgSl := (Array.getElem?_eq_some_iff.1 rS).1
  have hgYl := (Array.getElem?_eq_some_iff.1 rY).1
  have HI3 : Hid (∀ X, wc.grownBy X (some gP) → IntsAt X (.slice A8 zs.length c8) zs) := fun X hX => by
   have hB : Below w0.heap.size w0 X := HW.be.grown hX HW.be.size (fun g e => by cases e; omega)
   exact HI.out.below hB
  clear HW R0 R1 R2 q1 p0 HU HI hmU hmI HUc HIc
  go_upto_region 3 with ((with_reducible show wpList _ _ _ _ _ _); refine wpList_copy_g (o := ⟨some 23, _, _, _, _, _⟩) rfl _ _ _ _ rfl 37 Tryz.underlying38 hsz1 _ _ _ _ _ _ rfl rfl gP (List.replicate n (Value.int .u32 0)) 37 rP (ucl rs) hmn1 (fun hp => ⟨rfl, HS1.out hp⟩) (by rw [ucl_len, List.length_replicate]; omega) (ucl_one rs) ?_; intro w3 HG3 hg3)
  have z1 := (hg3.out.block gS hgSl (by simpa using fun e => hPS e.symm)).trans rS
  have z2 := (hg3.out.block gy hgYl (by simpa using fun e => hPY e.symm)).trans rY
  have z3 := (hg3.out.block (w.heap.size + 1) (by omega) (by simp; omega)).trans R1c
  have z4 := (hg3.out.block (w.heap.size + 2) (by omega) (by simp; omega)).trans R2c
  have hI3 := HI3.out _ hg3.out
  have hs3 := hg3.out.size
  have HB3 := Lib.hid (HBc.out.grown hg3.out HBc.out.size (fun g e => by cases e; omega))
  have HS3 := Lib.hid (HS2.out _ hI3)
  clear y1 y2 x1 x2 rS rY R1c R2c HI3 HS1 HS2 hI3
  have y1 := cell_of_row _ _ 1 _ _ _ z2
  have y2 := cell_of_row _ _ 2 _ _ _ z2
  have x1 := cell_of_row _ _ 1 _ _ _ z3
  have x2 := cell_of_row _ _ 2 _ _ _ z3
  go_upto_region 4 with ((with_reducible show wpList _ _ _ _ _ _); refine wpList_copy_g (o := ⟨some 28, _, _, _, _, _⟩) rfl _ _ _ _ rfl 3 Tryz.underlying22 hsz2 _ _ _ _ _ _ rfl rfl gS (List.replicate n (Value.int .i64 0)) 3 z1 (icells zs) hmn2 (fun hp => ⟨rfl, HS3.out hp⟩) (by rw [show (icells zs).length = zs.length by simp [icells], List.length_replicate]; omega) (icells_one zs) ?_; intro w5 HG5 hg5)
  have v2 := (hg5.out.block gy (by omega) (by simpa using fun e => hSY e.symm)).trans z2
  have v4 := (hg5.out.block (w.heap.size + 2) (by omega) (by simp; omega)).trans z4
  have v5 := (hg5.out.block gP (by omega) (by simpa using hPS)).trans HG3.out
  have HB5 := Lib.hid (HB3.out.grown hg5.out HB3.out.size (fun g e => by cases e; omega))
  have HG5' := Lib.hid HG5.out
  have HG3' := Lib.hid v5
  have hs5 := hg5.out.size
  clear y1 y2 x1 x2 z1 z2 z3 z4 hg5 hg3 HS3 v5
  have y0 := cell_of_row _ _ 0 _ _ _ v2
  have y1 := cell_of_row _ _ 1 _ _ _ v2
  have y2 := cell_of_row _ _ 2 _ _ _ v2
  have d0 := cell_of_row _ _ 0 _ _ _ v4
  have d1 := cell_of_row _ _ 1 _ _ _ v4
  have d2 := cell_of_row _ _ 2 _ _ _ v4
  have f0 := fzc_of v4 0
  have f1 := fzc_of v4 1
  have f2 := fzc_of v4 2
  go_wp2
  have e := heap_set (j := 2) (heap_set (j := 1) (heap_set (j := 0) v4 (.int .u32 s)) (.slice (some ⟨gP, 0, none⟩) n n)) (.slice (some ⟨gS, 0, none⟩) n n)
  have ho : ∀ g, g < w5.heap.size → g ≠ w.heap.size + 2 → (((w5.setCell ⟨w.heap.size + 2, 0, none⟩ (.int .u32 s)).setCell ⟨w.heap.size + 2, 1, none⟩ (.slice (some ⟨gP, 0, none⟩) n n)).setCell ⟨w.heap.size + 2, 2, none⟩ (.slice (some ⟨gS, 0, none⟩) n n)).heap[g]? = w5.heap[g]? := fun g hg hne => by
   rw [(grown_setCell _ _ _ _).block g (by simpa [World.setCell] using hg) (by simpa using hne), (grown_setCell _ _ _ _).block g (by simpa [World.setCell] using hg) (by simpa using hne), (grown_setCell _ _ _ _).block g hg (by simpa using hne)]
  (try simp only [Exit.inBlock, Exit.then])
  refine bodyPost_ret (results_cell_row rfl _ _ (w.heap.size + 2) _ _ _ _ rfl (by simpa using e) Tryz.underlying40 rfl (by kernel_rfl)) rfl ?_
  refine ⟨?_, gP, gS, rfl, ⟨by omega, by omega⟩, ?_, ?_⟩
  ·exact set_below (set_below (set_below HB5.out HB5.out.size (by omega)) (by simpa [World.setCell] using HB5.out.size) (by omega)) (by simpa [World.setCell] using HB5.out.size) (by omega)
  ·rw [ho gP (by omega) (by omega), HG3'.out]
   unfold padL ucl
   simp
  ·rw [ho gS (by omega) (by omega), HG5'.out]
   unfold padI icells
   simp
end Go.Proofs.YtaoinedndnleoaaGreat
