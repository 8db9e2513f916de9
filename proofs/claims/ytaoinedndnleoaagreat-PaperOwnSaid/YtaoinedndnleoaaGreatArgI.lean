import Derived.Test.YtaoinedndnleoaaGreatRows
import Derived.WalkKit
import Derived.ProofKit
import Derived.OpenShut
import Derived.BigQuiet
import Derived.BigCall
import Derived.Deep.QuietTactic
import Derived.Lib.Hide
import Derived.Lib.Strings
import Derived.Outline
import Derived.Below
import Derived.Laws.OwnMore
import Derived.OwnWalk
import Derived.Deep.DeepMust
import Derived.Deep.DeepCutAuto
import Derived.Deep.RegionWith
import Derived.StillTailTactics
import Derived.Lib.Bytealg
import Derived.Laws.Externs
import Derived.WalkSpells
import Derived.Laws.DeepStrings4
import Derived.Maps.OwnSet
import Derived.Carry
import Derived.SizedLaws
namespace Go.Proofs.YtaoinedndnleoaaGreat
set_option maxRecDepth 100000
open Go.ChangeShapes Go.WideShapes Go.ChangeAt Go.RowKit
theorem ret_int {k : IntKind} {a b : Int} (h : a = b) : Ending.returned (.int k a) = .returned (.int k b) := by rw [h]
theorem ret_bool {a b : Bool} (h : a = b) : Ending.returned (.bool a) = .returned (.bool b) := by rw [h]
theorem ret_str {a b : ByteArray} (h : a = b) : Ending.returned (.string a) = .returned (.string b) := by rw [h]
theorem bor_cases {a : Bool} : a = true ∨ a = false := by cases a <;> simp
def bs (l : List UInt8) : ByteArray := ⟨l.toArray⟩
theorem bs_list (s : ByteArray) : bs s.data.toList = s := rfl
theorem list_bs (l : List UInt8) : (bs l).data.toList = l := rfl
theorem size_list (s : ByteArray) : s.data.toList.length = s.size := rfl
theorem size_bs (l : List UInt8) : (bs l).size = l.length := rfl
theorem bs_append (l m : List UInt8) : bs l ++ bs m = bs (l ++ m) := by
 apply ByteArray.ext
 simp [bs]
theorem ext_bs {s t : ByteArray} (h : s.data.toList = t.data.toList) : s = t := by
 rw [← bs_list s, h, bs_list]
theorem extract_bs (s : ByteArray) (a b : Nat) : s.extract a b = bs ((s.data.toList.drop a).take (b - a)) := by
 apply ext_bs
 rw [list_bs, Lib.extract_data]
theorem drop_cons (s : ByteArray) (k : Nat) (h : k < s.size) : s.data.toList.drop k = s[k] :: s.data.toList.drop (k + 1) :=
 List.drop_eq_getElem_cons (by simpa using h)
theorem drop_end (s : ByteArray) (k : Nat) (h : s.size ≤ k) : s.data.toList.drop k = [] := List.drop_of_length_le (by simpa using h)
theorem cells_new (w : World) (l : List Value) (e : TypeId) : ∀ j u, l[j]? = some u → (w.alloc (.cells l.toArray e)).cell? ((⟨w.heap.size, 0, none⟩ : Addr).add j) = some u := by
 intro j u hu
 have hadd : (⟨w.heap.size, 0, none⟩ : Addr).add j = ⟨w.heap.size, j, none⟩ := by unfold Addr.add; split <;> simp_all
 rw [hadd, cell_of_row _ _ j l.toArray e (0, 0) (heap_alloc_new w _)]
 simpa using hu
theorem below_then {B : Nat} {a w w1 : World} (h : Below B a w) (hb : Below w.heap.size w w1) (hB : B ≤ w.heap.size) : Below B a w1 := h.trans (hb.mono hB)
theorem below_drewN {B : Nat} {a w : World} (h : Below B a w) (n : Nat) : Below B a (w.drewN n) := ⟨h.os, h.tape, h.output, h.size, h.block⟩
theorem below_drew {B : Nat} {a w : World} (h : Below B a w) : Below B a w.drew := ⟨h.os, h.tape, h.output, h.size, h.block⟩
theorem own_form {w : World} {base e size n : Nat} {v : Value} {xs : List Value} (h : w.ownsRow base e size v n xs) (hn : 0 < n) :
  ∃ g cap, v = .slice (some ⟨g, 0, none⟩) n cap ∧ base ≤ g ∧ g < w.heap.size ∧ n ≤ cap ∧ ∀ j u, xs[j]? = some u → w.cell? ⟨g, j, none⟩ = some u := by
 rcases h.2 with ⟨_, h0⟩ | ⟨g, cap, cur, hv, hb, hg, hc, _⟩
 ·omega
 ·refine ⟨g, cap, hv, hb, (Array.getElem?_eq_some_iff.1 hg).1, hc, fun j u hu => ?_⟩
  have := h.cells (g := g) (by rw [hv]; rfl) j u hu
  have hadd : (⟨g, 0, none⟩ : Addr).add j = ⟨g, j, none⟩ := by unfold Addr.add; split <;> simp_all
  rwa [hadd] at this
theorem own_slice {w : World} {base e size n : Nat} {v : Value} {xs : List Value} (h : w.ownsRow base e size v n xs) : ∃ A cap, v = .slice A n cap := by
 rcases h.2 with ⟨hv, h0⟩ | ⟨g, cap, cur, hv, _⟩
 ·exact ⟨none, 0, by rw [hv, h0]⟩
 ·exact ⟨_, _, hv⟩
theorem own_below {w w' : World} {base e size n : Nat} {v : Value} {xs : List Value} (h : w.ownsRow base e size v n xs) (hb : Below w.heap.size w w') (_ : base ≤ w.heap.size) : w'.ownsRow base e size v n xs :=
 h.kept (row := none) ⟨hb.os, hb.tape, hb.output, hb.size, fun k hk _ => hb.block k hk⟩ (by cases v.ownBlock <;> simp)
theorem own_cap {w : World} {base e size n c : Nat} {A : Option Addr} {xs : List Value} (h : w.ownsRow base e size (.slice A n c) n xs) : n ≤ c := by
 rcases h.2 with ⟨hv, h0⟩ | ⟨g, cap', cur, hv, _, _, hc, _⟩
 ·omega
 ·injection hv with _ _ hcc; omega
theorem alloc_at {W : World} {n : Nat} (h : n = W.heap.size) (o : Obj) : (W.alloc o).heap[n]? = some o := by subst h; exact heap_alloc_new _ _
theorem grown_drewN (w : World) (n : Nat) (r : Option Nat) : w.grownBy (w.drewN n) r := ⟨rfl, rfl, rfl, Nat.le_refl _, fun _ _ _ => rfl⟩
theorem grown_setCell (w : World) (b j : Nat) (v : Value) : w.grownBy (w.setCell ⟨b, j, none⟩ v) (some b) :=
 ⟨rfl, rfl, rfl, by simp [World.setCell], fun k hk hne => Below.heap_setCell _ _ _ _ (by simpa using hne)⟩
theorem heap_set {w : World} {b j : Nat} {cs : Array Value} {t : TypeId} {f : Nat × Nat} (h : w.heap[b]? = some (.cells cs t f)) (v : Value) : (w.setCell ⟨b, j, none⟩ v).heap[b]? = some (.cells (cs.setIfInBounds j v) t f) := by
 simp [World.setCell, Array.getElem?_modify, h]
def within (v n : Int) : Int := if n < 1 then 0 else v % n
theorem within_bd (v n : Int) (h : 1 ≤ n) : 0 ≤ within v n ∧ within v n < n := by
 unfold within; rw [if_neg (by omega)]; exact ⟨Int.emod_nonneg _ (by omega), Int.emod_lt_of_pos _ (by omega)⟩
theorem Within_any (v n : Int) (w : World) (hv : (Lit.int .i64 v).wf = true) (h1 : 1 ≤ n) (h2 : n ≤ 4611686018427387904) :
  Calls Tryz.prog 11 #[.int .i64 v, .int .i64 n] w fun e w' => e = .returned (.int .i64 (within v n)) ∧ w = w' := by
 have hb := bounds_i64 hv
 have h0 : ¬ n < 1 := by omega
 have hw := within_bd v n h1
 have hwe : within v n = v % n := by unfold within; rw [if_neg h0]
 rw [hwe] at hw
 by_cases hx : 0 ≤ v
 ·have HT : Hid (v.tmod n = within v n) := by show _ = _; rw [hwe, Int.tmod_eq_emod_of_nonneg hx]
  clear hwe
  go_enter Tryz.func11, Tryz.ntmps11
  go_wp2
  go_ret
  refine ⟨ret_int ?_, rfl⟩
  rw [← HT.out, Int.tmod_eq_emod_of_nonneg hx]
 ·by_cases hz : v % n = 0
  ·have ht : v.tmod n = 0 := by
    have := Int.dvd_of_emod_eq_zero hz
    exact Int.tmod_eq_zero_of_dvd this
   rw [hz] at hwe
   have HW := Lib.hid hwe
   clear hwe hz hw
   go_enter Tryz.func11, Tryz.ntmps11
   go_wp2
   go_ret
   refine ⟨ret_int ?_, rfl⟩
   rw [HW.out]
  ·have ht : v.tmod n = v % n - n := by
    rw [Int.tmod_eq_emod, if_neg]
    ·congr 1; omega
    ·rintro (h | h)
     ·exact hx h
     ·exact hz (Int.emod_eq_zero_of_dvd h)
   generalize hr : v % n = r at *
   have ht1 : v.tmod n < 0 := by omega
   have ht2 : -n ≤ v.tmod n := by omega
   have HT : Hid (v.tmod n + n = within v n) := by show _ = _; rw [hwe, ht]; omega
   clear hwe hr ht
   go_enter Tryz.func11, Tryz.ntmps11
   go_wp2
   go_ret
   exact ⟨ret_int HT.out, rfl⟩
def digB (c : Int) : Bool := decide (48 ≤ c) && decide (c ≤ 57)
def nameB (c : Int) : Bool := (decide (97 ≤ c) && decide (c ≤ 122)) || digB c || (c == 95) || (c == 45)
theorem digit_any (c : Int) (w : World) : Calls Tryz.prog 115 #[.int .u8 c] w fun e w' => e = .returned (.bool (digB c)) ∧ w = w' := by
 go_enter Tryz.func115, Tryz.ntmps115
 go_wp2
 all_goals (go_ret; refine ⟨ret_bool ?_, rfl⟩)
 all_goals (grind [digB])
theorem nameByte_any (c : Int) (w : World) : Calls Tryz.prog 79 #[.int .u8 c] w fun e w' => e = .returned (.bool (nameB c)) ∧ w = w' := by
 go_enter Tryz.func79, Tryz.ntmps79
 go_wp2_with (go_at_call 115; refine (digit_any _ _).mono ?_; rintro e w' ⟨rfl, rfl⟩)
 all_goals (go_ret; refine ⟨ret_bool ?_, rfl⟩)
 all_goals (grind [nameB])
def upTo (c : UInt8) (l : List UInt8) : List UInt8 := l.takeWhile (· != c)
end Go.Proofs.YtaoinedndnleoaaGreat
namespace Go.Proofs.YtaoinedndnleoaaGreat
set_option maxRecDepth 100000
def badCol : List UInt8 → Nat → Nat
 | [], _ => 0
 | b :: r, i => if b.toNat < 32 ∨ 126 < b.toNat then i + 1 else badCol r (i + 1)
def word (l : List UInt8) : List UInt8 := upTo 32 l
theorem word_le (l : List UInt8) : (word l).length ≤ l.length := (List.takeWhile_sublist _).length_le
theorem word_nil_blank (r : List UInt8) : word (32 :: r) = [] := by simp [word, upTo]
theorem word_cons {b : UInt8} (h : b ≠ 32) (r : List UInt8) : word (b :: r) = b :: word r := by simp [word, upTo, h]
theorem word_split (l : List UInt8) : l = word l ++ l.drop (word l).length ∧ (l.drop (word l).length = [] ∨ ∃ r, l.drop (word l).length = 32 :: r) := by
 induction l with
 | nil => exact ⟨rfl, .inl rfl⟩
 | cons b r ih =>
  by_cases h : b = 32
  ·subst h; rw [word_nil_blank]; exact ⟨rfl, .inr ⟨r, rfl⟩⟩
  ·rw [word_cons h]
   refine ⟨?_, ?_⟩
   ·conv => lhs; rw [ih.1]
    simp
   ·simpa using ih.2
def toks (l : List UInt8) (c : Nat) : List (Nat × List UInt8) :=
 match l with
 | [] => []
 | b :: r => if b = 32 then toks r (c + 1) else (c, word (b :: r)) :: toks ((b :: r).drop (word (b :: r)).length) (c + (word (b :: r)).length)
termination_by l.length
decreasing_by
 ·simp
 ·rename_i h
  rw [word_cons h]; simp; omega
theorem toks_nil (c : Nat) : toks [] c = [] := by rw [toks]
theorem toks_blank (r : List UInt8) (c : Nat) : toks (32 :: r) c = toks r (c + 1) := by rw [toks]; simp
theorem toks_word {l : List UInt8} (h : word l ≠ []) (c : Nat) : toks l c = (c, word l) :: toks (l.drop (word l).length) (c + (word l).length) := by
 cases l with
 | nil => exact absurd rfl h
 | cons b r =>
  have hb : b ≠ 32 := by intro e; subst e; exact h (word_nil_blank r)
  rw [toks, if_neg hb]
theorem toks_step (l : List UInt8) (c : Nat) : toks l c = (if (word l).length = 0 then [] else [(c, word l)]) ++ toks (l.drop ((word l).length + 1)) (c + (word l).length + 1) := by
 have hs := (word_split l).2
 have key : toks (l.drop (word l).length) (c + (word l).length) = toks (l.drop ((word l).length + 1)) (c + (word l).length + 1) := by
  rw [← List.drop_drop]
  rcases hs with h | ⟨r, h⟩
  ·rw [h]; simp [toks_nil]
  ·rw [h, toks_blank]; rfl
 by_cases h : (word l).length = 0
 ·have h0 : word l = [] := List.eq_nil_of_length_eq_zero h
  rw [if_pos h, List.nil_append, ← key, h0]; rfl
 ·rw [if_neg h, toks_word (fun e => h (by rw [e]; rfl)), key]; rfl
theorem toks_count (l : List UInt8) : ∀ c, 2 * (toks l c).length ≤ l.length + 1 := by
 suffices H : ∀ n (l : List UInt8), l.length ≤ n → ∀ c, 2 * (toks l c).length ≤ l.length + 1 from H l.length l (Nat.le_refl _)
 intro n
 induction n with
 | zero => intro l h c; have : l = [] := List.eq_nil_of_length_eq_zero (by omega); subst this; simp [toks_nil]
 | succ n ih =>
  intro l h c
  rw [toks_step]
  by_cases hw : (word l).length = 0
  ·rw [if_pos hw]
   have := ih (l.drop ((word l).length + 1)) (by simp; omega) (c + (word l).length + 1)
   simp at this ⊢; omega
  ·rw [if_neg hw]
   by_cases hl : (word l).length + 1 ≤ l.length
   ·have := ih (l.drop ((word l).length + 1)) (by simp; omega) (c + (word l).length + 1)
    simp at this ⊢; omega
   ·rw [List.drop_of_length_le (by omega), toks_nil]
    have := word_le l
    simp; omega
def partL (l : List UInt8) : List UInt8 := upTo 35 l
def badL (l : List UInt8) : Nat := badCol (partL l) 0
def wordsL (l : List UInt8) : List (Nat × List UInt8) := if badL l = 0 then toks (partL l) 1 else []
theorem partL_le (l : List UInt8) : (partL l).length ≤ l.length := (List.takeWhile_sublist _).length_le
def wcell (x : Nat × List UInt8) : List Go.Value := [.string (bs x.2), .int .i64 x.1]
def wcells (l : List (Nat × List UInt8)) : List Go.Value := l.flatMap wcell
theorem wcells_append (l m : List (Nat × List UInt8)) : wcells (l ++ m) = wcells l ++ wcells m := List.flatMap_append
def allB (p : Int → Bool) (l : List UInt8) : Bool := l.all fun b => p b.toNat
def nameL (l : List UInt8) : Bool := decide (1 ≤ l.length) && decide (l.length ≤ 12) && allB nameB l
def valL (l : List UInt8) : Nat := l.foldl (fun n b => n * 10 + (b.toNat - 48)) 0
def isNum (l : List UInt8) : Bool := decide (1 ≤ l.length) && decide (l.length ≤ 9) && !(l.head? == some 48 && decide (1 < l.length)) && allB digB l
theorem valL_snoc (l : List UInt8) (b : UInt8) : valL (l ++ [b]) = valL l * 10 + (b.toNat - 48) := by simp [valL]
theorem take_snoc (s : ByteArray) (k : Nat) (h : k < s.size) : s.data.toList.take (k + 1) = s.data.toList.take k ++ [s[k]] := by
 rw [List.take_succ_eq_append_getElem (by simpa using h)]; rfl
theorem allB_snoc (p : Int → Bool) (l : List UInt8) (b : UInt8) : allB p (l ++ [b]) = (allB p l && p b.toNat) := by simp [allB]
theorem valL_lt {l : List UInt8} (h : allB digB l = true) : valL l < 10 ^ l.length := by
 suffices H : ∀ (l : List UInt8), allB digB l = true → ∀ n m : Nat, n < 10 ^ m → l.foldl (fun n b => n * 10 + (b.toNat - 48)) n < 10 ^ (m + l.length) from by unfold valL; simpa using H l h 0 0 (by simp)
 intro l
 induction l with
 | nil => intro _ n m h; simpa using h
 | cons b r ih =>
  intro h n m hn
  simp only [allB, List.all_cons, Bool.and_eq_true] at h
  have hb : b.toNat ≤ 57 := by have := h.1; simp [digB] at this; omega
  rw [List.foldl_cons, List.length_cons, show m + (r.length + 1) = (m + 1) + r.length from by omega]
  exact ih h.2 _ _ (by rw [Nat.pow_succ]; omega)
theorem all_split (p : Int → Bool) (s : ByteArray) (k : Nat) (h : k < s.size) : allB p s.data.toList = (allB p (s.data.toList.take k) && (p s[k].toNat && allB p (s.data.toList.drop (k + 1)))) := by
 conv => lhs; rw [← List.take_append_drop k s.data.toList, drop_cons s k h]
 simp [allB]
end Go.Proofs.YtaoinedndnleoaaGreat
namespace Go.Proofs.YtaoinedndnleoaaGreat
set_option maxRecDepth 100000
open Go.ChangeShapes Go.WideShapes Go.ChangeAt Go.RowKit
theorem Name_any (s : ByteArray) (w : World) (hs : s.size ≤ maxLen) : Calls Tryz.prog 42 #[.string s] w fun e w' => e = .returned (.bool (nameL s.data.toList)) ∧ w = w' := by
 unfold maxLen at hs
 by_cases h1 : s.size < 1
 ·go_enter Tryz.func42, Tryz.ntmps42
  go_wp2
  go_ret
  refine ⟨ret_bool ?_, rfl⟩
  simp [nameL]; omega
 by_cases h2 : 12 < s.size
 ·go_enter Tryz.func42, Tryz.ntmps42
  go_wp2
  go_ret
  refine ⟨ret_bool ?_, rfl⟩
  simp [nameL]; omega
 have HN : Hid (nameL s.data.toList = allB nameB s.data.toList) := by
  show _ = _
  simp [nameL]; omega
 go_enter Tryz.func42, Tryz.ntmps42
 go_wp2
 go_loop [3] (fun i => ∃ k : Nat, k ≤ s.size ∧ i = .int .i64 k ∧ allB nameB (s.data.toList.take k) = true) (fun i => s.size - (intOf i).toNat)
 case atStart => exact ⟨0, Nat.zero_le _, rfl, rfl⟩
 case round =>
  obtain ⟨k, hk, rfl, hb⟩ := hrel
  have HB := Lib.hid hb
  clear hb
  by_cases hlt : k < s.size
  ·rcases bor_cases (a := nameB s[k].toNat) with hd | hd
   ·have HD := Lib.hid hd; clear hd
    go_wp2_with (go_at_call 79; refine (nameByte_any _ _).mono ?_; rintro e w' ⟨rfl, rfl⟩; rw [HD.out])
    go_round
    case rel => exact ⟨k + 1, by omega, by go_num, by rw [take_snoc s k hlt, allB_snoc, HB.out, HD.out]; rfl⟩
    case measure => simp [intOf]; omega
   ·have HD := Lib.hid hd; clear hd
    go_wp2_with (go_at_call 79; refine (nameByte_any _ _).mono ?_; rintro e w' ⟨rfl, rfl⟩; rw [HD.out])
    go_ret
    refine ⟨ret_bool ?_, rfl⟩
    rw [HN.out, all_split nameB s k hlt, HD.out]; simp
  ·go_wp2
   go_ret
   refine ⟨ret_bool ?_, rfl⟩
   rw [HN.out, ← HB.out, List.take_of_length_le (by simp; omega)]
theorem pow_le_9 {n k : Nat} (h : n < 10 ^ k) (hk : k ≤ 9) : n < 1000000000 :=
 Nat.lt_of_lt_of_le h (Nat.pow_le_pow_right (by omega) hk)
abbrev Tx := List UInt8
def scells (l : List Tx) : List Value := l.map fun t => .string (bs t)
theorem Tryz.infoString : (Tryz.prog.info? 9).map (fun i => (i.zero, i.size, i.bytes)) = some (some (.string ⟨#[]⟩), 1, 16) := by kernel_rfl
def OwnL (w : World) (base : Nat) (v : Value) (l : List Tx) : Prop := w.ownsRow base 9 1 v l.length (scells l)
theorem own_ne {w : World} {base b : Nat} {v : Value} {l : List Tx} (h : OwnL w base v l) (hb : b < base) : v.ownBlock = none ∨ v.ownBlock ≠ some b := by
 right; intro e; have := (h.lt b e).1; omega
theorem strSl_of {w : World} {base : Nat} {A : Option Addr} {c : Nat} {l : List Tx} (h : OwnL w base (.slice A l.length c) l) : l.length ≤ c ∧ ∀ j (hj : j < l.length), ∃ g, A = some ⟨g, 0, none⟩ ∧ base ≤ g ∧ g < w.heap.size ∧ w.cell? ⟨g, j, none⟩ = some (.string (bs l[j])) := by
 by_cases h0 : 0 < l.length
 ·obtain ⟨g, cap, hv, hb, hl, hc, hcells⟩ := own_form h h0
  cases hv
  exact ⟨hc, fun j hj => ⟨g, rfl, hb, hl, hcells j _ (by simp [scells, hj])⟩⟩
 ·exact ⟨by omega, fun j hj => by omega⟩
def ListAt (w : World) (A : Option Addr) (c : Nat) (l : List Tx) : Prop := l.length ≤ c ∧ ∀ j (hj : j < l.length), ∃ g, A = some ⟨g, 0, none⟩ ∧ g < w.heap.size ∧ w.cell? ⟨g, j, none⟩ = some (.string (bs l[j]))
theorem ListAt.below {w w' : World} {A : Option Addr} {c : Nat} {l : List Tx} (h : ListAt w A c l) (hb : Below w.heap.size w w') : ListAt w' A c l :=
 ⟨h.1, fun j hj => let ⟨g, e, hl, hc⟩ := h.2 j hj; ⟨g, e, Nat.lt_of_lt_of_le hl hb.size, (hb.cell hl).trans hc⟩⟩
theorem listAt_of {w : World} {base : Nat} {A : Option Addr} {c : Nat} {l : List Tx} (h : OwnL w base (.slice A l.length c) l) : ListAt w A c l :=
 ⟨(strSl_of h).1, fun j hj => let ⟨g, e, _, hl, hc⟩ := (strSl_of h).2 j hj; ⟨g, e, hl, hc⟩⟩
end Go.Proofs.YtaoinedndnleoaaGreat
namespace Go.Proofs.YtaoinedndnleoaaGreat
set_option maxRecDepth 100000
open Go.ChangeShapes Go.WideShapes Go.ChangeAt Go.RowKit Go.Maps Go.WideMaps Go.ChangeMaps
theorem makeMap_none (t k e : TypeId) (_ht : Tryz.prog.underlying t = some (.map k e)) (w : World) : (Instr.makeMap t none).run Tryz.prog w = .ok (.map (some w.heap.size)) (w.alloc (.map #[] 0)) := by
 simp [Instr.makeMap]
theorem Tryz.lawS : Keyed Tryz.prog 9 := string_keyed Tryz.underlying9
theorem Tryz.zeroU (w : World) : (zeroValue 153).run Tryz.prog w = .ok (.agg #[]) w := by kernel_rfl
def setL (seen : List Tx) : DataW Unit := setOf (.agg []) (seen.map Lit.string)
theorem has_setL (seen : List Tx) (t : Tx) : Maps.has (setL seen) (.string t) = decide (t ∈ seen) := by
 unfold setL
 rw [has_setOf _ _ _ (by intro x hx; simp at hx; obtain ⟨y, _, rfl⟩ := hx; exact trivial), List.any_map]
 induction seen with
 | nil => rfl
 | cons a l ih =>
  rw [List.any_cons, ih]
  simp only [Function.comp, Lit.sameKey, List.mem_cons]
  by_cases h : a = t
  ·subst h; simp
  ·have h' : ¬ t = a := fun e => h e.symm
   have hb : (a == t) = false := by simpa using h
   rw [hb]; simp [h']
theorem setL_snoc (seen : List Tx) (t : Tx) : setL (seen ++ [t]) = (setL seen).put (.string t) (.agg []) := by
 unfold setL; rw [List.map_append]; exact setOf_snoc _ _ _
end Go.Proofs.YtaoinedndnleoaaGreat
namespace Go.Proofs.YtaoinedndnleoaaGreat
set_option maxRecDepth 100000
open Go.ChangeShapes Go.WideShapes Go.ChangeAt Go.RowKit
end Go.Proofs.YtaoinedndnleoaaGreat
namespace Go.Proofs.YtaoinedndnleoaaGreat
set_option maxRecDepth 100000
structure St where
 k : Nat
 m : Bool
def pk (T : List Tx) (s : St) : Tx := T[s.k]?.getD []
def tk (f : Bool) (s : St) : St := if s.m || !f then ⟨s.k, s.m || !f⟩ else ⟨s.k + 1, false⟩
theorem tk_true {s : St} (h : s.m = false) : tk true s = ⟨s.k + 1, false⟩ := by simp [tk, h]
theorem tk_false (s : St) : tk false s = ⟨s.k, true⟩ := by simp [tk]
theorem tk_bad {s : St} (h : s.m = true) (f : Bool) : tk f s = ⟨s.k, true⟩ := by simp [tk, h]
theorem pk_lt {T : List Tx} {s : St} (h : pk T s ≠ []) : s.k < T.length := by
 by_cases h1 : s.k < T.length
 ·exact h1
 ·exact absurd (by unfold pk; rw [List.getElem?_eq_none (by omega)]; rfl) h
theorem pk_at {T : List Tx} {s : St} (h : s.k < T.length) : pk T s = T[s.k] := by unfold pk; rw [List.getElem?_eq_getElem h]; rfl
theorem pk_end {T : List Tx} {s : St} (h : T.length ≤ s.k) : pk T s = [] := by unfold pk; rw [List.getElem?_eq_none h]; rfl
theorem tk_le {T : List Tx} {s : St} {f : Bool} (h : s.k ≤ T.length) (hf : f = true → pk T s ≠ []) : (tk f s).k ≤ T.length := by
 unfold tk; split
 ·exact h
 ·rename_i h1
  have : f = true := by cases f <;> simp_all
  have := pk_lt (hf this)
  show s.k + 1 ≤ _; omega
theorem nameL_ne {l : Tx} (h : nameL l = true) : l ≠ [] := by rintro rfl; simp [nameL] at h
theorem isNum_ne {l : Tx} (h : isNum l = true) : l ≠ [] := by rintro rfl; simp [isNum] at h
def fixedP (T : List Tx) (x : Tx) (s : St) : St := tk (pk T s == x) s
def nameP (T : List Tx) (s : St) : Tx × St := (pk T s, tk (nameL (pk T s)) s)
def numV (t : Tx) : Int := if isNum t then (valL t : Int) else 0
def numberP (T : List Tx) (s : St) : Int × St := (numV (pk T s), tk (isNum (pk T s)) s)
def idx (tbl : List Tx) (x : Tx) (i : Int) : Int := match tbl with
 | [] => -1
 | t :: r => if t = x then i else idx r x (i + 1)
def choiceP (T : List Tx) (tbl : List Tx) (s : St) : Int × St := (idx tbl (pk T s) 0, tk (decide (0 < idx tbl (pk T s) 0)) s)
def optionP (T : List Tx) (x : Tx) (s : St) : Tx × St := if pk T s = x then nameP T (tk true s) else ([], s)
def fromToP (T : List Tx) (s : St) : Tx × Tx × St :=
 let s1 := fixedP T [102, 114, 111, 109] s
 let (f, s2) := nameP T s1
 let s3 := fixedP T [116, 111] s2
 let (t, s4) := nameP T s3
 (f, t, s4)
def namesP (T : List Tx) (least : Nat) (acc : List Tx) (s : St) : Nat → List Tx × St
 | 0 => (acc, s)
 | n + 1 => if s.m = false ∧ (acc.length < least ∨ s.k < T.length) then namesP T least (acc ++ [(nameP T s).1]) (nameP T s).2 n else (acc, s)
structure Ru where
 kind : Int
 name : Tx := []
 list : List Tx := []
 n : Int := 0
 m : Int := 0
 from_ : Tx := []
 to_ : Tx := []
 by_ : Tx := []
 task : Tx := []
 in_ : Tx := []
def kindT : List Tx := [[], [114, 111, 108, 101], [117, 115, 101, 114], [112, 101, 114, 109], [115, 115, 100], [100, 115, 100], [101, 120, 99, 108, 117, 115, 105, 118, 101], [108, 101, 110, 100], [115, 116, 97, 116, 101], [111, 110], [97, 117, 116, 111], [97, 102, 116, 101, 114]]
def stateT : List Tx := [[], [112, 108, 97, 105, 110], [97, 108, 108], [112, 97, 115, 116], [100, 101, 101, 112]]
def roleP (T : List Tx) (s : St) : Ru × St :=
 if pk T (nameP T s).2 = [62] then ({ kind := 1, name := (nameP T s).1, list := (namesP T 1 [] (tk true (nameP T s).2) (T.length + 1)).1 }, (namesP T 1 [] (tk true (nameP T s).2) (T.length + 1)).2)
 else ({ kind := 1, name := (nameP T s).1 }, (nameP T s).2)
def userP (T : List Tx) (kd : Int) (s : St) : Ru × St :=
 ({ kind := kd, name := (nameP T s).1, list := (namesP T 0 [] (nameP T s).2 (T.length + 1)).1 }, (namesP T 0 [] (nameP T s).2 (T.length + 1)).2)
def ssdP (T : List Tx) (kd : Int) (s : St) : Ru × St :=
 ({ kind := kd, n := (numberP T s).1, list := (namesP T 2 [] (numberP T s).2 (T.length + 1)).1 }, (namesP T 2 [] (numberP T s).2 (T.length + 1)).2)
def exclP (T : List Tx) (s : St) : Ru × St := ({ kind := 6, list := (namesP T 2 [] s (T.length + 1)).1 }, (namesP T 2 [] s (T.length + 1)).2)
def lendP (T : List Tx) (s : St) : Ru × St :=
 let a := nameP T s
 let b := numberP T a.2
 let c := numberP T b.2
 ({ kind := 7, name := a.1, n := b.1, m := c.1 }, c.2)
def stateP (T : List Tx) (s : St) : Ru × St :=
 let a := nameP T s
 let b := choiceP T stateT a.2
 let c := optionP T [105, 110] b.2
 ({ kind := 8, name := a.1, n := b.1, in_ := c.1 }, c.2)
def onP (T : List Tx) (s : St) : Ru × St :=
 let a := nameP T s
 let b := fromToP T a.2
 let c := optionP T [98, 121] b.2.2
 let d := optionP T [116, 97, 115, 107] c.2
 ({ kind := 9, name := a.1, from_ := b.1, to_ := b.2.1, by_ := c.1, task := d.1 }, d.2)
def autoP (T : List Tx) (s : St) : Ru × St := ({ kind := 10, from_ := (fromToP T s).1, to_ := (fromToP T s).2.1 }, (fromToP T s).2.2)
def afterP (T : List Tx) (s : St) : Ru × St :=
 let a := numberP T s
 let b := fromToP T a.2
 ({ kind := 11, n := a.1, from_ := b.1, to_ := b.2.1 }, b.2.2)
def bodyP (T : List Tx) (c : Int × St) : Ru × St :=
 if c.1 = 1 then roleP T c.2
 else if c.1 = 2 ∨ c.1 = 3 then userP T c.1 c.2
 else if c.1 = 4 ∨ c.1 = 5 then ssdP T c.1 c.2
 else if c.1 = 6 then exclP T c.2
 else if c.1 = 7 then lendP T c.2
 else if c.1 = 8 then stateP T c.2
 else if c.1 = 9 then onP T c.2
 else if c.1 = 10 then autoP T c.2
 else if c.1 = 11 then afterP T c.2
 else ({ kind := c.1 }, c.2)
def ruleP (T : List Tx) : Ru × St := bodyP T (choiceP T kindT ⟨0, false⟩)
theorem tk_ok {f : Bool} {s : St} (h : (tk f s).m = false) : s.m = false ∧ f = true ∧ tk f s = ⟨s.k + 1, false⟩ := by
 obtain ⟨a, m⟩ := s
 cases f <;> cases m <;> simp [tk] at h ⊢
theorem fixed_ok {T : List Tx} {x : Tx} {s : St} (h : (fixedP T x s).m = false) : s.m = false ∧ pk T s = x ∧ fixedP T x s = ⟨s.k + 1, false⟩ := by
 obtain ⟨a, b, c⟩ := tk_ok h; exact ⟨a, by simpa using b, c⟩
theorem name_ok {T : List Tx} {s : St} (h : (nameP T s).2.m = false) : s.m = false ∧ nameL (pk T s) = true ∧ (nameP T s).2 = ⟨s.k + 1, false⟩ := tk_ok h
theorem number_ok {T : List Tx} {s : St} (h : (numberP T s).2.m = false) : s.m = false ∧ isNum (pk T s) = true ∧ (numberP T s).2 = ⟨s.k + 1, false⟩ := tk_ok h
theorem choice_ok {T tbl : List Tx} {s : St} (h : (choiceP T tbl s).2.m = false) : s.m = false ∧ 0 < (choiceP T tbl s).1 ∧ (choiceP T tbl s).2 = ⟨s.k + 1, false⟩ := by
 obtain ⟨a, b, c⟩ := tk_ok h; exact ⟨a, of_decide_eq_true b, c⟩
theorem option_ok {T : List Tx} {x : Tx} {s : St} (h : (optionP T x s).2.m = false) : s.m = false ∧ ((pk T s = x ∧ nameL (pk T ⟨s.k + 1, false⟩) = true ∧ optionP T x s = (pk T ⟨s.k + 1, false⟩, ⟨s.k + 2, false⟩)) ∨ (pk T s ≠ x ∧ optionP T x s = ([], s))) := by
 by_cases hp : pk T s = x
 ·have e : optionP T x s = nameP T (tk true s) := by unfold optionP; rw [if_pos hp]
  rw [e] at h ⊢
  obtain ⟨a, b, c⟩ := name_ok h
  obtain ⟨a2, _, c2⟩ := tk_ok a
  refine ⟨a2, .inl ⟨hp, ?_, ?_⟩⟩
  ·rw [c2] at b; exact b
  ·rw [show nameP T (tk true s) = (pk T (tk true s), (nameP T (tk true s)).2) from rfl, c, c2]
 ·have e : optionP T x s = ([], s) := by unfold optionP; rw [if_neg hp]
  rw [e] at h ⊢
  exact ⟨h, .inr ⟨hp, rfl⟩⟩
theorem fromTo_ok {T : List Tx} {s : St} (h : (fromToP T s).2.2.m = false) : s.m = false ∧ fromToP T s = (pk T ⟨s.k + 1, false⟩, pk T ⟨s.k + 3, false⟩, ⟨s.k + 4, false⟩) ∧ pk T s = [102, 114, 111, 109] ∧ nameL (pk T ⟨s.k + 1, false⟩) = true ∧ pk T ⟨s.k + 2, false⟩ = [116, 111] ∧ nameL (pk T ⟨s.k + 3, false⟩) = true := by
 have h' : (nameP T (fixedP T [116, 111] (nameP T (fixedP T [102, 114, 111, 109] s)).2)).2.m = false := h
 obtain ⟨a4, b4, c4⟩ := name_ok h'
 obtain ⟨a3, b3, c3⟩ := fixed_ok a4
 obtain ⟨a2, b2, c2⟩ := name_ok a3
 obtain ⟨a1, b1, c1⟩ := fixed_ok a2
 have e : fromToP T s = (pk T (fixedP T [102, 114, 111, 109] s), pk T (fixedP T [116, 111] (nameP T (fixedP T [102, 114, 111, 109] s)).2), (nameP T (fixedP T [116, 111] (nameP T (fixedP T [102, 114, 111, 109] s)).2)).2) := rfl
 rw [e, c4, c3, c2, c1]
 rw [c3, c2, c1] at b4
 rw [c2, c1] at b3
 rw [c1] at b2
 exact ⟨a1, rfl, b1, b2, b3, b4⟩
theorem names_ok {T : List Tx} {least : Nat} (N : Nat) : ∀ (acc : List Tx) (s : St), (namesP T least acc s N).2.m = false → s.m = false ∧ (namesP T least acc s N).1.length + s.k = acc.length + (namesP T least acc s N).2.k ∧ s.k ≤ (namesP T least acc s N).2.k := by
 induction N with
 | zero => intro acc s h; exact ⟨h, rfl, Nat.le_refl _⟩
 | succ N ih =>
  intro acc s h
  by_cases hc : s.m = false ∧ (acc.length < least ∨ s.k < T.length)
  ·have e : namesP T least acc s (N + 1) = namesP T least (acc ++ [(nameP T s).1]) (nameP T s).2 N := by rw [namesP, if_pos hc]
   rw [e] at h ⊢
   have H := ih _ _ h
   obtain ⟨_, _, e2⟩ := name_ok H.1
   rw [e2] at H ⊢
   generalize namesP T least (acc ++ [(nameP T s).1]) ⟨s.k + 1, false⟩ N = Q at *
   simp only [List.length_append, List.length_cons, List.length_nil] at H
   refine ⟨hc.1, ?_, ?_⟩ <;> omega
  ·have e : namesP T least acc s (N + 1) = (acc, s) := by rw [namesP, if_neg hc]
   rw [e] at h ⊢
   exact ⟨h, rfl, Nat.le_refl _⟩
theorem nameL_le {l : Tx} (h : nameL l = true) : l.length ≤ 12 := by simp [nameL] at h; exact h.1.2
def Formed (n : Nat) (r : Ru) : Prop :=
 r.list.length ≤ n ∧ (r.kind = 1 ∨ r.kind = 2 ∨ r.kind = 3 ∨ r.kind = 6 ∨ r.kind = 8 ∨ r.kind = 9 ∨ r.kind = 10 ∨ ((r.kind = 4 ∨ r.kind = 5 ∨ r.kind = 11) ∧ 2 ≤ n) ∨ (r.kind = 7 ∧ 4 ≤ n)) ∧ r.name.length ≤ 12
theorem names_ok0 {T : List Tx} {least N : Nat} {s : St} (h : (namesP T least [] s N).2.m = false) : s.m = false ∧ (namesP T least [] s N).1.length + s.k = (namesP T least [] s N).2.k := by
 obtain ⟨a, b, _⟩ := names_ok N [] s h; exact ⟨a, by simpa using b⟩
theorem idx_rng (l : List Tx) (x : Tx) : ∀ i : Int, 0 ≤ i → idx l x i = -1 ∨ (i ≤ idx l x i ∧ idx l x i < i + l.length) := by
 induction l with
 | nil => intro i _; exact .inl rfl
 | cons t r ih =>
  intro i hi
  rw [idx]; split
  ·right; simp; omega
  ·rcases ih (i + 1) (by omega) with h | h
   ·exact .inl h
   ·right; simp only [List.length_cons]; omega
theorem formed {T : List Tx} (h : (ruleP T).2.m = false) (hk : (ruleP T).2.k ≤ T.length) : Formed T.length (ruleP T).1 := by
 unfold ruleP at h hk ⊢
 generalize hC : choiceP T kindT ⟨0, false⟩ = C at h hk ⊢
 have hlt : C.1 < 12 := by
  rw [← hC]
  have := idx_rng kindT (pk T ⟨0, false⟩) 0 (by omega)
  rw [show kindT.length = 12 from rfl] at this
  show idx kindT (pk T ⟨0, false⟩) 0 < 12
  omega
 have hr : (C.2.m = false → 0 < C.1 ∧ C.2 = ⟨1, false⟩) := by
  intro hm
  rw [← hC] at hm ⊢
  exact ⟨(choice_ok hm).2.1, (choice_ok hm).2.2⟩
 obtain ⟨c, s⟩ := C
 simp only at hr hlt
 clear hC
 unfold bodyP at h hk ⊢
 simp only at h hk ⊢
 by_cases h1 : c = 1
 ·subst h1
  simp only [if_true] at h hk ⊢
  unfold roleP at h hk ⊢
  by_cases hp : pk T (nameP T s).2 = [62]
  ·rw [if_pos hp] at h hk ⊢
   obtain ⟨a, b⟩ := names_ok0 h
   obtain ⟨a2, _, e2⟩ := tk_ok a
   obtain ⟨a3, b3, e3⟩ := name_ok a2
   have hk' : (namesP T 1 [] (tk true (nameP T s).2) (T.length + 1)).2.k ≤ T.length := hk
   exact ⟨by show (namesP T 1 [] (tk true (nameP T s).2) (T.length + 1)).1.length ≤ _; omega, .inl rfl, nameL_le b3⟩
  ·rw [if_neg hp] at h hk ⊢
   obtain ⟨a3, b3, e3⟩ := name_ok h
   exact ⟨Nat.zero_le _, .inl rfl, nameL_le b3⟩
 rw [if_neg h1] at h hk ⊢
 by_cases h2 : c = 2 ∨ c = 3
 ·rw [if_pos h2] at h hk ⊢
  obtain ⟨a, b⟩ := names_ok0 (show (namesP T 0 [] (nameP T s).2 (T.length + 1)).2.m = false from h)
  obtain ⟨a3, b3, e3⟩ := name_ok a
  refine ⟨?_, ?_, nameL_le b3⟩
  ·have hk' : (namesP T 0 [] (nameP T s).2 (T.length + 1)).2.k ≤ T.length := hk
   show (namesP T 0 [] (nameP T s).2 (T.length + 1)).1.length ≤ _; omega
  ·rcases h2 with rfl | rfl
   ·exact .inr (.inl rfl)
   ·exact .inr (.inr (.inl rfl))
 rw [if_neg h2] at h hk ⊢
 by_cases h3 : c = 4 ∨ c = 5
 ·rw [if_pos h3] at h hk ⊢
  have hk' : (namesP T 2 [] (numberP T s).2 (T.length + 1)).2.k ≤ T.length := hk
  obtain ⟨a, b⟩ := names_ok0 (show (namesP T 2 [] (numberP T s).2 (T.length + 1)).2.m = false from h)
  obtain ⟨a3, b3, e3⟩ := number_ok a
  obtain ⟨_, e0⟩ := hr a3
  have hl : (ssdP T c s).1.list = (namesP T 2 [] (numberP T s).2 (T.length + 1)).1 := rfl
  have hkd : (ssdP T c s).1.kind = c := rfl
  have hnm : (ssdP T c s).1.name = [] := rfl
  unfold Formed
  rw [hl, hkd, hnm]
  rw [e3, e0] at b hk' ⊢
  generalize namesP T 2 [] ⟨(⟨1, false⟩ : St).k + 1, false⟩ (T.length + 1) = Q at *
  have b' : Q.1.length + 2 = Q.2.k := b
  refine ⟨by omega, ?_, Nat.zero_le _⟩
  rcases h3 with rfl | rfl
  ·exact .inr (.inr (.inr (.inr (.inr (.inr (.inr (.inl ⟨.inl rfl, by omega⟩)))))))
  ·exact .inr (.inr (.inr (.inr (.inr (.inr (.inr (.inl ⟨.inr (.inl rfl), by omega⟩)))))))
 rw [if_neg h3] at h hk ⊢
 by_cases h4 : c = 6
 ·subst h4
  simp only [if_true] at h hk ⊢
  have hk' : (namesP T 2 [] s (T.length + 1)).2.k ≤ T.length := hk
  obtain ⟨a, b⟩ := names_ok0 (show (namesP T 2 [] s (T.length + 1)).2.m = false from h)
  refine ⟨?_, .inr (.inr (.inr (.inl rfl))), Nat.zero_le _⟩
  show (namesP T 2 [] s (T.length + 1)).1.length ≤ _; omega
 rw [if_neg h4] at h hk ⊢
 by_cases h5 : c = 7
 ·subst h5
  simp only [if_true] at h hk ⊢
  obtain ⟨a1, b1, e1⟩ := number_ok (show (numberP T (numberP T (nameP T s).2).2).2.m = false from h)
  obtain ⟨a2, b2, e2⟩ := number_ok a1
  obtain ⟨a3, b3, e3⟩ := name_ok a2
  obtain ⟨_, e0⟩ := hr a3
  have hk' : (numberP T (numberP T (nameP T s).2).2).2.k ≤ T.length := hk
  rw [e1, e2, e3, e0] at hk'
  exact ⟨Nat.zero_le _, .inr (.inr (.inr (.inr (.inr (.inr (.inr (.inr ⟨rfl, hk'⟩))))))), nameL_le b3⟩
 rw [if_neg h5] at h hk ⊢
 by_cases h6 : c = 8
 ·subst h6
  simp only [if_true] at h hk ⊢
  obtain ⟨a1, _⟩ := option_ok (show (optionP T [105, 110] (choiceP T stateT (nameP T s).2).2).2.m = false from h)
  obtain ⟨a2, _, _⟩ := choice_ok a1
  obtain ⟨a3, b3, e3⟩ := name_ok a2
  exact ⟨Nat.zero_le _, .inr (.inr (.inr (.inr (.inl rfl)))), nameL_le b3⟩
 rw [if_neg h6] at h hk ⊢
 by_cases h7 : c = 9
 ·subst h7
  simp only [if_true] at h hk ⊢
  obtain ⟨a1, _⟩ := option_ok (show (optionP T [116, 97, 115, 107] (optionP T [98, 121] (fromToP T (nameP T s).2).2.2).2).2.m = false from h)
  obtain ⟨a2, _⟩ := option_ok a1
  obtain ⟨a3, _⟩ := fromTo_ok a2
  obtain ⟨a4, b4, e4⟩ := name_ok a3
  exact ⟨Nat.zero_le _, .inr (.inr (.inr (.inr (.inr (.inl rfl))))), nameL_le b4⟩
 rw [if_neg h7] at h hk ⊢
 by_cases h8 : c = 10
 ·subst h8
  simp only [if_true] at h hk ⊢
  exact ⟨Nat.zero_le _, .inr (.inr (.inr (.inr (.inr (.inr (.inl rfl)))))), Nat.zero_le _⟩
 rw [if_neg h8] at h hk ⊢
 by_cases h9 : c = 11
 ·subst h9
  simp only [if_true] at h hk ⊢
  obtain ⟨a1, e1, _⟩ := fromTo_ok (show (fromToP T (numberP T s).2).2.2.m = false from h)
  obtain ⟨a2, b2, e2⟩ := number_ok a1
  obtain ⟨_, e0⟩ := hr a2
  have hk' : (fromToP T (numberP T s).2).2.2.k ≤ T.length := hk
  rw [e1, e2, e0] at hk'
  exact ⟨Nat.zero_le _, .inr (.inr (.inr (.inr (.inr (.inr (.inr (.inl ⟨.inr (.inr rfl), by simp only at hk'; omega⟩))))))), Nat.zero_le _⟩
 rw [if_neg h9] at h hk ⊢
 exfalso
 have h0 := (hr h).1
 omega
end Go.Proofs.YtaoinedndnleoaaGreat
namespace Go.Proofs.YtaoinedndnleoaaGreat
set_option maxRecDepth 100000
open Go.ChangeShapes Go.WideShapes Go.ChangeAt Go.RowKit
theorem Tryz.own : ownKnob Tryz.prog.godebug = none := by kernel_rfl
def TrueOn (w : World) (e : Ending) (w' : World) : Prop := e = .returned (.bool true) ∧ Below w.heap.size w w'
section
variable {H : Type} {enc : TypeId × Value → H}
def IntsAt (W : World) (v : Value) (zs : List Int) : Prop := ∃ A cap, v = .slice A zs.length cap ∧ zs.length ≤ maxLen ∧
 ∀ k (h : k < zs.length), ∃ b off, A = some ⟨b, off, none⟩ ∧ b < W.heap.size ∧ W.cell? ⟨b, off + k, none⟩ = some (.int .i64 zs[k]) ∧ (Lit.int .i64 zs[k]).wf = true
end
def tx (ws : List (Nat × List UInt8)) : List Tx := ws.map (·.2)
theorem tx_len (ws : List (Nat × List UInt8)) : (tx ws).length = ws.length := by simp [tx]
theorem beq_bs (a c : Tx) : ((bs a).toList == (bs c).toList) = (a == c) := by rw [Lib.toList_data, Lib.toList_data, list_bs, list_bs]
def StrAt (w : World) (t : Nat) (l : List Tx) : Prop := ∀ j (h : j < l.length), w.cell? ⟨t, j, none⟩ = some (.string (bs l[j]))
theorem StrAt.kept {w w' : World} {t : Nat} {l : List Tx} {row : Option Nat} (h : StrAt w t l) (hg : w.grownBy w' row) (hne : some t ≠ row) : StrAt w' t l := fun j hj => hg.cell (h j hj) hne
theorem strAt_alloc (w : World) (l : List Tx) (e : TypeId) : StrAt (w.alloc (.cells (l.map fun t => Value.string (bs t)).toArray e)) w.heap.size l := by
 intro j hj
 rw [cell_of_row _ _ j _ e (0, 0) (heap_alloc_new w _)]
 simp [hj]
theorem own_far {w w1 : World} {base b n : Nat} {v : Value} {l : List Tx} (h : OwnL w base v l) (hb : b < base) (hg : (w.drewN n).grownBy w1 (some b)) : OwnL w1 base v l :=
 World.ownsRow.kept (w := w.drewN n) h hg (own_ne h hb)
end Go.Proofs.YtaoinedndnleoaaGreat
namespace Go.Proofs.YtaoinedndnleoaaGreat
set_option maxRecDepth 100000
open Go.ChangeShapes Go.WideShapes Go.ChangeAt Go.RowKit Go.Maps Go.WideMaps Go.ChangeMaps
def againP (seen : List Tx) : List (Nat × Tx) → Nat
 | [] => 0
 | (c, t) :: r => if t ∈ seen then c else againP (seen ++ [t]) r
def WAt (w : World) (g o : Nat) (ws : List (Nat × Tx)) : Prop := ∀ j (h : j < ws.length), w.cell? ⟨g, o + j * 2, none⟩ = some (.string (bs ws[j].2)) ∧ w.cell? ⟨g, o + j * 2 + 1, none⟩ = some (.int .i64 ws[j].1) ∧ ws[j].2.length ≤ maxLen
theorem WAt.below {w w' : World} {g o : Nat} {ws : List (Nat × Tx)} (h : WAt w g o ws) (hg : g < w.heap.size) (hb : Below w.heap.size w w') : WAt w' g o ws := fun j hj =>
 ⟨(hb.cell hg).trans (h j hj).1, (hb.cell hg).trans (h j hj).2.1, (h j hj).2.2⟩
end Go.Proofs.YtaoinedndnleoaaGreat
namespace Go.Proofs.YtaoinedndnleoaaGreat
set_option maxRecDepth 100000
open Go.ChangeShapes Go.WideShapes Go.ChangeAt Go.RowKit
theorem IntsAt.below {w w' : World} {v : Value} {zs : List Int} (h : IntsAt w v zs) (hb : Below w.heap.size w w') : IntsAt w' v zs :=
 let ⟨A, c, e, hl, hc⟩ := h
 ⟨A, c, e, hl, fun k hk => let ⟨b, off, e, hbl, hx, hw⟩ := hc k hk; ⟨b, off, e, Nat.lt_of_lt_of_le hbl hb.size, (hb.cell (p := ⟨b, off + k, none⟩) hbl).trans hx, hw⟩⟩
def IntsC (W : World) (v : Value) (zs : List Int) : Prop := IntsAt W v zs ∧ ∃ A c, v = .slice A zs.length c ∧ zs.length ≤ c
theorem IntsC.below {w w' : World} {v : Value} {zs : List Int} (h : IntsC w v zs) (hb : Below w.heap.size w w') : IntsC w' v zs := ⟨h.1.below hb, h.2⟩
end Go.Proofs.YtaoinedndnleoaaGreat
