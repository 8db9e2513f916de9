/-
  Small things that all texts of this seat use; the byte functions of package words; strings.Cut at one byte.
-/
import Derived.Test.YtgemciecdplcgaaDoorRows
import Derived.WalkKit
import Derived.ProofKit
import Derived.OpenShut
import Derived.BigQuiet
import Derived.BigCall
import Derived.Deep.QuietTactic
import Derived.Lib.Hide
import Derived.Lib.Bytealg
import Derived.Lib.Strings
import Derived.Laws.Externs
import Derived.Outline
namespace Go.Proofs.YtgemciecdplcgaaDoor
set_option maxRecDepth 100000
open Go.ChangeShapes Go.WideShapes Go.ChangeAt Go.RowKit

theorem ret_int {k : IntKind} {a b : Int} (h : a = b) : Ending.returned (.int k a) = .returned (.int k b) := by rw [h]
theorem ret_bool {a b : Bool} (h : a = b) : Ending.returned (.bool a) = .returned (.bool b) := by rw [h]
theorem ret_str {a b : ByteArray} (h : a = b) : Ending.returned (.string a) = .returned (.string b) := by rw [h]
theorem bor_cases {a : Bool} : a = true ∨ a = false := by cases a <;> simp

/-- a text of these bytes -/
def bs (l : List UInt8) : ByteArray := ⟨l.toArray⟩
theorem bs_list (s : ByteArray) : bs s.data.toList = s := rfl
theorem list_bs (l : List UInt8) : (bs l).data.toList = l := rfl
theorem size_list (s : ByteArray) : s.data.toList.length = s.size := rfl
theorem size_bs (l : List UInt8) : (bs l).size = l.length := rfl
theorem bs_append (l m : List UInt8) : bs l ++ bs m = bs (l ++ m) := by
  apply ByteArray.ext
  simp [bs]
theorem ext_bs {s t : ByteArray} (h : s.data.toList = t.data.toList) : s = t := by
  rw [← bs_list s, h, bs_list]
theorem extract_bs (s : ByteArray) (a b : Nat) : s.extract a b = bs ((s.data.toList.drop a).take (b - a)) := by
  apply ext_bs
  rw [list_bs, Lib.extract_data]
theorem getB (s : ByteArray) (k : Nat) (h : k < s.size) : (s.data.toList[k]'h) = s[k] := rfl
theorem drop_cons (s : ByteArray) (k : Nat) (h : k < s.size) : s.data.toList.drop k = s[k] :: s.data.toList.drop (k + 1) :=
  List.drop_eq_getElem_cons (by simpa using h)
theorem drop_end (s : ByteArray) (k : Nat) (h : s.size ≤ k) : s.data.toList.drop k = [] := List.drop_of_length_le (by simpa using h)

def digB (c : Int) : Bool := decide (48 ≤ c) && decide (c ≤ 57)
def nameB (c : Int) : Bool := (decide (97 ≤ c) && decide (c ≤ 122)) || digB c || (c == 95) || (c == 45)

theorem digit_any (c : Int) (w : World) : Calls Tryd.prog 78 #[.int .u8 c] w fun e w' => e = .returned (.bool (digB c)) ∧ w = w' := by
  go_enter Tryd.func78, Tryd.ntmps78
  go_wp2
  all_goals (go_ret; refine ⟨ret_bool ?_, rfl⟩)
  all_goals (grind [digB])
theorem nameByte_any (c : Int) (w : World) : Calls Tryd.prog 77 #[.int .u8 c] w fun e w' => e = .returned (.bool (nameB c)) ∧ w = w' := by
  go_enter Tryd.func77, Tryd.ntmps77
  go_wp2_with (go_at_call 78; refine (digit_any _ _).mono ?_; rintro e w' ⟨rfl, rfl⟩)
  all_goals (go_ret; refine ⟨ret_bool ?_, rfl⟩)
  all_goals (grind [nameB])

/-- strings.Cut and what it calls, at a separator of one byte -/
theorem IndexByte_any (s : ByteArray) (c : Int) (w : World) :
    Calls Tryd.prog 73 #[.string s, .int .u8 c] w fun e w' => e = .returned (.int .i64 (Lib.indexByte s.data.toList c.toNat.toUInt8)) ∧ w = w' := by
  go_enter Tryd.func73, Tryd.ntmps73
  go_wp2
  rw [run_callFunc_extern Tryd.func79 (by kernel_rfl) (by kernel_rfl) (by kernel_rfl) (e := Extern.BytealgIndexByte.indexByte) (by kernel_rfl), Lib.run_indexByteString]
  simp only [Result.andThen]
  rw [Oper.upon_value]
  go_wp2
  go_ret
  exact ⟨rfl, rfl⟩
theorem Index_one (s : ByteArray) (c : UInt8) (w : World) :
    Calls Tryd.prog 64 #[.string s, .string ⟨#[c]⟩] w fun e w' => e = .returned (.int .i64 (Lib.indexByte s.data.toList c)) ∧ w = w' := by
  go_enter Tryd.func64, Tryd.ntmps64
  go_wp2_with (go_at_call 73; refine (IndexByte_any _ _ _).mono ?_; rintro e w' ⟨rfl, rfl⟩)
  · have h : ([c] == s.toList) = true := by assumption
    go_ret
    refine ⟨?_, rfl⟩
    have e : s.data.toList = [c] := by rw [← Lib.toList_data]; exact (beq_iff_eq.1 h).symm
    rw [e]
    simp [Lib.indexByte]
  · go_ret
    exact ⟨rfl, rfl⟩
/-- what stands ahead of the first byte c -/
def upTo (c : UInt8) (l : List UInt8) : List UInt8 := l.takeWhile (· != c)
theorem indexByte_upTo (c : UInt8) (l : List UInt8) : (Lib.indexByte l c = -1 ∧ upTo c l = l) ∨ ((upTo c l).length < l.length ∧ Lib.indexByte l c = (upTo c l).length) := by
  induction l with
  | nil => exact .inl ⟨rfl, rfl⟩
  | cons b l ih =>
    unfold Lib.indexByte upTo
    by_cases h : b = c
    · subst h; simp
    · have h1 : (b == c) = false := by simpa using h
      have h2 : (b != c) = true := by simp [h]
      rw [List.takeWhile_cons, h1, if_pos h2]
      unfold upTo at ih
      rcases ih with ⟨e, t⟩ | ⟨t, e⟩
      · left; simp [e, t]
      · right
        have : (Lib.indexByte l c == -1) = false := by rw [beq_eq_false_iff_ne]; omega
        simp [e, t]
theorem upTo_prefix (c : UInt8) (l : List UInt8) : l.take (upTo c l).length = upTo c l := by
  unfold upTo
  exact List.prefix_iff_eq_take.1 (List.takeWhile_prefix _) |>.symm
/-- the post of Cut: the text p, and any rest -/
def CutTo (p : ByteArray) (w : World) (e : Ending) (w' : World) : Prop := ∃ q b n, e = .returned (.tuple #[.string p, .string q, .bool b]) ∧ w' = w.drewN n
theorem cutTo_mk {p p' q : ByteArray} {b : Bool} {w : World} {n : Nat} (h : p' = p) : CutTo p w (.returned (.tuple #[.string p', .string q, .bool b])) (w.drewN n) := ⟨q, b, n, by rw [h], rfl⟩
theorem slCut_one (s : ByteArray) (c : UInt8) (w : World) (hs : s.size ≤ maxLen) :
    Calls Tryd.prog 65 #[.string s, .string ⟨#[c]⟩] w (CutTo (bs (upTo c s.data.toList)) w) := by
  unfold maxLen at hs
  rcases indexByte_upTo c s.data.toList with ⟨e, t⟩ | ⟨t, e⟩
  · have HE := Lib.hid e; have HT := Lib.hid t; clear e t
    go_enter Tryd.func65, Tryd.ntmps65
    go_wp2_with (go_at_call 64; refine (Index_one _ _ _).mono ?_; rintro e w' ⟨rfl, rfl⟩; rw [HE.out])
    go_ret3
    exact cutTo_mk (n := 0) (by rw [HT.out, bs_list])
  · have HE := Lib.hid e; clear e
    rw [size_list] at t
    generalize hk : (upTo c s.data.toList).length = k at t HE
    have HK := Lib.hid hk; clear hk
    go_enter Tryd.func65, Tryd.ntmps65
    go_wp2_with (go_at_call 64; refine (Index_one _ _ _).mono ?_; rintro e w' ⟨rfl, rfl⟩; rw [HE.out])
    have hw : IntKind.i64.wrap ((k : Int) + 1) = (k : Int) + 1 := by rw [IntKind.wrap_i64]; omega
    have h0 : (0 : Int) ≤ (k : Int) + 1 := by omega
    have h1 : ((k : Int) + 1).toNat = k + 1 := by omega
    go_quiet (fail)
    clear hw h0 h1
    go_wp2
    go_ret3
    exact cutTo_mk (by rw [extract_bs, List.drop_zero, Nat.sub_zero, ← HK.out, upTo_prefix])
theorem Cut_one (s : ByteArray) (c : UInt8) (w : World) (hs : s.size ≤ maxLen) :
    Calls Tryd.prog 45 #[.string s, .string ⟨#[c]⟩] w (CutTo (bs (upTo c s.data.toList)) w) := by
  go_enter Tryd.func45, Tryd.ntmps45
  go_wp2_with (go_at_call 65; refine (slCut_one _ _ _ hs).mono ?_; rintro e w' ⟨q, b, n, rfl, rfl⟩)
  go_ret3
  exact cutTo_mk rfl
end Go.Proofs.YtgemciecdplcgaaDoor
